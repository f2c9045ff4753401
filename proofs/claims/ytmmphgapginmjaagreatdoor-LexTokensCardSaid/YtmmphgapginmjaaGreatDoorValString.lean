/-
  value.String: the contract, by a walk. Conditions: the text's length has an int32's room; the world holds the library's tables (WOk).
-/
import Derived.Test.YtmmphgapginmjaaGreatDoorValQuote
namespace Go.Proofs.YtmmphgapginmjaaGreatDoor
open Go.RowKit

/-- What the library's functions ask of memory. -/
def WOk (w : World) : Prop := CutOk w ∧ Lib.TabIs Tryz.prog w "internal/strconv.uint64pow10" .u64 Lib.pow10Tab ∧
  (∃ tp p, w.var? Tryz.prog "strconv.ErrSyntax" = some #[.iface tp p]) ∧ (∃ tp p, w.var? Tryz.prog "strconv.ErrRange" = some #[.iface tp p])
theorem WOk.cut {w : World} (h : WOk w) : CutOk w := h.1
theorem WOk.tab {w : World} (h : WOk w) : Lib.TabIs Tryz.prog w "internal/strconv.uint64pow10" .u64 Lib.pow10Tab := h.2.1
theorem WOk.syn {w : World} (h : WOk w) : ∃ tp p, w.var? Tryz.prog "strconv.ErrSyntax" = some #[.iface tp p] := h.2.2.1
theorem WOk.rng {w : World} (h : WOk w) : ∃ tp p, w.var? Tryz.prog "strconv.ErrRange" = some #[.iface tp p] := h.2.2.2

theorem var_below {P : Program} {w w' : World} {nm : String} {cs : Array Value} (h : w.var? P nm = some cs) (hb : Below w.heap.size w w') : w'.var? P nm = some cs := by
  unfold World.var? at *
  cases hg : P.globalNamed nm with
  | none => rw [hg] at h; simp at h
  | some g =>
    rw [hg] at h
    simp only [Option.bind_some] at *
    have hlt : g < w.heap.size := by
      rcases Nat.lt_or_ge g w.heap.size with h' | h'
      · exact h'
      · rw [Array.getElem?_eq_none h'] at h; simp at h
    rw [hb.block g hlt]; exact h
theorem WOk.below {w w' : World} (h : WOk w) (hb : Below w.heap.size w w') : WOk w' :=
  And.intro (h.cut.below hb) ⟨var_below h.tab hb, h.syn.imp fun _ h => h.imp fun _ h => var_below h hb, h.rng.imp fun _ h => h.imp fun _ h => var_below h hb⟩
theorem WOk.alloc {w : World} (h : WOk w) (o : Obj) : WOk (w.alloc o) := h.below (alloc_below w o)

def textB (k n : Int) (l : List UInt8) : List UInt8 :=
  if rightB k n l = true then (if k = 1 then Lib.formatBool (n == 1) else if k = 2 then Lib.itoa n else if k = 3 then quoteL l else if k = 4 then [40] ++ l ++ [41] else if k = 5 then [91] ++ l ++ [93] else [110, 117, 108, 108]) else []

theorem str_eq {b : ByteArray} {l : List UInt8} (h : b.data.toList = l) : b = ⟨l.toArray⟩ := by
  obtain ⟨⟨k⟩⟩ := b
  simp at h
  subst h
  rfl
theorem wrap_str (a z : UInt8) (s : ByteArray) : (⟨#[a]⟩ : ByteArray) ++ s ++ ⟨#[z]⟩ = ⟨([a] ++ s.data.toList ++ [z]).toArray⟩ := str_eq (by simp)

theorem below_grow (w : World) (n : Nat) (os : Array Obj) : Below w.heap.size w (Sort.grow (w.drewN n) os) := by
  refine ⟨rfl, rfl, rfl, ?_, fun i hi => ?_⟩
  · show w.heap.size ≤ (w.heap ++ os).size; simp
  · show (w.heap ++ os)[i]? = w.heap[i]?; rw [Array.getElem?_append_left hi]

theorem plain_bytes {l : List UInt8} (h : plainB l = true) : l.length ≤ 64 ∧ ∀ x ∈ l, x.toNat < 128 := by
  unfold plainB at h
  simp only [Bool.and_eq_true, decide_eq_true_eq, List.all_eq_true] at h
  refine ⟨h.1, fun x hx => ?_⟩
  obtain ⟨i, hi, rfl⟩ := List.getElem_of_mem hx
  have := h.2 i (List.mem_range.2 hi)
  simp only [plnAt, plnR, List.getD, List.getElem?_eq_getElem hi, Option.getD_some, Bool.and_eq_true, decide_eq_true_eq] at this
  omega

set_option maxHeartbeats 4000000 in
theorem string_any (k n : Int) (s : ByteArray) (w : World) (hs : s.size < 4294967281) (hw : WOk w) : Calls Tryz.prog 35 #[valV k n s] w (Gives w (sv (textB k n s.data.toList))) := by
  have HT : Hid (textB k n s.data.toList = if rightB k n s.data.toList = true then (if k = 1 then Lib.formatBool (n == 1) else if k = 2 then Lib.itoa n else if k = 3 then quoteL s.data.toList else if k = 4 then [40] ++ s.data.toList ++ [41] else if k = 5 then [91] ++ s.data.toList ++ [93] else [110, 117, 108, 108]) else []) := Lib.hid rfl
  have hw' := fun o => (hw.alloc o).cut
  unfold valV
  go_enter Tryz.func35, Tryz.ntmps35
  go_wp2_with fail
  refine (right_any k n s _ hs (hw' _)).mono ?_
  rintro e w1 ⟨rfl, hb1⟩
  have k1 := In1.of hb1
  obtain ⟨c0, c1, c2, f0, f1, f2, hlt⟩ := k1.three
  have hb := k1.below
  have W1 : WOk w1 := hw.below hb
  clear hw' hw hb1 f0 f1 f2
  cases hr : rightB k n s.data.toList with
  | false =>
    have HV : Hid (textB k n s.data.toList = []) := Lib.hid (by rw [HT.out, hr]; rfl)
    clear hr
    go_wp2
    go_ret
    exact ⟨by rw [HV.out]; rfl, hb⟩
  | true =>
    have HR := Lib.hid hr
    clear hr
    by_cases k1 : k = 1
    · subst k1
      have HV : Hid (textB 1 n s.data.toList = Lib.formatBool (n == 1)) := Lib.hid (by rw [HT.out, HR.out]; rfl)
      go_wp2_with fail
      refine (Tryz.strconv_FormatBool _ _).mono ?_
      rintro e w2 ⟨rfl, rfl⟩
      go_wp2
      go_ret
      exact ⟨by rw [HV.out]; rfl, hb⟩
    by_cases k2 : k = 2
    · subst k2
      clear k1
      have HV : Hid (textB 2 n s.data.toList = Lib.itoa n) := Lib.hid (by rw [HT.out, HR.out]; rfl)
      have hn : -1099511627776 ≤ n ∧ n ≤ 1099511627776 := by
        have := HR.out; simp [rightB] at this; exact this.1
      go_wp2_with fail
      refine (Tryz.strconv_Itoa n (by omega) (by omega) _ W1.tab).mono ?_
      rintro e w2 ⟨rfl, q, os, rfl⟩
      go_wp2
      go_ret
      exact ⟨by rw [HV.out]; rfl, hb.trans ((below_grow w1 q os).mono hb.size)⟩
    by_cases k3 : k = 3
    · subst k3
      clear k1 k2
      have HV : Hid (textB 3 n s.data.toList = quoteL s.data.toList) := Lib.hid (by rw [HT.out, HR.out]; rfl)
      have hp : plainB s.data.toList = true := by have := HR.out; simp [rightB] at this; exact this.2
      obtain ⟨hp1, hp2⟩ := plain_bytes hp
      have hsz : s.size ≤ 64 := by have : s.data.toList.length = s.size := by rw [Array.length_toList]; rfl
                                   omega
      clear hp hp1
      have HP := Lib.hid hp2
      clear hp2
      go_wp2_with fail
      refine (quoted_any s _ (by omega) HP.out).mono ?_
      rintro e w2 ⟨rfl, hb2⟩
      go_wp2
      go_ret
      exact ⟨by rw [HV.out]; rfl, hb.trans (hb2.mono hb.size)⟩
    by_cases k4 : k = 4
    · subst k4
      clear k1 k2 k3
      have HV : Hid (sv (textB 4 n s.data.toList) = .string ((⟨#[40]⟩ : ByteArray) ++ s ++ ⟨#[41]⟩)) := Lib.hid (by rw [HT.out, HR.out, wrap_str]; rfl)
      have g1 : ¬ 9223372036854775807 < 1 + s.size := by omega
      have g2 : ¬ 9223372036854775807 < 1 + s.size + 1 := by omega
      go_wp2
      go_ret
      exact ⟨by rw [HV.out]; rfl, hb⟩
    by_cases k5 : k = 5
    · subst k5
      clear k1 k2 k3 k4
      have HV : Hid (sv (textB 5 n s.data.toList) = .string ((⟨#[91]⟩ : ByteArray) ++ s ++ ⟨#[93]⟩)) := Lib.hid (by rw [HT.out, HR.out, wrap_str]; rfl)
      have g1 : ¬ 9223372036854775807 < 1 + s.size := by omega
      have g2 : ¬ 9223372036854775807 < 1 + s.size + 1 := by omega
      go_wp2
      go_ret
      exact ⟨by rw [HV.out]; rfl, hb⟩
    · have HV : Hid (textB k n s.data.toList = [110, 117, 108, 108]) := Lib.hid (by rw [HT.out, HR.out]; simp [k1, k2, k3, k4, k5])
      have b1 : (k == 1) = false := beq_eq_false_iff_ne.2 k1
      have b2 : (k == 2) = false := beq_eq_false_iff_ne.2 k2
      have b3 : (k == 3) = false := beq_eq_false_iff_ne.2 k3
      have b4 : (k == 4) = false := beq_eq_false_iff_ne.2 k4
      have b5 : (k == 5) = false := beq_eq_false_iff_ne.2 k5
      clear k1 k2 k3 k4 k5
      go_wp2
      go_ret
      exact ⟨by rw [HV.out]; rfl, hb⟩

end Go.Proofs.YtmmphgapginmjaaGreatDoor
