/-
  value.quoted of a plain text: the contract, by a walk. value.String: the contract, by a walk. Conditions: lengths.
-/
import Derived.Test.YtdabanocofimmaaGreatDoorJValOf
namespace Go.Proofs.YtdabanocofimmaaGreatDoor
open Go.RowKit

def q1 (c : UInt8) : List UInt8 := if c = 39 ∨ c = 92 then [92, c] else [c]
def qL (l : List UInt8) : List UInt8 := l.flatMap q1
def quoteL (l : List UInt8) : List UInt8 := [39] ++ qL l ++ [39]
theorem q1_len (c : UInt8) : (q1 c).length ≤ 2 := by unfold q1; split <;> simp
theorem qL_len (l : List UInt8) : (qL l).length ≤ 2 * l.length := by
  induction l with
  | nil => simp [qL]
  | cons a t ih => have := q1_len a; simp [qL, List.flatMap_cons] at *; omega
theorem qL_snoc (l : List UInt8) (c : UInt8) : qL (l ++ [c]) = qL l ++ q1 c := by simp [qL, List.flatMap_append]

theorem Own.iterAt {B b : Nat} {p : Value} {bs : List Value} {w : World} (h : Own B b p bs w) {k : Nat} {s : ByteArray} {pos : Nat} (hk : w.heap[k]? = some (.stringIter s pos)) (pos' : Nat) : Own B b p bs (w.iterAt k s pos') := by
  obtain ⟨hB, v, hb, hown, hne⟩ := h
  have hkb : b ≠ k := by rintro rfl; rw [hk] at hb; cases hb
  refine ⟨hB, v, (Lib.iterAt_other w k b s pos' hkb).trans hb, ⟨hown.1, ?_⟩, hne⟩
  rcases hown.2 with hn | ⟨g, cap, cur, hv, hbg, hg, rest⟩
  · exact .inl hn
  · have hkg : g ≠ k := by rintro rfl; rw [hk] at hg; cases hg
    exact .inr ⟨g, cap, cur, hv, hbg, (Lib.iterAt_other w k g s pos' hkg).trans hg, rest⟩
theorem Own.alloc {B b : Nat} {p : Value} {bs : List Value} {w : World} (h : Own B b p bs w) (o : Obj) : Own B b p bs (w.alloc o) := by
  obtain ⟨hB, v, hb, hown, hne⟩ := h
  exact ⟨hB, v, (Below.heap_alloc w o b (Array.getElem?_eq_some_iff.1 hb).1).trans hb, hown.alloc o, hne⟩
theorem byteCell (x : UInt8) : [Value.int .u8 (x.toNat : Int)] = Lib.byteCells [x] := rfl

/-- A byte below 128 among a text's: what 'range' hands over there. -/
theorem ascii_at (s : ByteArray) (pos : Nat) (h : pos < s.size) (ha : ∀ x ∈ s.data.toList, x.toNat < 128) : ∃ x : UInt8, s[pos]'h = x ∧ x.toNat < 128 ∧ s.data.toList.take (pos + 1) = s.data.toList.take pos ++ [x] := by
  have hl : pos < s.data.toList.length := by rw [Array.length_toList]; exact h
  have hx : s.data.toList[pos] = s[pos]'h := rfl
  refine ⟨s[pos]'h, rfl, by rw [← hx]; exact ha _ (List.getElem_mem hl), ?_⟩
  rw [List.take_succ_eq_append_getElem hl, hx]

set_option maxHeartbeats 4000000 in
set_option maxRecDepth 1000000 in
theorem quoted_any (s : ByteArray) (w : World) (hs : s.size ≤ 35184372088832) (ha : ∀ x ∈ s.data.toList, x.toNat < 128) : Calls Tryz.prog 133 #[.string s] w (Gives w (sv (quoteL s.data.toList))) := by
  go_enter Tryz.func133, Tryz.ntmps133
  go_wp2_with fail
  refine (byte_any w.heap.size w.heap.size [] 39 _ (Lib.fresh_isBuilder 141 5 w) (by simp) (by simp)).mono ?_
  rintro e w1 ⟨rfl, h1, b1, _⟩
  have hb1 : Below w.heap.size w w1 := (alloc_below w _).trans b1
  have HI : Hid (Own w.heap.size w.heap.size (selfP w.heap.size) (Lib.byteCells [39]) w1) := Lib.hid h1
  have hk : w.heap.size < w1.heap.size := Lib.BuilderAt.lt h1
  clear h1 b1
  have HA := Lib.hid ha
  clear ha
  have HB := Lib.hid hb1
  clear hb1
  have hq : ∀ pos, pos ≤ s.size → (Lib.byteCells ([39] ++ qL (s.data.toList.take pos))).length ≤ 1 + 2 * s.size := by
    intro pos hp
    have h1 := qL_len (s.data.toList.take pos)
    rw [Lib.byteCells_length, List.length_append]
    have h2 : (s.data.toList.take pos).length ≤ pos := by rw [List.length_take]; exact Nat.min_le_left _ _
    simp only [List.length_singleton]
    omega
  have HQ := Lib.hid hq
  clear hq
  go_wp2
  go_loopw [] (fun wr => ∃ pos, wr.heap[w1.heap.size]? = some (.stringIter s pos) ∧ pos ≤ s.size ∧ Own w.heap.size w.heap.size (selfP w.heap.size) (Lib.byteCells ([39] ++ qL (s.data.toList.take pos))) wr ∧ Below w.heap.size w wr) (fun wr => s.size - wr.iterPos w1.heap.size)
  case atStart => exact ⟨0, World.iter_heap w1 s 0, Nat.zero_le _, HI.out.alloc _, HB.out.alloc (Nat.le_of_lt hk) _⟩
  case round =>
    obtain ⟨pos, hit, hps, hI, hbw⟩ := hrel
    have hsz : w1.heap.size < wr.heap.size := (Array.getElem?_eq_some_iff.1 hit).1
    have hlen := HQ.out pos hps
    by_cases hp : pos < s.size
    · obtain ⟨x, hx, hx128, htk⟩ := ascii_at s pos hp HA.out
      have hI2 := hI.iterAt hit (pos + 1)
      have hit2 := Lib.iterAt_heap wr w1.heap.size s pos (pos + 1) hit
      have hbw2 := Lib.below_iterAt hbw (k := w1.heap.size) (Nat.le_of_lt hk) s (pos + 1)
      have hsz2 : w.heap.size ≤ (wr.iterAt w1.heap.size s (pos + 1)).heap.size := by rw [Lib.iterAt_size]; omega
      obtain ⟨r, hr⟩ : ∃ r : Int, r = (x.toNat : Int) := ⟨_, rfl⟩
      have hnx : ∀ ty, (Instr.next (.pointer (some ⟨w1.heap.size, 0, none⟩)) true ty).run Tryz.prog wr = .ok (.tuple #[.bool true, .int .i64 pos, .int .i32 r]) (wr.iterAt w1.heap.size s (pos + 1)) := fun ty => by
        rw [Lib.run_next_ascii_at wr w1.heap.size s pos ty hit hp (by rw [hx]; exact hx128), hx, hr]
      have hrc : Lib.runeCells r = Lib.byteCells [x] := by
        rw [← byteCell, ← hr]; simp [Lib.runeCells, Lib.encodeRuneZ_one (r := r) (by omega) (by omega)]
      have hr0 : -2147483648 ≤ r := by omega
      have hr1 : r ≤ 2147483647 := by omega
      -- what is written of it
      have hcell : Hid (Lib.byteCells ([39] ++ qL (s.data.toList.take (pos + 1))) = Lib.byteCells ([39] ++ qL (s.data.toList.take pos)) ++ Lib.byteCells (q1 x)) := Lib.hid (by
        rw [htk, qL_snoc, ← List.append_assoc, Lib.byteCells_append])
      have HRC := Lib.hid hrc
      have hesc : x = 39 ∨ x = 92 → Lib.byteCells (q1 x) = [.int .u8 92] ++ Lib.runeCells r := fun h => by
        rw [hrc]; simp only [q1, h, if_true]; rfl
      have hno : ¬ (x = 39 ∨ x = 92) → Lib.byteCells (q1 x) = Lib.runeCells r := fun h => by
        rw [hrc]; simp only [q1, h, if_false]
      have h39 : r = 39 → x = 39 := fun h => by apply UInt8.toNat.inj; show x.toNat = 39; omega
      have h92 : r = 92 → x = 92 := fun h => by apply UInt8.toNat.inj; show x.toNat = 92; omega
      have h39' : x = 39 → r = 39 := fun h => by rw [hr, h]; rfl
      have h92' : x = 92 → r = 92 := fun h => by rw [hr, h]; rfl
      have HX : Hid ((r = 39 ∨ r = 92 → Lib.byteCells (q1 x) = [.int .u8 92] ++ Lib.runeCells r) ∧ (¬ (r = 39 ∨ r = 92) → Lib.byteCells (q1 x) = Lib.runeCells r)) :=
        Lib.hid ⟨fun h => hesc (h.imp h39 h92), fun h => hno (fun hh => h (hh.imp h39' h92'))⟩
      clear hx hx128 htk hr hrc hesc hno h39 h92 h39' h92'
      have HH := Lib.hid hit
      have HH2 := Lib.hid hit2
      clear hit hit2
      by_cases hesc : r = 39 ∨ r = 92
      · have hcc : Hid (Lib.byteCells ([39] ++ qL (s.data.toList.take pos)) ++ [.int .u8 92] ++ Lib.runeCells r = Lib.byteCells ([39] ++ qL (s.data.toList.take (pos + 1)))) := Lib.hid (by
          rw [hcell.out, HX.out.1 hesc, List.append_assoc])
        have hor : Hid (r = 39 ∨ r = 92) := Lib.hid hesc
        clear hesc
        cases h39 : (r == 39) <;> cases h92 : (r == 92)
        case false.false =>
          exfalso
          rcases hor.out with h | h <;> simp [h] at h39 h92
        all_goals
          go_wp2_with fail
          refine (byte_any w.heap.size w.heap.size _ 92 _ (.inr hI2) (by omega) hsz2).mono ?_
          rintro e W1 ⟨rfl, h1, b1, k1⟩
          have HH3 := Lib.hid (k1.iter HH2.out (by omega))
          have hw1 : w.heap.size ≤ W1.heap.size := by have := b1.size; omega
          go_wp2_with fail
          refine (rune_any w.heap.size w.heap.size _ r hr0 hr1 _ (.inr h1) (by simp only [List.length_append, List.length_singleton]; omega) hw1).mono ?_
          rintro e W2 ⟨⟨v, rfl⟩, h2, b2, k2⟩
          have HH4 := Lib.hid (k2.iter HH3.out (by omega))
          rw [hcc.out] at h2
          go_wp2
          go_roundw
          case rel => exact ⟨pos + 1, HH4.out, by omega, h2, (hbw2.trans b1).trans b2⟩
          case measure => simp only [World.iterPos, HH4.out, HH.out]; omega
      · have hcc : Hid (Lib.byteCells ([39] ++ qL (s.data.toList.take pos)) ++ Lib.runeCells r = Lib.byteCells ([39] ++ qL (s.data.toList.take (pos + 1)))) := Lib.hid (by
          rw [hcell.out, HX.out.2 hesc])
        have h39 : (r == 39) = false := by rw [beq_eq_false_iff_ne]; exact fun h => hesc (.inl h)
        have h92 : (r == 92) = false := by rw [beq_eq_false_iff_ne]; exact fun h => hesc (.inr h)
        clear hesc
        go_wp2_with fail
        refine (rune_any w.heap.size w.heap.size _ r hr0 hr1 _ (.inr hI2) (by omega) hsz2).mono ?_
        rintro e W2 ⟨⟨v, rfl⟩, h2, b2, k2⟩
        have HH4 := Lib.hid (k2.iter HH2.out (by omega))
        rw [hcc.out] at h2
        go_wp2
        go_roundw
        case rel => exact ⟨pos + 1, HH4.out, by omega, h2, hbw2.trans b2⟩
        case measure => simp only [World.iterPos, HH4.out, HH.out]; omega
    · have hnx : ∀ ty, (Instr.next (.pointer (some ⟨w1.heap.size, 0, none⟩)) true ty).run Tryz.prog wr = _ := fun ty => Lib.run_next_end_at wr w1.heap.size s pos ty hit hp
      have hfull : s.data.toList.take pos = s.data.toList := List.take_of_length_le (by rw [Array.length_toList]; show s.size ≤ pos; omega)
      have HF : Hid (Lib.byteCells ([39] ++ qL (s.data.toList.take pos)) ++ [.int .u8 39] = Lib.byteCells (quoteL s.data.toList)) := Lib.hid (by
        rw [hfull, show [Value.int .u8 39] = Lib.byteCells [39] from rfl, ← Lib.byteCells_append]; rfl)
      clear hfull
      go_wp2_with fail
      refine (byte_any w.heap.size w.heap.size _ 39 _ (.inr hI) (by omega) (by omega)).mono ?_
      rintro e w2 ⟨rfl, h2, b2, _⟩
      rw [HF.out] at h2
      have hw2 : w.heap.size ≤ w2.heap.size := by have := b2.size; omega
      go_wp2_with fail
      refine (Tryz.Builder_String_any w.heap.size w.heap.size _ _ (.inr h2) hw2).mono ?_
      rintro e w3 ⟨rfl, b3⟩
      go_wp2
      go_ret
      exact ⟨rfl, (hbw.trans b2).trans b3⟩

end Go.Proofs.YtdabanocofimmaaGreatDoor

namespace Go.Proofs.YtdabanocofimmaaGreatDoor
open Go.RowKit

/-- What the library's functions ask of memory. -/
def WOk (w : World) : Prop := CutOk w ∧ Lib.TabIs Tryz.prog w "internal/strconv.uint64pow10" .u64 Lib.pow10Tab ∧
  (∃ tp p, w.var? Tryz.prog "strconv.ErrSyntax" = some #[.iface tp p]) ∧ (∃ tp p, w.var? Tryz.prog "strconv.ErrRange" = some #[.iface tp p])
theorem WOk.cut {w : World} (h : WOk w) : CutOk w := h.1
theorem WOk.tab {w : World} (h : WOk w) : Lib.TabIs Tryz.prog w "internal/strconv.uint64pow10" .u64 Lib.pow10Tab := h.2.1
theorem WOk.syn {w : World} (h : WOk w) : ∃ tp p, w.var? Tryz.prog "strconv.ErrSyntax" = some #[.iface tp p] := h.2.2.1
theorem WOk.rng {w : World} (h : WOk w) : ∃ tp p, w.var? Tryz.prog "strconv.ErrRange" = some #[.iface tp p] := h.2.2.2

theorem var_below {P : Program} {w w' : World} {nm : String} {cs : Array Value} (h : w.var? P nm = some cs) (hb : Below w.heap.size w w') : w'.var? P nm = some cs := by
  unfold World.var? at *
  cases hg : P.globalNamed nm with
  | none => rw [hg] at h; simp at h
  | some g =>
    rw [hg] at h
    simp only [Option.bind_some] at *
    have hlt : g < w.heap.size := by
      rcases Nat.lt_or_ge g w.heap.size with h' | h'
      · exact h'
      · rw [Array.getElem?_eq_none h'] at h; simp at h
    rw [hb.block g hlt]; exact h
theorem WOk.below {w w' : World} (h : WOk w) (hb : Below w.heap.size w w') : WOk w' :=
  And.intro (h.cut.below hb) ⟨var_below h.tab hb, h.syn.imp fun _ h => h.imp fun _ h => var_below h hb, h.rng.imp fun _ h => h.imp fun _ h => var_below h hb⟩
theorem WOk.alloc {w : World} (h : WOk w) (o : Obj) : WOk (w.alloc o) := h.below (alloc_below w o)

def textB (k n : Int) (l : List UInt8) : List UInt8 :=
  if rightB k n l = true then (if k = 1 then Lib.formatBool (n == 1) else if k = 2 then Lib.itoa n else if k = 3 then quoteL l else if k = 4 then [40] ++ l ++ [41] else if k = 5 then [91] ++ l ++ [93] else [110, 117, 108, 108]) else []

theorem str_eq {b : ByteArray} {l : List UInt8} (h : b.data.toList = l) : b = ⟨l.toArray⟩ := by
  obtain ⟨⟨k⟩⟩ := b
  simp at h
  subst h
  rfl
theorem wrap_str (a z : UInt8) (s : ByteArray) : (⟨#[a]⟩ : ByteArray) ++ s ++ ⟨#[z]⟩ = ⟨([a] ++ s.data.toList ++ [z]).toArray⟩ := str_eq (by simp)

theorem below_grow (w : World) (n : Nat) (os : Array Obj) : Below w.heap.size w (Sort.grow (w.drewN n) os) := by
  refine ⟨rfl, rfl, rfl, ?_, fun i hi => ?_⟩
  · show w.heap.size ≤ (w.heap ++ os).size; simp
  · show (w.heap ++ os)[i]? = w.heap[i]?; rw [Array.getElem?_append_left hi]

theorem plain_bytes {l : List UInt8} (h : plainB l = true) : l.length ≤ 64 ∧ ∀ x ∈ l, x.toNat < 128 := by
  unfold plainB at h
  simp only [Bool.and_eq_true, decide_eq_true_eq, List.all_eq_true] at h
  refine ⟨h.1, fun x hx => ?_⟩
  obtain ⟨i, hi, rfl⟩ := List.getElem_of_mem hx
  have := h.2 i (List.mem_range.2 hi)
  simp only [plnAt, plnR, List.getD, List.getElem?_eq_getElem hi, Option.getD_some, Bool.and_eq_true, decide_eq_true_eq] at this
  omega

set_option maxHeartbeats 4000000 in
theorem string_any (k n : Int) (s : ByteArray) (w : World) (hs : s.size < 4294967281) (hw : WOk w) : Calls Tryz.prog 120 #[valV k n s] w (Gives w (sv (textB k n s.data.toList))) := by
  have HT : Hid (textB k n s.data.toList = if rightB k n s.data.toList = true then (if k = 1 then Lib.formatBool (n == 1) else if k = 2 then Lib.itoa n else if k = 3 then quoteL s.data.toList else if k = 4 then [40] ++ s.data.toList ++ [41] else if k = 5 then [91] ++ s.data.toList ++ [93] else [110, 117, 108, 108]) else []) := Lib.hid rfl
  have hw' := fun o => (hw.alloc o).cut
  unfold valV
  go_enter Tryz.func120, Tryz.ntmps120
  go_wp2_with fail
  refine (right_any k n s _ hs (hw' _)).mono ?_
  rintro e w1 ⟨rfl, hb1⟩
  have k1 := In1.of hb1
  obtain ⟨c0, c1, c2, f0, f1, f2, hlt⟩ := k1.three
  have hb := k1.below
  have W1 : WOk w1 := hw.below hb
  clear hw' hw hb1 f0 f1 f2
  cases hr : rightB k n s.data.toList with
  | false =>
    have HV : Hid (textB k n s.data.toList = []) := Lib.hid (by rw [HT.out, hr]; rfl)
    clear hr
    go_wp2
    go_ret
    exact ⟨by rw [HV.out]; rfl, hb⟩
  | true =>
    have HR := Lib.hid hr
    clear hr
    by_cases k1 : k = 1
    · subst k1
      have HV : Hid (textB 1 n s.data.toList = Lib.formatBool (n == 1)) := Lib.hid (by rw [HT.out, HR.out]; rfl)
      go_wp2_with fail
      refine (Tryz.strconv_FormatBool _ _).mono ?_
      rintro e w2 ⟨rfl, rfl⟩
      go_wp2
      go_ret
      exact ⟨by rw [HV.out]; rfl, hb⟩
    by_cases k2 : k = 2
    · subst k2
      clear k1
      have HV : Hid (textB 2 n s.data.toList = Lib.itoa n) := Lib.hid (by rw [HT.out, HR.out]; rfl)
      have hn : -1099511627776 ≤ n ∧ n ≤ 1099511627776 := by
        have := HR.out; simp [rightB] at this; exact this.1
      go_wp2_with fail
      refine (Tryz.strconv_Itoa n (by omega) (by omega) _ W1.tab).mono ?_
      rintro e w2 ⟨rfl, q, os, rfl⟩
      go_wp2
      go_ret
      exact ⟨by rw [HV.out]; rfl, hb.trans ((below_grow w1 q os).mono hb.size)⟩
    by_cases k3 : k = 3
    · subst k3
      clear k1 k2
      have HV : Hid (textB 3 n s.data.toList = quoteL s.data.toList) := Lib.hid (by rw [HT.out, HR.out]; rfl)
      have hp : plainB s.data.toList = true := by have := HR.out; simp [rightB] at this; exact this.2
      obtain ⟨hp1, hp2⟩ := plain_bytes hp
      have hsz : s.size ≤ 64 := by have : s.data.toList.length = s.size := by rw [Array.length_toList]; rfl
                                   omega
      clear hp hp1
      have HP := Lib.hid hp2
      clear hp2
      go_wp2_with fail
      refine (quoted_any s _ (by omega) HP.out).mono ?_
      rintro e w2 ⟨rfl, hb2⟩
      go_wp2
      go_ret
      exact ⟨by rw [HV.out]; rfl, hb.trans (hb2.mono hb.size)⟩
    by_cases k4 : k = 4
    · subst k4
      clear k1 k2 k3
      have HV : Hid (sv (textB 4 n s.data.toList) = .string ((⟨#[40]⟩ : ByteArray) ++ s ++ ⟨#[41]⟩)) := Lib.hid (by rw [HT.out, HR.out, wrap_str]; rfl)
      have g1 : ¬ 9223372036854775807 < 1 + s.size := by omega
      have g2 : ¬ 9223372036854775807 < 1 + s.size + 1 := by omega
      go_wp2
      go_ret
      exact ⟨by rw [HV.out]; rfl, hb⟩
    by_cases k5 : k = 5
    · subst k5
      clear k1 k2 k3 k4
      have HV : Hid (sv (textB 5 n s.data.toList) = .string ((⟨#[91]⟩ : ByteArray) ++ s ++ ⟨#[93]⟩)) := Lib.hid (by rw [HT.out, HR.out, wrap_str]; rfl)
      have g1 : ¬ 9223372036854775807 < 1 + s.size := by omega
      have g2 : ¬ 9223372036854775807 < 1 + s.size + 1 := by omega
      go_wp2
      go_ret
      exact ⟨by rw [HV.out]; rfl, hb⟩
    · have HV : Hid (textB k n s.data.toList = [110, 117, 108, 108]) := Lib.hid (by rw [HT.out, HR.out]; simp [k1, k2, k3, k4, k5])
      have b1 : (k == 1) = false := beq_eq_false_iff_ne.2 k1
      have b2 : (k == 2) = false := beq_eq_false_iff_ne.2 k2
      have b3 : (k == 3) = false := beq_eq_false_iff_ne.2 k3
      have b4 : (k == 4) = false := beq_eq_false_iff_ne.2 k4
      have b5 : (k == 5) = false := beq_eq_false_iff_ne.2 k5
      clear k1 k2 k3 k4 k5
      go_wp2
      go_ret
      exact ⟨by rw [HV.out]; rfl, hb⟩

end Go.Proofs.YtdabanocofimmaaGreatDoor
