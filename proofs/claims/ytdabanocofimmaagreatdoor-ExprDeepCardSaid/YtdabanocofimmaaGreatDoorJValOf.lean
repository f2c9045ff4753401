/-
  value.names, value.held, value.Right, value.Elem, value.Compare, value.OfLink, value.Link, value.inner: the contracts, by walks. value.held, value.Right, value.Elem, value.Link, value.OfLink, value.Compare, value.inner: the contracts, by walks. The order of values, by numbers. strings.Builder's writers at this program (copyCheck's own body is told anew: its panic is no part of the road): copyCheck, WriteByte, WriteRune, by walks. Conditions: lengths.
-/
import Derived.Test.YtdabanocofimmaaGreatDoorRows
import Derived.Test.YtdabanocofimmaaGreatDoorJWords
import Derived.Test.YtdabanocofimmaaGreatDoorShelf
import Derived.Handy
import Derived.Lib.OthersKept
import Derived.Lib.AppendZeros
namespace Go.Proofs.YtdabanocofimmaaGreatDoor
open Go.RowKit

/-- The cell that strings.Cut asks for. -/
def CutOk (w : World) : Prop := 1 < w.heap.size ∧ ∃ m : Int, w.cell? ⟨1, 0, none⟩ = some (.int .i64 m)
theorem CutOk.below {w w' : World} (h : CutOk w) (hb : Below w.heap.size w w') : CutOk w' := by
  obtain ⟨h0, m, hm⟩ := h
  exact ⟨Nat.lt_of_lt_of_le h0 hb.size, m, (hb.cell (p := ⟨1, 0, none⟩) h0).trans hm⟩
theorem CutOk.alloc {w : World} (h : CutOk w) (o : Obj) : CutOk (w.alloc o) := h.below ((Below.refl _ _).alloc (Nat.le_refl _) o)
theorem CutOk.drewN {w : World} (h : CutOk w) (n : Nat) : CutOk (w.drewN n) := h

def sv (l : List UInt8) : Value := .string ⟨l.toArray⟩
/-- An edge's names, as a struct. -/
def lkV (a b c : List UInt8) : Value := .agg #[sv a, sv b, sv c]
def nmA (l : List UInt8) : List UInt8 := (Lib.cut l [62]).1
def nmK (l : List UInt8) : List UInt8 := (Lib.cut (Lib.cut l [62]).2.1 [62]).1
def nmT (l : List UInt8) : List UInt8 := (Lib.cut (Lib.cut l [62]).2.1 [62]).2.1
def nmB (l : List UInt8) : Bool := nameB (nmA l) && nameB (nmK l) && nameB (nmT l)
def nmV (l : List UInt8) : Value := .tuple #[if nmB l then lkV (nmA l) (nmT l) (nmK l) else lkV [] [] [], .bool (nmB l)]

theorem cut_len (l s : List UInt8) : (Lib.cut l s).1.length ≤ l.length ∧ (Lib.cut l s).2.1.length ≤ l.length := by
  unfold Lib.cut
  split <;> simp
  omega

theorem cut_any (s : ByteArray) (w : World) (hs : s.size < 4294967281) (hw : CutOk w) : Calls Tryz.prog 108 #[.string s, .string ⟨#[62]⟩] w fun e w' => e = .returned (.tuple #[.string ⟨(Lib.cut s.data.toList [62]).1.toArray⟩, .string ⟨(Lib.cut s.data.toList [62]).2.1.toArray⟩, .bool (Lib.cut s.data.toList [62]).2.2]) ∧ ∃ n, w' = w.drewN n := by
  obtain ⟨_, m, hm⟩ := hw
  exact Tryz.strings_Cut s ⟨#[62]⟩ m w hs hm

/-- A block of three cells, made first: it stands as it was laid, whatever came behind it. -/
def In1 (w : World) (o : Obj) (w' : World) : Prop := Below (w.heap.size + 1) (w.alloc o) w'
theorem In1.drew (w : World) (o : Obj) (n : Nat) : In1 w o ((w.alloc o).drewN n) := ⟨rfl, rfl, rfl, by show (w.alloc o).heap.size ≤ (w.alloc o).heap.size; exact Nat.le_refl _, fun _ _ => rfl⟩
theorem In1.drew' {w w' : World} {o : Obj} (h : In1 w o w') (n : Nat) : In1 w o (w'.drewN n) := ⟨h.os, h.tape, h.output, h.size, h.block⟩
theorem In1.then_ {w w' w'' : World} {o : Obj} (h : In1 w o w') (k : Below w'.heap.size w' w'') : In1 w o w'' :=
  Below.trans h (k.mono (by have := h.size; simp at this; omega))
theorem In1.below {w w' : World} {o : Obj} (h : In1 w o w') : Below w.heap.size w w' := ((Below.refl _ _).alloc (Nat.le_refl _) o).trans (h.mono (Nat.le_succ _))
theorem In1.blk {w w' : World} {t : TypeId} {cs : Array Value} (h : In1 w (.cells cs t) w') : Blk w' w.heap.size t cs := (Blk.new w t cs).below h (Nat.lt_succ_self _)
theorem In1.three {w w' : World} {t : TypeId} {a b c : Value} (h : In1 w (.cells #[a, b, c] t) w') :
    w'.cell? ⟨w.heap.size, 0, none⟩ = some a ∧ w'.cell? ⟨w.heap.size, 1, none⟩ = some b ∧ w'.cell? ⟨w.heap.size, 2, none⟩ = some c ∧
    w'.frozen? ⟨w.heap.size, 0, none⟩ = false ∧ w'.frozen? ⟨w.heap.size, 1, none⟩ = false ∧ w'.frozen? ⟨w.heap.size, 2, none⟩ = false ∧ w.heap.size < w'.heap.size :=
  ⟨by rw [h.blk.cell]; rfl, by rw [h.blk.cell]; rfl, by rw [h.blk.cell]; rfl, h.blk.free 0, h.blk.free 1, h.blk.free 2, h.blk.lt⟩
theorem set3_below {w w' : World} (h : Below w.heap.size w w') (a b c : Value) : Below w.heap.size w (((w'.setCell ⟨w.heap.size, 0, none⟩ a).setCell ⟨w.heap.size, 1, none⟩ b).setCell ⟨w.heap.size, 2, none⟩ c) :=
  ((h.setCell (Nat.le_refl _) a).setCell (Nat.le_refl _) b).setCell (Nat.le_refl _) c

theorem set3_blk {w w' : World} {t : TypeId} {a b c : Value} (h : In1 w (.cells #[a, b, c] t) w') (x y z : Value) : Blk (((w'.setCell ⟨w.heap.size, 0, none⟩ x).setCell ⟨w.heap.size, 1, none⟩ y).setCell ⟨w.heap.size, 2, none⟩ z) w.heap.size t #[x, y, z] := by
  simpa using ((h.blk.set_ 0 x).set_ 1 y).set_ 2 z
/-- What a function returns whose first result is a struct that has a place in memory, the second a temporary. -/
theorem ret_cell {P : Program} {fn : Func} {p u : Tmp} {ty : TypeId} (h : fn.results = #[.cell p ty, .tmp u]) (tmps : Array Value) (w : World) (g : Nat) (t : TypeId) (cs : Array Value) (d : TypeDesc) (v : Value)
    (hp : tmps.getD p undef = .pointer (some ⟨g, 0, none⟩)) (hg : Blk w g t cs)
    (hu : P.underlying ty = some d) (hd : (match d with | .struct _ | .array _ _ => true | _ => false) = true) (hi : (P.info? ty).map (·.size) = some cs.size) (hv : tmps.getD u undef = v) :
    (results fn tmps).run P w = .ok (.tuple #[.agg cs, v]) w := by
  rw [results_cell_tmp h, hp, hv]
  simp [asAddr, Result.andThen, run_loadVar_row w g t ty cs (0, 0) d hg hu hd hi]

theorem size_mk (l : List UInt8) : (ByteArray.mk l.toArray).size = l.length := by simp [ByteArray.size]

set_option maxHeartbeats 1000000 in
theorem names_any (s : ByteArray) (w : World) (hs : s.size < 4294967281) (hw : CutOk w) : Calls Tryz.prog 96 #[.string s] w (Gives w (nmV s.data.toList)) := by
  have hlen : s.data.toList.length = s.size := by rw [Array.length_toList]; rfl
  obtain ⟨h1, h2⟩ := cut_len s.data.toList [62]
  obtain ⟨h3, h4⟩ := cut_len (Lib.cut s.data.toList [62]).2.1 [62]
  have hA : Hid (nmA s.data.toList = (Lib.cut s.data.toList [62]).1) := Lib.hid rfl
  have hK : Hid (nmK s.data.toList = (Lib.cut (Lib.cut s.data.toList [62]).2.1 [62]).1) := Lib.hid rfl
  have hT : Hid (nmT s.data.toList = (Lib.cut (Lib.cut s.data.toList [62]).2.1 [62]).2.1) := Lib.hid rfl
  have hB : Hid (nmB s.data.toList = (nameB (nmA s.data.toList) && nameB (nmK s.data.toList) && nameB (nmT s.data.toList))) := Lib.hid rfl
  have hV : Hid (nmV s.data.toList = .tuple #[if nmB s.data.toList then lkV (nmA s.data.toList) (nmT s.data.toList) (nmK s.data.toList) else lkV [] [] [], .bool (nmB s.data.toList)]) := Lib.hid rfl
  have hL1 : Hid ((ByteArray.mk (Lib.cut s.data.toList [62]).2.1.toArray).size < 4294967281) := Lib.hid (by rw [size_mk]; omega)
  have hL2 : Hid ((ByteArray.mk (Lib.cut s.data.toList [62]).1.toArray).size ≤ 9223372036854775807) := Lib.hid (by rw [size_mk]; omega)
  have hL3 : Hid ((ByteArray.mk (Lib.cut (Lib.cut s.data.toList [62]).2.1 [62]).1.toArray).size ≤ 9223372036854775807) := Lib.hid (by rw [size_mk]; omega)
  have hL4 : Hid ((ByteArray.mk (Lib.cut (Lib.cut s.data.toList [62]).2.1 [62]).2.1.toArray).size ≤ 9223372036854775807) := Lib.hid (by rw [size_mk]; omega)
  clear hlen h1 h2 h3 h4
  go_enter Tryz.func96, Tryz.ntmps96
  go_wp2_with fail
  refine (cut_any s _ hs (hw.alloc _)).mono ?_
  rintro e w1 ⟨rfl, n1, rfl⟩
  go_wp2_with fail
  refine (cut_any _ _ hL1.out ((hw.alloc _).drewN n1)).mono ?_
  rintro e w1 ⟨rfl, n2, rfl⟩
  go_wp2_with fail
  refine (name_any _ _ hL2.out).mono ?_
  rintro e w3 ⟨rfl, hb3⟩
  have k3 := (In1.drew _ _ (n1 + n2)).then_ hb3
  clear hb3
  have hVF : nmB s.data.toList = false → Hid (.tuple #[lkV [] [] [], .bool false] = nmV s.data.toList) := fun h => Lib.hid (by rw [hV.out, h]; rfl)
  cases q1 : nameB (Lib.cut s.data.toList [62]).1 with
  | false =>
    have HF := hVF (by rw [hB.out, hA.out, q1]; rfl)
    have HQ := Lib.hid q1
    clear q1
    obtain ⟨c0, c1, c2, f0, f1, f2, hlt⟩ := k3.three
    have hb := k3.below
    go_wp2_with fail
    (try simp only [Exit.inBlock, Exit.then])
    refine bodyPost_ret (ret_cell rfl _ _ _ _ _ _ (.bool false) rfl (set3_blk k3 _ _ _) Tryz.underlying96 rfl (by kernel_rfl) rfl) rfl ?_
    exact ⟨by rw [← HF.out]; rfl, set3_below hb _ _ _⟩
  | true =>
    have HQ := Lib.hid q1
    clear q1
    go_wp2_with fail
    refine (name_any _ _ hL3.out).mono ?_
    rintro e w4 ⟨rfl, hb4⟩
    have k4 := k3.then_ hb4
    clear hb4 k3
    cases q2 : nameB (Lib.cut (Lib.cut s.data.toList [62]).2.1 [62]).1 with
    | false =>
      have HF := hVF (by rw [hB.out, hA.out, hK.out, q2, Bool.and_false]; rfl)
      have HQ2 := Lib.hid q2
      clear q2
      obtain ⟨c0, c1, c2, f0, f1, f2, hlt⟩ := k4.three
      have hb := k4.below
      go_wp2_with fail
      (try simp only [Exit.inBlock, Exit.then])
      refine bodyPost_ret (ret_cell rfl _ _ _ _ _ _ (.bool false) rfl (set3_blk k4 _ _ _) Tryz.underlying96 rfl (by kernel_rfl) rfl) rfl ?_
      exact ⟨by rw [← HF.out]; rfl, set3_below hb _ _ _⟩
    | true =>
      have HQ2 := Lib.hid q2
      clear q2
      go_wp2_with fail
      refine (name_any _ _ hL4.out).mono ?_
      rintro e w5 ⟨rfl, hb5⟩
      have k5 := k4.then_ hb5
      clear hb5 k4
      obtain ⟨c0, c1, c2, f0, f1, f2, hlt⟩ := k5.three
      have hb := k5.below
      cases q3 : nameB (Lib.cut (Lib.cut s.data.toList [62]).2.1 [62]).2.1 with
      | false =>
        have HF := hVF (by rw [hB.out, hT.out, q3, Bool.and_false])
        have HQ3 := Lib.hid q3
        clear q3
        go_wp2_with fail
        (try simp only [Exit.inBlock, Exit.then])
        refine bodyPost_ret (ret_cell rfl _ _ _ _ _ _ (.bool false) rfl (set3_blk k5 _ _ _) Tryz.underlying96 rfl (by kernel_rfl) rfl) rfl ?_
        exact ⟨by rw [← HF.out]; rfl, set3_below hb _ _ _⟩
      | true =>
        have HF : Hid (.tuple #[lkV (nmA s.data.toList) (nmT s.data.toList) (nmK s.data.toList), .bool true] = nmV s.data.toList) := Lib.hid (by
          rw [hV.out, show nmB s.data.toList = true by rw [hB.out, hA.out, hK.out, hT.out, HQ.out, HQ2.out, q3]; rfl]; rfl)
        have HQ3 := Lib.hid q3
        clear q3
        go_wp2_with fail
        (try simp only [Exit.inBlock, Exit.then])
        refine bodyPost_ret (ret_cell rfl _ _ _ _ _ _ (.bool true) rfl (set3_blk k5 _ _ _) Tryz.underlying96 rfl (by kernel_rfl) rfl) rfl ?_
        exact ⟨by rw [← HF.out, hA.out, hK.out, hT.out]; rfl, set3_below hb _ _ _⟩

end Go.Proofs.YtdabanocofimmaaGreatDoor

namespace Go.Proofs.YtdabanocofimmaaGreatDoor
open Go.RowKit

def valV (k n : Int) (s : ByteArray) : Value := .agg #[.int .i64 k, .int .i64 n, .string s]
def rightB (k n : Int) (l : List UInt8) : Bool :=
  if k = 0 then n == 0 && l.isEmpty else if k = 1 then (n == 0 || n == 1) && l.isEmpty
  else if k = 2 then decide (-1099511627776 ≤ n) && decide (n ≤ 1099511627776) && l.isEmpty
  else if k = 3 then n == 0 && plainB l else if k = 4 then n == 0 && nameB l else if k = 5 then n == 0 && nmB l else false
theorem In1.of {w w' : World} {o : Obj} (h : Below (w.alloc o).heap.size (w.alloc o) w') : In1 w o w' := h.mono (by simp)
theorem alloc_below (w : World) (o : Obj) : Below w.heap.size w (w.alloc o) := (Below.refl _ _).alloc (Nat.le_refl _) o
theorem alloc_then {w w' : World} {o : Obj} (h : Below (w.alloc o).heap.size (w.alloc o) w') : Below w.heap.size w w' := (alloc_below w o).trans (h.mono (by simp))

set_option maxHeartbeats 2000000 in
theorem right_wide (k n : Int) (s : ByteArray) (w : World) (hs : s.size ≤ 9223372036854775807) (h5 : k = 5 → s.size < 4294967281) (hw : CutOk w) : Calls Tryz.prog 78 #[valV k n s] w (Gives w (.bool (rightB k n s.data.toList))) := by
  have H5 := Lib.hid h5
  clear h5
  have HL : Hid (s.toList = s.data.toList) := Lib.hid (Lib.toList_data s)
  unfold valV
  by_cases k0 : k = 0
  · subst k0
    have HR : Hid (rightB 0 n s.data.toList = (n == 0 && s.toList.isEmpty)) := Lib.hid (by rw [HL.out]; rfl)
    go_enter Tryz.func78, Tryz.ntmps78
    go_wp2
    all_goals go_ret
    all_goals exact ⟨by rw [HR.out]; simp [*], alloc_below _ _⟩
  by_cases k1 : k = 1
  · subst k1
    clear k0
    have HR : Hid (rightB 1 n s.data.toList = ((n == 0 || n == 1) && s.toList.isEmpty)) := Lib.hid (by rw [HL.out]; rfl)
    go_enter Tryz.func78, Tryz.ntmps78
    go_wp2
    all_goals go_ret
    all_goals exact ⟨by rw [HR.out]; simp [*], alloc_below _ _⟩
  by_cases k2 : k = 2
  · subst k2
    clear k0 k1
    have HR : Hid (rightB 2 n s.data.toList = (decide (-1099511627776 ≤ n) && decide (n ≤ 1099511627776) && s.toList.isEmpty)) := Lib.hid (by rw [HL.out]; rfl)
    go_enter Tryz.func78, Tryz.ntmps78
    go_wp2
    all_goals go_ret
    all_goals exact ⟨by rw [HR.out]; simp [*] <;> (intros; omega), alloc_below _ _⟩
  by_cases k3 : k = 3
  · subst k3
    clear k0 k1 k2
    have HR : Hid (rightB 3 n s.data.toList = (n == 0 && plainB s.data.toList)) := Lib.hid rfl
    cases hn : (n == 0) with
    | false =>
      go_enter Tryz.func78, Tryz.ntmps78
      go_wp2
      go_ret
      exact ⟨by rw [HR.out, hn]; rfl, alloc_below _ _⟩
    | true =>
      go_enter Tryz.func78, Tryz.ntmps78
      go_wp2_with fail
      refine (plain_any _ _ (by omega)).mono ?_
      rintro e w3 ⟨rfl, hb3⟩
      go_wp2
      go_ret
      exact ⟨by rw [HR.out, hn]; rfl, alloc_then hb3⟩
  by_cases k4 : k = 4
  · subst k4
    clear k0 k1 k2 k3
    have HR : Hid (rightB 4 n s.data.toList = (n == 0 && nameB s.data.toList)) := Lib.hid rfl
    cases hn : (n == 0) with
    | false =>
      go_enter Tryz.func78, Tryz.ntmps78
      go_wp2
      go_ret
      exact ⟨by rw [HR.out, hn]; rfl, alloc_below _ _⟩
    | true =>
      go_enter Tryz.func78, Tryz.ntmps78
      go_wp2_with fail
      refine (name_any _ _ (by omega)).mono ?_
      rintro e w3 ⟨rfl, hb3⟩
      go_wp2
      go_ret
      exact ⟨by rw [HR.out, hn]; rfl, alloc_then hb3⟩
  by_cases k5 : k = 5
  · subst k5
    clear k0 k1 k2 k3 k4
    have HR : Hid (rightB 5 n s.data.toList = (n == 0 && nmB s.data.toList)) := Lib.hid rfl
    go_enter Tryz.func78, Tryz.ntmps78
    go_wp2_with fail
    refine (names_any _ _ (H5.out (by first | rfl | trivial)) (hw.alloc _)).mono ?_
    rintro e w3 ⟨rfl, hb3⟩
    obtain ⟨c0, c1, c2, f0, f1, f2, hlt⟩ := (In1.of hb3).three
    unfold nmV
    cases hq : nmB s.data.toList <;> cases hn : (n == 0)
    all_goals
      have HQ := Lib.hid hq
      clear hq
      simp only [Bool.false_eq_true, ↓reduceIte, lkV, sv]
      go_wp2
      go_ret
      exact ⟨by rw [HR.out, HQ.out, hn]; rfl, (alloc_then hb3).alloc (Nat.le_of_lt hlt) _⟩
  · have HR : Hid (rightB k n s.data.toList = false) := Lib.hid (by simp [rightB, k0, k1, k2, k3, k4, k5])
    have b0 : (k == 0) = false := beq_eq_false_iff_ne.2 k0
    have b1 : (k == 1) = false := beq_eq_false_iff_ne.2 k1
    have b2 : (k == 2) = false := beq_eq_false_iff_ne.2 k2
    have b3 : (k == 3) = false := beq_eq_false_iff_ne.2 k3
    have b4 : (k == 4) = false := beq_eq_false_iff_ne.2 k4
    have b5 : (k == 5) = false := beq_eq_false_iff_ne.2 k5
    clear k0 k1 k2 k3 k4 k5
    go_enter Tryz.func78, Tryz.ntmps78
    go_wp2
    go_ret
    exact ⟨by rw [HR.out]; rfl, alloc_below _ _⟩

theorem right_any (k n : Int) (s : ByteArray) (w : World) (hs : s.size < 4294967281) (hw : CutOk w) : Calls Tryz.prog 78 #[valV k n s] w (Gives w (.bool (rightB k n s.data.toList))) := right_wide k n s w (by omega) (fun _ => hs) hw

end Go.Proofs.YtdabanocofimmaaGreatDoor

namespace Go.Proofs.YtdabanocofimmaaGreatDoor
open Go.RowKit

set_option maxHeartbeats 1000000 in
theorem inner_any (s : ByteArray) (w : World) (hs : s.size ≤ 9223372036854775807) : Calls Tryz.prog 173 #[.string s] w (SameV w (.string (if s.size < 2 then ⟨#[]⟩ else s.extract 1 (s.size - 1)))) := by
  by_cases h : s.size < 2
  · go_enter Tryz.func173, Tryz.ntmps173
    go_wp2
    go_ret
    exact ⟨rfl, rfl⟩
  · obtain ⟨E, hE⟩ : ∃ E, E = s.size - 1 := ⟨_, rfl⟩
    have hw : wrap64 ((s.size : Int) - 1) = (E : Int) := by rw [IntWalk.wrap64_in _ ⟨by omega, by omega⟩]; omega
    have h1 : (1 : Int) ≤ (E : Int) := by omega
    have h0 : (0 : Int) ≤ (E : Int) := by omega
    have h2 : (E : Int) ≤ (s.size : Int) := by omega
    have HE := Lib.hid hE
    clear hE
    go_enter Tryz.func173, Tryz.ntmps173
    go_wp2
    go_ret
    exact ⟨by rw [← HE.out]; rfl, rfl⟩

end Go.Proofs.YtdabanocofimmaaGreatDoor

namespace Go.Proofs.YtdabanocofimmaaGreatDoor
open Go.RowKit

def Own (B b : Nat) (p : Value) (bs : List Value) (w : World) : Prop := Lib.BuilderAt 141 5 B b p bs w
def selfP (b : Nat) : Value := .pointer (some ⟨b, 0, none⟩)
def Kept (b : Nat) (w w' : World) : Prop := Lib.OthersKept 5 (some b) w w'
/-- What a writer leaves: the builder used, holding bs; below B nothing turned; what is neither it nor a row of bytes stands. -/
def Wrote (B b : Nat) (bs : List Value) (w w' : World) : Prop := Own B b (selfP b) bs w' ∧ Below B w w' ∧ Kept b w w'

set_option maxHeartbeats 1000000 in
set_option maxRecDepth 100000 in
theorem copy_used (B b : Nat) (bs : List Value) (w : World) (h : Own B b (selfP b) bs w) : Calls Tryz.prog 134 #[selfP b] w fun e w' => e = .returned (.tuple #[]) ∧ Wrote B b bs w w' := by
  have h0 : w.cell? ⟨b, 0, none⟩ = some (.pointer (some ⟨b, 0, none⟩)) := Lib.BuilderAt.cell0 h
  obtain ⟨j, hj, _⟩ := Option.map_eq_some_iff.1 Tryz.Builder_Extra_169.sizeBuilder
  unfold selfP
  go_enter Tryz.func134, Tryz.ntmps134
  go_wp2
  rw [Lib.run_neq_ptr_same _ _ Tryz.underlying139 hj]
  go_wp2
  go_end0
  exact ⟨rfl, h, Below.refl _ _, Lib.OthersKept.refl _ _ _⟩

set_option maxHeartbeats 1000000 in
set_option maxRecDepth 100000 in
theorem copy_fresh (B b : Nat) (bs : List Value) (w : World) (h : Own B b (.pointer none) bs w) : Calls Tryz.prog 134 #[selfP b] w fun e w' => e = .returned (.tuple #[]) ∧ Wrote B b bs w w' := by
  have h0 : w.cell? ⟨b, 0, none⟩ = some (.pointer none) := Lib.BuilderAt.cell0 h
  have hsh := Lib.BuilderAt.shape h
  have hfz := Lib.BuilderAt.frozen0 h
  obtain ⟨j, hj, hjs⟩ := Option.map_eq_some_iff.1 Tryz.Builder_Extra_169.sizeBuilder
  unfold selfP
  go_enter Tryz.func134, Tryz.ntmps134
  go_wp2
  rw [Lib.run_to_unsafe _ ⟨b, 0, none⟩ Tryz.underlying139 Tryz.underlying157 hj (by rw [hjs]; decide) hsh (Nat.zero_lt_succ 1)]
  simp only [Result.andThen]
  rw [Oper.upon_value]
  go_wp2
  rw [run_callFunc_extern Tryz.func152 (by kernel_rfl) (by kernel_rfl) (by kernel_rfl) (e := Extern.AbiNoEscape.same) (by kernel_rfl)]
  rw [Lib.run_noEscape]
  simp only [Result.andThen]
  rw [Oper.upon_value]
  go_wp2
  rw [Lib.run_from_unsafe _ ⟨b, 0, none⟩ Tryz.underlying157 Tryz.underlying139 hj hsh Tryz.Builder_Extra_169.liesBuilder]
  simp only [Result.andThen]
  rw [Oper.upon_value]
  go_wp2
  go_end0
  exact ⟨rfl, Lib.BuilderAt.used h _, (Below.refl B w).setCell (p := ⟨b, 0, none⟩) h.1 _, (Lib.OthersKept.refl _ _ w).setCell ⟨b, 0, none⟩ rfl _⟩

theorem copy_any (B b : Nat) (bs : List Value) (w : World) (h : Lib.IsBuilder 141 5 B b bs w) : Calls Tryz.prog 134 #[selfP b] w fun e w' => e = .returned (.tuple #[]) ∧ Wrote B b bs w w' :=
  h.elim (copy_fresh B b bs w) (copy_used B b bs w)

theorem own_put {B b : Nat} {w w1 w2 : World} {v v' : Value} {bs bs' : List Value} {o : Obj} (hW : Below B w w1 ∧ Kept b w w1) (hBw : B ≤ w.heap.size) (hB : B ≤ b)
    (hbk : w1.heap[b]? = some (.cells #[selfP b, v] 141 (0, 0))) (hne : v.ownBlock ≠ some b) (hown : w1.ownsRow B 5 1 v bs.length bs) (hg : (w1.alloc o).grownBy w2 v.ownBlock) (hown' : w2.ownsRow B 5 1 v' bs'.length bs') :
    w2.cell? ⟨b, 0, none⟩ = some (selfP b) ∧ w2.cell? ⟨b, 1, none⟩ = some v ∧ w2.frozen? ⟨b, 1, none⟩ = false ∧ Wrote B b bs' w (w2.setCell ⟨b, 1, none⟩ v') := by
  have hlt : b < w1.heap.size := (Array.getElem?_eq_some_iff.1 hbk).1
  have hsz := hW.1.size
  have hb2 : w2.heap[b]? = some (.cells #[selfP b, v] 141 (0, 0)) := by
    rw [hg.block b (by simp; omega) (fun e => hne e.symm), Below.heap_alloc w1 _ b hlt]
    exact hbk
  refine ⟨by rw [Lib.cell_of_heap hb2]; rfl, by rw [Lib.cell_of_heap hb2]; rfl, Lib.frozen_of_heap hb2 1, ?_, ?_, ?_⟩
  · exact Lib.BuilderAt.put (p := selfP b) (bs' := bs') hB hb2 hown' (by decide)
  · refine ((hW.1.alloc (by omega) o).grown hg (by simp; omega) (fun k hk => (hown.lt k hk).1)).setCell (p := ⟨b, 1, none⟩) hB _
  · refine ((Lib.OthersKept.alloc hW.2 o).grown hg (fun g hg' => ?_)).setCell ⟨b, 1, none⟩ rfl _
    exact Lib.ownsRowF_kind (World.ownsRowF_of (hown.alloc o)) g hg'

set_option maxRecDepth 100000 in
/-- Bytes, laid in a block of their own for an append, go in behind a row of the call's own. -/
theorem run_append_byte (w : World) (B : Nat) (v : Value) (n : Nat) (xs : List Value) (c : Int) (ty : TypeId) (hown : w.ownsRow B 5 1 v n xs) (hn : n + 1 ≤ 140737488355328) (hB : B ≤ w.heap.size) :
    ∃ v' w', (Builtin.append_ #[115, 115] ty #[v, .slice (some ⟨w.heap.size, 0, none⟩) 1 1]).run Tryz.prog (w.alloc (.cells #[.int .u8 c] 5)) = .ok v' w' ∧ w'.ownsRow B 5 1 v' (n + 1) (xs ++ [.int .u8 c]) ∧ (w.alloc (.cells #[.int .u8 c] 5)).grownBy w' v.ownBlock := by
  obtain ⟨i0, hi, hz0, hz1, hz2⟩ : ∃ i0 : TypeInfo, Tryz.prog.info? 5 = some i0 ∧ i0.zero = some (.int .u8 0) ∧ i0.size = 1 ∧ i0.bytes = 1 := ⟨_, rfl, rfl, rfl, rfl⟩
  have hlit : Sl (fun x : Int => Value.int .u8 x) (w.alloc (.cells #[.int .u8 c] 5)) (.slice (some ⟨w.heap.size, 0, none⟩) 1 1) [c] := by
    refine ⟨_, _, rfl, Nat.le_refl _, fun _ => ⟨_, 0, rfl, by simp, fun j u hu => ?_⟩⟩
    rw [(Blk.new w _ #[.int .u8 c]).cell (0 + j)]
    match j, hu with
    | 0, hu => simp at hu; subst hu; rfl
  obtain ⟨v', w', h1, h2, h3⟩ := run_append_sl (P := Tryz.prog) (w.alloc (.cells #[.int .u8 c] 5)) B 115 ty 5 i0 (.int .u8 0) 1 Tryz.underlying115 hi hz0 hz1 hz2 rfl v n xs (hown.alloc _) _ [c] hlit (fun _ => rfl) (by simp; omega) (by simp; omega) (by simp; omega)
  exact ⟨v', w', h1, by simpa using h2, h3⟩

set_option maxHeartbeats 1000000 in
set_option maxRecDepth 100000 in
theorem byte_any (B b : Nat) (bs : List Value) (c : Int) (w : World) (h : Lib.IsBuilder 141 5 B b bs w) (hlen : bs.length + 1 ≤ 140737488355328) (hBw : B ≤ w.heap.size) :
    Calls Tryz.prog 150 #[selfP b, .int .u8 c] w fun e w' => e = .returned .nilIface ∧ Wrote B b (bs ++ [.int .u8 c]) w w' := by
  unfold selfP
  go_enter Tryz.func150, Tryz.ntmps150
  go_wp2_with fail
  refine (copy_any B b bs _ h).mono ?_
  rintro e w1 ⟨rfl, h1, hb1, hk1⟩
  obtain ⟨hB, v, hbk, hown, hne⟩ := h1
  have c0 : w1.cell? ⟨b, 0, none⟩ = some (.pointer (some ⟨b, 0, none⟩)) := by rw [Lib.cell_of_heap hbk]; rfl
  have c1 : w1.cell? ⟨b, 1, none⟩ = some v := by rw [Lib.cell_of_heap hbk]; rfl
  obtain ⟨v', w2, hr, hown', hg⟩ := run_append_byte w1 B v bs.length bs c 115 hown hlen (by have := hb1.size; omega)
  obtain ⟨d0, d1, f1, hW⟩ := own_put (bs' := bs ++ [.int .u8 c]) ⟨hb1, hk1⟩ hBw hB hbk hne hown hg (by simpa using hown')
  unfold selfP at d0
  obtain ⟨ao', cap', rfl⟩ : ∃ ao' cap', v' = .slice ao' (bs.length + 1) cap' := by
    rcases hown'.2 with ⟨hv, h0⟩ | ⟨g, cap, cur, hv, _⟩
    · omega
    · exact ⟨_, _, hv⟩
  clear hown hbk hne
  have HO := Lib.hid hown'
  have HG := Lib.hid hg
  have HR := Lib.hid hr
  clear hown' hg hr
  go_wp2_with (at_builtin; refine Lib.wpList_append_run _ rfl _ _ _ _ rfl _ _ rfl rfl _ _ HR.out ?_)
  go_ret
  exact ⟨rfl, hW⟩

set_option maxHeartbeats 1000000 in
set_option maxRecDepth 100000 in
theorem rune_any (B b : Nat) (bs : List Value) (r : Int) (hr0 : -2147483648 ≤ r) (hr1 : r ≤ 2147483647) (w : World) (h : Lib.IsBuilder 141 5 B b bs w) (hlen : bs.length + 4 ≤ 140737488355328) (hBw : B ≤ w.heap.size) :
    Calls Tryz.prog 151 #[selfP b, .int .i32 r] w fun e w' => (∃ v, e = .returned v) ∧ Wrote B b (bs ++ Lib.runeCells r) w w' := by
  unfold selfP
  go_enter Tryz.func151, Tryz.ntmps151
  go_wp2_with fail
  refine (copy_any B b bs _ h).mono ?_
  rintro e w1 ⟨rfl, h1, hb1, hk1⟩
  obtain ⟨hB, v, hbk, hown, hne⟩ := h1
  obtain ⟨ao, cap, rfl⟩ : ∃ ao cap, v = .slice ao bs.length cap := by
    rcases hown.2 with ⟨hv, h0⟩ | ⟨g, cap, cur, hv, _⟩
    · exact ⟨none, 0, by rw [hv, h0]⟩
    · exact ⟨_, _, hv⟩
  have c0 : w1.cell? ⟨b, 0, none⟩ = some (.pointer (some ⟨b, 0, none⟩)) := by rw [Lib.cell_of_heap hbk]; rfl
  have c1 : w1.cell? ⟨b, 1, none⟩ = some (.slice ao bs.length cap) := by rw [Lib.cell_of_heap hbk]; rfl
  have hk4 := Lib.runeCells_le r
  go_wp2_with fail
  refine (Tryz.utf8_AppendRune_plain B _ bs.length bs r hr0 hr1 _ hown hlen (by have := hb1.size; omega)).mono ?_
  rintro e w2 ⟨v', rfl, hown', o, hg⟩
  obtain ⟨d0, d1, f1, hW⟩ := own_put (bs' := bs ++ Lib.runeCells r) ⟨hb1, hk1⟩ hBw hB hbk hne hown hg (by simpa using hown')
  obtain ⟨ao', cap', rfl⟩ : ∃ ao' cap', v' = .slice ao' (bs.length + (Lib.runeCells r).length) cap' := by
    rcases hown'.2 with ⟨hv, h0⟩ | ⟨g, cap, cur, hv, _⟩
    · exact ⟨none, 0, by rw [hv, h0]⟩
    · exact ⟨_, _, hv⟩
  unfold selfP at d0
  clear hown hbk hne
  have HO := Lib.hid hown'
  have HG := Lib.hid hg
  clear hown' hg
  go_wp2
  go_ret2
  exact ⟨⟨_, rfl⟩, hW⟩

end Go.Proofs.YtdabanocofimmaaGreatDoor
