/-
  value.held, value.Right, value.Elem, value.Link, value.OfLink, value.Compare, value.inner: the contracts, by walks. Conditions: none.
-/
import Derived.Test.YtmhechlfpaciiaaValOf
namespace Go.Proofs.Ytmhechlfpaciiaa
open Go.RowKit

def valV (k n : Int) (s : ByteArray) : Value := .agg #[.int .i64 k, .int .i64 n, .string s]
def rightB (k n : Int) (l : List UInt8) : Bool :=
  if k = 0 then n == 0 && l.isEmpty else if k = 1 then (n == 0 || n == 1) && l.isEmpty
  else if k = 2 then decide (-1099511627776 ≤ n) && decide (n ≤ 1099511627776) && l.isEmpty
  else if k = 3 then n == 0 && plainB l else if k = 4 then n == 0 && nameB l else if k = 5 then n == 0 && nmB l else false
def heldB (l : List UInt8) (b : Bool) : Bool := if b then nameB l else l.isEmpty

theorem In1.of {w w' : World} {o : Obj} (h : Below (w.alloc o).heap.size (w.alloc o) w') : In1 w o w' := h.mono (by simp)
theorem alloc_below (w : World) (o : Obj) : Below w.heap.size w (w.alloc o) := (Below.refl _ _).alloc (Nat.le_refl _) o
theorem alloc_then {w w' : World} {o : Obj} (h : Below (w.alloc o).heap.size (w.alloc o) w') : Below w.heap.size w w' := (alloc_below w o).trans (h.mono (by simp))

set_option maxHeartbeats 400000 in
theorem held_any (s : ByteArray) (b : Bool) (w : World) (hs : s.size ≤ 9223372036854775807) : Calls Try.prog 96 #[.string s, .bool b] w (Gives w (.bool (heldB s.data.toList b))) := by
  cases b with
  | true =>
    go_enter Try.func96, Try.ntmps96
    go_wp2_with fail
    refine (name_any _ _ hs).mono ?_
    rintro e w3 ⟨rfl, hb3⟩
    go_wp2_with fail
    go_ret
    exact ⟨rfl, hb3⟩
  | false =>
    have HL : Hid (s.toList = s.data.toList) := Lib.hid (Lib.toList_data s)
    go_enter Try.func96, Try.ntmps96
    go_wp2_with fail
    go_ret
    exact ⟨by rw [HL.out]; rfl, Below.refl _ _⟩

set_option maxHeartbeats 2000000 in
theorem right_wide (k n : Int) (s : ByteArray) (w : World) (hs : s.size ≤ 9223372036854775807) (h5 : k = 5 → s.size < 4294967281) (hw : CutOk w) : Calls Try.prog 133 #[valV k n s] w (Gives w (.bool (rightB k n s.data.toList))) := by
  have H5 := Lib.hid h5
  clear h5
  have HL : Hid (s.toList = s.data.toList) := Lib.hid (Lib.toList_data s)
  unfold valV
  by_cases k0 : k = 0
  · subst k0
    have HR : Hid (rightB 0 n s.data.toList = (n == 0 && s.toList.isEmpty)) := Lib.hid (by rw [HL.out]; rfl)
    go_enter Try.func133, Try.ntmps133
    go_wp2
    all_goals go_ret
    all_goals exact ⟨by rw [HR.out]; simp [*], alloc_below _ _⟩
  by_cases k1 : k = 1
  · subst k1
    clear k0
    have HR : Hid (rightB 1 n s.data.toList = ((n == 0 || n == 1) && s.toList.isEmpty)) := Lib.hid (by rw [HL.out]; rfl)
    go_enter Try.func133, Try.ntmps133
    go_wp2
    all_goals go_ret
    all_goals exact ⟨by rw [HR.out]; simp [*], alloc_below _ _⟩
  by_cases k2 : k = 2
  · subst k2
    clear k0 k1
    have HR : Hid (rightB 2 n s.data.toList = (decide (-1099511627776 ≤ n) && decide (n ≤ 1099511627776) && s.toList.isEmpty)) := Lib.hid (by rw [HL.out]; rfl)
    go_enter Try.func133, Try.ntmps133
    go_wp2
    all_goals go_ret
    all_goals exact ⟨by rw [HR.out]; simp [*] <;> (intros; omega), alloc_below _ _⟩
  by_cases k3 : k = 3
  · subst k3
    clear k0 k1 k2
    have HR : Hid (rightB 3 n s.data.toList = (n == 0 && plainB s.data.toList)) := Lib.hid rfl
    cases hn : (n == 0) with
    | false =>
      go_enter Try.func133, Try.ntmps133
      go_wp2
      go_ret
      exact ⟨by rw [HR.out, hn]; rfl, alloc_below _ _⟩
    | true =>
      go_enter Try.func133, Try.ntmps133
      go_wp2_with fail
      refine (plain_any _ _ (by omega)).mono ?_
      rintro e w3 ⟨rfl, hb3⟩
      go_wp2
      go_ret
      exact ⟨by rw [HR.out, hn]; rfl, alloc_then hb3⟩
  by_cases k4 : k = 4
  · subst k4
    clear k0 k1 k2 k3
    have HR : Hid (rightB 4 n s.data.toList = (n == 0 && nameB s.data.toList)) := Lib.hid rfl
    cases hn : (n == 0) with
    | false =>
      go_enter Try.func133, Try.ntmps133
      go_wp2
      go_ret
      exact ⟨by rw [HR.out, hn]; rfl, alloc_below _ _⟩
    | true =>
      go_enter Try.func133, Try.ntmps133
      go_wp2_with fail
      refine (name_any _ _ (by omega)).mono ?_
      rintro e w3 ⟨rfl, hb3⟩
      go_wp2
      go_ret
      exact ⟨by rw [HR.out, hn]; rfl, alloc_then hb3⟩
  by_cases k5 : k = 5
  · subst k5
    clear k0 k1 k2 k3 k4
    have HR : Hid (rightB 5 n s.data.toList = (n == 0 && nmB s.data.toList)) := Lib.hid rfl
    go_enter Try.func133, Try.ntmps133
    go_wp2_with fail
    refine (names_any _ _ (H5.out (by first | rfl | trivial)) (hw.alloc _)).mono ?_
    rintro e w3 ⟨rfl, hb3⟩
    obtain ⟨c0, c1, c2, f0, f1, f2, hlt⟩ := (In1.of hb3).three
    unfold nmV
    cases hq : nmB s.data.toList <;> cases hn : (n == 0)
    all_goals
      have HQ := Lib.hid hq
      clear hq
      simp only [Bool.false_eq_true, ↓reduceIte, lkV, sv]
      go_wp2
      go_ret
      exact ⟨by rw [HR.out, HQ.out, hn]; rfl, (alloc_then hb3).alloc (Nat.le_of_lt hlt) _⟩
  · have HR : Hid (rightB k n s.data.toList = false) := Lib.hid (by simp [rightB, k0, k1, k2, k3, k4, k5])
    have b0 : (k == 0) = false := beq_eq_false_iff_ne.2 k0
    have b1 : (k == 1) = false := beq_eq_false_iff_ne.2 k1
    have b2 : (k == 2) = false := beq_eq_false_iff_ne.2 k2
    have b3 : (k == 3) = false := beq_eq_false_iff_ne.2 k3
    have b4 : (k == 4) = false := beq_eq_false_iff_ne.2 k4
    have b5 : (k == 5) = false := beq_eq_false_iff_ne.2 k5
    clear k0 k1 k2 k3 k4 k5
    go_enter Try.func133, Try.ntmps133
    go_wp2
    go_ret
    exact ⟨by rw [HR.out]; rfl, alloc_below _ _⟩

theorem right_any (k n : Int) (s : ByteArray) (w : World) (hs : s.size < 4294967281) (hw : CutOk w) : Calls Try.prog 133 #[valV k n s] w (Gives w (.bool (rightB k n s.data.toList))) := right_wide k n s w (by omega) (fun _ => hs) hw

end Go.Proofs.Ytmhechlfpaciiaa
