/-
  hedgerowref01.Right: the contract, by a walk. Conditions: the text's length.
-/
import Derived.Test.YtmmphgapginmjaaGreatDoorValRefLink
namespace Go.Proofs.YtmmphgapginmjaaGreatDoor
open Go.RowKit

set_option maxHeartbeats 2000000 in
theorem refright_any (k n : Int) (s : ByteArray) (w : World) (hs : s.size ≤ 1000000) : Calls Tryz.prog 34 #[valV k n s] w (Gives w (.bool (rightB k n s.data.toList))) := by
  have HL : Hid (s.toList = s.data.toList) := Lib.hid (Lib.toList_data s)
  unfold valV
  by_cases k0 : k = 0
  · subst k0
    have HR : Hid (rightB 0 n s.data.toList = (n == 0 && s.toList.isEmpty)) := Lib.hid (by rw [HL.out]; rfl)
    go_enter Tryz.func34, Tryz.ntmps34
    go_wp2
    all_goals go_ret
    all_goals exact ⟨by rw [HR.out]; simp [*], alloc_below _ _⟩
  by_cases k1 : k = 1
  · subst k1
    clear k0
    have HR : Hid (rightB 1 n s.data.toList = ((n == 0 || n == 1) && s.toList.isEmpty)) := Lib.hid (by rw [HL.out]; rfl)
    go_enter Tryz.func34, Tryz.ntmps34
    go_wp2
    all_goals go_ret
    all_goals exact ⟨by rw [HR.out]; simp [*], alloc_below _ _⟩
  by_cases k2 : k = 2
  · subst k2
    clear k0 k1
    have HR : Hid (rightB 2 n s.data.toList = (decide (-1099511627776 ≤ n) && decide (n ≤ 1099511627776) && s.toList.isEmpty)) := Lib.hid (by rw [HL.out]; rfl)
    go_enter Tryz.func34, Tryz.ntmps34
    go_wp2
    all_goals go_ret
    all_goals exact ⟨by rw [HR.out]; simp [*] <;> (intros; omega), alloc_below _ _⟩
  by_cases k3 : k = 3
  · subst k3
    clear k0 k1 k2
    have HR : Hid (rightB 3 n s.data.toList = (n == 0 && plainB s.data.toList)) := Lib.hid rfl
    cases hn : (n == 0) with
    | false =>
      go_enter Tryz.func34, Tryz.ntmps34
      go_wp2
      go_ret
      exact ⟨by rw [HR.out, hn]; rfl, alloc_below _ _⟩
    | true =>
      go_enter Tryz.func34, Tryz.ntmps34
      go_wp2_with fail
      refine (refplain_any _ _ (by omega)).mono ?_
      rintro e w3 ⟨rfl, rfl⟩
      go_wp2
      go_ret
      exact ⟨by rw [HR.out, hn]; rfl, alloc_below _ _⟩
  by_cases k4 : k = 4
  · subst k4
    clear k0 k1 k2 k3
    have HR : Hid (rightB 4 n s.data.toList = (n == 0 && nameB s.data.toList)) := Lib.hid rfl
    cases hn : (n == 0) with
    | false =>
      go_enter Tryz.func34, Tryz.ntmps34
      go_wp2
      go_ret
      exact ⟨by rw [HR.out, hn]; rfl, alloc_below _ _⟩
    | true =>
      go_enter Tryz.func34, Tryz.ntmps34
      go_wp2_with fail
      refine (refname_any _ _ (by omega)).mono ?_
      rintro e w3 ⟨rfl, rfl⟩
      go_wp2
      go_ret
      exact ⟨by rw [HR.out, hn]; rfl, alloc_below _ _⟩
  by_cases k5 : k = 5
  · subst k5
    clear k0 k1 k2 k3 k4
    have HR : Hid (rightB 5 n s.data.toList = (n == 0 && nmB s.data.toList)) := Lib.hid rfl
    go_enter Tryz.func34, Tryz.ntmps34
    go_wp2_with fail
    refine (reflink_any _ _ hs).mono ?_
    rintro e w3 ⟨rfl, hb3⟩
    obtain ⟨c0, c1, c2, f0, f1, f2, hlt⟩ := (In1.of hb3).three
    unfold nmV
    cases hq : nmB s.data.toList <;> cases hn : (n == 0)
    all_goals
      have HQ := Lib.hid hq
      clear hq
      simp only [Bool.false_eq_true, ↓reduceIte, lkV, sv]
      go_wp2
      go_ret
      exact ⟨by rw [HR.out, HQ.out, hn]; rfl, (alloc_then hb3).alloc (Nat.le_of_lt hlt) _⟩
  · have HR : Hid (rightB k n s.data.toList = false) := Lib.hid (by simp [rightB, k0, k1, k2, k3, k4, k5])
    have b0 : (k == 0) = false := beq_eq_false_iff_ne.2 k0
    have b1 : (k == 1) = false := beq_eq_false_iff_ne.2 k1
    have b2 : (k == 2) = false := beq_eq_false_iff_ne.2 k2
    have b3 : (k == 3) = false := beq_eq_false_iff_ne.2 k3
    have b4 : (k == 4) = false := beq_eq_false_iff_ne.2 k4
    have b5 : (k == 5) = false := beq_eq_false_iff_ne.2 k5
    clear k0 k1 k2 k3 k4 k5
    go_enter Tryz.func34, Tryz.ntmps34
    go_wp2
    go_ret
    exact ⟨by rw [HR.out]; rfl, alloc_below _ _⟩

end Go.Proofs.YtmmphgapginmjaaGreatDoor
