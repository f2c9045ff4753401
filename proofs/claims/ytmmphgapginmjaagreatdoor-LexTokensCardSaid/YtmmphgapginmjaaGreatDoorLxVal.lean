/-
  Which value a text is: mathematics. Conditions: none.
-/
import Derived.Test.YtmmphgapginmjaaGreatDoorValLikText
namespace Go.Proofs.YtmmphgapginmjaaGreatDoor.Lx
open Go.RowKit

def fits (s : ByteArray) (c : Int × Int × List UInt8) : Bool := rightB c.1 c.2.1 c.2.2 && decide (textB c.1 c.2.1 c.2.2 = s.data.toList)
theorem fits_lik (s : ByteArray) (c : Int × Int × List UInt8) (h : fits s c = true) : lik s = c := by
  unfold fits at h
  simp only [Bool.and_eq_true, decide_eq_true_eq] at h
  have := lik_text c.1 c.2.1 c.2.2 h.1
  rw [h.2, str_id] at this
  exact this
theorem text_len (k n : Int) (l : List UInt8) (hr : rightB k n l = true) : (textB k n l).length ≤ 130 := by
  have hT : textB k n l = (if k = 1 then Lib.formatBool (n == 1) else if k = 2 then Lib.itoa n else if k = 3 then quoteL l else if k = 4 then [40] ++ l ++ [41] else if k = 5 then [91] ++ l ++ [93] else [110, 117, 108, 108]) := by
    unfold textB; rw [if_pos hr]
  rw [hT]
  unfold rightB at hr
  by_cases k0 : k = 0
  · subst k0; show ([110, 117, 108, 108] : List UInt8).length ≤ 130; decide
  rw [if_neg k0] at hr
  by_cases k1 : k = 1
  · subst k1
    rw [if_pos rfl]
    cases n == 1 <;> decide
  rw [if_neg k1] at hr ⊢
  by_cases k2 : k = 2
  · subst k2
    rw [if_pos rfl] at hr ⊢
    simp only [Bool.and_eq_true, decide_eq_true_eq] at hr
    have := itoa_len n hr.1.1 hr.1.2
    omega
  rw [if_neg k2] at hr ⊢
  by_cases k3 : k = 3
  · subst k3
    rw [if_pos rfl] at hr ⊢
    simp only [Bool.and_eq_true, beq_iff_eq] at hr
    obtain ⟨hp1, _⟩ := plain_bytes hr.2
    have hql := qL_len l
    unfold quoteL
    simp
    omega
  rw [if_neg k3] at hr ⊢
  by_cases k4 : k = 4
  · subst k4
    rw [if_pos rfl] at hr ⊢
    simp only [Bool.and_eq_true, beq_iff_eq] at hr
    have h := hr.2
    unfold nameB at h
    simp only [Bool.and_eq_true, decide_eq_true_eq] at h
    have := h.1.2
    simp
    omega
  rw [if_neg k4] at hr ⊢
  by_cases k5 : k = 5
  · subst k5
    rw [if_pos rfl] at hr ⊢
    simp only [Bool.and_eq_true, beq_iff_eq] at hr
    have := nmB_len l hr.2
    simp
    omega
  · rw [if_neg k5] at hr; cases hr

end Go.Proofs.YtmmphgapginmjaaGreatDoor.Lx
