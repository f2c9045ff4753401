/-
  What value.Parse answers is what the reference's candidates give: plain mathematics. Conditions: none.
-/
import Derived.Test.YtmmphgapginmjaaGreatDoorValRefMath
namespace Go.Proofs.YtmmphgapginmjaaGreatDoor
open Go.RowKit

theorem text_len (k n : Int) (l : List UInt8) (hr : rightB k n l = true) : (textB k n l).length ≤ 130 := by
  have hT : textB k n l = (if k = 1 then Lib.formatBool (n == 1) else if k = 2 then Lib.itoa n else if k = 3 then quoteL l else if k = 4 then [40] ++ l ++ [41] else if k = 5 then [91] ++ l ++ [93] else [110, 117, 108, 108]) := by
    unfold textB; rw [if_pos hr]
  rw [hT]
  unfold rightB at hr
  by_cases k0 : k = 0
  · subst k0; show ([110, 117, 108, 108] : List UInt8).length ≤ 130; decide
  rw [if_neg k0] at hr
  by_cases k1 : k = 1
  · subst k1
    rw [if_pos rfl]
    cases n == 1 <;> decide
  rw [if_neg k1] at hr ⊢
  by_cases k2 : k = 2
  · subst k2
    rw [if_pos rfl] at hr ⊢
    simp only [Bool.and_eq_true, decide_eq_true_eq] at hr
    have := itoa_len n hr.1.1 hr.1.2
    omega
  rw [if_neg k2] at hr ⊢
  by_cases k3 : k = 3
  · subst k3
    rw [if_pos rfl] at hr ⊢
    simp only [Bool.and_eq_true, beq_iff_eq] at hr
    obtain ⟨hp1, _⟩ := plain_bytes hr.2
    have hql := qL_len l
    unfold quoteL
    simp
    omega
  rw [if_neg k3] at hr ⊢
  by_cases k4 : k = 4
  · subst k4
    rw [if_pos rfl] at hr ⊢
    simp only [Bool.and_eq_true, beq_iff_eq] at hr
    have h := hr.2
    unfold nameB at h
    simp only [Bool.and_eq_true, decide_eq_true_eq] at h
    have := h.1.2
    simp
    omega
  rw [if_neg k4] at hr ⊢
  by_cases k5 : k = 5
  · subst k5
    rw [if_pos rfl] at hr ⊢
    simp only [Bool.and_eq_true, beq_iff_eq] at hr
    have := nmB_len l hr.2
    simp
    omega
  · rw [if_neg k5] at hr; cases hr

def firstM (s : ByteArray) : Value := match (candL s).find? (fits s) with | some c => .tuple #[valV c.1 c.2.1 ⟨c.2.2.toArray⟩, .bool true] | none => noneV
theorem firstM_no (s : ByteArray) (h : fits s (lik s) = false) : firstM s = noneV := by
  unfold firstM
  cases hf : (candL s).find? (fits s) with
  | none => rfl
  | some c =>
    have hc := List.find?_some hf
    rw [fits_lik s c hc, hc] at h
    cases h
theorem firstM_yes (s : ByteArray) (h : fits s (lik s) = true) : firstM s = .tuple #[valV (lik s).1 (lik s).2.1 ⟨(lik s).2.2.toArray⟩, .bool true] := by
  unfold firstM
  cases hf : (candL s).find? (fits s) with
  | none =>
    rw [List.find?_eq_none] at hf
    exact absurd h (hf _ (fits_mem s h))
  | some c =>
    have hc := List.find?_some hf
    rw [fits_lik s c hc]
theorem parse_eq (s : ByteArray) (h0 : 0 < s.size) : (if s.size = 0 ∨ 130 < s.size then noneV else parsedV (lik s).1 (lik s).2.1 ⟨(lik s).2.2.toArray⟩ s) = firstM s := by
  have hlen : s.data.toList.length = s.size := by rw [Array.length_toList]; rfl
  cases hf : fits s (lik s) with
  | true =>
    rw [firstM_yes s hf]
    unfold fits at hf
    simp only [Bool.and_eq_true, decide_eq_true_eq] at hf
    have := text_len _ _ _ hf.1
    rw [hf.2] at this
    rw [if_neg (by omega)]
    unfold parsedV
    rw [if_pos hf.2]
  | false =>
    rw [firstM_no s hf]
    by_cases h : s.size = 0 ∨ 130 < s.size
    · rw [if_pos h]
    · rw [if_neg h]
      unfold parsedV
      rw [if_neg]
      intro ht
      have ht : textB (lik s).1 (lik s).2.1 (lik s).2.2 = s.data.toList := ht
      unfold fits at hf
      rw [decide_eq_true ht, Bool.and_true] at hf
      unfold textB at ht
      rw [if_neg (by rw [hf]; decide)] at ht
      rw [← ht] at hlen
      simp at hlen
      omega
theorem firstM_shape (s : ByteArray) : ∃ (k n : Int) (u : ByteArray) (b : Bool), firstM s = .tuple #[.agg #[.int .i64 k, .int .i64 n, .string u], .bool b] := by
  cases hf : fits s (lik s) with
  | true => exact ⟨_, _, _, _, firstM_yes s hf⟩
  | false => exact ⟨0, 0, ⟨#[]⟩, false, firstM_no s hf⟩

end Go.Proofs.YtmmphgapginmjaaGreatDoor
