/-
  The reference's candidates tell what a value's text tells: plain mathematics. Conditions: none.
-/
import Derived.Test.YtmmphgapginmjaaGreatDoorValLikText
import Derived.Test.YtmmphgapginmjaaGreatDoorValRefNum
namespace Go.Proofs.YtmmphgapginmjaaGreatDoor
open Go.RowKit

theorem numF_digs (u : Nat) : numF (Lib.decDigits u) = u := by
  induction u using Nat.strongRecOn with
  | ind u ih =>
    by_cases h : u < 10
    · rw [digs_small u h]
      show numS 0 _ = _
      unfold numS
      rw [dig_nat u h]; omega
    · rw [digs_big u h, numF_snoc, ih (u / 10) (by omega), dig_nat _ (Nat.mod_lt _ (by omega))]
      omega
theorem numR_itoa (n : Int) (h1 : -1099511627776 ≤ n) (h2 : n ≤ 1099511627776) : numR (Lib.itoa n) = n := by
  have hl := itoa_len n h1 h2
  by_cases hn : n < 0
  · have e : Lib.itoa n = 45 :: Lib.decDigits n.natAbs := by unfold Lib.itoa; rw [if_pos hn]
    rw [e] at hl ⊢
    unfold numR
    rw [List.headD_cons, if_pos rfl, List.drop_one, List.tail_cons, List.take_of_length_le (by rw [List.length_cons] at hl; omega), numF_digs]
    omega
  · have e : Lib.itoa n = Lib.decDigits n.toNat := by unfold Lib.itoa; rw [if_neg hn]
    rw [e] at hl ⊢
    obtain ⟨d, t, hd, ht⟩ := digs_head n.toNat
    have hne : (Lib.decDigits n.toNat).headD 0 ≠ 45 := by
      rw [ht, List.headD_cons]
      intro he
      have := dig_nat d hd
      rw [he] at this
      have h45 : (45 : UInt8).toNat = 45 := rfl
      omega
    unfold numR
    rw [if_neg hne, List.take_of_length_le (by omega), numF_digs]
    omega
/-- What the reference takes a quoted text for. -/
def bareL : List UInt8 → List UInt8
  | [] => []
  | [x] => [x]
  | x :: y :: l => if x = 92 then y :: bareL l else x :: bareL (y :: l)
theorem bare_cons (x : UInt8) (l : List UInt8) (h : x ≠ 92) : bareL (x :: l) = x :: bareL l := by
  cases l with
  | nil => rfl
  | cons y l => rw [bareL, if_neg h]
theorem bare_qL : ∀ l : List UInt8, bareL (qL l) = l
  | [] => rfl
  | x :: l => by
    have e : qL (x :: l) = q1 x ++ qL l := rfl
    rw [e]
    by_cases h : x = 39 ∨ x = 92
    · have e2 : q1 x = [92, x] := by unfold q1; rw [if_pos h]
      rw [e2]
      show bareL (92 :: x :: qL l) = _
      rw [bareL, if_pos rfl, bare_qL l]
    · have e2 : q1 x = [x] := by unfold q1; rw [if_neg h]
      rw [e2]
      show bareL (x :: qL l) = _
      rw [bare_cons x _ (fun h2 => h (Or.inr h2)), bare_qL l]
theorem bare_len : ∀ l : List UInt8, (bareL l).length ≤ l.length
  | [] => Nat.le_refl _
  | [_] => Nat.le_refl _
  | x :: y :: l => by
    rw [bareL]
    have h1 := bare_len l
    have h2 := bare_len (y :: l)
    split
    · simp only [List.length_cons]; omega
    · simp only [List.length_cons] at h2 ⊢; omega

/-- The seven that the reference holds against the text. -/
def candL (s : ByteArray) : List (Int × Int × List UInt8) :=
  [(0, 0, []), (1, 0, []), (1, 1, []), (2, numR s.data.toList, []), (3, 0, bareL (innerS s).data.toList), (4, 0, (innerS s).data.toList), (5, 0, (innerS s).data.toList)]
def fits (s : ByteArray) (c : Int × Int × List UInt8) : Bool := rightB c.1 c.2.1 c.2.2 && decide (textB c.1 c.2.1 c.2.2 = s.data.toList)
theorem fits_lik (s : ByteArray) (c : Int × Int × List UInt8) (h : fits s c = true) : lik s = c := by
  unfold fits at h
  simp only [Bool.and_eq_true, decide_eq_true_eq] at h
  have := lik_text c.1 c.2.1 c.2.2 h.1
  rw [h.2, str_id] at this
  exact this
theorem inner_at (s : ByteArray) (a z : UInt8) (l : List UInt8) (h : [a] ++ l ++ [z] = s.data.toList) : (innerS s).data.toList = l := by
  have := inner_wrap a z l
  rw [h, str_id] at this
  rw [this]
theorem fits_mem (s : ByteArray) (h : fits s (lik s) = true) : lik s ∈ candL s := by
  obtain ⟨⟨k, n, l⟩, hc⟩ : ∃ c, c = lik s := ⟨_, rfl⟩
  rw [← hc] at h ⊢
  clear hc
  unfold fits at h
  simp only [Bool.and_eq_true, decide_eq_true_eq] at h
  obtain ⟨hr, ht⟩ := h
  unfold textB at ht
  rw [if_pos hr] at ht
  unfold rightB at hr
  unfold candL
  by_cases k0 : k = 0
  · subst k0
    rw [if_pos rfl] at hr
    simp only [Bool.and_eq_true, beq_iff_eq] at hr
    obtain ⟨rfl, hr⟩ := hr
    obtain rfl := List.isEmpty_iff.1 hr
    simp
  rw [if_neg k0] at hr
  by_cases k1 : k = 1
  · subst k1
    rw [if_pos rfl] at hr
    simp only [Bool.and_eq_true, Bool.or_eq_true, beq_iff_eq] at hr
    obtain ⟨hn, hr⟩ := hr
    obtain rfl := List.isEmpty_iff.1 hr
    rcases hn with rfl | rfl <;> simp
  rw [if_neg k1] at hr ht
  by_cases k2 : k = 2
  · subst k2
    rw [if_pos rfl] at hr ht
    simp only [Bool.and_eq_true, decide_eq_true_eq] at hr
    obtain ⟨⟨hn1, hn2⟩, hr⟩ := hr
    obtain rfl := List.isEmpty_iff.1 hr
    rw [← ht, numR_itoa n hn1 hn2]
    simp
  rw [if_neg k2] at hr ht
  by_cases k3 : k = 3
  · subst k3
    rw [if_pos rfl] at hr ht
    simp only [Bool.and_eq_true, beq_iff_eq] at hr
    obtain ⟨rfl, hr⟩ := hr
    rw [inner_at s 39 39 (qL l) ht, bare_qL]
    simp
  rw [if_neg k3] at hr ht
  by_cases k4 : k = 4
  · subst k4
    rw [if_pos rfl] at hr ht
    simp only [Bool.and_eq_true, beq_iff_eq] at hr
    obtain ⟨rfl, hr⟩ := hr
    rw [inner_at s 40 41 l ht]
    simp
  rw [if_neg k4] at hr ht
  by_cases k5 : k = 5
  · subst k5
    rw [if_pos rfl] at hr ht
    simp only [Bool.and_eq_true, beq_iff_eq] at hr
    obtain ⟨rfl, hr⟩ := hr
    rw [inner_at s 91 93 l ht]
    simp
  · rw [if_neg k5] at hr; cases hr

end Go.Proofs.YtmmphgapginmjaaGreatDoor
