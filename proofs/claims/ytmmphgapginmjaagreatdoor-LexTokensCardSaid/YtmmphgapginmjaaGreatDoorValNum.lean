/-
  Numerals: what a numeral's digits tell. Plain mathematics. Conditions: none.
-/
import Derived.Lib.AtoiAll
import Derived.Lib.ItoaNum
import Derived.WalkKit
namespace Go.Proofs.YtmmphgapginmjaaGreatDoor

theorem digs_small (u : Nat) (h : u < 10) : Lib.decDigits u = [UInt8.ofNat (48 + u)] := by rw [Lib.decDigits, dif_pos h]
theorem digs_big (u : Nat) (h : ¬ u < 10) : Lib.decDigits u = Lib.decDigits (u / 10) ++ [UInt8.ofNat (48 + u % 10)] := by rw [Lib.decDigits, dif_neg h]
theorem dig_nat (d : Nat) (h : d < 10) : (UInt8.ofNat (48 + d)).toNat = 48 + d := by simp only [UInt8.toNat_ofNat']; omega
theorem parse_digit (acc d : Nat) (t : List UInt8) (hd : d < 10) (ha : acc * 10 + d < 1844674407370955162) : Lib.parseUint10 acc (UInt8.ofNat (48 + d) :: t) = Lib.parseUint10 (acc * 10 + d) t := by
  simp only [Lib.parseUint10, dig_nat d hd]
  rw [if_pos (by omega), if_neg (by omega), if_neg (by omega), Nat.add_sub_cancel_left]
theorem parse_digs (u : Nat) (h : u < 1844674407370955162) (t : List UInt8) : Lib.parseUint10 0 (Lib.decDigits u ++ t) = Lib.parseUint10 u t := by
  induction u using Nat.strongRecOn generalizing t with
  | ind u ih =>
    by_cases h10 : u < 10
    · rw [digs_small u h10]
      show Lib.parseUint10 0 (UInt8.ofNat (48 + u) :: t) = _
      rw [parse_digit 0 u t h10 (by omega)]; simp
    · rw [digs_big u h10, List.append_assoc, ih (u / 10) (by omega) (by omega)]
      show Lib.parseUint10 (u / 10) (UInt8.ofNat (48 + u % 10) :: t) = _
      rw [parse_digit _ _ t (by omega) (by omega)]
      congr 1
      omega
theorem digs_ne (u : Nat) : Lib.decDigits u ≠ [] := by
  by_cases h : u < 10
  · rw [digs_small u h]; simp
  · rw [digs_big u h]; simp
theorem digs_head (u : Nat) : ∃ d t, d < 10 ∧ Lib.decDigits u = UInt8.ofNat (48 + d) :: t := by
  induction u using Nat.strongRecOn with
  | ind u ih =>
    by_cases h : u < 10
    · exact ⟨u, [], h, digs_small u h⟩
    · obtain ⟨d, t, hd, ht⟩ := ih (u / 10) (by omega)
      exact ⟨d, t ++ [UInt8.ofNat (48 + u % 10)], hd, by rw [digs_big u h, ht]; rfl⟩
theorem digs_len (k u : Nat) (h : u < 10 ^ (k + 1)) : (Lib.decDigits u).length ≤ k + 1 := by
  induction k generalizing u with
  | zero => rw [digs_small u (by simpa using h)]; simp
  | succ k ih =>
    by_cases h10 : u < 10
    · rw [digs_small u h10]; simp
    · rw [digs_big u h10, List.length_append]
      have := ih (u / 10) (by rw [Nat.pow_succ] at h; omega)
      simp only [List.length_cons, List.length_nil]; omega
/-- The number that a numeral tells. -/
theorem atoi_itoa (n : Int) (h1 : -1099511627776 ≤ n) (h2 : n ≤ 1099511627776) : Lib.atoiAll (Lib.itoa n) = .ok n := by
  by_cases hn : n < 0
  · have hi : Lib.itoa n = 45 :: Lib.decDigits n.natAbs := by unfold Lib.itoa; rw [if_pos hn]
    have hp := parse_digs n.natAbs (by omega) []
    rw [List.append_nil] at hp
    rw [hi]
    have hm : Lib.parseMag (Lib.decDigits n.natAbs) = .ok n.natAbs := by
      unfold Lib.parseMag; rw [if_neg (digs_ne _), hp]; rfl
    obtain ⟨c, hc⟩ : ∃ c : UInt8, c = 45 := ⟨_, rfl⟩
    have h45 : c.toNat = 45 := by rw [hc]; rfl
    rw [← hc]
    unfold Lib.atoiAll
    simp only [if_pos (show c.toNat = 43 ∨ c.toNat = 45 from .inr h45), hm]
    rw [if_neg (by simp [h45]), if_neg (by omega), if_pos h45]
    congr 1; omega
  · have hi : Lib.itoa n = Lib.decDigits n.toNat := by unfold Lib.itoa; rw [if_neg hn]
    obtain ⟨d, t, hd, ht⟩ := digs_head n.toNat
    have hp := parse_digs n.toNat (by omega) []
    rw [List.append_nil, ht] at hp
    rw [hi, ht]
    have hc := dig_nat d hd
    have h43 : ¬ ((UInt8.ofNat (48 + d)).toNat = 43 ∨ (UInt8.ofNat (48 + d)).toNat = 45) := by rw [hc]; omega
    have h45 : ¬ (UInt8.ofNat (48 + d)).toNat = 45 := by rw [hc]; omega
    have hm : Lib.parseMag (UInt8.ofNat (48 + d) :: t) = .ok n.toNat := by
      unfold Lib.parseMag; rw [if_neg (by simp), hp]; rfl
    generalize UInt8.ofNat (48 + d) = c at *
    unfold Lib.atoiAll
    simp only [if_neg h43, hm]
    rw [if_neg (by omega), if_neg (by omega), if_neg h45]
    congr 1; omega
theorem itoa_head (n : Int) : ∃ c t, Lib.itoa n = c :: t ∧ (c = 45 ∨ 48 ≤ c.toNat ∧ c.toNat ≤ 57) := by
  by_cases hn : n < 0
  · exact ⟨45, Lib.decDigits n.natAbs, by unfold Lib.itoa; rw [if_pos hn], .inl rfl⟩
  · obtain ⟨d, t, hd, ht⟩ := digs_head n.toNat
    exact ⟨_, t, by unfold Lib.itoa; rw [if_neg hn, ht], .inr (by rw [dig_nat d hd]; omega)⟩
theorem itoa_len (n : Int) (h1 : -1099511627776 ≤ n) (h2 : n ≤ 1099511627776) : (Lib.itoa n).length ≤ 14 := by
  by_cases hn : n < 0
  · have := digs_len 12 n.natAbs (by omega)
    unfold Lib.itoa; rw [if_pos hn, List.length_cons]; omega
  · have := digs_len 12 n.toNat (by omega)
    unfold Lib.itoa; rw [if_neg hn]; omega
end Go.Proofs.YtmmphgapginmjaaGreatDoor
