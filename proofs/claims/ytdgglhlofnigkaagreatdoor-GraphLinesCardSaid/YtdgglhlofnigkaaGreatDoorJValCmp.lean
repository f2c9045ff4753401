/-
  The order of values, by numbers. THE ORDER OF VALUES. Conditions: lengths.
-/import Derived.Test.YtdgglhlofnigkaaGreatDoorJValName
namespace Go.Proofs.YtdgglhlofnigkaaGreatDoor
open Go.RowKit
def cmpB (k n : Int) (a : List UInt8) (k' n' : Int) (b : List UInt8) : Int :=
 if Lib.compareInt k k' = 0 then (if Lib.compareInt n n' = 0 then Lib.compareBytes a b else Lib.compareInt n n') else Lib.compareInt k k'
theorem cb_anti : ∀ (a b : List UInt8), Lib.compareBytes b a = - Lib.compareBytes a b
 | [], [] => rfl
 | [], _ :: _ => rfl
 | _ :: _, [] => rfl
 | x :: a, y :: b => by
  have ih := cb_anti a b
  simp only [Lib.compareBytes]
  by_cases h1 : x < y
  ·have h2 : ¬ y < x := by rw [UInt8.lt_iff_toNat_lt] at *; omega
   simp [h1, h2]
  ·by_cases h2 : y < x
   ·simp [h1, h2]
   ·simp [h1, h2, ih]
theorem cb_zero : ∀ (a b : List UInt8), Lib.compareBytes a b = 0 ↔ a = b
 | [], [] => by simp [Lib.compareBytes]
 | [], _ :: _ => by simp [Lib.compareBytes]
 | _ :: _, [] => by simp [Lib.compareBytes]
 | x :: a, y :: b => by
  have ih := cb_zero a b
  simp only [Lib.compareBytes]
  by_cases h1 : x < y
  ·have h2 : x ≠ y := by rintro rfl; rw [UInt8.lt_iff_toNat_lt] at h1; omega
   simp [h1, h2]
  ·by_cases h2 : y < x
   ·have h3 : x ≠ y := by rintro rfl; rw [UInt8.lt_iff_toNat_lt] at h2; omega
    simp [h1, h2, h3]
   ·have h3 : x = y := by apply UInt8.toNat.inj; rw [UInt8.lt_iff_toNat_lt] at *; omega
    simp [h3, ih]
theorem cb_trans : ∀ (a b c : List UInt8), Lib.compareBytes a b ≤ 0 → Lib.compareBytes b c ≤ 0 → Lib.compareBytes a c ≤ 0
 | [], _, [], _, _ => by simp [Lib.compareBytes]
 | [], _, _ :: _, _, _ => by simp [Lib.compareBytes]
 | _ :: _, [], _, h, _ => by simp [Lib.compareBytes] at h
 | _ :: _, _ :: _, [], _, h => by simp [Lib.compareBytes] at h
 | x :: a, y :: b, z :: c, h, k => by
  have ih := cb_trans a b c
  simp only [Lib.compareBytes] at *
  by_cases h1 : x < y
  ·by_cases h2 : y < z
   ·have h3 : x < z := by rw [UInt8.lt_iff_toNat_lt] at *; omega
    simp [h3]
   ·by_cases h4 : z < y
    ·simp [h2, h4] at k
    ·have h3 : x < z := by rw [UInt8.lt_iff_toNat_lt] at *; omega
     simp [h3]
  ·by_cases h5 : y < x
   ·simp [h1, h5] at h
   ·by_cases h2 : y < z
    ·have h3 : x < z := by rw [UInt8.lt_iff_toNat_lt] at *; omega
     simp [h3]
    ·by_cases h4 : z < y
     ·simp [h2, h4] at k
     ·have h3 : ¬ x < z := by rw [UInt8.lt_iff_toNat_lt] at *; omega
      have h6 : ¬ z < x := by rw [UInt8.lt_iff_toNat_lt] at *; omega
      simp only [h1, h5, h2, h4, h3, h6, if_false] at *
      exact ih h k
theorem ci_cases (x y : Int) : (x < y ∧ Lib.compareInt x y = -1) ∨ (y < x ∧ Lib.compareInt x y = 1) ∨ (x = y ∧ Lib.compareInt x y = 0) := by
 unfold Lib.compareInt
 by_cases h1 : x < y
 ·exact .inl ⟨h1, by simp [h1]⟩
 ·by_cases h2 : y < x
  ·exact .inr (.inl ⟨h2, by simp [h1, h2]⟩)
  ·exact .inr (.inr ⟨by omega, by simp [h1, h2]⟩)
theorem cmp_cases (k n : Int) (a : List UInt8) (k' n' : Int) (b : List UInt8) :
  (k < k' ∧ cmpB k n a k' n' b = -1) ∨ (k' < k ∧ cmpB k n a k' n' b = 1) ∨ (k = k' ∧ n < n' ∧ cmpB k n a k' n' b = -1) ∨ (k = k' ∧ n' < n ∧ cmpB k n a k' n' b = 1) ∨ (k = k' ∧ n = n' ∧ cmpB k n a k' n' b = Lib.compareBytes a b) := by
 unfold cmpB
 rcases ci_cases k k' with ⟨h, e⟩ | ⟨h, e⟩ | ⟨h, e⟩ <;> rcases ci_cases n n' with ⟨h', e'⟩ | ⟨h', e'⟩ | ⟨h', e'⟩ <;> rw [e, e'] <;> simp [h, h']
theorem cmp_zero (k n : Int) (a : List UInt8) (k' n' : Int) (b : List UInt8) : cmpB k n a k' n' b = 0 ↔ k = k' ∧ n = n' ∧ a = b := by
 rcases cmp_cases k n a k' n' b with ⟨h, e⟩ | ⟨h, e⟩ | ⟨h, h', e⟩ | ⟨h, h', e⟩ | ⟨h, h', e⟩
 ·rw [e]; constructor <;> (intro h; omega)
 ·rw [e]; constructor <;> (intro h; omega)
 ·rw [e]; constructor <;> (intro h; omega)
 ·rw [e]; constructor <;> (intro h; omega)
 ·rw [e, cb_zero]; simp [h, h']
end Go.Proofs.YtdgglhlofnigkaaGreatDoor
