/-
  value.Elem (of a node), value.Compare, value.Link, value.OfLink, value.inner: the contracts, by walks. THE ORDER OF VALUES: plain mathematics; nothing of the program. Conditions: lengths.
-/
import Derived.Test.YtmhechlfpaciiaaValRight
namespace Go.Proofs.Ytmhechlfpaciiaa
open Go.RowKit

def cmpB (k n : Int) (a : List UInt8) (k' n' : Int) (b : List UInt8) : Int :=
  if Lib.compareInt k k' = 0 then (if Lib.compareInt n n' = 0 then Lib.compareBytes a b else Lib.compareInt n n') else Lib.compareInt k k'

set_option maxHeartbeats 1000000 in
theorem compare_any (k n : Int) (s : ByteArray) (k' n' : Int) (t : ByteArray) (w : World) : Calls Try.prog 49 #[valV k n s, valV k' n' t] w (Gives w (.int .i64 (cmpB k n s.data.toList k' n' t.data.toList))) := by
  have HB : Hid (∀ o o' : Obj, Below w.heap.size w ((w.alloc o).alloc o')) := Lib.hid (fun o o' => ((Below.refl _ _).alloc (Nat.le_refl _) o).alloc (by simp) o')
  unfold valV
  go_enter Try.func49, Try.ntmps49
  go_wp2_with fail
  refine (Try.cmp_Compare_int _ _ _).mono ?_
  rintro e w1 ⟨rfl, rfl⟩
  by_cases h1 : Lib.compareInt k k' = 0
  · have b1 : (Lib.compareInt k k' == 0) = true := by simp [h1]
    have b1' : (Lib.compareInt k k' != 0) = false := by simp [h1]
    have H1 := Lib.hid h1
    clear h1
    go_wp2_with fail
    refine (Try.cmp_Compare_int _ _ _).mono ?_
    rintro e w1 ⟨rfl, rfl⟩
    by_cases h2 : Lib.compareInt n n' = 0
    · have b2 : (Lib.compareInt n n' == 0) = true := by simp [h2]
      have b2' : (Lib.compareInt n n' != 0) = false := by simp [h2]
      have H2 := Lib.hid h2
      clear h2
      go_wp2_with fail
      refine (Try.strings_Compare _ _ _).mono ?_
      rintro e w1 ⟨rfl, rfl⟩
      go_wp2
      go_ret
      exact ⟨by simp [cmpB, H1.out, H2.out], HB.out _ _⟩
    · have b2 : (Lib.compareInt n n' == 0) = false := by simp [h2]
      have b2' : (Lib.compareInt n n' != 0) = true := by simp [h2]
      have H2 := Lib.hid h2
      clear h2
      go_wp2
      go_ret
      exact ⟨by simp [cmpB, H1.out, H2.out], HB.out _ _⟩
  · have b1 : (Lib.compareInt k k' == 0) = false := by simp [h1]
    have b1' : (Lib.compareInt k k' != 0) = true := by simp [h1]
    have H1 := Lib.hid h1
    clear h1
    go_wp2
    go_ret
    exact ⟨by simp [cmpB, H1.out], HB.out _ _⟩

end Go.Proofs.Ytmhechlfpaciiaa

namespace Go.Proofs.Ytmhechlfpaciiaa

theorem cb_anti : ∀ (a b : List UInt8), Lib.compareBytes b a = - Lib.compareBytes a b
  | [], [] => rfl
  | [], _ :: _ => rfl
  | _ :: _, [] => rfl
  | x :: a, y :: b => by
    have ih := cb_anti a b
    simp only [Lib.compareBytes]
    by_cases h1 : x < y
    · have h2 : ¬ y < x := by rw [UInt8.lt_iff_toNat_lt] at *; omega
      simp [h1, h2]
    · by_cases h2 : y < x
      · simp [h1, h2]
      · simp [h1, h2, ih]
theorem cb_zero : ∀ (a b : List UInt8), Lib.compareBytes a b = 0 ↔ a = b
  | [], [] => by simp [Lib.compareBytes]
  | [], _ :: _ => by simp [Lib.compareBytes]
  | _ :: _, [] => by simp [Lib.compareBytes]
  | x :: a, y :: b => by
    have ih := cb_zero a b
    simp only [Lib.compareBytes]
    by_cases h1 : x < y
    · have h2 : x ≠ y := by rintro rfl; rw [UInt8.lt_iff_toNat_lt] at h1; omega
      simp [h1, h2]
    · by_cases h2 : y < x
      · have h3 : x ≠ y := by rintro rfl; rw [UInt8.lt_iff_toNat_lt] at h2; omega
        simp [h1, h2, h3]
      · have h3 : x = y := by apply UInt8.toNat.inj; rw [UInt8.lt_iff_toNat_lt] at *; omega
        simp [h3, ih]
theorem cb_rng : ∀ (a b : List UInt8), -1 ≤ Lib.compareBytes a b ∧ Lib.compareBytes a b ≤ 1
  | [], [] => by simp [Lib.compareBytes]
  | [], _ :: _ => by simp [Lib.compareBytes]
  | _ :: _, [] => by simp [Lib.compareBytes]
  | x :: a, y :: b => by
    have ih := cb_rng a b
    simp only [Lib.compareBytes]
    by_cases h1 : x < y
    · simp [h1]
    · by_cases h2 : y < x
      · simp [h1, h2]
      · simpa [h1, h2] using ih
theorem cb_trans : ∀ (a b c : List UInt8), Lib.compareBytes a b ≤ 0 → Lib.compareBytes b c ≤ 0 → Lib.compareBytes a c ≤ 0
  | [], _, [], _, _ => by simp [Lib.compareBytes]
  | [], _, _ :: _, _, _ => by simp [Lib.compareBytes]
  | _ :: _, [], _, h, _ => by simp [Lib.compareBytes] at h
  | _ :: _, _ :: _, [], _, h => by simp [Lib.compareBytes] at h
  | x :: a, y :: b, z :: c, h, k => by
    have ih := cb_trans a b c
    simp only [Lib.compareBytes] at *
    by_cases h1 : x < y
    · by_cases h2 : y < z
      · have h3 : x < z := by rw [UInt8.lt_iff_toNat_lt] at *; omega
        simp [h3]
      · by_cases h4 : z < y
        · simp [h2, h4] at k
        · have h3 : x < z := by rw [UInt8.lt_iff_toNat_lt] at *; omega
          simp [h3]
    · by_cases h5 : y < x
      · simp [h1, h5] at h
      · by_cases h2 : y < z
        · have h3 : x < z := by rw [UInt8.lt_iff_toNat_lt] at *; omega
          simp [h3]
        · by_cases h4 : z < y
          · simp [h2, h4] at k
          · have h3 : ¬ x < z := by rw [UInt8.lt_iff_toNat_lt] at *; omega
            have h6 : ¬ z < x := by rw [UInt8.lt_iff_toNat_lt] at *; omega
            simp only [h1, h5, h2, h4, h3, h6, if_false] at *
            exact ih h k

theorem ci_cases (x y : Int) : (x < y ∧ Lib.compareInt x y = -1) ∨ (y < x ∧ Lib.compareInt x y = 1) ∨ (x = y ∧ Lib.compareInt x y = 0) := by
  unfold Lib.compareInt
  by_cases h1 : x < y
  · exact .inl ⟨h1, by simp [h1]⟩
  · by_cases h2 : y < x
    · exact .inr (.inl ⟨h2, by simp [h1, h2]⟩)
    · exact .inr (.inr ⟨by omega, by simp [h1, h2]⟩)

theorem cmp_cases (k n : Int) (a : List UInt8) (k' n' : Int) (b : List UInt8) :
    (k < k' ∧ cmpB k n a k' n' b = -1) ∨ (k' < k ∧ cmpB k n a k' n' b = 1) ∨ (k = k' ∧ n < n' ∧ cmpB k n a k' n' b = -1) ∨ (k = k' ∧ n' < n ∧ cmpB k n a k' n' b = 1) ∨ (k = k' ∧ n = n' ∧ cmpB k n a k' n' b = Lib.compareBytes a b) := by
  unfold cmpB
  rcases ci_cases k k' with ⟨h, e⟩ | ⟨h, e⟩ | ⟨h, e⟩ <;> rcases ci_cases n n' with ⟨h', e'⟩ | ⟨h', e'⟩ | ⟨h', e'⟩ <;> rw [e, e'] <;> simp [h, h']

theorem cmp_rng (k n : Int) (a : List UInt8) (k' n' : Int) (b : List UInt8) : -1 ≤ cmpB k n a k' n' b ∧ cmpB k n a k' n' b ≤ 1 := by
  have := cb_rng a b
  rcases cmp_cases k n a k' n' b with ⟨_, e⟩ | ⟨_, e⟩ | ⟨_, _, e⟩ | ⟨_, _, e⟩ | ⟨_, _, e⟩ <;> omega
theorem cmp_anti (k n : Int) (a : List UInt8) (k' n' : Int) (b : List UInt8) : cmpB k' n' b k n a = - cmpB k n a k' n' b := by
  have := cb_anti a b
  rcases cmp_cases k n a k' n' b with ⟨_, e⟩ | ⟨_, e⟩ | ⟨_, _, e⟩ | ⟨_, _, e⟩ | ⟨_, _, e⟩ <;> rcases cmp_cases k' n' b k n a with ⟨_, f⟩ | ⟨_, f⟩ | ⟨_, _, f⟩ | ⟨_, _, f⟩ | ⟨_, _, f⟩ <;> omega
theorem cmp_zero (k n : Int) (a : List UInt8) (k' n' : Int) (b : List UInt8) : cmpB k n a k' n' b = 0 ↔ k = k' ∧ n = n' ∧ a = b := by
  rcases cmp_cases k n a k' n' b with ⟨h, e⟩ | ⟨h, e⟩ | ⟨h, h', e⟩ | ⟨h, h', e⟩ | ⟨h, h', e⟩
  · rw [e]; constructor <;> (intro h; omega)
  · rw [e]; constructor <;> (intro h; omega)
  · rw [e]; constructor <;> (intro h; omega)
  · rw [e]; constructor <;> (intro h; omega)
  · rw [e, cb_zero]; simp [h, h']
theorem cmp_trans (k1 n1 : Int) (a : List UInt8) (k2 n2 : Int) (b : List UInt8) (k3 n3 : Int) (c : List UInt8) (h : cmpB k1 n1 a k2 n2 b ≤ 0) (h' : cmpB k2 n2 b k3 n3 c ≤ 0) : cmpB k1 n1 a k3 n3 c ≤ 0 := by
  have ht := cb_trans a b c
  rcases cmp_cases k1 n1 a k2 n2 b with ⟨_, e⟩ | ⟨_, e⟩ | ⟨_, _, e⟩ | ⟨_, _, e⟩ | ⟨_, _, e⟩ <;> rcases cmp_cases k2 n2 b k3 n3 c with ⟨_, f⟩ | ⟨_, f⟩ | ⟨_, _, f⟩ | ⟨_, _, f⟩ | ⟨_, _, f⟩ <;>
    rcases cmp_cases k1 n1 a k3 n3 c with ⟨_, g⟩ | ⟨_, g⟩ | ⟨_, _, g⟩ | ⟨_, _, g⟩ | ⟨_, _, g⟩ <;> first | omega | (rw [e] at h; rw [f] at h'; have := ht h h'; omega)

end Go.Proofs.Ytmhechlfpaciiaa
