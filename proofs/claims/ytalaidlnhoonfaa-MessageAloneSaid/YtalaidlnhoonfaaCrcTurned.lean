/-
  Bits that are turned: what becomes of the number that bytes are. Plain mathematics. Conditions: none.
-/
import Derived.Test.YtalaidlnhoonfaaQCb
import Derived.Laws.OwnMore
namespace Go.Proofs.Ytalaidlnhoonfaa.Fr
open Go.RowKit

theorem zip_set (b l : List UInt8) (h : l.length = b.length) (j : Nat) (hj : j < l.length) (m : UInt8) :
    List.zipWith (· ^^^ ·) b (l.set j (l[j] ^^^ m)) = (List.zipWith (· ^^^ ·) b l).set j ((List.zipWith (· ^^^ ·) b l)[j]'(by simp; omega) ^^^ m) := by
  induction b generalizing l j with
  | nil => simp at h; subst h; simp at hj
  | cons x b ih =>
    cases l with
    | nil => simp at hj
    | cons y l =>
      cases j with
      | zero => simp [UInt8.xor_assoc]
      | succ j =>
        simp only [List.set_cons_succ, List.getElem_cons_succ, List.zipWith_cons_cons]
        rw [ih l (by simpa using h) j (by simpa using hj)]
theorem pow_bit (s : Nat) (h : s < 8) : ((1 : UInt8) <<< UInt8.ofNat s).toNat = 2 ^ s := by
  have : ∀ s : Fin 8, ((1 : UInt8) <<< UInt8.ofNat s.val).toNat = 2 ^ s.val := by decide
  exact this ⟨s, h⟩
theorem turn_step (b l : List UInt8) (h : l.length = b.length) (p k q : Nat) (hl : p + k < 8 * l.length) (hq : q < 2 ^ k) (hn : num (List.zipWith (· ^^^ ·) b l) = 2 ^ p * q) (m : UInt8) (hm : m.toNat = 2 ^ ((p + k) % 8)) :
    ∃ q', q' ≠ 0 ∧ q' < 2 ^ (k + 1) ∧ num (List.zipWith (· ^^^ ·) b (l.set ((p + k) / 8) (l[(p + k) / 8]'(by omega) ^^^ m))) = 2 ^ p * q' := by
  refine ⟨q ^^^ 2 ^ k, ?_, Nat.xor_lt_two_pow (by rw [Nat.pow_succ]; omega) (by rw [Nat.pow_succ]; have := Nat.two_pow_pos k; omega), ?_⟩
  · intro e
    have := congrArg (fun x => Nat.testBit x k) e
    simp [Nat.testBit_xor, Nat.testBit_lt_two_pow hq, Nat.testBit_two_pow_self] at this
  · rw [zip_set b l h _ (by omega), num_set _ _ (by simp; omega), hn, mul_xor, hm, ← Nat.pow_add, ← Nat.pow_add, Nat.div_add_mod]

theorem xor_bv (x m : UInt8) (s : Nat) (hm : m.toNat = 2 ^ s) : Value.int .u8 (bits .xor .u8 (x.toNat : Int) (2 ^ s % 256)) = bv (x ^^^ m) := by
  have hm2 := m.toNat_lt
  have h1 : (2 : Int) ^ s = ((2 ^ s : Nat) : Int) := by rw [Int.natCast_pow]; rfl
  have e : ((2 : Int) ^ s % 256) = (m.toNat : Int) := by rw [h1, ← hm]; omega
  unfold bv
  rw [e, u8_xor_nat _ _ x.toNat_lt hm2, UInt8.toNat_xor]
theorem num_same (b : List UInt8) : num (List.zipWith (· ^^^ ·) b b) = 0 := by
  induction b with
  | nil => rfl
  | cons x b ih =>
    simp only [List.zipWith_cons_cons, num]
    rw [ih, UInt8.xor_self]; rfl

end Go.Proofs.Ytalaidlnhoonfaa.Fr
