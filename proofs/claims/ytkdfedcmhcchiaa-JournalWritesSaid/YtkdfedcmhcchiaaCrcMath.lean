/-
  Sums of bytes, bit by bit: the table's eight steps; bits within 32 side by side that are turned turn the sum. Plain mathematics. Conditions: none.
-/
import Derived.WalkKit
namespace Go.Proofs.Ytkdfedcmhcchiaa

/-- What a register is turned by. -/
def pol : BitVec 32 := 3988292384#32
/-- One step of a register. -/
def st (r : BitVec 32) : BitVec 32 := (r >>> 1) ^^^ (if r.getLsbD 0 then pol else 0#32)
/-- n steps. -/
def stn : Nat → BitVec 32 → BitVec 32
  | 0, r => r
  | n + 1, r => stn n (st r)
theorem stn_add (m n : Nat) (r : BitVec 32) : stn (m + n) r = stn n (stn m r) := by
  induction m generalizing r with
  | zero => simp [stn]
  | succ m ih => rw [Nat.succ_add]; exact ih (st r)

theorem st_xor (a b : BitVec 32) : st (a ^^^ b) = st a ^^^ st b := by
  unfold st
  rw [BitVec.ushiftRight_xor_distrib, BitVec.getLsbD_xor]
  have e : pol ^^^ pol = 0#32 := BitVec.xor_self
  cases a.getLsbD 0 <;> cases b.getLsbD 0
  · simp
  · simp; ac_rfl
  · simp; ac_rfl
  · simp only [bne_self_eq_false, Bool.false_eq_true, if_false, if_true]
    rw [show (a >>> 1 ^^^ pol) ^^^ (b >>> 1 ^^^ pol) = (a >>> 1 ^^^ b >>> 1) ^^^ (pol ^^^ pol) by ac_rfl, e]
theorem stn_xor (n : Nat) (a b : BitVec 32) : stn n (a ^^^ b) = stn n a ^^^ stn n b := by
  induction n generalizing a b with
  | zero => rfl
  | succ n ih => simp only [stn, st_xor, ih]
theorem st_zero : st 0#32 = 0#32 := by decide
theorem stn_zero (n : Nat) : stn n 0#32 = 0#32 := by
  induction n with
  | zero => rfl
  | succ n ih => rw [stn, st_zero, ih]
theorem st_eq_zero (r : BitVec 32) (h : st r = 0#32) : r = 0#32 := by
  unfold st at h
  cases hb : r.getLsbD 0 with
  | true =>
    rw [hb] at h
    have := congrArg (fun x => x.getLsbD 31) h
    simp [pol] at this
  | false =>
    rw [hb] at h
    simp only [Bool.false_eq_true, if_false, BitVec.xor_zero] at h
    have h1 := congrArg BitVec.toNat h
    simp only [BitVec.toNat_ushiftRight, BitVec.toNat_ofNat, Nat.shiftRight_eq_div_pow] at h1
    have h2 : r.toNat % 2 = 0 := by
      simp only [BitVec.getLsbD, Nat.testBit_zero] at hb
      simpa using hb
    apply BitVec.eq_of_toNat_eq
    simp only [BitVec.toNat_ofNat]
    omega
theorem stn_eq_zero (n : Nat) (r : BitVec 32) (h : stn n r = 0#32) : r = 0#32 := by
  induction n generalizing r with
  | zero => exact h
  | succ n ih => exact st_eq_zero r (ih _ h)

/-- A register whose lowest bits are 0 is only halved. -/
theorem stn_halves (n : Nat) (r : BitVec 32) (h : r.toNat % 2 ^ n = 0) : (stn n r).toNat = r.toNat / 2 ^ n := by
  induction n generalizing r with
  | zero => simp [stn]
  | succ n ih =>
    have h2 : r.toNat % 2 = 0 := by
      have : 2 ∣ r.toNat := Nat.dvd_trans ⟨2 ^ n, by rw [Nat.pow_succ]; omega⟩ (Nat.dvd_of_mod_eq_zero h)
      omega
    have hs : (st r).toNat = r.toNat / 2 := by
      have hb : r.getLsbD 0 = false := by simp [BitVec.getLsbD, Nat.testBit_zero, h2]
      rw [st, hb]; simp [Nat.shiftRight_eq_div_pow]
    have hd : (r.toNat / 2) % 2 ^ n = 0 := by
      obtain ⟨k, hk⟩ := Nat.dvd_of_mod_eq_zero h
      rw [hk, Nat.pow_succ]
      have : 2 ^ n * 2 * k / 2 = 2 ^ n * k := by
        rw [show 2 ^ n * 2 * k = 2 ^ n * k * 2 by ac_rfl]; exact Nat.mul_div_cancel _ (by omega)
      rw [this]; exact Nat.mul_mod_right _ _
    rw [stn, ih (st r) (by rw [hs]; exact hd), hs, Nat.div_div_eq_div_mul, Nat.pow_succ, Nat.mul_comm]

/-- A byte as a register. -/
def bx (x : UInt8) : BitVec 32 := BitVec.ofNat 32 x.toNat
/-- What a byte comes to: the table. -/
def tabN (n : Nat) : BitVec 32 := stn 8 (BitVec.ofNat 32 n)
/-- One byte. -/
def bstep (r : BitVec 32) (x : UInt8) : BitVec 32 := stn 8 (r ^^^ bx x)
/-- Many. -/
def reg (r : BitVec 32) (l : List UInt8) : BitVec 32 := l.foldl bstep r
/-- The sum of bytes. -/
def crcOf (l : List UInt8) : BitVec 32 := ~~~ (reg (~~~ 0#32) l)

theorem low_high (r : BitVec 32) : r = (r &&& ~~~255#32) ^^^ (r &&& 255#32) := by
  apply BitVec.eq_of_getLsbD_eq
  intro i hi
  simp only [BitVec.getLsbD_xor, BitVec.getLsbD_and, BitVec.getLsbD_not]
  cases r.getLsbD i <;> cases (255#32).getLsbD i <;> simp [hi]
theorem high_shift (r : BitVec 32) : (r &&& ~~~255#32).toNat % 2 ^ 8 = 0 ∧ (r &&& ~~~255#32).toNat / 2 ^ 8 = r.toNat / 2 ^ 8 := by
  constructor
  · rw [← Nat.and_two_pow_sub_one_eq_mod]
    have h : (r &&& ~~~255#32) &&& 255#32 = 0#32 := by
      rw [BitVec.and_assoc]; simp
    have := congrArg BitVec.toNat h
    simpa using this
  · have h : (r &&& ~~~255#32) >>> 8 = r >>> 8 := by
      rw [BitVec.ushiftRight_and_distrib]
      have h2 : r >>> 8 = (r >>> 8) &&& ((~~~255#32) >>> 8) := by
        have e : (~~~255#32) >>> 8 = 16777215#32 := by decide
        rw [e]
        apply BitVec.eq_of_toNat_eq
        rw [BitVec.toNat_and]
        show _ = _ &&& (2 ^ 24 - 1)
        rw [Nat.and_two_pow_sub_one_eq_mod]
        have := r.isLt
        simp only [BitVec.toNat_ushiftRight, Nat.shiftRight_eq_div_pow]
        omega
      exact h2.symm
    have := congrArg BitVec.toNat h
    simpa [BitVec.toNat_ushiftRight, Nat.shiftRight_eq_div_pow] using this

/-- A byte's eight steps, by the table. -/
theorem stn8 (r : BitVec 32) : stn 8 r = (r >>> 8) ^^^ tabN (r.toNat % 256) := by
  conv => lhs; rw [low_high r]
  rw [stn_xor]
  have h1 : stn 8 (r &&& ~~~255#32) = r >>> 8 := by
    apply BitVec.eq_of_toNat_eq
    rw [stn_halves 8 _ (high_shift r).1, (high_shift r).2, BitVec.toNat_ushiftRight, Nat.shiftRight_eq_div_pow]
  have h2 : r &&& 255#32 = BitVec.ofNat 32 (r.toNat % 256) := by
    apply BitVec.eq_of_toNat_eq
    rw [BitVec.toNat_and]
    show _ &&& (2 ^ 8 - 1) = _
    rw [Nat.and_two_pow_sub_one_eq_mod]
    simp; omega
  rw [h1, h2]; rfl

theorem xor_high (r : BitVec 32) (x : UInt8) : (r ^^^ bx x) >>> 8 = r >>> 8 := by
  rw [BitVec.ushiftRight_xor_distrib]
  have : bx x >>> 8 = 0#32 := by
    apply BitVec.eq_of_toNat_eq
    have := x.toNat_lt
    simp [bx, Nat.shiftRight_eq_div_pow]; omega
  rw [this, BitVec.xor_zero]
theorem xor_low (r : BitVec 32) (x : UInt8) : (r ^^^ bx x).toNat % 256 = (r.toNat % 256) ^^^ x.toNat := by
  have h := x.toNat_lt
  rw [BitVec.toNat_xor, show (256 : Nat) = 2 ^ 8 from rfl, Nat.xor_mod_two_pow]
  congr 1
  simp [bx]
theorem bstep_tab (r : BitVec 32) (x : UInt8) : bstep r x = (r >>> 8) ^^^ tabN ((r.toNat % 256) ^^^ x.toNat) := by
  unfold bstep
  rw [stn8, xor_high, xor_low]

/- ## two rows of bytes -/
theorem reg_append (r : BitVec 32) (l m : List UInt8) : reg r (l ++ m) = reg (reg r l) m := List.foldl_append
/-- Registers that are unlike by d come to ones that are unlike by d's own way. -/
theorem reg_xor (l m : List UInt8) (hl : l.length = m.length) (r s : BitVec 32) : reg r l ^^^ reg s m = reg (r ^^^ s) (List.zipWith (· ^^^ ·) l m) := by
  induction l generalizing m r s with
  | nil => cases m with
    | nil => rfl
    | cons _ _ => cases hl
  | cons a l ih => cases m with
    | nil => cases hl
    | cons b m =>
      simp only [reg, List.foldl_cons, List.zipWith_cons_cons]
      have := ih m (by simpa using hl) (bstep r a) (bstep s b)
      unfold reg at this
      rw [this]
      congr 1
      unfold bstep
      rw [← stn_xor]
      congr 1
      have : bx (a ^^^ b) = bx a ^^^ bx b := by
        apply BitVec.eq_of_toNat_eq
        have h1 := a.toNat_lt
        have h2 := b.toNat_lt
        have h3 := (a ^^^ b).toNat_lt
        simp only [bx, BitVec.toNat_ofNat, BitVec.toNat_xor, UInt8.toNat_xor]
        rw [UInt8.toNat_xor] at h3
        rw [Nat.mod_eq_of_lt (by omega), Nat.mod_eq_of_lt (by omega), Nat.mod_eq_of_lt (by omega)]
      rw [this]; ac_rfl
/-- Registers that are unlike stay unlike over the same bytes. -/
theorem reg_ne (l : List UInt8) (r s : BitVec 32) (h : r ≠ s) : reg r l ≠ reg s l := by
  induction l generalizing r s with
  | nil => exact h
  | cons a l ih =>
    refine ih _ _ fun e => h ?_
    have : stn 8 (r ^^^ s) = 0#32 := by
      have e2 : r ^^^ s = (r ^^^ bx a) ^^^ (s ^^^ bx a) := by
        rw [show (r ^^^ bx a) ^^^ (s ^^^ bx a) = (r ^^^ s) ^^^ (bx a ^^^ bx a) by ac_rfl, BitVec.xor_self, BitVec.xor_zero]
      rw [e2, stn_xor]
      unfold bstep at e
      rw [e, BitVec.xor_self]
    have h0 := stn_eq_zero _ _ this
    exact BitVec.xor_eq_zero_iff.1 h0

/- ## a burst: bits within 32 side by side -/
/-- One step of a number of whatever size. -/
def sN (x : Nat) : Nat := (x / 2) ^^^ (if x % 2 = 1 then 3988292384 else 0)
def sNn : Nat → Nat → Nat
  | 0, x => x
  | n + 1, x => sNn n (sN x)
theorem sNn_add (m n x : Nat) : sNn (m + n) x = sNn n (sNn m x) := by
  induction m generalizing x with
  | zero => simp [sNn]
  | succ m ih => rw [Nat.succ_add]; exact ih (sN x)
theorem sN_xor (a b : Nat) : sN (a ^^^ b) = sN a ^^^ sN b := by
  unfold sN
  have h1 : (a ^^^ b) / 2 = a / 2 ^^^ b / 2 := by
    apply Nat.eq_of_testBit_eq
    intro i
    simp [Nat.testBit_div_two, Nat.testBit_xor]
  have h2 : (a ^^^ b) % 2 = (a + b) % 2 := by
    have := @Nat.xor_mod_two_eq_one a b
    omega
  rw [h1, h2]
  rcases Nat.mod_two_eq_zero_or_one a with ha | ha <;> rcases Nat.mod_two_eq_zero_or_one b with hb | hb
  · rw [if_neg (by omega), if_neg (by omega), if_neg (by omega)]; simp
  · rw [if_pos (by omega), if_neg (by omega), if_pos (by omega)]; simp; ac_rfl
  · rw [if_pos (by omega), if_pos (by omega), if_neg (by omega)]; simp; ac_rfl
  · rw [if_neg (by omega), if_pos (by omega), if_pos (by omega)]
    rw [show (a / 2 ^^^ 3988292384) ^^^ (b / 2 ^^^ 3988292384) = (a / 2 ^^^ b / 2) ^^^ (3988292384 ^^^ 3988292384) by ac_rfl, Nat.xor_self]
theorem sNn_xor (n a b : Nat) : sNn n (a ^^^ b) = sNn n a ^^^ sNn n b := by
  induction n generalizing a b with
  | zero => rfl
  | succ n ih => simp only [sNn, sN_xor, ih]
theorem sNn_pow (p q : Nat) : sNn p (2 ^ p * q) = q := by
  induction p with
  | zero => simp [sNn]
  | succ p ih =>
    have e : sN (2 ^ (p + 1) * q) = 2 ^ p * q := by
      have : 2 ^ (p + 1) * q = 2 * (2 ^ p * q) := by rw [Nat.pow_succ]; ac_rfl
      rw [this]
      unfold sN
      rw [if_neg (by omega)]
      simp
    rw [sNn, e, ih]
theorem st_nat (r : BitVec 32) : (st r).toNat = sN r.toNat := by
  unfold st sN
  rw [BitVec.toNat_xor, BitVec.toNat_ushiftRight, Nat.shiftRight_eq_div_pow]
  have : r.getLsbD 0 = decide (r.toNat % 2 = 1) := by simp [BitVec.getLsbD, Nat.testBit_zero]
  rw [this]
  by_cases h : r.toNat % 2 = 1
  · simp [h, pol]
  · simp [h]
theorem stn_nat (n : Nat) (r : BitVec 32) : (stn n r).toNat = sNn n r.toNat := by
  induction n generalizing r with
  | zero => rfl
  | succ n ih => rw [stn, ih, st_nat]; rfl

/-- Bytes as one number, the lowest first. -/
def num : List UInt8 → Nat
  | [] => 0
  | x :: d => x.toNat ^^^ (2 ^ 8 * num d)
theorem reg_num (d : List UInt8) (r : BitVec 32) : sNn (8 * d.length) (r.toNat ^^^ num d) = (reg r d).toNat := by
  induction d generalizing r with
  | nil => simp [sNn, num, reg]
  | cons x d ih =>
    have e1 : r.toNat ^^^ num (x :: d) = (r ^^^ bx x).toNat ^^^ (2 ^ 8 * num d) := by
      rw [num, BitVec.toNat_xor]
      have : (bx x).toNat = x.toNat := by simp [bx]
      rw [this]; ac_rfl
    rw [List.length_cons, show 8 * (d.length + 1) = 8 + 8 * d.length by omega, sNn_add, e1, sNn_xor, sNn_pow, ← stn_nat]
    exact ih (bstep r x)
theorem mul_xor (k a b : Nat) : 2 ^ k * (a ^^^ b) = (2 ^ k * a) ^^^ (2 ^ k * b) := by
  rw [Nat.mul_comm, Nat.mul_comm _ a, Nat.mul_comm _ b, ← Nat.shiftLeft_eq, ← Nat.shiftLeft_eq, ← Nat.shiftLeft_eq, Nat.shiftLeft_xor_distrib]
theorem num_set (d : List UInt8) (j : Nat) (h : j < d.length) (m : UInt8) : num (d.set j (d[j] ^^^ m)) = num d ^^^ (2 ^ (8 * j) * m.toNat) := by
  induction d generalizing j with
  | nil => simp at h
  | cons x d ih =>
    cases j with
    | zero => simp only [List.set_cons_zero, num, List.getElem_cons_zero, UInt8.toNat_xor]; simp; ac_rfl
    | succ j =>
      simp only [List.set_cons_succ, num, List.getElem_cons_succ]
      rw [ih j (by simpa using h), mul_xor, ← Nat.mul_assoc, ← Nat.pow_add, show 8 + 8 * j = 8 * (j + 1) by omega]
      ac_rfl
/-- Bytes that have bits within 32 side by side don't come to 0. -/
theorem burst (d : List UInt8) (p q : Nat) (hp : p ≤ 8 * d.length) (hq : q ≠ 0) (hq2 : q < 2 ^ 32) (h : num d = 2 ^ p * q) : reg 0#32 d ≠ 0#32 := by
  intro e
  have h1 := reg_num d 0#32
  rw [e, h] at h1
  simp only [BitVec.toNat_ofNat, Nat.zero_mod, Nat.zero_xor] at h1
  rw [show 8 * d.length = p + (8 * d.length - p) by omega, sNn_add, sNn_pow] at h1
  have h2 := stn_nat (8 * d.length - p) (BitVec.ofNat 32 q)
  rw [BitVec.toNat_ofNat, Nat.mod_eq_of_lt hq2, h1] at h2
  have h3 : stn (8 * d.length - p) (BitVec.ofNat 32 q) = 0#32 := BitVec.eq_of_toNat_eq (by simpa using h2)
  have h4 := congrArg BitVec.toNat (stn_eq_zero _ _ h3)
  rw [BitVec.toNat_ofNat, Nat.mod_eq_of_lt hq2] at h4
  exact hq (by simpa using h4)
/-- Two rows of bytes that are unlike by a burst have unlike sums. -/
theorem crc_burst (b c : List UInt8) (hl : b.length = c.length) (p q : Nat) (hp : p ≤ 8 * b.length) (hq : q ≠ 0) (hq2 : q < 2 ^ 32) (h : num (List.zipWith (· ^^^ ·) b c) = 2 ^ p * q) : crcOf b ≠ crcOf c := by
  intro e
  have e2 : reg (~~~0#32) b = reg (~~~0#32) c := by simpa [crcOf] using e
  have := reg_xor b c hl (~~~0#32) (~~~0#32)
  rw [e2, BitVec.xor_self, BitVec.xor_self] at this
  exact burst _ p q (by simpa [List.length_zipWith, ← hl] using hp) hq hq2 h this.symm
end Go.Proofs.Ytkdfedcmhcchiaa
