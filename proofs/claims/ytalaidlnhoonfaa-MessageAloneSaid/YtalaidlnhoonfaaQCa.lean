/-
  Sums of bytes, bit by bit: the table's eight steps; bits within 32 side by side that are turned turn the sum. Plain mathematics. crc.step and crc.table: the contracts, by walks. crc.table: the contract, by a walk. crc's Sum: New, Add, Value, Of, Bytes: the contracts, by walks. Conditions: lengths.
-/
import Derived.WalkKit
import Derived.Test.YtalaidlnhoonfaaChecked
import Derived.Test.YtalaidlnhoonfaaWords
import Derived.RegionTactic
import Derived.Deep.WholeRow
import Derived.Laws.BitsAllLaws
import Derived.Deep.MidRow
import Derived.Great.Ranges
import Derived.Deep.DeepCutAuto
namespace Go.Proofs.Ytalaidlnhoonfaa.Fr

/-- What a register is turned by. -/
def pol : BitVec 32 := 3988292384#32
/-- One step of a register. -/
def st (r : BitVec 32) : BitVec 32 := (r >>> 1) ^^^ (if r.getLsbD 0 then pol else 0#32)
/-- n steps. -/
def stn : Nat → BitVec 32 → BitVec 32
  | 0, r => r
  | n + 1, r => stn n (st r)
theorem stn_add (m n : Nat) (r : BitVec 32) : stn (m + n) r = stn n (stn m r) := by
  induction m generalizing r with
  | zero => simp [stn]
  | succ m ih => rw [Nat.succ_add]; exact ih (st r)

theorem st_xor (a b : BitVec 32) : st (a ^^^ b) = st a ^^^ st b := by
  unfold st
  rw [BitVec.ushiftRight_xor_distrib, BitVec.getLsbD_xor]
  have e : pol ^^^ pol = 0#32 := BitVec.xor_self
  cases a.getLsbD 0 <;> cases b.getLsbD 0
  · simp
  · simp; ac_rfl
  · simp; ac_rfl
  · simp only [bne_self_eq_false, Bool.false_eq_true, if_false, if_true]
    rw [show (a >>> 1 ^^^ pol) ^^^ (b >>> 1 ^^^ pol) = (a >>> 1 ^^^ b >>> 1) ^^^ (pol ^^^ pol) by ac_rfl, e]
theorem stn_xor (n : Nat) (a b : BitVec 32) : stn n (a ^^^ b) = stn n a ^^^ stn n b := by
  induction n generalizing a b with
  | zero => rfl
  | succ n ih => simp only [stn, st_xor, ih]
theorem st_zero : st 0#32 = 0#32 := by decide
theorem stn_zero (n : Nat) : stn n 0#32 = 0#32 := by
  induction n with
  | zero => rfl
  | succ n ih => rw [stn, st_zero, ih]
theorem st_eq_zero (r : BitVec 32) (h : st r = 0#32) : r = 0#32 := by
  unfold st at h
  cases hb : r.getLsbD 0 with
  | true =>
    rw [hb] at h
    have := congrArg (fun x => x.getLsbD 31) h
    simp [pol] at this
  | false =>
    rw [hb] at h
    simp only [Bool.false_eq_true, if_false, BitVec.xor_zero] at h
    have h1 := congrArg BitVec.toNat h
    simp only [BitVec.toNat_ushiftRight, BitVec.toNat_ofNat, Nat.shiftRight_eq_div_pow] at h1
    have h2 : r.toNat % 2 = 0 := by
      simp only [BitVec.getLsbD, Nat.testBit_zero] at hb
      simpa using hb
    apply BitVec.eq_of_toNat_eq
    simp only [BitVec.toNat_ofNat]
    omega
theorem stn_eq_zero (n : Nat) (r : BitVec 32) (h : stn n r = 0#32) : r = 0#32 := by
  induction n generalizing r with
  | zero => exact h
  | succ n ih => exact st_eq_zero r (ih _ h)

/-- A register whose lowest bits are 0 is only halved. -/
theorem stn_halves (n : Nat) (r : BitVec 32) (h : r.toNat % 2 ^ n = 0) : (stn n r).toNat = r.toNat / 2 ^ n := by
  induction n generalizing r with
  | zero => simp [stn]
  | succ n ih =>
    have h2 : r.toNat % 2 = 0 := by
      have : 2 ∣ r.toNat := Nat.dvd_trans ⟨2 ^ n, by rw [Nat.pow_succ]; omega⟩ (Nat.dvd_of_mod_eq_zero h)
      omega
    have hs : (st r).toNat = r.toNat / 2 := by
      have hb : r.getLsbD 0 = false := by simp [BitVec.getLsbD, Nat.testBit_zero, h2]
      rw [st, hb]; simp [Nat.shiftRight_eq_div_pow]
    have hd : (r.toNat / 2) % 2 ^ n = 0 := by
      obtain ⟨k, hk⟩ := Nat.dvd_of_mod_eq_zero h
      rw [hk, Nat.pow_succ]
      have : 2 ^ n * 2 * k / 2 = 2 ^ n * k := by
        rw [show 2 ^ n * 2 * k = 2 ^ n * k * 2 by ac_rfl]; exact Nat.mul_div_cancel _ (by omega)
      rw [this]; exact Nat.mul_mod_right _ _
    rw [stn, ih (st r) (by rw [hs]; exact hd), hs, Nat.div_div_eq_div_mul, Nat.pow_succ, Nat.mul_comm]

/-- A byte as a register. -/
def bx (x : UInt8) : BitVec 32 := BitVec.ofNat 32 x.toNat
/-- What a byte comes to: the table. -/
def tabN (n : Nat) : BitVec 32 := stn 8 (BitVec.ofNat 32 n)
/-- One byte. -/
def bstep (r : BitVec 32) (x : UInt8) : BitVec 32 := stn 8 (r ^^^ bx x)
/-- Many. -/
def reg (r : BitVec 32) (l : List UInt8) : BitVec 32 := l.foldl bstep r
/-- The sum of bytes. -/
def crcOf (l : List UInt8) : BitVec 32 := ~~~ (reg (~~~ 0#32) l)

theorem low_high (r : BitVec 32) : r = (r &&& ~~~255#32) ^^^ (r &&& 255#32) := by
  apply BitVec.eq_of_getLsbD_eq
  intro i hi
  simp only [BitVec.getLsbD_xor, BitVec.getLsbD_and, BitVec.getLsbD_not]
  cases r.getLsbD i <;> cases (255#32).getLsbD i <;> simp [hi]
theorem high_shift (r : BitVec 32) : (r &&& ~~~255#32).toNat % 2 ^ 8 = 0 ∧ (r &&& ~~~255#32).toNat / 2 ^ 8 = r.toNat / 2 ^ 8 := by
  constructor
  · rw [← Nat.and_two_pow_sub_one_eq_mod]
    have h : (r &&& ~~~255#32) &&& 255#32 = 0#32 := by
      rw [BitVec.and_assoc]; simp
    have := congrArg BitVec.toNat h
    simpa using this
  · have h : (r &&& ~~~255#32) >>> 8 = r >>> 8 := by
      rw [BitVec.ushiftRight_and_distrib]
      have h2 : r >>> 8 = (r >>> 8) &&& ((~~~255#32) >>> 8) := by
        have e : (~~~255#32) >>> 8 = 16777215#32 := by decide
        rw [e]
        apply BitVec.eq_of_toNat_eq
        rw [BitVec.toNat_and]
        show _ = _ &&& (2 ^ 24 - 1)
        rw [Nat.and_two_pow_sub_one_eq_mod]
        have := r.isLt
        simp only [BitVec.toNat_ushiftRight, Nat.shiftRight_eq_div_pow]
        omega
      exact h2.symm
    have := congrArg BitVec.toNat h
    simpa [BitVec.toNat_ushiftRight, Nat.shiftRight_eq_div_pow] using this

/-- A byte's eight steps, by the table. -/
theorem stn8 (r : BitVec 32) : stn 8 r = (r >>> 8) ^^^ tabN (r.toNat % 256) := by
  conv => lhs; rw [low_high r]
  rw [stn_xor]
  have h1 : stn 8 (r &&& ~~~255#32) = r >>> 8 := by
    apply BitVec.eq_of_toNat_eq
    rw [stn_halves 8 _ (high_shift r).1, (high_shift r).2, BitVec.toNat_ushiftRight, Nat.shiftRight_eq_div_pow]
  have h2 : r &&& 255#32 = BitVec.ofNat 32 (r.toNat % 256) := by
    apply BitVec.eq_of_toNat_eq
    rw [BitVec.toNat_and]
    show _ &&& (2 ^ 8 - 1) = _
    rw [Nat.and_two_pow_sub_one_eq_mod]
    simp; omega
  rw [h1, h2]; rfl

theorem xor_high (r : BitVec 32) (x : UInt8) : (r ^^^ bx x) >>> 8 = r >>> 8 := by
  rw [BitVec.ushiftRight_xor_distrib]
  have : bx x >>> 8 = 0#32 := by
    apply BitVec.eq_of_toNat_eq
    have := x.toNat_lt
    simp [bx, Nat.shiftRight_eq_div_pow]; omega
  rw [this, BitVec.xor_zero]
theorem xor_low (r : BitVec 32) (x : UInt8) : (r ^^^ bx x).toNat % 256 = (r.toNat % 256) ^^^ x.toNat := by
  have h := x.toNat_lt
  rw [BitVec.toNat_xor, show (256 : Nat) = 2 ^ 8 from rfl, Nat.xor_mod_two_pow]
  congr 1
  simp [bx]
theorem bstep_tab (r : BitVec 32) (x : UInt8) : bstep r x = (r >>> 8) ^^^ tabN ((r.toNat % 256) ^^^ x.toNat) := by
  unfold bstep
  rw [stn8, xor_high, xor_low]

/- ## two rows of bytes -/
theorem reg_append (r : BitVec 32) (l m : List UInt8) : reg r (l ++ m) = reg (reg r l) m := List.foldl_append
/-- Registers that are unlike by d come to ones that are unlike by d's own way. -/
theorem reg_xor (l m : List UInt8) (hl : l.length = m.length) (r s : BitVec 32) : reg r l ^^^ reg s m = reg (r ^^^ s) (List.zipWith (· ^^^ ·) l m) := by
  induction l generalizing m r s with
  | nil => cases m with
    | nil => rfl
    | cons _ _ => cases hl
  | cons a l ih => cases m with
    | nil => cases hl
    | cons b m =>
      simp only [reg, List.foldl_cons, List.zipWith_cons_cons]
      have := ih m (by simpa using hl) (bstep r a) (bstep s b)
      unfold reg at this
      rw [this]
      congr 1
      unfold bstep
      rw [← stn_xor]
      congr 1
      have : bx (a ^^^ b) = bx a ^^^ bx b := by
        apply BitVec.eq_of_toNat_eq
        have h1 := a.toNat_lt
        have h2 := b.toNat_lt
        have h3 := (a ^^^ b).toNat_lt
        simp only [bx, BitVec.toNat_ofNat, BitVec.toNat_xor, UInt8.toNat_xor]
        rw [UInt8.toNat_xor] at h3
        rw [Nat.mod_eq_of_lt (by omega), Nat.mod_eq_of_lt (by omega), Nat.mod_eq_of_lt (by omega)]
      rw [this]; ac_rfl
/-- Registers that are unlike stay unlike over the same bytes. -/
theorem reg_ne (l : List UInt8) (r s : BitVec 32) (h : r ≠ s) : reg r l ≠ reg s l := by
  induction l generalizing r s with
  | nil => exact h
  | cons a l ih =>
    refine ih _ _ fun e => h ?_
    have : stn 8 (r ^^^ s) = 0#32 := by
      have e2 : r ^^^ s = (r ^^^ bx a) ^^^ (s ^^^ bx a) := by
        rw [show (r ^^^ bx a) ^^^ (s ^^^ bx a) = (r ^^^ s) ^^^ (bx a ^^^ bx a) by ac_rfl, BitVec.xor_self, BitVec.xor_zero]
      rw [e2, stn_xor]
      unfold bstep at e
      rw [e, BitVec.xor_self]
    have h0 := stn_eq_zero _ _ this
    exact BitVec.xor_eq_zero_iff.1 h0

/- ## a burst: bits within 32 side by side -/
/-- One step of a number of whatever size. -/
def sN (x : Nat) : Nat := (x / 2) ^^^ (if x % 2 = 1 then 3988292384 else 0)
def sNn : Nat → Nat → Nat
  | 0, x => x
  | n + 1, x => sNn n (sN x)
theorem sNn_add (m n x : Nat) : sNn (m + n) x = sNn n (sNn m x) := by
  induction m generalizing x with
  | zero => simp [sNn]
  | succ m ih => rw [Nat.succ_add]; exact ih (sN x)
theorem sN_xor (a b : Nat) : sN (a ^^^ b) = sN a ^^^ sN b := by
  unfold sN
  have h1 : (a ^^^ b) / 2 = a / 2 ^^^ b / 2 := by
    apply Nat.eq_of_testBit_eq
    intro i
    simp [Nat.testBit_div_two, Nat.testBit_xor]
  have h2 : (a ^^^ b) % 2 = (a + b) % 2 := by
    have := @Nat.xor_mod_two_eq_one a b
    omega
  rw [h1, h2]
  rcases Nat.mod_two_eq_zero_or_one a with ha | ha <;> rcases Nat.mod_two_eq_zero_or_one b with hb | hb
  · rw [if_neg (by omega), if_neg (by omega), if_neg (by omega)]; simp
  · rw [if_pos (by omega), if_neg (by omega), if_pos (by omega)]; simp; ac_rfl
  · rw [if_pos (by omega), if_pos (by omega), if_neg (by omega)]; simp; ac_rfl
  · rw [if_neg (by omega), if_pos (by omega), if_pos (by omega)]
    rw [show (a / 2 ^^^ 3988292384) ^^^ (b / 2 ^^^ 3988292384) = (a / 2 ^^^ b / 2) ^^^ (3988292384 ^^^ 3988292384) by ac_rfl, Nat.xor_self]
theorem sNn_xor (n a b : Nat) : sNn n (a ^^^ b) = sNn n a ^^^ sNn n b := by
  induction n generalizing a b with
  | zero => rfl
  | succ n ih => simp only [sNn, sN_xor, ih]
theorem sNn_pow (p q : Nat) : sNn p (2 ^ p * q) = q := by
  induction p with
  | zero => simp [sNn]
  | succ p ih =>
    have e : sN (2 ^ (p + 1) * q) = 2 ^ p * q := by
      have : 2 ^ (p + 1) * q = 2 * (2 ^ p * q) := by rw [Nat.pow_succ]; ac_rfl
      rw [this]
      unfold sN
      rw [if_neg (by omega)]
      simp
    rw [sNn, e, ih]
theorem st_nat (r : BitVec 32) : (st r).toNat = sN r.toNat := by
  unfold st sN
  rw [BitVec.toNat_xor, BitVec.toNat_ushiftRight, Nat.shiftRight_eq_div_pow]
  have : r.getLsbD 0 = decide (r.toNat % 2 = 1) := by simp [BitVec.getLsbD, Nat.testBit_zero]
  rw [this]
  by_cases h : r.toNat % 2 = 1
  · simp [h, pol]
  · simp [h]
theorem stn_nat (n : Nat) (r : BitVec 32) : (stn n r).toNat = sNn n r.toNat := by
  induction n generalizing r with
  | zero => rfl
  | succ n ih => rw [stn, ih, st_nat]; rfl

/-- Bytes as one number, the lowest first. -/
def num : List UInt8 → Nat
  | [] => 0
  | x :: d => x.toNat ^^^ (2 ^ 8 * num d)
theorem reg_num (d : List UInt8) (r : BitVec 32) : sNn (8 * d.length) (r.toNat ^^^ num d) = (reg r d).toNat := by
  induction d generalizing r with
  | nil => simp [sNn, num, reg]
  | cons x d ih =>
    have e1 : r.toNat ^^^ num (x :: d) = (r ^^^ bx x).toNat ^^^ (2 ^ 8 * num d) := by
      rw [num, BitVec.toNat_xor]
      have : (bx x).toNat = x.toNat := by simp [bx]
      rw [this]; ac_rfl
    rw [List.length_cons, show 8 * (d.length + 1) = 8 + 8 * d.length by omega, sNn_add, e1, sNn_xor, sNn_pow, ← stn_nat]
    exact ih (bstep r x)
theorem mul_xor (k a b : Nat) : 2 ^ k * (a ^^^ b) = (2 ^ k * a) ^^^ (2 ^ k * b) := by
  rw [Nat.mul_comm, Nat.mul_comm _ a, Nat.mul_comm _ b, ← Nat.shiftLeft_eq, ← Nat.shiftLeft_eq, ← Nat.shiftLeft_eq, Nat.shiftLeft_xor_distrib]
theorem num_set (d : List UInt8) (j : Nat) (h : j < d.length) (m : UInt8) : num (d.set j (d[j] ^^^ m)) = num d ^^^ (2 ^ (8 * j) * m.toNat) := by
  induction d generalizing j with
  | nil => simp at h
  | cons x d ih =>
    cases j with
    | zero => simp only [List.set_cons_zero, num, List.getElem_cons_zero, UInt8.toNat_xor]; simp; ac_rfl
    | succ j =>
      simp only [List.set_cons_succ, num, List.getElem_cons_succ]
      rw [ih j (by simpa using h), mul_xor, ← Nat.mul_assoc, ← Nat.pow_add, show 8 + 8 * j = 8 * (j + 1) by omega]
      ac_rfl
/-- Bytes that have bits within 32 side by side don't come to 0. -/
theorem burst (d : List UInt8) (p q : Nat) (hp : p ≤ 8 * d.length) (hq : q ≠ 0) (hq2 : q < 2 ^ 32) (h : num d = 2 ^ p * q) : reg 0#32 d ≠ 0#32 := by
  intro e
  have h1 := reg_num d 0#32
  rw [e, h] at h1
  simp only [BitVec.toNat_ofNat, Nat.zero_mod, Nat.zero_xor] at h1
  rw [show 8 * d.length = p + (8 * d.length - p) by omega, sNn_add, sNn_pow] at h1
  have h2 := stn_nat (8 * d.length - p) (BitVec.ofNat 32 q)
  rw [BitVec.toNat_ofNat, Nat.mod_eq_of_lt hq2, h1] at h2
  have h3 : stn (8 * d.length - p) (BitVec.ofNat 32 q) = 0#32 := BitVec.eq_of_toNat_eq (by simpa using h2)
  have h4 := congrArg BitVec.toNat (stn_eq_zero _ _ h3)
  rw [BitVec.toNat_ofNat, Nat.mod_eq_of_lt hq2] at h4
  exact hq (by simpa using h4)
/-- Two rows of bytes that are unlike by a burst have unlike sums. -/
theorem crc_burst (b c : List UInt8) (hl : b.length = c.length) (p q : Nat) (hp : p ≤ 8 * b.length) (hq : q ≠ 0) (hq2 : q < 2 ^ 32) (h : num (List.zipWith (· ^^^ ·) b c) = 2 ^ p * q) : crcOf b ≠ crcOf c := by
  intro e
  have e2 : reg (~~~0#32) b = reg (~~~0#32) c := by simpa [crcOf] using e
  have := reg_xor b c hl (~~~0#32) (~~~0#32)
  rw [e2, BitVec.xor_self, BitVec.xor_self] at this
  exact burst _ p q (by simpa [List.length_zipWith, ← hl] using hp) hq hq2 h this.symm
end Go.Proofs.Ytalaidlnhoonfaa.Fr

namespace Go.Proofs.Ytalaidlnhoonfaa.Fr
open Go.RowKit

/-- A register's cell. -/
def uv (r : BitVec 32) : Value := .int .u32 (r.toNat : Int)

theorem sN_int (n : Nat) (h : n < 4294967296) : (sN n : Int) = if n % 2 = 1 then bits .xor .u32 ((n : Int) / 2) 3988292384 else (n : Int) / 2 := by
  unfold sN
  have e : ((n : Int) / 2) = ((n / 2 : Nat) : Int) := by omega
  by_cases h2 : n % 2 = 1
  · rw [if_pos h2, if_pos h2, e, show (3988292384 : Int) = ((3988292384 : Nat) : Int) from rfl, u32_xor_nat _ _ (by omega) (by omega)]
  · rw [if_neg h2, if_neg h2, Nat.xor_zero]; omega

set_option maxHeartbeats 400000 in
theorem step_any (r : BitVec 32) (w : World) : Calls Try.prog 92 #[uv r] w fun e w' => e = .returned (uv (st r)) ∧ w = w' := by
  unfold uv
  have hs := sN_int r.toNat r.isLt
  rw [st_nat]
  have hn := r.isLt
  generalize r.toNat = n at *
  have HS := Lib.hid hs; clear hs
  by_cases h2 : n % 2 = 1
  · have ht : ((n : Int) % 2 == 1) = true := by rw [beq_iff_eq]; omega
    go_enter Try.func92, Try.ntmps92
    go_wp2
    go_ret
    exact ⟨by rw [HS.out, if_pos h2]; rfl, rfl⟩
  · have ht : ((n : Int) % 2 == 1) = false := by rw [beq_eq_false_iff_ne]; omega
    go_enter Try.func92, Try.ntmps92
    go_wp2
    go_ret
    exact ⟨by rw [HS.out, if_neg h2]; rfl, rfl⟩

/-- The table, as far as its first loop has come. -/
def powsB : Nat → Array (BitVec 32)
  | 0 => Array.replicate 256 0#32
  | k + 1 => (powsB k).setIfInBounds (128 / 2 ^ k) (stn (k + 1) 1#32)
/-- The table, as far as its second loop has come. -/
def tabB : Nat → Array (BitVec 32)
  | 0 => powsB 8
  | k + 1 => (tabB k).setIfInBounds k (tabN k)
/-- The whole table's cells. -/
def tabA : Array Value := (tabB 256).map uv
theorem powsB_size (k : Nat) : (powsB k).size = 256 := by
  induction k with
  | zero => simp [powsB]
  | succ k ih => simp [powsB, ih]
theorem tabB_size (k : Nat) : (tabB k).size = 256 := by
  induction k with
  | zero => exact powsB_size 8
  | succ k ih => simp [tabB, ih]
theorem map_uv_set (a : Array (BitVec 32)) (i : Nat) (r : BitVec 32) : (a.map uv).setIfInBounds i (uv r) = (a.setIfInBounds i r).map uv := by
  rw [Array.map_setIfInBounds]
theorem map_uv_one (a : Array (BitVec 32)) : (a.map uv).all (·.oneCell') = true := by
  simp [uv, Value.oneCell']
theorem tabB_done (k i : Nat) (h : i < k) (hk : k ≤ 256) : (tabB k)[i]? = some (tabN i) := by
  induction k with
  | zero => omega
  | succ k ih =>
    rw [tabB, Array.getElem?_setIfInBounds]
    by_cases e : k = i
    · subst e; rw [if_pos rfl, if_pos (by rw [tabB_size]; omega)]
    · rw [if_neg e]; exact ih (by omega) (by omega)
theorem tabB_open (k i : Nat) (h : k ≤ i) : (tabB k)[i]? = (powsB 8)[i]? := by
  induction k with
  | zero => rfl
  | succ k ih => rw [tabB, Array.getElem?_setIfInBounds, if_neg (by omega)]; exact ih (by omega)
/-- k's lowest bit; k without it. -/
def lowI (k : Int) : Int := bits .and .i64 k (-k)
def offI (k : Int) : Int := bits .and .i64 k (k - 1)
theorem low_all : ∀ k : Fin 256, 0 ≤ lowI k.val ∧ lowI k.val ≤ k.val ∧ (offI k.val < k.val ∨ k.val = 0) ∧ 0 ≤ offI k.val ∧ offI k.val ≤ k.val ∧ (powsB 8)[(lowI k.val).toNat]? = some (tabN (lowI k.val).toNat) ∧ tabN k.val = tabN (lowI k.val).toNat ^^^ tabN (offI k.val).toNat := by
  decide +kernel
/-- What a round of the second loop reads. -/
theorem tab_round (k : Nat) (hk : k < 256) : ∃ L O : Nat, lowI k = L ∧ offI k = O ∧ L < 256 ∧ O < 256 ∧ (tabB k)[L]? = some (tabN L) ∧ (tabB k)[O]? = some (tabN O) ∧ tabN k = tabN L ^^^ tabN O := by
  obtain ⟨h1, h2, h3, h4, h5, h6, h7⟩ := low_all ⟨k, hk⟩
  dsimp only at h1 h2 h3 h4 h5 h6 h7
  refine ⟨(lowI k).toNat, (offI k).toNat, by omega, by omega, by omega, by omega, ?_, ?_, h7⟩
  · by_cases e : (lowI k).toNat < k
    · exact tabB_done _ _ e (by omega)
    · rw [tabB_open _ _ (by omega)]; exact h6
  · rcases h3 with h | h
    · exact tabB_done _ _ (by omega) (by omega)
    · have hk0 : k = 0 := h
      subst hk0
      decide +kernel
theorem uv_xor (a b : BitVec 32) : (Value.int .u32 (bits .xor .u32 (a.toNat : Int) (b.toNat : Int))) = uv (a ^^^ b) := by
  rw [u32_xor_nat _ _ a.isLt b.isLt, ← BitVec.toNat_xor]; rfl
theorem zero51 : (Try.prog.info? 112).map (fun i => (i.zero, i.size)) = some (some (.agg ((powsB 0).map uv)), 256) := by kernel_rfl
theorem infoU : (Try.prog.info? 69).map (fun i => (i.zero, i.size, i.bytes)) = some (some (.int .u32 0), 1, 4) := by kernel_rfl

end Go.Proofs.Ytalaidlnhoonfaa.Fr

namespace Go.Proofs.Ytalaidlnhoonfaa.Fr
open Go.RowKit

theorem cell_uv {w : World} {g : Nat} {t : TypeId} {a : Array (BitVec 32)} (h : Blk w g t (a.map uv)) {i : Nat} {r : BitVec 32} (hi : a[i]? = some r) : w.cell? ⟨g, i, none⟩ = some (uv r) := by
  rw [h.cell i]; simp [hi]
theorem size51 (a : Array (BitVec 32)) (h : a.size = 256) : (Try.prog.info? 112).map (·.size) = some (a.map uv).size := by
  rw [Array.size_map, h]; exact (zero_of_info zero51).2
theorem old_uv (a : Array (BitVec 32)) (i : Nat) (h : i < a.size) : ∃ r, a[i]? = some r := ⟨_, Array.getElem?_eq_getElem h⟩
theorem pow_round (k : Nat) (hk : k ≤ 8) : (k < 8 ↔ 0 < 128 / 2 ^ k) ∧ 128 / 2 ^ k ≤ 128 ∧ 128 / 2 ^ (k + 1) = 128 / 2 ^ k / 2 := by
  refine ⟨?_, Nat.div_le_self _ _, by rw [Nat.pow_succ, Nat.div_div_eq_div_mul]⟩
  have : ∀ k : Fin 9, (k.val < 8 ↔ 0 < 128 / 2 ^ k.val) := by decide
  exact this ⟨k, by omega⟩

set_option maxRecDepth 100000 in
set_option maxHeartbeats 1000000 in
theorem table_any (w : World) : Calls Try.prog 82 #[] w fun e w' => e = .returned (.agg tabA) ∧ Below w.heap.size w w' := by
  have hz := (zero_of_info zero51).1
  go_enter Try.func82, Try.ntmps82
  go_wp2
  have HZ := Lib.hid hz; clear hz
  generalize hg : w.heap.size = g at *
  have hg2 : g = w.heap.size := hg.symm
  clear hg
  have HG := Lib.hid hg2; clear hg2
  go_loopw [2, 3] (fun r i wr => ∃ k : Nat, k ≤ 8 ∧ r = uv (stn k 1#32) ∧ i = .int .i64 ((128 / 2 ^ k : Nat) : Int) ∧ Blk wr (g + 1) 112 ((powsB k).map uv) ∧ Blk wr g 112 ((powsB 0).map uv) ∧ Below g w wr) (fun _ i _ => (intOf i).toNat)
  case atStart =>
    have h1 := HG.out
    subst h1
    refine ⟨0, by omega, rfl, rfl, ?_, (Blk.new w _ _).alloc _, ((Below.refl _ _).alloc (Nat.le_refl _) _).alloc (by simp) _⟩
    have := Blk.new (w.alloc (.cells ((powsB 0).map uv) 112)) 112 ((powsB 0).map uv)
    simpa using this
  case round =>
    obtain ⟨k, hk, rfl, rfl, hb1, hb0, hbl⟩ := hrel
    obtain ⟨h1, h2, h3⟩ := pow_round k hk
    have hsz := powsB_size k
    by_cases hlt : k < 8
    · have hq := h1.1 hlt
      have hx : (powsB k).setIfInBounds (128 / 2 ^ k) (stn (k + 1) 1#32) = powsB (k + 1) := rfl
      have hst : st (stn k 1#32) = stn (k + 1) 1#32 := by rw [stn_add k 1]; rfl
      have H3 := Lib.hid h3
      clear h1 h3
      generalize hqq : 128 / 2 ^ k = q at *
      have HQ := Lib.hid hqq
      clear hqq
      obtain ⟨old, ho⟩ := old_uv (powsB k) q (by omega)
      have hc := cell_uv hb1 ho
      have hfz := hb1.free q
      have hset := hb1.set_ q (uv (stn (k + 1) 1#32))
      rw [map_uv_set, hx] at hset
      have hb0' := hb0.far (p := ⟨g + 1, q, none⟩) (by simp) (uv (stn (k + 1) 1#32))
      have hbl' := hbl.setCell (p := ⟨g + 1, q, none⟩) (by simp) (uv (stn (k + 1) 1#32))
      have HS := Lib.hid hset
      have HT := Lib.hid hst
      clear hx hst ho hset
      unfold uv at hc
      go_wp2_with (go_at_call 92; refine (step_any (stn k 1#32) _).mono ?_; rw [HT.out]; unfold uv; rintro e w' ⟨rfl, rfl⟩)
      go_roundw
      case rel => exact ⟨k + 1, by omega, rfl, by rw [H3.out]; go_num, HS.out, hb0', hbl'⟩
      case measure => simp [intOf]; omega
    · have hq : 128 / 2 ^ k = 0 := Nat.le_zero.1 (Nat.not_lt.1 (fun h => hlt (h1.2 h)))
      have hkk : k = 8 := by omega
      subst hkk
      clear h1 h2 h3 hsz hlt hk
      rw [hq]
      clear hq
      go_wp2
      go_loopw [14] (fun i wr => ∃ k : Nat, k ≤ 256 ∧ i = .int .i64 k ∧ Blk wr (g + 1) 112 ((tabB k).map uv) ∧ Blk wr g 112 ((powsB 0).map uv) ∧ Below g w wr) (fun i _ => 256 - (intOf i).toNat)
      case atStart => exact ⟨0, by omega, rfl, hb1, hb0, hbl⟩
      case round =>
        clear hb1 hb0 hbl
        obtain ⟨k, hk, rfl, hb1, hb0, hbl⟩ := hrel
        by_cases hlt : k < 256
        · obtain ⟨L, O, hL, hO, hL2, hO2, tL, tO, hx⟩ := tab_round k hlt
          unfold lowI at hL
          unfold offI at hO
          have c1 := cell_uv hb1 tL
          have c2 := cell_uv hb1 tO
          obtain ⟨old, ho⟩ := old_uv (tabB k) k (by rw [tabB_size]; omega)
          have c3 := cell_uv hb1 ho
          have f1 := hb1.free k
          have hset := hb1.set_ k (uv (tabN k))
          rw [map_uv_set] at hset
          have e1 : (tabB k).setIfInBounds k (tabN k) = tabB (k + 1) := rfl
          rw [e1] at hset
          have hb0' := hb0.far (p := ⟨g + 1, k, none⟩) (by simp) (uv (tabN k))
          have hbl' := hbl.setCell (p := ⟨g + 1, k, none⟩) (by simp) (uv (tabN k))
          have hxx := uv_xor (tabN L) (tabN O)
          rw [← hx] at hxx
          unfold uv at hxx c1 c2 c3
          have HS := Lib.hid hset
          have HX := Lib.hid hxx
          clear ho e1 hset tL tO hx hb1 hb0 hbl hxx
          generalize tabN L = rL at *
          generalize tabN O = rO at *
          generalize rL.toNat = nL at *
          generalize rO.toNat = nO at *
          generalize old.toNat = nC at *
          have HL := Lib.hid hL
          have HO := Lib.hid hO
          have C1 := Lib.hid c1
          have C2 := Lib.hid c2
          have C3 := Lib.hid c3
          clear hL hO c1 c2 c3
          go_wp2
          have hL := HL.out
          have hO := HO.out
          have c1 := C1.out
          have c2 := C2.out
          have c3 := C3.out
          go_region
          all_goals clear hL hO c1 c2 c3
          all_goals go_wp2
          all_goals go_roundw
          case rel =>
            rw [HX.out]
            exact ⟨k + 1, by omega, by go_num, HS.out, hb0', hbl'.drew⟩
          case measure => simp [intOf]; omega
        · have hkk : k = 256 := by omega
          subst hkk
          have HB1 := Lib.hid hb1
          have HB0 := Lib.hid hb0
          have hrow := setRow_heap wr g _ tabA _ _ hb0
          have hbl' : Below g w (wr.setRow g tabA) := hbl.trans ⟨rfl, rfl, rfl, by simp, fun k hk => setRow_other wr g k _ (by omega)⟩
          have HR := Lib.hid hrow
          have HL := Lib.hid hbl'
          clear hb1 hb0 hrow hbl' hbl hlt hk
          go_wp2_with (first
            | (refine wpList_load_row rfl 112 (.tmp 1) rfl (g + 1) rfl _ _ _ _ HB1.out Try.underlying112 rfl (size51 _ (tabB_size 256)) ?_)
            | (refine wpList_store_row rfl 112 (.tmp 0) (.tmp 33) rfl g tabA rfl rfl _ _ HB0.out (size51 _ (tabB_size 256)) (by simp [tabA, powsB_size, tabB_size]) (map_uv_one _) ?_))
          exact bodyPost_ret (v := .agg tabA) (results_cell_row (P := Try.prog) Try.results82 _ _ g _ tabA _ _ rfl HR.out Try.underlying112 rfl (size51 _ (tabB_size 256))) rfl ⟨rfl, HG.out ▸ HL.out⟩

end Go.Proofs.Ytalaidlnhoonfaa.Fr

namespace Go.Proofs.Ytalaidlnhoonfaa.Fr
open Go.RowKit

theorem But.setCells (g : Nat) : ∀ (vs : List Value) (o : Nat) (w : World), But g w (w.setCells g o vs)
  | [], _, w => But.refl g w
  | v :: vs, o, w => (But.setCell w g o v).trans (But.setCells g vs (o + 1) _)
theorem But.frozen {g : Nat} {w w' : World} (h : But g w w') {p : Addr} (hp : p.block < w.heap.size) (hg : p.block ≠ g) : w'.frozen? p = w.frozen? p :=
  World.frozen?_of_block (h.block p.block hp (by simpa using hg))

/-- Block g is a Sum: its register turned, whether its table is made, its table. -/
def SumAt (w : World) (g : Nat) (r : BitVec 32) (made : Bool) (tb : Array (BitVec 32)) : Prop :=
  g < w.heap.size ∧ w.cell? ⟨g, 0, none⟩ = some (uv r) ∧ (∀ i x, tb[i]? = some x → w.cell? ⟨g, 1 + i, none⟩ = some (uv x)) ∧ tb.size = 256 ∧ w.cell? ⟨g, 257, none⟩ = some (.bool made) ∧ (∀ i, w.frozen? ⟨g, i, none⟩ = false)
/-- A Sum of bytes. -/
def SumOf (w : World) (g : Nat) (l : List UInt8) : Prop := ∃ (made : Bool) (tb : Array (BitVec 32)), (made = true → tb = tabB 256) ∧ SumAt w g (crcOf l) made tb

section
variable {w w' : World} {g : Nat} {r : BitVec 32} {made : Bool} {tb : Array (BitVec 32)}
theorem SumAt.kept (h : SumAt w g r made tb) (hs : w.heap.size ≤ w'.heap.size) (hb : w'.heap[g]? = w.heap[g]?) : SumAt w' g r made tb := by
  obtain ⟨h1, h2, h3, h4, h5, h6⟩ := h
  have c : ∀ i, w'.cell? ⟨g, i, none⟩ = w.cell? ⟨g, i, none⟩ := fun i => World.cell?_of_block (w := w) hb
  have f : ∀ i, w'.frozen? ⟨g, i, none⟩ = w.frozen? ⟨g, i, none⟩ := fun i => World.frozen?_of_block (w := w) hb
  exact ⟨by omega, (c 0).trans h2, fun i x hx => (c _).trans (h3 i x hx), h4, (c 257).trans h5, fun i => (f i).trans (h6 i)⟩
theorem SumAt.below {B : Nat} (h : SumAt w g r made tb) (hb : Below B w w') (hB : g < B) : SumAt w' g r made tb := h.kept hb.size (hb.block g hB)
theorem SumAt.but {k : Nat} (h : SumAt w g r made tb) (hb : But k w w') (hk : g ≠ k) : SumAt w' g r made tb := h.kept hb.size (hb.block g h.1 (by simpa using hk))
theorem SumAt.setReg (h : SumAt w g r made tb) (s : BitVec 32) : SumAt (w.setCell ⟨g, 0, none⟩ (uv s)) g s made tb := by
  obtain ⟨h1, h2, h3, h4, h5, h6⟩ := h
  refine ⟨by simpa [World.setCell] using h1, World.cell?_setCell_same _ _ _ h2, fun i x hx => ?_, h4, ?_, fun i => (World.frozen?_setCell _ _ _ _).trans (h6 i)⟩
  · rw [World.cell?_setCell_other _ _ _ _ (by simp)]; exact h3 i x hx
  · rw [World.cell?_setCell_other _ _ _ _ (by simp)]; exact h5
theorem SumAt.setMade (h : SumAt w g r made tb) (m : Bool) : SumAt (w.setCell ⟨g, 257, none⟩ (.bool m)) g r m tb := by
  obtain ⟨h1, h2, h3, h4, h5, h6⟩ := h
  refine ⟨by simpa [World.setCell] using h1, ?_, fun i x hx => ?_, h4, World.cell?_setCell_same _ _ _ h5, fun i => (World.frozen?_setCell _ _ _ _).trans (h6 i)⟩
  · rw [World.cell?_setCell_other _ _ _ _ (by simp)]; exact h2
  · have hi : i < 256 := by rw [← h4]; exact (Array.getElem?_eq_some_iff.1 hx).1
    rw [World.cell?_setCell_other _ _ _ _ (by intro e; injection e with _ e; omega)]; exact h3 i x hx
theorem SumAt.there_ (h : SumAt w g r made tb) : w.there g 1 256 := fun j hj => by
  obtain ⟨x, hx⟩ := old_uv tb j (by rw [h.2.2.2.1]; exact hj)
  exact ⟨by rw [h.2.2.1 j x hx]; rfl, h.2.2.2.2.2 _⟩
theorem SumAt.setTab (h : SumAt w g r made tb) (t2 : Array (BitVec 32)) (h2 : t2.size = 256) : SumAt (w.setCells g 1 (t2.map uv).toList) g r made t2 := by
  have ht := h.there_
  have hb := But.setCells g (t2.map uv).toList 1 w
  obtain ⟨h1, hr, h3, h4, h5, h6⟩ := h
  have hl : (t2.map uv).toList.length = 256 := by simp [h2]
  refine ⟨Nat.lt_of_lt_of_le h1 hb.size, ?_, fun i x hx => ?_, h2, ?_, fun i => (World.frozen?_setCells g _ _ _ _).trans (h6 i)⟩
  · rw [World.cell?_setCells_out g _ 1 w _ (fun _ _ => Or.inl (by simp))]; exact hr
  · have hi : i < 256 := by rw [← h2]; exact (Array.getElem?_eq_some_iff.1 hx).1
    rw [World.cell?_setCells_in g _ 1 w (fun j hj => (ht j (by omega)).1) i (by omega)]
    have : (t2.map uv).toList[i]? = some (uv x) := by simp [hx]
    rw [List.getElem?_eq_getElem (by omega)] at this
    exact this
  · rw [World.cell?_setCells_out g _ 1 w _ (fun _ _ => Or.inr (by rw [hl]; simp))]; exact h5
end

/-- A new Sum's cells. -/
def sumZ : Array Value := #[uv 0#32] ++ (powsB 0).map uv ++ #[.bool false]
theorem zero53 : (Try.prog.info? 114).map (fun i => (i.zero, i.size)) = some (some (.agg sumZ), 258) := by kernel_rfl
theorem sum_new (w : World) (t : TypeId) : SumOf (w.alloc (.cells sumZ t)) w.heap.size [] := by
  have hB := Blk.new w t sumZ
  refine ⟨false, powsB 0, (fun h => by cases h), hB.lt, ?_, fun i x hx => ?_, powsB_size 0, ?_, fun i => hB.free i⟩
  · rw [hB.cell 0, show crcOf [] = 0#32 by decide]; unfold sumZ; rw [Array.getElem?_append_left (by simp; omega), Array.getElem?_append_left (by simp)]; rfl
  · have hi : i < 256 := by rw [← powsB_size 0]; exact (Array.getElem?_eq_some_iff.1 hx).1
    rw [hB.cell (1 + i)]
    unfold sumZ
    rw [Array.getElem?_append_left (by simp [powsB_size]; omega), Array.getElem?_append_right (by simp)]
    simp [hx]
  · rw [hB.cell 257]
    unfold sumZ
    rw [Array.getElem?_append_right (by simp [powsB_size])]
    simp [powsB_size]

set_option maxHeartbeats 400000 in
theorem new_any (w : World) : Calls Try.prog 59 #[] w fun e w' => e = .returned (.pointer (some ⟨w.heap.size, 0, none⟩)) ∧ SumOf w' w.heap.size [] ∧ Below w.heap.size w w' := by
  have hn := sum_new w 114
  have hb := (Below.refl w.heap.size w).alloc (Nat.le_refl _) (.cells sumZ 114)
  have HN := Lib.hid hn
  have HB := Lib.hid hb
  clear hn hb
  have hz := (zero_of_info zero53).1
  go_enter Try.func59, Try.ntmps59
  go_wp2
  go_ret
  exact ⟨rfl, HN.out, HB.out⟩

end Go.Proofs.Ytalaidlnhoonfaa.Fr
