/-
  crc.step and crc.table: the contracts, by walks. Conditions: none.
-/
import Derived.Test.YtkdfedcmhcchiaaChecked
import Derived.Test.YtkdfedcmhcchiaaCrcMath
import Derived.Test.YtkdfedcmhcchiaaWords
import Derived.WalkKit
import Derived.RegionTactic
import Derived.Deep.WholeRow
import Derived.Laws.BitsAllLaws
namespace Go.Proofs.Ytkdfedcmhcchiaa
open Go.RowKit

/-- A register's cell. -/
def uv (r : BitVec 32) : Value := .int .u32 (r.toNat : Int)

theorem sN_int (n : Nat) (h : n < 4294967296) : (sN n : Int) = if n % 2 = 1 then bits .xor .u32 ((n : Int) / 2) 3988292384 else (n : Int) / 2 := by
  unfold sN
  have e : ((n : Int) / 2) = ((n / 2 : Nat) : Int) := by omega
  by_cases h2 : n % 2 = 1
  · rw [if_pos h2, if_pos h2, e, show (3988292384 : Int) = ((3988292384 : Nat) : Int) from rfl, u32_xor_nat _ _ (by omega) (by omega)]
  · rw [if_neg h2, if_neg h2, Nat.xor_zero]; omega

set_option maxHeartbeats 400000 in
theorem step_any (r : BitVec 32) (w : World) : Calls Try.prog 46 #[uv r] w fun e w' => e = .returned (uv (st r)) ∧ w = w' := by
  unfold uv
  have hs := sN_int r.toNat r.isLt
  rw [st_nat]
  have hn := r.isLt
  generalize r.toNat = n at *
  have HS := Lib.hid hs; clear hs
  by_cases h2 : n % 2 = 1
  · have ht : ((n : Int) % 2 == 1) = true := by rw [beq_iff_eq]; omega
    go_enter Try.func46, Try.ntmps46
    go_wp2
    go_ret
    exact ⟨by rw [HS.out, if_pos h2]; rfl, rfl⟩
  · have ht : ((n : Int) % 2 == 1) = false := by rw [beq_eq_false_iff_ne]; omega
    go_enter Try.func46, Try.ntmps46
    go_wp2
    go_ret
    exact ⟨by rw [HS.out, if_neg h2]; rfl, rfl⟩

/-- The table, as far as its first loop has come. -/
def powsB : Nat → Array (BitVec 32)
  | 0 => Array.replicate 256 0#32
  | k + 1 => (powsB k).setIfInBounds (128 / 2 ^ k) (stn (k + 1) 1#32)
/-- The table, as far as its second loop has come. -/
def tabB : Nat → Array (BitVec 32)
  | 0 => powsB 8
  | k + 1 => (tabB k).setIfInBounds k (tabN k)
/-- The whole table's cells. -/
def tabA : Array Value := (tabB 256).map uv
theorem powsB_size (k : Nat) : (powsB k).size = 256 := by
  induction k with
  | zero => simp [powsB]
  | succ k ih => simp [powsB, ih]
theorem tabB_size (k : Nat) : (tabB k).size = 256 := by
  induction k with
  | zero => exact powsB_size 8
  | succ k ih => simp [tabB, ih]
theorem map_uv_set (a : Array (BitVec 32)) (i : Nat) (r : BitVec 32) : (a.map uv).setIfInBounds i (uv r) = (a.setIfInBounds i r).map uv := by
  rw [Array.map_setIfInBounds]
theorem map_uv_one (a : Array (BitVec 32)) : (a.map uv).all (·.oneCell') = true := by
  simp [uv, Value.oneCell']
theorem tabB_done (k i : Nat) (h : i < k) (hk : k ≤ 256) : (tabB k)[i]? = some (tabN i) := by
  induction k with
  | zero => omega
  | succ k ih =>
    rw [tabB, Array.getElem?_setIfInBounds]
    by_cases e : k = i
    · subst e; rw [if_pos rfl, if_pos (by rw [tabB_size]; omega)]
    · rw [if_neg e]; exact ih (by omega) (by omega)
theorem tabB_open (k i : Nat) (h : k ≤ i) : (tabB k)[i]? = (powsB 8)[i]? := by
  induction k with
  | zero => rfl
  | succ k ih => rw [tabB, Array.getElem?_setIfInBounds, if_neg (by omega)]; exact ih (by omega)
/-- k's lowest bit; k without it. -/
def lowI (k : Int) : Int := bits .and .i64 k (-k)
def offI (k : Int) : Int := bits .and .i64 k (k - 1)
theorem low_all : ∀ k : Fin 256, 0 ≤ lowI k.val ∧ lowI k.val ≤ k.val ∧ (offI k.val < k.val ∨ k.val = 0) ∧ 0 ≤ offI k.val ∧ offI k.val ≤ k.val ∧ (powsB 8)[(lowI k.val).toNat]? = some (tabN (lowI k.val).toNat) ∧ tabN k.val = tabN (lowI k.val).toNat ^^^ tabN (offI k.val).toNat := by
  decide +kernel
/-- What a round of the second loop reads. -/
theorem tab_round (k : Nat) (hk : k < 256) : ∃ L O : Nat, lowI k = L ∧ offI k = O ∧ L < 256 ∧ O < 256 ∧ (tabB k)[L]? = some (tabN L) ∧ (tabB k)[O]? = some (tabN O) ∧ tabN k = tabN L ^^^ tabN O := by
  obtain ⟨h1, h2, h3, h4, h5, h6, h7⟩ := low_all ⟨k, hk⟩
  dsimp only at h1 h2 h3 h4 h5 h6 h7
  refine ⟨(lowI k).toNat, (offI k).toNat, by omega, by omega, by omega, by omega, ?_, ?_, h7⟩
  · by_cases e : (lowI k).toNat < k
    · exact tabB_done _ _ e (by omega)
    · rw [tabB_open _ _ (by omega)]; exact h6
  · rcases h3 with h | h
    · exact tabB_done _ _ (by omega) (by omega)
    · have hk0 : k = 0 := h
      subst hk0
      decide +kernel
theorem uv_xor (a b : BitVec 32) : (Value.int .u32 (bits .xor .u32 (a.toNat : Int) (b.toNat : Int))) = uv (a ^^^ b) := by
  rw [u32_xor_nat _ _ a.isLt b.isLt, ← BitVec.toNat_xor]; rfl
theorem zero51 : (Try.prog.info? 75).map (fun i => (i.zero, i.size)) = some (some (.agg ((powsB 0).map uv)), 256) := by kernel_rfl
theorem infoU : (Try.prog.info? 59).map (fun i => (i.zero, i.size, i.bytes)) = some (some (.int .u32 0), 1, 4) := by kernel_rfl

end Go.Proofs.Ytkdfedcmhcchiaa
