/-
  vector.Dot, Join, Meet, clamped: the contracts, by walks. Conditions: none.
-/
import Derived.Test.YtojhloaleefieaaGreatEVOf
import Derived.Deep.RegionHeld3
namespace Go.Proofs.YtojhloaleefieaaGreat
open Go.RowKit

/-- A dot. -/
def dv (r c : Int) : Value := .agg #[.int .i64 r, .int .i64 c]
/-- May a dot be? -/
def dotB (r c : Int) : Bool := decide (0 ≤ r ∧ r < 16 ∧ 1 ≤ c ∧ c ≤ 1048576)
theorem ret_bool {a b : Bool} (h : a = b) : Ending.returned (.bool a) = .returned (.bool b) := by rw [h]

set_option maxHeartbeats 400000 in
theorem dot_any (r c : Int) (w : World) : Calls Tryz.prog 49 #[dv r c] w fun e w' => e = .returned (.bool (dotB r c)) ∧ Below w.heap.size w w' := by
  unfold dv
  by_cases h1 : 0 ≤ r
  · by_cases h2 : r < 16
    · by_cases h3 : 1 ≤ c
      · have hd : decide (1 ≤ c) = true := by simpa using h3
        go_enter Tryz.func49, Tryz.ntmps49
        go_wp2
        go_ret
        exact ⟨ret_bool (decide_eq_decide.2 ⟨fun h => ⟨h1, h2, h3, h⟩, fun h => h.2.2.2⟩), (Below.refl _ _).alloc (Nat.le_refl _) _⟩
      · have hd : decide (1 ≤ c) = false := by simpa using h3
        go_enter Tryz.func49, Tryz.ntmps49
        go_wp2
        go_ret
        exact ⟨ret_bool (decide_eq_false (by omega)).symm, (Below.refl _ _).alloc (Nat.le_refl _) _⟩
    · have hd : decide (r < 16) = false := by simpa using h2
      go_enter Tryz.func49, Tryz.ntmps49
      go_wp2
      go_ret
      exact ⟨ret_bool (decide_eq_false (by omega)).symm, (Below.refl _ _).alloc (Nat.le_refl _) _⟩
  · have hd : decide (0 ≤ r) = false := by simpa using h1
    go_enter Tryz.func49, Tryz.ntmps49
    go_wp2
    go_ret
    exact ⟨ret_bool (decide_eq_false (by omega)).symm, (Below.refl _ _).alloc (Nat.le_refl _) _⟩
theorem dotB_iff (r c : Int) : dotB r c = true ↔ ∃ n : Nat, r = n ∧ n < 16 ∧ 1 ≤ c ∧ c ≤ 1048576 := by
  unfold dotB
  rw [decide_eq_true_eq]
  exact ⟨fun ⟨h1, h2, h3, h4⟩ => ⟨r.toNat, by omega, by omega, h3, h4⟩, fun ⟨n, h1, h2, h3, h4⟩ => ⟨by omega, by omega, h3, h4⟩⟩

set_option maxRecDepth 100000 in
set_option maxHeartbeats 1000000 in
theorem clamp_any (f : Nat → Int) (w : World) : Calls Tryz.prog 53 #[.agg (vA f)] w fun e w' => e = .returned (.agg (vA (clampV f))) ∧ Below w.heap.size w w' := by
  have hz := (zero_of_info zeroV).1
  go_enter Tryz.func53, Tryz.ntmps53
  go_wp2_with fail
  have b1 : VB ((w.alloc (.cells (vA f) 28)).alloc (.cells (vA fun _ => 0) 28)) w.heap.size f := (VB.new_ f rfl).alloc_ _
  have b3 : VB ((w.alloc (.cells (vA f) 28)).alloc (.cells (vA fun _ => 0) 28)) (w.heap.size + 1) (fun _ => 0) := VB.new_ _ (by simp)
  have hb : Below w.heap.size w ((w.alloc (.cells (vA f) 28)).alloc (.cells (vA fun _ => 0) 28)) := ((Below.refl _ _).alloc (Nat.le_refl _) _).alloc (by simp) _
  refine (of_clamp _ _ f b1).mono ?_
  rintro e w1 ⟨rfl, hb1⟩
  have B3 := Lib.hid (b3.keep hb1)
  have hrow := setRow_VB w1 (w.heap.size + 1) _ (clampV f) B3.out
  have hb2 := (hb.trans (hb1.mono hb.size)).trans (setRow_below w1 (w.heap.size + 1) w.heap.size (vA (clampV f)) (by omega))
  have HR := Lib.hid hrow
  have HB2 := Lib.hid hb2
  have HZ := Lib.hid hz
  clear hrow hb2 hb hb1 b1 b3 hz
  go_wp2_with (first
    | (refine wpList_store_row rfl 28 (.tmp 2) (.tmp 4) rfl (w.heap.size + 1) (vA (clampV f)) rfl rfl _ _ B3.out (sizeV _) (by rw [vA_size, vA_size]) (vA_one _) ?_))
  exact bodyPost_ret (v := .agg (vA (clampV f))) (results_cell_row (P := Tryz.prog) Tryz.results53 _ _ (w.heap.size + 1) _ (vA (clampV f)) _ _ rfl HR.out Tryz.underlying28 rfl (sizeV _)) rfl ⟨rfl, HB2.out⟩



end Go.Proofs.YtojhloaleefieaaGreat
