/-
  vector.Dot, Join, Meet, clamped: the contracts, by walks. Conditions: none.
-/
import Derived.Test.YtbhckfkjbeocoaaEVOf
import Derived.Deep.RegionHeld3
namespace Go.Proofs.Ytbhckfkjbeocoaa
open Go.RowKit

/-- A dot. -/
def dv (r c : Int) : Value := .agg #[.int .i64 r, .int .i64 c]
/-- May a dot be? -/
def dotB (r c : Int) : Bool := decide (0 ≤ r ∧ r < 16 ∧ 1 ≤ c ∧ c ≤ 1048576)
theorem ret_bool {a b : Bool} (h : a = b) : Ending.returned (.bool a) = .returned (.bool b) := by rw [h]

set_option maxHeartbeats 400000 in
theorem dot_any (r c : Int) (w : World) : Calls Try.prog 21 #[dv r c] w fun e w' => e = .returned (.bool (dotB r c)) ∧ Below w.heap.size w w' := by
  unfold dv
  by_cases h1 : 0 ≤ r
  · by_cases h2 : r < 16
    · by_cases h3 : 1 ≤ c
      · have hd : decide (1 ≤ c) = true := by simpa using h3
        go_enter Try.func21, Try.ntmps21
        go_wp2
        go_ret
        exact ⟨ret_bool (decide_eq_decide.2 ⟨fun h => ⟨h1, h2, h3, h⟩, fun h => h.2.2.2⟩), (Below.refl _ _).alloc (Nat.le_refl _) _⟩
      · have hd : decide (1 ≤ c) = false := by simpa using h3
        go_enter Try.func21, Try.ntmps21
        go_wp2
        go_ret
        exact ⟨ret_bool (decide_eq_false (by omega)).symm, (Below.refl _ _).alloc (Nat.le_refl _) _⟩
    · have hd : decide (r < 16) = false := by simpa using h2
      go_enter Try.func21, Try.ntmps21
      go_wp2
      go_ret
      exact ⟨ret_bool (decide_eq_false (by omega)).symm, (Below.refl _ _).alloc (Nat.le_refl _) _⟩
  · have hd : decide (0 ≤ r) = false := by simpa using h1
    go_enter Try.func21, Try.ntmps21
    go_wp2
    go_ret
    exact ⟨ret_bool (decide_eq_false (by omega)).symm, (Below.refl _ _).alloc (Nat.le_refl _) _⟩
theorem dotB_iff (r c : Int) : dotB r c = true ↔ ∃ n : Nat, r = n ∧ n < 16 ∧ 1 ≤ c ∧ c ≤ 1048576 := by
  unfold dotB
  rw [decide_eq_true_eq]
  exact ⟨fun ⟨h1, h2, h3, h4⟩ => ⟨r.toNat, by omega, by omega, h3, h4⟩, fun ⟨n, h1, h2, h3, h4⟩ => ⟨by omega, by omega, h3, h4⟩⟩

set_option maxRecDepth 100000 in
set_option maxHeartbeats 1000000 in
theorem join_any (f g : Nat → Int) (w : World) : Calls Try.prog 19 #[.agg (vA f), .agg (vA g)] w fun e w' => e = .returned (.agg (vA (joinV f g))) ∧ Below w.heap.size w w' := by
  have hz := (zero_of_info zeroV).1
  go_enter Try.func19, Try.ntmps19
  go_wp2_with fail
  have b1 : VB (((w.alloc (.cells (vA f) 27)).alloc (.cells (vA g) 27)).alloc (.cells (vA fun _ => 0) 27)) w.heap.size f := ((VB.new_ f rfl).alloc_ _).alloc_ _
  have b2 : VB (((w.alloc (.cells (vA f) 27)).alloc (.cells (vA g) 27)).alloc (.cells (vA fun _ => 0) 27)) (w.heap.size + 1) g := (VB.new_ g (by simp)).alloc_ _
  have b3 : VB (((w.alloc (.cells (vA f) 27)).alloc (.cells (vA g) 27)).alloc (.cells (vA fun _ => 0) 27)) (w.heap.size + 1 + 1) (fun _ => 0) := VB.new_ _ (by simp)
  have hb : Below w.heap.size w (((w.alloc (.cells (vA f) 27)).alloc (.cells (vA g) 27)).alloc (.cells (vA fun _ => 0) 27)) := (((Below.refl _ _).alloc (Nat.le_refl _) _).alloc (by simp) _).alloc (by simp; omega) _
  refine (of_join _ _ _ f g b1 b2).mono ?_
  rintro e w1 ⟨rfl, hb1⟩
  have B3 := Lib.hid (b3.keep hb1)
  have hrow := setRow_VB w1 (w.heap.size + 1 + 1) _ (joinV f g) B3.out
  have hb2 := (hb.trans (hb1.mono hb.size)).trans (setRow_below w1 (w.heap.size + 1 + 1) w.heap.size (vA (joinV f g)) (by omega))
  have HR := Lib.hid hrow
  have HB2 := Lib.hid hb2
  have HZ := Lib.hid hz
  clear hrow hb2 hb hb1 b1 b2 b3 hz
  go_wp2_with (first
    | (refine wpList_store_row rfl 27 (.tmp 4) (.tmp 6) rfl (w.heap.size + 1 + 1) (vA (joinV f g)) rfl rfl _ _ B3.out (sizeV _) (by rw [vA_size, vA_size]) (vA_one _) ?_))
  exact bodyPost_ret (v := .agg (vA (joinV f g))) (results_cell_row (P := Try.prog) Try.results19 _ _ (w.heap.size + 1 + 1) _ (vA (joinV f g)) _ _ rfl HR.out Try.underlying27 rfl (sizeV _)) rfl ⟨rfl, HB2.out⟩

set_option maxRecDepth 100000 in
set_option maxHeartbeats 1000000 in
theorem meet_any (f g : Nat → Int) (w : World) : Calls Try.prog 20 #[.agg (vA f), .agg (vA g)] w fun e w' => e = .returned (.agg (vA (meetV f g))) ∧ Below w.heap.size w w' := by
  have hz := (zero_of_info zeroV).1
  go_enter Try.func20, Try.ntmps20
  go_wp2_with fail
  have b1 : VB (((w.alloc (.cells (vA f) 27)).alloc (.cells (vA g) 27)).alloc (.cells (vA fun _ => 0) 27)) w.heap.size f := ((VB.new_ f rfl).alloc_ _).alloc_ _
  have b2 : VB (((w.alloc (.cells (vA f) 27)).alloc (.cells (vA g) 27)).alloc (.cells (vA fun _ => 0) 27)) (w.heap.size + 1) g := (VB.new_ g (by simp)).alloc_ _
  have b3 : VB (((w.alloc (.cells (vA f) 27)).alloc (.cells (vA g) 27)).alloc (.cells (vA fun _ => 0) 27)) (w.heap.size + 1 + 1) (fun _ => 0) := VB.new_ _ (by simp)
  have hb : Below w.heap.size w (((w.alloc (.cells (vA f) 27)).alloc (.cells (vA g) 27)).alloc (.cells (vA fun _ => 0) 27)) := (((Below.refl _ _).alloc (Nat.le_refl _) _).alloc (by simp) _).alloc (by simp; omega) _
  refine (of_meet _ _ _ f g b1 b2).mono ?_
  rintro e w1 ⟨rfl, hb1⟩
  have B3 := Lib.hid (b3.keep hb1)
  have hrow := setRow_VB w1 (w.heap.size + 1 + 1) _ (meetV f g) B3.out
  have hb2 := (hb.trans (hb1.mono hb.size)).trans (setRow_below w1 (w.heap.size + 1 + 1) w.heap.size (vA (meetV f g)) (by omega))
  have HR := Lib.hid hrow
  have HB2 := Lib.hid hb2
  have HZ := Lib.hid hz
  clear hrow hb2 hb hb1 b1 b2 b3 hz
  go_wp2_with (first
    | (refine wpList_store_row rfl 27 (.tmp 4) (.tmp 6) rfl (w.heap.size + 1 + 1) (vA (meetV f g)) rfl rfl _ _ B3.out (sizeV _) (by rw [vA_size, vA_size]) (vA_one _) ?_))
  exact bodyPost_ret (v := .agg (vA (meetV f g))) (results_cell_row (P := Try.prog) Try.results20 _ _ (w.heap.size + 1 + 1) _ (vA (meetV f g)) _ _ rfl HR.out Try.underlying27 rfl (sizeV _)) rfl ⟨rfl, HB2.out⟩

end Go.Proofs.Ytbhckfkjbeocoaa
