/-
  hedgerowlaw05.VectorTurns: the walk: for all vectors the call returns true, and nothing that was there has turned. Conditions: none.
-/
import Derived.Test.YtcgbiikphcgoaaaVecFixed
namespace Go.Proofs.Ytcgbiikphcgoaaa
open Go.RowKit

theorem leV_meet (f g : Nat → Int) : eqV (meetV f g) f = leV f g := by
  rw [Bool.eq_iff_iff, eqV_iff, leV_iff]
  refine forall_congr' fun i => forall_congr' fun _ => ?_
  unfold meetV; omega
theorem eqV_le (f g : Nat → Int) : eqV f g = (leV f g && leV g f) := by
  rw [Bool.eq_iff_iff, Bool.and_eq_true, eqV_iff, leV_iff, leV_iff]
  exact ⟨fun h => ⟨fun i hi => by have := h i hi; omega, fun i hi => by have := h i hi; omega⟩, fun h i hi => by have := h.1 i hi; have := h.2 i hi; omega⟩
/-- Held against each other both ways. -/
theorem ord_four (f g : Nat → Int) : (ordV f g = 0 ∧ ordV g f = 0) ∨ (ordV f g = -1 ∧ ordV g f = 1) ∨ (ordV f g = 1 ∧ ordV g f = -1) ∨ (ordV f g = 2 ∧ ordV g f = 2) := by
  unfold ordV
  rw [eqV_le f g, eqV_le g f]
  cases leV f g <;> cases leV g f <;> simp
theorem ord_zero (f g : Nat → Int) : (ordV f g == 0) = eqV f g := by
  unfold ordV
  rw [eqV_le f g]
  cases leV f g <;> cases leV g f <;> simp
theorem run_meet (f g : Nat → Int) (w : World) : (binOp .eql 23 (.agg (vA (meetV f g))) (.agg (vA f))).run Try.prog w = .ok (.bool (leV f g)) w := by rw [run_eqV, leV_meet]
theorem run_zero (f g : Nat → Int) (w : World) : (binOp .eql 3 (.int .i64 (ordV f g)) (.int .i64 0)).run Try.prog w = .ok (.bool (eqV f g)) w := by rw [← ord_zero]; go_simp
theorem run_same (b : Bool) (w : World) : (binOp .eql 4 (.bool b) (.bool b)).run Try.prog w = .ok (.bool true) w := by cases b <;> kernel_rfl

set_option maxRecDepth 100000 in
set_option maxHeartbeats 4000000 in
theorem turns_walk (f g : Nat → Int) (w : World) : Calls Try.prog 5 #[.agg (vA f), .agg (vA g)] w (Law w) := by
  obtain ⟨X, hX⟩ : ∃ X, X = (w.alloc (.cells (vA f) 23)).alloc (.cells (vA g) 23) := ⟨_, rfl⟩
  have hv1 : VB X w.heap.size f := by rw [hX]; exact (VB.new_ f rfl).alloc_ _
  have hv2 : VB X (w.heap.size + 1) g := by rw [hX]; exact VB.new_ g (by simp)
  have hb : Below w.heap.size w X := by rw [hX]; exact ((Below.refl _ _).alloc (Nat.le_refl _) _).alloc (by simp) _
  have HX := Lib.hid hX
  have H1 := Lib.hid hv1
  have H2 := Lib.hid hv2
  have HB := Lib.hid hb
  clear hX hv1 hv2 hb
  go_enter Try.func5, Try.ntmps5
  go_wp2_with fail
  rw [← HX.out]
  refine (fixed_any X).mono ?_
  rintro e Y ⟨rfl, hby⟩
  have h1 := H1.out.keep hby
  have h2 := H2.out.keep hby
  have hw := HB.out.trans (hby.mono HB.out.size)
  have K1 := Lib.hid h1
  have K2 := Lib.hid h2
  have HW := Lib.hid hw
  clear h1 h2 hw hby H1 H2 HB HX
  go_upto_region 3 with fail
  refine wp_region_any (by kernel_rfl) ?_
  refine wpAny_below (fun i v _ => v = ([.agg (vA f), .agg (vA g), .int .i64 (ordV f g), .agg (vA g), .agg (vA f), .int .i64 (ordV g f), .int .i64 (ordV f g), .int .i64 (ordV g f)] : List Value).getD i undef) _ Y (by kernel_rfl) (by kernel_rfl) (by kernel_rfl) (fun i v w w' _ h => h) ?_ ?_
  · refine ⟨?_, ?_, ?_, ?_, ?_, ?_, ?_, ?_, trivial⟩
    · intro a W hI hun haft hi
      have e2 : a.eval (.tmp 2) = .pointer (some ⟨w.heap.size, 0, none⟩) := hun 2 (by kernel_rfl)
      exact b_same hi hI rfl _ (run_load_op rfl e2 (Blk.below K1.out hI (Blk.lt K1.out)) Try.underlying23 rfl (sizeV f)) rfl
    · intro a W hI hun haft hi
      have e3 : a.eval (.tmp 3) = .pointer (some ⟨w.heap.size + 1, 0, none⟩) := hun 3 (by kernel_rfl)
      exact b_same hi hI rfl _ (run_load_op rfl e3 (Blk.below K2.out hI (Blk.lt K2.out)) Try.underlying23 rfl (sizeV g)) rfl
    · intro a W hI hun haft hi
      have f0 : a.eval (.tmp 10) = .agg (vA f) := haft ⟨0, .data⟩ (by simp) rfl _ _ rfl rfl
      have f1 : a.eval (.tmp 11) = .agg (vA g) := haft ⟨1, .data⟩ (by simp) rfl _ _ rfl rfl
      refine b_call hi hI rfl _ _ (run_call_op (args := #[.agg (vA f), .agg (vA g)]) rfl (by simp [f0, f1]) (by kernel_rfl)) ?_
      exact (order_any f g W).mono fun e w' H => ⟨_, H.1, rfl, H.2⟩
    · intro a W hI hun haft hi
      have e3 : a.eval (.tmp 3) = .pointer (some ⟨w.heap.size + 1, 0, none⟩) := hun 3 (by kernel_rfl)
      exact b_same hi hI rfl _ (run_load_op rfl e3 (Blk.below K2.out hI (Blk.lt K2.out)) Try.underlying23 rfl (sizeV g)) rfl
    · intro a W hI hun haft hi
      have e2 : a.eval (.tmp 2) = .pointer (some ⟨w.heap.size, 0, none⟩) := hun 2 (by kernel_rfl)
      exact b_same hi hI rfl _ (run_load_op rfl e2 (Blk.below K1.out hI (Blk.lt K1.out)) Try.underlying23 rfl (sizeV f)) rfl
    · intro a W hI hun haft hi
      have f3 : a.eval (.tmp 13) = .agg (vA g) := haft ⟨3, .data⟩ (by simp) rfl _ _ rfl rfl
      have f4 : a.eval (.tmp 14) = .agg (vA f) := haft ⟨4, .data⟩ (by simp) rfl _ _ rfl rfl
      refine b_call hi hI rfl _ _ (run_call_op (args := #[.agg (vA g), .agg (vA f)]) rfl (by simp [f3, f4]) (by kernel_rfl)) ?_
      exact (order_any g f W).mono fun e w' H => ⟨_, H.1, rfl, H.2⟩
    · intro a W hI hun haft hi
      have f2 : a.eval (.tmp 12) = .int .i64 (ordV f g) := haft ⟨2, .data⟩ (by simp) rfl _ _ rfl rfl
      exact b_same hi hI rfl _ (run_assign_op rfl f2) rfl
    · intro a W hI hun haft hi
      have f5 : a.eval (.tmp 15) = .int .i64 (ordV g f) := haft ⟨5, .data⟩ (by simp) rfl _ _ rfl rfl
      exact b_same hi hI rfl _ (run_assign_op rfl f5) rfl
  · intro vals Z hI hp
    have hl6 : vals 6 = .int .i64 (ordV f g) := hp 6 (by decide)
    have hl7 : vals 7 = .int .i64 (ordV g f) := hp 7 (by decide)
    have HI := Lib.hid hI
    clear hp hI
    simp only [layN, List.size_toArray, List.length_cons, List.length_nil, List.range, List.range.loop, if_true, List.getElem?_toArray, List.getElem?_cons_zero, List.getElem?_cons_succ, Act.put, List.setIfInBounds_toArray, List.set_cons_zero, List.set_cons_succ, Nat.zero_add, Nat.reduceAdd, hl6, hl7]
    clear hl6 hl7
    have K1' := Lib.hid (Blk.below K1.out HI.out (Blk.lt K1.out))
    have K2' := Lib.hid (Blk.below K2.out HI.out (Blk.lt K2.out))
    have HW' := Lib.hid (HW.out.trans (HI.out.mono HW.out.size))
    clear K1 K2 HW HI
    go_upto_region 4 with fail
    go_cut [7] (fun ok W => ok = .bool true ∧ W = Z)
    case first =>
      have h4 := ord_four f g
      generalize ordV f g = x at *
      generalize ordV g f = y at *
      rcases h4 with ⟨rfl, rfl⟩ | ⟨rfl, rfl⟩ | ⟨rfl, rfl⟩ | ⟨rfl, rfl⟩
      all_goals
        go_wp2
        go_meet
        exact ⟨rfl, rfl⟩
    case rest =>
      obtain ⟨rfl, rfl⟩ := hcut
      go_upto_region 5 with fail
      refine wp_region_any (by kernel_rfl) ?_
      refine wpAny_below (fun i v _ => v = ([.bool true, .bool true, .agg (vA f), .agg (vA g), .bool (leV f g), .agg (vA f), .agg (vA g), .agg (vA (joinV f g)), .agg (vA g), .bool (leV f g), .bool true, .bool true, .bool true, .agg (vA f), .agg (vA g), .bool (leV f g), .agg (vA f), .agg (vA g), .agg (vA (meetV f g)), .agg (vA f), .bool (leV f g), .bool true, .bool true, .bool true, .int .i64 (ordV f g), .bool (eqV f g), .agg (vA f), .agg (vA g), .bool (eqV f g), .bool true, .bool true, .bool true] : List Value).getD i undef) _ _ (by kernel_rfl) (by kernel_rfl) (by kernel_rfl) (fun i v w w' _ h => h) ?_ ?_
      · refine ⟨?_, ?_, ?_, ?_, ?_, ?_, ?_, ?_, ?_, ?_, ?_, ?_, ?_, ?_, ?_, ?_, ?_, ?_, ?_, ?_, ?_, ?_, ?_, ?_, ?_, ?_, ?_, ?_, ?_, ?_, ?_, ?_, trivial⟩
        · intro a W hI hun haft hi
          have e7 : a.eval (.tmp 7) = .bool true := hun 7 (by kernel_rfl)
          exact b_same hi hI rfl _ (run_move_op rfl e7) rfl
        · intro a W hI hun haft hi
          have f0 : a.eval (.tmp 32) = .bool true := haft ⟨0, .data⟩ (by simp) rfl _ _ rfl rfl
          exact b_same hi hI rfl _ (run_move_op rfl f0) rfl
        · intro a W hI hun haft hi
          have fg : a.eval (.tmp 33) = .bool true := haft ⟨1, .guard⟩ (by simp) rfl _ _ rfl rfl
          have e2 : a.eval (.tmp 2) = .pointer (some ⟨w.heap.size, 0, none⟩) := hun 2 (by kernel_rfl)
          exact b_same hi hI (guard_ok rfl rfl rfl fg) _ (run_load_op rfl e2 (Blk.below K1'.out hI (Blk.lt K1'.out)) Try.underlying23 rfl (sizeV f)) rfl
        · intro a W hI hun haft hi
          have fg : a.eval (.tmp 33) = .bool true := haft ⟨1, .guard⟩ (by simp) rfl _ _ rfl rfl
          have e3 : a.eval (.tmp 3) = .pointer (some ⟨w.heap.size + 1, 0, none⟩) := hun 3 (by kernel_rfl)
          exact b_same hi hI (guard_ok rfl rfl rfl fg) _ (run_load_op rfl e3 (Blk.below K2'.out hI (Blk.lt K2'.out)) Try.underlying23 rfl (sizeV g)) rfl
        · intro a W hI hun haft hi
          have fg : a.eval (.tmp 33) = .bool true := haft ⟨1, .guard⟩ (by simp) rfl _ _ rfl rfl
          have f2 : a.eval (.tmp 34) = .agg (vA f) := haft ⟨2, .data⟩ (by simp) rfl _ _ rfl rfl
          have f3 : a.eval (.tmp 35) = .agg (vA g) := haft ⟨3, .data⟩ (by simp) rfl _ _ rfl rfl
          refine b_call hi hI (guard_ok rfl rfl rfl fg) _ _ (run_call_op (args := #[.agg (vA f), .agg (vA g)]) rfl (by simp [f2, f3]) (by kernel_rfl)) ?_
          exact (below_any f g W).mono fun e w' H => ⟨_, H.1, rfl, H.2⟩
        · intro a W hI hun haft hi
          have fg : a.eval (.tmp 33) = .bool true := haft ⟨1, .guard⟩ (by simp) rfl _ _ rfl rfl
          have e2 : a.eval (.tmp 2) = .pointer (some ⟨w.heap.size, 0, none⟩) := hun 2 (by kernel_rfl)
          exact b_same hi hI (guard_ok rfl rfl rfl fg) _ (run_load_op rfl e2 (Blk.below K1'.out hI (Blk.lt K1'.out)) Try.underlying23 rfl (sizeV f)) rfl
        · intro a W hI hun haft hi
          have fg : a.eval (.tmp 33) = .bool true := haft ⟨1, .guard⟩ (by simp) rfl _ _ rfl rfl
          have e3 : a.eval (.tmp 3) = .pointer (some ⟨w.heap.size + 1, 0, none⟩) := hun 3 (by kernel_rfl)
          exact b_same hi hI (guard_ok rfl rfl rfl fg) _ (run_load_op rfl e3 (Blk.below K2'.out hI (Blk.lt K2'.out)) Try.underlying23 rfl (sizeV g)) rfl
        · intro a W hI hun haft hi
          have fg : a.eval (.tmp 33) = .bool true := haft ⟨1, .guard⟩ (by simp) rfl _ _ rfl rfl
          have f5 : a.eval (.tmp 37) = .agg (vA f) := haft ⟨5, .data⟩ (by simp) rfl _ _ rfl rfl
          have f6 : a.eval (.tmp 38) = .agg (vA g) := haft ⟨6, .data⟩ (by simp) rfl _ _ rfl rfl
          refine b_call hi hI (guard_ok rfl rfl rfl fg) _ _ (run_call_op (args := #[.agg (vA f), .agg (vA g)]) rfl (by simp [f5, f6]) (by kernel_rfl)) ?_
          exact (join_any f g W).mono fun e w' H => ⟨_, H.1, rfl, H.2⟩
        · intro a W hI hun haft hi
          have fg : a.eval (.tmp 33) = .bool true := haft ⟨1, .guard⟩ (by simp) rfl _ _ rfl rfl
          have e3 : a.eval (.tmp 3) = .pointer (some ⟨w.heap.size + 1, 0, none⟩) := hun 3 (by kernel_rfl)
          exact b_same hi hI (guard_ok rfl rfl rfl fg) _ (run_load_op rfl e3 (Blk.below K2'.out hI (Blk.lt K2'.out)) Try.underlying23 rfl (sizeV g)) rfl
        · intro a W hI hun haft hi
          have fg : a.eval (.tmp 33) = .bool true := haft ⟨1, .guard⟩ (by simp) rfl _ _ rfl rfl
          have f7 : a.eval (.tmp 39) = .agg (vA (joinV f g)) := haft ⟨7, .data⟩ (by simp) rfl _ _ rfl rfl
          have f8 : a.eval (.tmp 40) = .agg (vA g) := haft ⟨8, .data⟩ (by simp) rfl _ _ rfl rfl
          exact b_same hi hI (guard_ok rfl rfl rfl fg) (.bool (leV f g)) (run_bin_op rfl f7 f8 (guardV _ _ _ _ _) (run_below f g _)) rfl
        · intro a W hI hun haft hi
          have fg : a.eval (.tmp 33) = .bool true := haft ⟨1, .guard⟩ (by simp) rfl _ _ rfl rfl
          have f4 : a.eval (.tmp 36) = .bool (leV f g) := haft ⟨4, .data⟩ (by simp) rfl _ _ rfl rfl
          have f9 : a.eval (.tmp 41) = .bool (leV f g) := haft ⟨9, .data⟩ (by simp) rfl _ _ rfl rfl
          exact b_same hi hI (guard_ok rfl rfl rfl fg) (.bool true) (run_bin_op rfl f4 f9 (by kernel_rfl) (run_same _ _)) rfl
        · intro a W hI hun haft hi
          have f1 : a.eval (.tmp 33) = .bool true := haft ⟨1, .data⟩ (by simp) rfl _ _ rfl rfl
          have f10 : a.eval (.tmp 42) = .bool true := haft ⟨10, .data⟩ (by simp) rfl _ _ rfl rfl
          exact b_same hi hI rfl _ (run_pick_op (b := true) rfl f1 f10 rfl) rfl
        · intro a W hI hun haft hi
          have f11 : a.eval (.tmp 43) = .bool true := haft ⟨11, .data⟩ (by simp) rfl _ _ rfl rfl
          exact b_same hi hI rfl _ (run_move_op rfl f11) rfl
        · intro a W hI hun haft hi
          have fg : a.eval (.tmp 44) = .bool true := haft ⟨12, .guard⟩ (by simp) rfl _ _ rfl rfl
          have e2 : a.eval (.tmp 2) = .pointer (some ⟨w.heap.size, 0, none⟩) := hun 2 (by kernel_rfl)
          exact b_same hi hI (guard_ok rfl rfl rfl fg) _ (run_load_op rfl e2 (Blk.below K1'.out hI (Blk.lt K1'.out)) Try.underlying23 rfl (sizeV f)) rfl
        · intro a W hI hun haft hi
          have fg : a.eval (.tmp 44) = .bool true := haft ⟨12, .guard⟩ (by simp) rfl _ _ rfl rfl
          have e3 : a.eval (.tmp 3) = .pointer (some ⟨w.heap.size + 1, 0, none⟩) := hun 3 (by kernel_rfl)
          exact b_same hi hI (guard_ok rfl rfl rfl fg) _ (run_load_op rfl e3 (Blk.below K2'.out hI (Blk.lt K2'.out)) Try.underlying23 rfl (sizeV g)) rfl
        · intro a W hI hun haft hi
          have fg : a.eval (.tmp 44) = .bool true := haft ⟨12, .guard⟩ (by simp) rfl _ _ rfl rfl
          have f13 : a.eval (.tmp 45) = .agg (vA f) := haft ⟨13, .data⟩ (by simp) rfl _ _ rfl rfl
          have f14 : a.eval (.tmp 46) = .agg (vA g) := haft ⟨14, .data⟩ (by simp) rfl _ _ rfl rfl
          refine b_call hi hI (guard_ok rfl rfl rfl fg) _ _ (run_call_op (args := #[.agg (vA f), .agg (vA g)]) rfl (by simp [f13, f14]) (by kernel_rfl)) ?_
          exact (below_any f g W).mono fun e w' H => ⟨_, H.1, rfl, H.2⟩
        · intro a W hI hun haft hi
          have fg : a.eval (.tmp 44) = .bool true := haft ⟨12, .guard⟩ (by simp) rfl _ _ rfl rfl
          have e2 : a.eval (.tmp 2) = .pointer (some ⟨w.heap.size, 0, none⟩) := hun 2 (by kernel_rfl)
          exact b_same hi hI (guard_ok rfl rfl rfl fg) _ (run_load_op rfl e2 (Blk.below K1'.out hI (Blk.lt K1'.out)) Try.underlying23 rfl (sizeV f)) rfl
        · intro a W hI hun haft hi
          have fg : a.eval (.tmp 44) = .bool true := haft ⟨12, .guard⟩ (by simp) rfl _ _ rfl rfl
          have e3 : a.eval (.tmp 3) = .pointer (some ⟨w.heap.size + 1, 0, none⟩) := hun 3 (by kernel_rfl)
          exact b_same hi hI (guard_ok rfl rfl rfl fg) _ (run_load_op rfl e3 (Blk.below K2'.out hI (Blk.lt K2'.out)) Try.underlying23 rfl (sizeV g)) rfl
        · intro a W hI hun haft hi
          have fg : a.eval (.tmp 44) = .bool true := haft ⟨12, .guard⟩ (by simp) rfl _ _ rfl rfl
          have f16 : a.eval (.tmp 48) = .agg (vA f) := haft ⟨16, .data⟩ (by simp) rfl _ _ rfl rfl
          have f17 : a.eval (.tmp 49) = .agg (vA g) := haft ⟨17, .data⟩ (by simp) rfl _ _ rfl rfl
          refine b_call hi hI (guard_ok rfl rfl rfl fg) _ _ (run_call_op (args := #[.agg (vA f), .agg (vA g)]) rfl (by simp [f16, f17]) (by kernel_rfl)) ?_
          exact (meet_any f g W).mono fun e w' H => ⟨_, H.1, rfl, H.2⟩
        · intro a W hI hun haft hi
          have fg : a.eval (.tmp 44) = .bool true := haft ⟨12, .guard⟩ (by simp) rfl _ _ rfl rfl
          have e2 : a.eval (.tmp 2) = .pointer (some ⟨w.heap.size, 0, none⟩) := hun 2 (by kernel_rfl)
          exact b_same hi hI (guard_ok rfl rfl rfl fg) _ (run_load_op rfl e2 (Blk.below K1'.out hI (Blk.lt K1'.out)) Try.underlying23 rfl (sizeV f)) rfl
        · intro a W hI hun haft hi
          have fg : a.eval (.tmp 44) = .bool true := haft ⟨12, .guard⟩ (by simp) rfl _ _ rfl rfl
          have f18 : a.eval (.tmp 50) = .agg (vA (meetV f g)) := haft ⟨18, .data⟩ (by simp) rfl _ _ rfl rfl
          have f19 : a.eval (.tmp 51) = .agg (vA f) := haft ⟨19, .data⟩ (by simp) rfl _ _ rfl rfl
          exact b_same hi hI (guard_ok rfl rfl rfl fg) (.bool (leV f g)) (run_bin_op rfl f18 f19 (guardV _ _ _ _ _) (run_meet f g _)) rfl
        · intro a W hI hun haft hi
          have fg : a.eval (.tmp 44) = .bool true := haft ⟨12, .guard⟩ (by simp) rfl _ _ rfl rfl
          have f15 : a.eval (.tmp 47) = .bool (leV f g) := haft ⟨15, .data⟩ (by simp) rfl _ _ rfl rfl
          have f20 : a.eval (.tmp 52) = .bool (leV f g) := haft ⟨20, .data⟩ (by simp) rfl _ _ rfl rfl
          exact b_same hi hI (guard_ok rfl rfl rfl fg) (.bool true) (run_bin_op rfl f15 f20 (by kernel_rfl) (run_same _ _)) rfl
        · intro a W hI hun haft hi
          have f12 : a.eval (.tmp 44) = .bool true := haft ⟨12, .data⟩ (by simp) rfl _ _ rfl rfl
          have f21 : a.eval (.tmp 53) = .bool true := haft ⟨21, .data⟩ (by simp) rfl _ _ rfl rfl
          exact b_same hi hI rfl _ (run_pick_op (b := true) rfl f12 f21 rfl) rfl
        · intro a W hI hun haft hi
          have f22 : a.eval (.tmp 54) = .bool true := haft ⟨22, .data⟩ (by simp) rfl _ _ rfl rfl
          exact b_same hi hI rfl _ (run_move_op rfl f22) rfl
        · intro a W hI hun haft hi
          have fg : a.eval (.tmp 55) = .bool true := haft ⟨23, .guard⟩ (by simp) rfl _ _ rfl rfl
          have e5 : a.eval (.tmp 5) = .int .i64 (ordV f g) := hun 5 (by kernel_rfl)
          exact b_same hi hI (guard_ok rfl rfl rfl fg) _ (run_move_op rfl e5) rfl
        · intro a W hI hun haft hi
          have fg : a.eval (.tmp 55) = .bool true := haft ⟨23, .guard⟩ (by simp) rfl _ _ rfl rfl
          have f24 : a.eval (.tmp 56) = .int .i64 (ordV f g) := haft ⟨24, .data⟩ (by simp) rfl _ _ rfl rfl
          exact b_same hi hI (guard_ok rfl rfl rfl fg) (.bool (eqV f g)) (run_bin_op rfl f24 rfl (by go_simp) (run_zero f g _)) rfl
        · intro a W hI hun haft hi
          have fg : a.eval (.tmp 55) = .bool true := haft ⟨23, .guard⟩ (by simp) rfl _ _ rfl rfl
          have e2 : a.eval (.tmp 2) = .pointer (some ⟨w.heap.size, 0, none⟩) := hun 2 (by kernel_rfl)
          exact b_same hi hI (guard_ok rfl rfl rfl fg) _ (run_load_op rfl e2 (Blk.below K1'.out hI (Blk.lt K1'.out)) Try.underlying23 rfl (sizeV f)) rfl
        · intro a W hI hun haft hi
          have fg : a.eval (.tmp 55) = .bool true := haft ⟨23, .guard⟩ (by simp) rfl _ _ rfl rfl
          have e3 : a.eval (.tmp 3) = .pointer (some ⟨w.heap.size + 1, 0, none⟩) := hun 3 (by kernel_rfl)
          exact b_same hi hI (guard_ok rfl rfl rfl fg) _ (run_load_op rfl e3 (Blk.below K2'.out hI (Blk.lt K2'.out)) Try.underlying23 rfl (sizeV g)) rfl
        · intro a W hI hun haft hi
          have fg : a.eval (.tmp 55) = .bool true := haft ⟨23, .guard⟩ (by simp) rfl _ _ rfl rfl
          have f26 : a.eval (.tmp 58) = .agg (vA f) := haft ⟨26, .data⟩ (by simp) rfl _ _ rfl rfl
          have f27 : a.eval (.tmp 59) = .agg (vA g) := haft ⟨27, .data⟩ (by simp) rfl _ _ rfl rfl
          exact b_same hi hI (guard_ok rfl rfl rfl fg) (.bool (eqV f g)) (run_bin_op rfl f26 f27 (guardV _ _ _ _ _) (run_eqV _ f g)) rfl
        · intro a W hI hun haft hi
          have fg : a.eval (.tmp 55) = .bool true := haft ⟨23, .guard⟩ (by simp) rfl _ _ rfl rfl
          have f25 : a.eval (.tmp 57) = .bool (eqV f g) := haft ⟨25, .data⟩ (by simp) rfl _ _ rfl rfl
          have f28 : a.eval (.tmp 60) = .bool (eqV f g) := haft ⟨28, .data⟩ (by simp) rfl _ _ rfl rfl
          exact b_same hi hI (guard_ok rfl rfl rfl fg) (.bool true) (run_bin_op rfl f25 f28 (by kernel_rfl) (run_same _ _)) rfl
        · intro a W hI hun haft hi
          have f23 : a.eval (.tmp 55) = .bool true := haft ⟨23, .data⟩ (by simp) rfl _ _ rfl rfl
          have f29 : a.eval (.tmp 61) = .bool true := haft ⟨29, .data⟩ (by simp) rfl _ _ rfl rfl
          exact b_same hi hI rfl _ (run_pick_op (b := true) rfl f23 f29 rfl) rfl
        · intro a W hI hun haft hi
          have f30 : a.eval (.tmp 62) = .bool true := haft ⟨30, .data⟩ (by simp) rfl _ _ rfl rfl
          exact b_same hi hI rfl _ (run_assign_op rfl f30) rfl
      · intro vals W hI hp
        have hl31 : vals 31 = .bool true := hp 31 (by decide)
        have HI := Lib.hid hI
        clear hp hI
        simp only [layN, List.size_toArray, List.length_cons, List.length_nil, List.range, List.range.loop, if_true, List.getElem?_toArray, List.getElem?_cons_zero, List.getElem?_cons_succ, Act.put, List.setIfInBounds_toArray, List.set_cons_zero, List.set_cons_succ, Nat.zero_add, Nat.reduceAdd, hl31]
        clear hl31
        go_wp2
        go_ret
        exact ⟨rfl, HW'.out.trans (HI.out.mono HW'.out.size)⟩

end Go.Proofs.Ytcgbiikphcgoaaa
