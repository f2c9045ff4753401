/-
  hedgerowlaw05.fixed: the fixed facts of layer 5's statements hold, and nothing that was there turns. Conditions: none.
-/
import Derived.Test.YtcgbiikphcgoaaaVecLaw
namespace Go.Proofs.Ytcgbiikphcgoaaa
open Go.RowKit

theorem DS_cells {w : World} {g c : Nat} (h : DS w (.slice (some ⟨g, 0, none⟩) 2 c) [(0, 2), (1, 1)]) : w.cell? ⟨g, 2, none⟩ = some (.int .i64 1) ∧ w.cell? ⟨g, 2 + 1, none⟩ = some (.int .i64 1) := by
  obtain ⟨A, c', hv, hx⟩ := h
  obtain ⟨g', hA, hg, h1, h2⟩ := hx 1 (1, 1) rfl
  injection hv with e1 e2 e3
  rw [hA] at e1
  have : g = g' := by simpa using e1
  subst this
  exact ⟨h1, h2⟩
theorem at1 (g : Nat) (c : Nat) (w : World) : (Instr.indexAt 25 (.slice (some ⟨g, 0, none⟩) 2 c) (.int .i64 1)).run Try.prog w = .ok (.pointer (some ⟨g, 2, none⟩)) w := by go_simp

set_option maxRecDepth 100000 in
set_option maxHeartbeats 4000000 in
theorem fixed_any (w : World) : Calls Try.prog 7 #[] w (Law w) := by
  have hz := (zero_of_info zeroV).1
  have m1 := mk1
  have m2 := mk2
  have m21 := mk21
  go_enter Try.func7, Try.ntmps7
  obtain ⟨X, hX⟩ : ∃ X, X = (((w.alloc (.cells (vA fun _ => 0) 23)).alloc (.cells (vA fun _ => 0) 23)).setRow w.heap.size (vA e1)).setRow (w.heap.size + 1) (vA e2) := ⟨_, rfl⟩
  have ha : VB ((w.alloc (.cells (vA fun _ => 0) 23)).alloc (.cells (vA fun _ => 0) 23)) w.heap.size (fun _ => 0) := (VB.new_ _ rfl).alloc_ _
  have hb : VB ((w.alloc (.cells (vA fun _ => 0) 23)).alloc (.cells (vA fun _ => 0) 23)) (w.heap.size + 1) (fun _ => 0) := VB.new_ _ (by simp)
  have hb2 : VB (((w.alloc (.cells (vA fun _ => 0) 23)).alloc (.cells (vA fun _ => 0) 23)).setRow w.heap.size (vA e1)) (w.heap.size + 1) (fun _ => 0) := (setRow_other _ _ _ _ (by omega)).trans hb
  have h1 : VB X w.heap.size e1 := by rw [hX]; exact (setRow_other _ _ _ _ (by omega)).trans (setRow_VB _ _ _ e1 ha)
  have h2 : VB X (w.heap.size + 1) e2 := by rw [hX]; exact setRow_VB _ _ _ e2 hb2
  have hw : Below w.heap.size w X := by rw [hX]; exact ((((Below.refl _ _).alloc (Nat.le_refl _) _).alloc (by simp) _).trans (setRow_below _ _ _ _ (Nat.le_refl _))).trans (setRow_below _ _ _ _ (by omega))
  have hs : X.heap.size = w.heap.size + 2 := by rw [hX]; simp [World.setRow]
  have HX := Lib.hid hX
  have HA := Lib.hid ha
  have HB2 := Lib.hid hb2
  have H1 := Lib.hid h1
  have H2 := Lib.hid h2
  have HW := Lib.hid hw
  have HS := Lib.hid hs
  clear hX ha hb hb2 h1 h2 hw hs
  go_upto_region 2 with (first
    | (refine wpList_store_row rfl 23 (.tmp 1) (.tmp 5) rfl w.heap.size (vA e1) rfl rfl _ _ HA.out (sizeV _) (by rw [vA_size, vA_size]) (vA_one _) ?_)
    | (refine wpList_store_row rfl 23 (.tmp 2) (.tmp 6) rfl (w.heap.size + 1) (vA e2) rfl rfl _ _ HB2.out (sizeV _) (by rw [vA_size, vA_size]) (vA_one _) ?_))
  rw [← HX.out]
  have g21 : ((vA fun _ => 0).setIfInBounds 0 (.int .i64 2)).setIfInBounds 1 (.int .i64 1) = vA e21 := by kernel_rfl
  go_upto_region 3 with fail
  have k1 : VB (X.alloc (.cells #[.int .i64 1, .int .i64 1] 28)) w.heap.size e1 := H1.out.alloc_ _
  have k2 : VB (X.alloc (.cells #[.int .i64 1, .int .i64 1] 28)) (w.heap.size + 1) e2 := H2.out.alloc_ _
  have k3 : Blk (X.alloc (.cells #[.int .i64 1, .int .i64 1] 28)) X.heap.size 28 #[.int .i64 1, .int .i64 1] := Blk.new _ _ _
  have kw : Below w.heap.size w (X.alloc (.cells #[.int .i64 1, .int .i64 1] 28)) := HW.out.alloc HW.out.size _
  generalize X.alloc (.cells #[.int .i64 1, .int .i64 1] 28) = Y at *
  generalize X.heap.size = hd at *
  have K1 := Lib.hid k1
  have K2 := Lib.hid k2
  have K3 := Lib.hid k3
  have KW := Lib.hid kw
  clear k1 k2 k3 kw HX HA HB2 H1 H2 HW HS
  go_wp2_with (refine wpList_load_row rfl 23 (.tmp 1) rfl w.heap.size rfl _ _ _ _ K1.out Try.underlying23 rfl (sizeV _) ?_)
  refine (missing_any e1 e21 _).mono ?_
  rintro e Z ⟨v, rfl, ho, hbz⟩
  rw [miss_is] at ho
  have hds := DS.of_own ho
  have h1 := K1.out.keep hbz
  have h2 := K2.out.keep hbz
  have h3 := Blk.below K3.out hbz (Blk.lt K3.out)
  have hw := KW.out.trans (hbz.mono KW.out.size)
  have HDS := Lib.hid hds
  obtain ⟨A, c, rfl, hx⟩ := hds
  obtain ⟨g, rfl, hg, _, _⟩ := hx 1 (1, 1) rfl
  have H1 := Lib.hid h1
  have H2 := Lib.hid h2
  have H3 := Lib.hid h3
  have HW := Lib.hid hw
  clear h1 h2 h3 hw hx ho hbz K1 K2 K3 KW hg
  go_upto_region 4 with fail
  refine wp_region_any (by kernel_rfl) ?_
  refine wpAny_below (fun i v _ => v = ([.agg (vA e1), .agg (vA e2), .int .i64 2, .bool true, .bool true, .agg (vA e1), .agg (vA e2), .agg (vA (joinV e1 e2)), .agg (vA e12), .bool true, .bool true, .bool true, .agg (vA e1), .agg (vA e2), .agg (vA (meetV e1 e2)), .agg (vA e0), .bool true, .bool true, .bool true, .agg (vA e1), dv 1 1, .bool true, .bool true, .bool true, .agg (vA e2), dv 1 1, .bool true, .bool true, .bool true, .agg (vA e1), dv 1 1, .agg (vA (addV e1 1 1)), .agg (vA e12), .bool true, .bool true, .bool true, .slice (some ⟨g, 0, none⟩) 2 c, .int .i64 2, .bool true, .bool true, .bool true, .slice (some ⟨g, 0, none⟩) 2 c, .pointer (some ⟨g, 2, none⟩), dv 1 1, dv 1 1, .bool true, .bool true, .bool true, .agg (vA e1), .int .i64 1, .bool true, .bool true, .bool true, .agg (vA em), .bool false, .bool true, .bool true, .bool true, dv 0 0, .bool false, .bool true, .bool true, .bool true] : List Value).getD i undef) _ Z (by kernel_rfl) (by kernel_rfl) (by kernel_rfl) (fun i v w w' _ h => h) ?_ ?_
  · refine ⟨?_, ?_, ?_, ?_, ?_, ?_, ?_, ?_, ?_, ?_, ?_, ?_, ?_, ?_, ?_, ?_, ?_, ?_, ?_, ?_, ?_, ?_, ?_, ?_, ?_, ?_, ?_, ?_, ?_, ?_, ?_, ?_, ?_, ?_, ?_, ?_, ?_, ?_, ?_, ?_, ?_, ?_, ?_, ?_, ?_, ?_, ?_, ?_, ?_, ?_, ?_, ?_, ?_, ?_, ?_, ?_, ?_, ?_, ?_, ?_, ?_, ?_, ?_, trivial⟩
    · intro a W hI hun haft hi
      have e1 : a.eval (.tmp 1) = .pointer (some ⟨w.heap.size, 0, none⟩) := hun 1 (by kernel_rfl)
      exact b_same hi hI rfl _ (run_load_op rfl e1 (Blk.below H1.out hI (Blk.lt H1.out)) Try.underlying23 rfl (sizeV _)) rfl
    · intro a W hI hun haft hi
      have e2 : a.eval (.tmp 2) = .pointer (some ⟨w.heap.size + 1, 0, none⟩) := hun 2 (by kernel_rfl)
      exact b_same hi hI rfl _ (run_load_op rfl e2 (Blk.below H2.out hI (Blk.lt H2.out)) Try.underlying23 rfl (sizeV _)) rfl
    · intro a W hI hun haft hi
      have f0 : a.eval (.tmp 11) = .agg (vA e1) := haft ⟨0, .data⟩ (by simp) rfl _ _ rfl rfl
      have f1 : a.eval (.tmp 12) = .agg (vA e2) := haft ⟨1, .data⟩ (by simp) rfl _ _ rfl rfl
      refine b_call hi hI rfl _ _ (run_call_op (args := #[.agg (vA e1), .agg (vA e2)]) rfl (by simp [f0, f1]) (by kernel_rfl)) ?_
      exact (fx_order W).mono fun e w' H => ⟨_, H.1, rfl, H.2⟩
    · intro a W hI hun haft hi
      have f2 : a.eval (.tmp 13) = .int .i64 2 := haft ⟨2, .data⟩ (by simp) rfl _ _ rfl rfl
      exact b_same hi hI rfl (.bool true) (run_bin_op rfl f2 rfl (by kernel_rfl) (by kernel_rfl)) rfl
    · intro a W hI hun haft hi
      have f3 : a.eval (.tmp 14) = .bool true := haft ⟨3, .data⟩ (by simp) rfl _ _ rfl rfl
      exact b_same hi hI rfl _ (run_move_op rfl f3) rfl
    · intro a W hI hun haft hi
      have fg : a.eval (.tmp 15) = .bool true := haft ⟨4, .guard⟩ (by simp) rfl _ _ rfl rfl
      have e1 : a.eval (.tmp 1) = .pointer (some ⟨w.heap.size, 0, none⟩) := hun 1 (by kernel_rfl)
      exact b_same hi hI (guard_ok rfl rfl rfl fg) _ (run_load_op rfl e1 (Blk.below H1.out hI (Blk.lt H1.out)) Try.underlying23 rfl (sizeV _)) rfl
    · intro a W hI hun haft hi
      have fg : a.eval (.tmp 15) = .bool true := haft ⟨4, .guard⟩ (by simp) rfl _ _ rfl rfl
      have e2 : a.eval (.tmp 2) = .pointer (some ⟨w.heap.size + 1, 0, none⟩) := hun 2 (by kernel_rfl)
      exact b_same hi hI (guard_ok rfl rfl rfl fg) _ (run_load_op rfl e2 (Blk.below H2.out hI (Blk.lt H2.out)) Try.underlying23 rfl (sizeV _)) rfl
    · intro a W hI hun haft hi
      have fg : a.eval (.tmp 15) = .bool true := haft ⟨4, .guard⟩ (by simp) rfl _ _ rfl rfl
      have f5 : a.eval (.tmp 16) = .agg (vA e1) := haft ⟨5, .data⟩ (by simp) rfl _ _ rfl rfl
      have f6 : a.eval (.tmp 17) = .agg (vA e2) := haft ⟨6, .data⟩ (by simp) rfl _ _ rfl rfl
      refine b_call hi hI (guard_ok rfl rfl rfl fg) _ _ (run_call_op (args := #[.agg (vA e1), .agg (vA e2)]) rfl (by simp [f5, f6]) (by kernel_rfl)) ?_
      exact (join_any e1 e2 W).mono fun e w' H => ⟨_, H.1, rfl, H.2⟩
    · intro a W hI hun haft hi
      have fg : a.eval (.tmp 15) = .bool true := haft ⟨4, .guard⟩ (by simp) rfl _ _ rfl rfl
      exact b_same hi hI (guard_ok rfl rfl rfl fg) (.agg (vA e12)) (by kernel_rfl) rfl
    · intro a W hI hun haft hi
      have fg : a.eval (.tmp 15) = .bool true := haft ⟨4, .guard⟩ (by simp) rfl _ _ rfl rfl
      have f7 : a.eval (.tmp 18) = .agg (vA (joinV e1 e2)) := haft ⟨7, .data⟩ (by simp) rfl _ _ rfl rfl
      have f8 : a.eval (.tmp 19) = .agg (vA e12) := haft ⟨8, .data⟩ (by simp) rfl _ _ rfl rfl
      exact b_same hi hI (guard_ok rfl rfl rfl fg) (.bool true) (run_bin_op rfl f7 f8 (guardV _ _ _ _ _) (eq_is (by decide) _)) rfl
    · intro a W hI hun haft hi
      have f4 : a.eval (.tmp 15) = .bool true := haft ⟨4, .data⟩ (by simp) rfl _ _ rfl rfl
      have f9 : a.eval (.tmp 20) = .bool true := haft ⟨9, .data⟩ (by simp) rfl _ _ rfl rfl
      exact b_same hi hI rfl _ (run_pick_op (b := true) rfl f4 f9 rfl) rfl
    · intro a W hI hun haft hi
      have f10 : a.eval (.tmp 21) = .bool true := haft ⟨10, .data⟩ (by simp) rfl _ _ rfl rfl
      exact b_same hi hI rfl _ (run_move_op rfl f10) rfl
    · intro a W hI hun haft hi
      have fg : a.eval (.tmp 22) = .bool true := haft ⟨11, .guard⟩ (by simp) rfl _ _ rfl rfl
      have e1 : a.eval (.tmp 1) = .pointer (some ⟨w.heap.size, 0, none⟩) := hun 1 (by kernel_rfl)
      exact b_same hi hI (guard_ok rfl rfl rfl fg) _ (run_load_op rfl e1 (Blk.below H1.out hI (Blk.lt H1.out)) Try.underlying23 rfl (sizeV _)) rfl
    · intro a W hI hun haft hi
      have fg : a.eval (.tmp 22) = .bool true := haft ⟨11, .guard⟩ (by simp) rfl _ _ rfl rfl
      have e2 : a.eval (.tmp 2) = .pointer (some ⟨w.heap.size + 1, 0, none⟩) := hun 2 (by kernel_rfl)
      exact b_same hi hI (guard_ok rfl rfl rfl fg) _ (run_load_op rfl e2 (Blk.below H2.out hI (Blk.lt H2.out)) Try.underlying23 rfl (sizeV _)) rfl
    · intro a W hI hun haft hi
      have fg : a.eval (.tmp 22) = .bool true := haft ⟨11, .guard⟩ (by simp) rfl _ _ rfl rfl
      have f12 : a.eval (.tmp 23) = .agg (vA e1) := haft ⟨12, .data⟩ (by simp) rfl _ _ rfl rfl
      have f13 : a.eval (.tmp 24) = .agg (vA e2) := haft ⟨13, .data⟩ (by simp) rfl _ _ rfl rfl
      refine b_call hi hI (guard_ok rfl rfl rfl fg) _ _ (run_call_op (args := #[.agg (vA e1), .agg (vA e2)]) rfl (by simp [f12, f13]) (by kernel_rfl)) ?_
      exact (meet_any e1 e2 W).mono fun e w' H => ⟨_, H.1, rfl, H.2⟩
    · intro a W hI hun haft hi
      have fg : a.eval (.tmp 22) = .bool true := haft ⟨11, .guard⟩ (by simp) rfl _ _ rfl rfl
      exact b_same hi hI (guard_ok rfl rfl rfl fg) (.agg (vA e0)) (by kernel_rfl) rfl
    · intro a W hI hun haft hi
      have fg : a.eval (.tmp 22) = .bool true := haft ⟨11, .guard⟩ (by simp) rfl _ _ rfl rfl
      have f14 : a.eval (.tmp 25) = .agg (vA (meetV e1 e2)) := haft ⟨14, .data⟩ (by simp) rfl _ _ rfl rfl
      have f15 : a.eval (.tmp 26) = .agg (vA e0) := haft ⟨15, .data⟩ (by simp) rfl _ _ rfl rfl
      exact b_same hi hI (guard_ok rfl rfl rfl fg) (.bool true) (run_bin_op rfl f14 f15 (guardV _ _ _ _ _) (eq_is (by decide) _)) rfl
    · intro a W hI hun haft hi
      have f11 : a.eval (.tmp 22) = .bool true := haft ⟨11, .data⟩ (by simp) rfl _ _ rfl rfl
      have f16 : a.eval (.tmp 27) = .bool true := haft ⟨16, .data⟩ (by simp) rfl _ _ rfl rfl
      exact b_same hi hI rfl _ (run_pick_op (b := true) rfl f11 f16 rfl) rfl
    · intro a W hI hun haft hi
      have f17 : a.eval (.tmp 28) = .bool true := haft ⟨17, .data⟩ (by simp) rfl _ _ rfl rfl
      exact b_same hi hI rfl _ (run_move_op rfl f17) rfl
    · intro a W hI hun haft hi
      have fg : a.eval (.tmp 29) = .bool true := haft ⟨18, .guard⟩ (by simp) rfl _ _ rfl rfl
      have e1 : a.eval (.tmp 1) = .pointer (some ⟨w.heap.size, 0, none⟩) := hun 1 (by kernel_rfl)
      exact b_same hi hI (guard_ok rfl rfl rfl fg) _ (run_load_op rfl e1 (Blk.below H1.out hI (Blk.lt H1.out)) Try.underlying23 rfl (sizeV _)) rfl
    · intro a W hI hun haft hi
      have fg : a.eval (.tmp 29) = .bool true := haft ⟨18, .guard⟩ (by simp) rfl _ _ rfl rfl
      have e3 : a.eval (.tmp 3) = .pointer (some ⟨hd, 0, none⟩) := hun 3 (by kernel_rfl)
      exact b_same hi hI (guard_ok rfl rfl rfl fg) _ (run_load_op rfl e3 (Blk.below H3.out hI (Blk.lt H3.out)) Try.underlying28 rfl (by kernel_rfl)) rfl
    · intro a W hI hun haft hi
      have fg : a.eval (.tmp 29) = .bool true := haft ⟨18, .guard⟩ (by simp) rfl _ _ rfl rfl
      have f19 : a.eval (.tmp 30) = .agg (vA e1) := haft ⟨19, .data⟩ (by simp) rfl _ _ rfl rfl
      have f20 : a.eval (.tmp 31) = dv 1 1 := haft ⟨20, .data⟩ (by simp) rfl _ _ rfl rfl
      refine b_call hi hI (guard_ok rfl rfl rfl fg) _ _ (run_call_op (args := #[.agg (vA e1), dv 1 1]) rfl (by simp [f19, f20]) (by kernel_rfl)) ?_
      exact (fx_next W).mono fun e w' H => ⟨_, H.1, rfl, H.2⟩
    · intro a W hI hun haft hi
      have f18 : a.eval (.tmp 29) = .bool true := haft ⟨18, .data⟩ (by simp) rfl _ _ rfl rfl
      have f21 : a.eval (.tmp 32) = .bool true := haft ⟨21, .data⟩ (by simp) rfl _ _ rfl rfl
      exact b_same hi hI rfl _ (run_pick_op (b := true) rfl f18 f21 rfl) rfl
    · intro a W hI hun haft hi
      have f22 : a.eval (.tmp 33) = .bool true := haft ⟨22, .data⟩ (by simp) rfl _ _ rfl rfl
      exact b_same hi hI rfl _ (run_move_op rfl f22) rfl
    · intro a W hI hun haft hi
      have fg : a.eval (.tmp 34) = .bool true := haft ⟨23, .guard⟩ (by simp) rfl _ _ rfl rfl
      have e2 : a.eval (.tmp 2) = .pointer (some ⟨w.heap.size + 1, 0, none⟩) := hun 2 (by kernel_rfl)
      exact b_same hi hI (guard_ok rfl rfl rfl fg) _ (run_load_op rfl e2 (Blk.below H2.out hI (Blk.lt H2.out)) Try.underlying23 rfl (sizeV _)) rfl
    · intro a W hI hun haft hi
      have fg : a.eval (.tmp 34) = .bool true := haft ⟨23, .guard⟩ (by simp) rfl _ _ rfl rfl
      have e3 : a.eval (.tmp 3) = .pointer (some ⟨hd, 0, none⟩) := hun 3 (by kernel_rfl)
      exact b_same hi hI (guard_ok rfl rfl rfl fg) _ (run_load_op rfl e3 (Blk.below H3.out hI (Blk.lt H3.out)) Try.underlying28 rfl (by kernel_rfl)) rfl
    · intro a W hI hun haft hi
      have fg : a.eval (.tmp 34) = .bool true := haft ⟨23, .guard⟩ (by simp) rfl _ _ rfl rfl
      have f24 : a.eval (.tmp 35) = .agg (vA e2) := haft ⟨24, .data⟩ (by simp) rfl _ _ rfl rfl
      have f25 : a.eval (.tmp 36) = dv 1 1 := haft ⟨25, .data⟩ (by simp) rfl _ _ rfl rfl
      refine b_call hi hI (guard_ok rfl rfl rfl fg) _ _ (run_call_op (args := #[.agg (vA e2), dv 1 1]) rfl (by simp [f24, f25]) (by kernel_rfl)) ?_
      exact (fx_knows W).mono fun e w' H => ⟨_, H.1, rfl, H.2⟩
    · intro a W hI hun haft hi
      have f23 : a.eval (.tmp 34) = .bool true := haft ⟨23, .data⟩ (by simp) rfl _ _ rfl rfl
      have f26 : a.eval (.tmp 37) = .bool true := haft ⟨26, .data⟩ (by simp) rfl _ _ rfl rfl
      exact b_same hi hI rfl _ (run_pick_op (b := true) rfl f23 f26 rfl) rfl
    · intro a W hI hun haft hi
      have f27 : a.eval (.tmp 38) = .bool true := haft ⟨27, .data⟩ (by simp) rfl _ _ rfl rfl
      exact b_same hi hI rfl _ (run_move_op rfl f27) rfl
    · intro a W hI hun haft hi
      have fg : a.eval (.tmp 39) = .bool true := haft ⟨28, .guard⟩ (by simp) rfl _ _ rfl rfl
      have e1 : a.eval (.tmp 1) = .pointer (some ⟨w.heap.size, 0, none⟩) := hun 1 (by kernel_rfl)
      exact b_same hi hI (guard_ok rfl rfl rfl fg) _ (run_load_op rfl e1 (Blk.below H1.out hI (Blk.lt H1.out)) Try.underlying23 rfl (sizeV _)) rfl
    · intro a W hI hun haft hi
      have fg : a.eval (.tmp 39) = .bool true := haft ⟨28, .guard⟩ (by simp) rfl _ _ rfl rfl
      have e3 : a.eval (.tmp 3) = .pointer (some ⟨hd, 0, none⟩) := hun 3 (by kernel_rfl)
      exact b_same hi hI (guard_ok rfl rfl rfl fg) _ (run_load_op rfl e3 (Blk.below H3.out hI (Blk.lt H3.out)) Try.underlying28 rfl (by kernel_rfl)) rfl
    · intro a W hI hun haft hi
      have fg : a.eval (.tmp 39) = .bool true := haft ⟨28, .guard⟩ (by simp) rfl _ _ rfl rfl
      have f29 : a.eval (.tmp 40) = .agg (vA e1) := haft ⟨29, .data⟩ (by simp) rfl _ _ rfl rfl
      have f30 : a.eval (.tmp 41) = dv 1 1 := haft ⟨30, .data⟩ (by simp) rfl _ _ rfl rfl
      refine b_call hi hI (guard_ok rfl rfl rfl fg) _ _ (run_call_op (args := #[.agg (vA e1), dv 1 1]) rfl (by simp [f29, f30]) (by kernel_rfl)) ?_
      exact (add_any e1 1 1 W).mono fun e w' H => ⟨_, H.1, rfl, H.2⟩
    · intro a W hI hun haft hi
      have fg : a.eval (.tmp 39) = .bool true := haft ⟨28, .guard⟩ (by simp) rfl _ _ rfl rfl
      exact b_same hi hI (guard_ok rfl rfl rfl fg) (.agg (vA e12)) (by kernel_rfl) rfl
    · intro a W hI hun haft hi
      have fg : a.eval (.tmp 39) = .bool true := haft ⟨28, .guard⟩ (by simp) rfl _ _ rfl rfl
      have f31 : a.eval (.tmp 42) = .agg (vA (addV e1 1 1)) := haft ⟨31, .data⟩ (by simp) rfl _ _ rfl rfl
      have f32 : a.eval (.tmp 43) = .agg (vA e12) := haft ⟨32, .data⟩ (by simp) rfl _ _ rfl rfl
      exact b_same hi hI (guard_ok rfl rfl rfl fg) (.bool true) (run_bin_op rfl f31 f32 (guardV _ _ _ _ _) (eq_is (by decide) _)) rfl
    · intro a W hI hun haft hi
      have f28 : a.eval (.tmp 39) = .bool true := haft ⟨28, .data⟩ (by simp) rfl _ _ rfl rfl
      have f33 : a.eval (.tmp 44) = .bool true := haft ⟨33, .data⟩ (by simp) rfl _ _ rfl rfl
      exact b_same hi hI rfl _ (run_pick_op (b := true) rfl f28 f33 rfl) rfl
    · intro a W hI hun haft hi
      have f34 : a.eval (.tmp 45) = .bool true := haft ⟨34, .data⟩ (by simp) rfl _ _ rfl rfl
      exact b_same hi hI rfl _ (run_move_op rfl f34) rfl
    · intro a W hI hun haft hi
      have fg : a.eval (.tmp 46) = .bool true := haft ⟨35, .guard⟩ (by simp) rfl _ _ rfl rfl
      have e4 : a.eval (.tmp 4) = .slice (some ⟨g, 0, none⟩) 2 c := hun 4 (by kernel_rfl)
      exact b_same hi hI (guard_ok rfl rfl rfl fg) _ (run_move_op rfl e4) rfl
    · intro a W hI hun haft hi
      have fg : a.eval (.tmp 46) = .bool true := haft ⟨35, .guard⟩ (by simp) rfl _ _ rfl rfl
      have f36 : a.eval (.tmp 47) = .slice (some ⟨g, 0, none⟩) 2 c := haft ⟨36, .data⟩ (by simp) rfl _ _ rfl rfl
      exact b_same hi hI (guard_ok rfl rfl rfl fg) _ (run_len_op Try.underlying25 rfl f36) rfl
    · intro a W hI hun haft hi
      have fg : a.eval (.tmp 46) = .bool true := haft ⟨35, .guard⟩ (by simp) rfl _ _ rfl rfl
      have f37 : a.eval (.tmp 48) = .int .i64 2 := haft ⟨37, .data⟩ (by simp) rfl _ _ rfl rfl
      exact b_same hi hI (guard_ok rfl rfl rfl fg) (.bool true) (run_bin_op rfl f37 rfl (by kernel_rfl) (by kernel_rfl)) rfl
    · intro a W hI hun haft hi
      have f35 : a.eval (.tmp 46) = .bool true := haft ⟨35, .data⟩ (by simp) rfl _ _ rfl rfl
      have f38 : a.eval (.tmp 49) = .bool true := haft ⟨38, .data⟩ (by simp) rfl _ _ rfl rfl
      exact b_same hi hI rfl _ (run_pick_op (b := true) rfl f35 f38 rfl) rfl
    · intro a W hI hun haft hi
      have f39 : a.eval (.tmp 50) = .bool true := haft ⟨39, .data⟩ (by simp) rfl _ _ rfl rfl
      exact b_same hi hI rfl _ (run_move_op rfl f39) rfl
    · intro a W hI hun haft hi
      have fg : a.eval (.tmp 51) = .bool true := haft ⟨40, .guard⟩ (by simp) rfl _ _ rfl rfl
      have e4 : a.eval (.tmp 4) = .slice (some ⟨g, 0, none⟩) 2 c := hun 4 (by kernel_rfl)
      exact b_same hi hI (guard_ok rfl rfl rfl fg) _ (run_move_op rfl e4) rfl
    · intro a W hI hun haft hi
      have fg : a.eval (.tmp 51) = .bool true := haft ⟨40, .guard⟩ (by simp) rfl _ _ rfl rfl
      have f41 : a.eval (.tmp 52) = .slice (some ⟨g, 0, none⟩) 2 c := haft ⟨41, .data⟩ (by simp) rfl _ _ rfl rfl
      exact b_same hi hI (guard_ok rfl rfl rfl fg) _ (run_indexAddr_op rfl f41 rfl (at1 g c _)) rfl
    · intro a W hI hun haft hi
      have fg : a.eval (.tmp 51) = .bool true := haft ⟨40, .guard⟩ (by simp) rfl _ _ rfl rfl
      have f42 : a.eval (.tmp 53) = .pointer (some ⟨g, 2, none⟩) := haft ⟨42, .data⟩ (by simp) rfl _ _ rfl rfl
      exact b_same hi hI (guard_ok rfl rfl rfl fg) _ (run_loadmid_op rfl f42 (range2 (DS_cells (HDS.out.below hI)).1 (DS_cells (HDS.out.below hI)).2) Try.underlying28 rfl (by kernel_rfl)) rfl
    · intro a W hI hun haft hi
      have fg : a.eval (.tmp 51) = .bool true := haft ⟨40, .guard⟩ (by simp) rfl _ _ rfl rfl
      have e3 : a.eval (.tmp 3) = .pointer (some ⟨hd, 0, none⟩) := hun 3 (by kernel_rfl)
      exact b_same hi hI (guard_ok rfl rfl rfl fg) _ (run_load_op rfl e3 (Blk.below H3.out hI (Blk.lt H3.out)) Try.underlying28 rfl (by kernel_rfl)) rfl
    · intro a W hI hun haft hi
      have fg : a.eval (.tmp 51) = .bool true := haft ⟨40, .guard⟩ (by simp) rfl _ _ rfl rfl
      have f43 : a.eval (.tmp 54) = dv 1 1 := haft ⟨43, .data⟩ (by simp) rfl _ _ rfl rfl
      have f44 : a.eval (.tmp 55) = dv 1 1 := haft ⟨44, .data⟩ (by simp) rfl _ _ rfl rfl
      exact b_same hi hI (guard_ok rfl rfl rfl fg) (.bool true) (run_bin_op rfl f43 f44 (by kernel_rfl) (by kernel_rfl)) rfl
    · intro a W hI hun haft hi
      have f40 : a.eval (.tmp 51) = .bool true := haft ⟨40, .data⟩ (by simp) rfl _ _ rfl rfl
      have f45 : a.eval (.tmp 56) = .bool true := haft ⟨45, .data⟩ (by simp) rfl _ _ rfl rfl
      exact b_same hi hI rfl _ (run_pick_op (b := true) rfl f40 f45 rfl) rfl
    · intro a W hI hun haft hi
      have f46 : a.eval (.tmp 57) = .bool true := haft ⟨46, .data⟩ (by simp) rfl _ _ rfl rfl
      exact b_same hi hI rfl _ (run_move_op rfl f46) rfl
    · intro a W hI hun haft hi
      have fg : a.eval (.tmp 58) = .bool true := haft ⟨47, .guard⟩ (by simp) rfl _ _ rfl rfl
      have e1 : a.eval (.tmp 1) = .pointer (some ⟨w.heap.size, 0, none⟩) := hun 1 (by kernel_rfl)
      exact b_same hi hI (guard_ok rfl rfl rfl fg) _ (run_load_op rfl e1 (Blk.below H1.out hI (Blk.lt H1.out)) Try.underlying23 rfl (sizeV _)) rfl
    · intro a W hI hun haft hi
      have fg : a.eval (.tmp 58) = .bool true := haft ⟨47, .guard⟩ (by simp) rfl _ _ rfl rfl
      have f48 : a.eval (.tmp 59) = .agg (vA e1) := haft ⟨48, .data⟩ (by simp) rfl _ _ rfl rfl
      refine b_call hi hI (guard_ok rfl rfl rfl fg) _ _ (run_call_op (args := #[.agg (vA e1)]) rfl (by simp [f48]) (by kernel_rfl)) ?_
      exact (fx_sum W).mono fun e w' H => ⟨_, H.1, rfl, H.2⟩
    · intro a W hI hun haft hi
      have fg : a.eval (.tmp 58) = .bool true := haft ⟨47, .guard⟩ (by simp) rfl _ _ rfl rfl
      have f49 : a.eval (.tmp 60) = .int .i64 1 := haft ⟨49, .data⟩ (by simp) rfl _ _ rfl rfl
      exact b_same hi hI (guard_ok rfl rfl rfl fg) (.bool true) (run_bin_op rfl f49 rfl (by kernel_rfl) (by kernel_rfl)) rfl
    · intro a W hI hun haft hi
      have f47 : a.eval (.tmp 58) = .bool true := haft ⟨47, .data⟩ (by simp) rfl _ _ rfl rfl
      have f50 : a.eval (.tmp 61) = .bool true := haft ⟨50, .data⟩ (by simp) rfl _ _ rfl rfl
      exact b_same hi hI rfl _ (run_pick_op (b := true) rfl f47 f50 rfl) rfl
    · intro a W hI hun haft hi
      have f51 : a.eval (.tmp 62) = .bool true := haft ⟨51, .data⟩ (by simp) rfl _ _ rfl rfl
      exact b_same hi hI rfl _ (run_move_op rfl f51) rfl
    · intro a W hI hun haft hi
      have fg : a.eval (.tmp 63) = .bool true := haft ⟨52, .guard⟩ (by simp) rfl _ _ rfl rfl
      exact b_same hi hI (guard_ok rfl rfl rfl fg) (.agg (vA em)) (by kernel_rfl) rfl
    · intro a W hI hun haft hi
      have fg : a.eval (.tmp 63) = .bool true := haft ⟨52, .guard⟩ (by simp) rfl _ _ rfl rfl
      have f53 : a.eval (.tmp 64) = .agg (vA em) := haft ⟨53, .data⟩ (by simp) rfl _ _ rfl rfl
      refine b_call hi hI (guard_ok rfl rfl rfl fg) _ _ (run_call_op (args := #[.agg (vA em)]) rfl (by simp [f53]) (by kernel_rfl)) ?_
      exact (fx_right W).mono fun e w' H => ⟨_, H.1, rfl, H.2⟩
    · intro a W hI hun haft hi
      have fg : a.eval (.tmp 63) = .bool true := haft ⟨52, .guard⟩ (by simp) rfl _ _ rfl rfl
      have f54 : a.eval (.tmp 65) = .bool false := haft ⟨54, .data⟩ (by simp) rfl _ _ rfl rfl
      exact b_same hi hI (guard_ok rfl rfl rfl fg) _ (run_not_op rfl f54) rfl
    · intro a W hI hun haft hi
      have f52 : a.eval (.tmp 63) = .bool true := haft ⟨52, .data⟩ (by simp) rfl _ _ rfl rfl
      have f55 : a.eval (.tmp 66) = .bool true := haft ⟨55, .data⟩ (by simp) rfl _ _ rfl rfl
      exact b_same hi hI rfl _ (run_pick_op (b := true) rfl f52 f55 rfl) rfl
    · intro a W hI hun haft hi
      have f56 : a.eval (.tmp 67) = .bool true := haft ⟨56, .data⟩ (by simp) rfl _ _ rfl rfl
      exact b_same hi hI rfl _ (run_move_op rfl f56) rfl
    · intro a W hI hun haft hi
      have fg : a.eval (.tmp 68) = .bool true := haft ⟨57, .guard⟩ (by simp) rfl _ _ rfl rfl
      exact b_same hi hI (guard_ok rfl rfl rfl fg) (dv 0 0) (by kernel_rfl) rfl
    · intro a W hI hun haft hi
      have fg : a.eval (.tmp 68) = .bool true := haft ⟨57, .guard⟩ (by simp) rfl _ _ rfl rfl
      have f58 : a.eval (.tmp 69) = dv 0 0 := haft ⟨58, .data⟩ (by simp) rfl _ _ rfl rfl
      refine b_call hi hI (guard_ok rfl rfl rfl fg) _ _ (run_call_op (args := #[dv 0 0]) rfl (by simp [f58]) (by kernel_rfl)) ?_
      exact (fx_dot W).mono fun e w' H => ⟨_, H.1, rfl, H.2⟩
    · intro a W hI hun haft hi
      have fg : a.eval (.tmp 68) = .bool true := haft ⟨57, .guard⟩ (by simp) rfl _ _ rfl rfl
      have f59 : a.eval (.tmp 70) = .bool false := haft ⟨59, .data⟩ (by simp) rfl _ _ rfl rfl
      exact b_same hi hI (guard_ok rfl rfl rfl fg) _ (run_not_op rfl f59) rfl
    · intro a W hI hun haft hi
      have f57 : a.eval (.tmp 68) = .bool true := haft ⟨57, .data⟩ (by simp) rfl _ _ rfl rfl
      have f60 : a.eval (.tmp 71) = .bool true := haft ⟨60, .data⟩ (by simp) rfl _ _ rfl rfl
      exact b_same hi hI rfl _ (run_pick_op (b := true) rfl f57 f60 rfl) rfl
    · intro a W hI hun haft hi
      have f61 : a.eval (.tmp 72) = .bool true := haft ⟨61, .data⟩ (by simp) rfl _ _ rfl rfl
      exact b_same hi hI rfl _ (run_assign_op rfl f61) rfl
  · intro vals W hI hp
    have hl62 : vals 62 = .bool true := hp 62 (by decide)
    have HI := Lib.hid hI
    clear hp hI
    simp only [layN, List.size_toArray, List.length_cons, List.length_nil, List.range, List.range.loop, if_true, List.getElem?_toArray, List.getElem?_cons_zero, List.getElem?_cons_succ, Act.put, List.setIfInBounds_toArray, List.set_cons_zero, List.set_cons_succ, Nat.zero_add, Nat.reduceAdd, hl62]
    clear hl62
    go_wp2
    go_ret
    exact ⟨rfl, HW.out.trans (HI.out.mono HW.out.size)⟩

end Go.Proofs.Ytcgbiikphcgoaaa
