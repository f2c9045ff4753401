/-
  hedgerowlaw05.VectorSums: the walk: for all vectors the call returns true, and nothing that was there has turned. Conditions: none.
-/
import Derived.Test.YtcgbiikphcgoaaaVecTurns
namespace Go.Proofs.Ytcgbiikphcgoaaa
open Go.RowKit

theorem right_iff (f : Nat → Int) : rightV f = true ↔ ∀ i, i < 16 → 0 ≤ f i ∧ f i ≤ 1048576 := by
  unfold rightV
  rw [eqV_iff]
  refine forall_congr' fun i => forall_congr' fun _ => ?_
  unfold clampV; omega
/-- The sum of numbers that may be: no bound is met. -/
theorem sumN_right (f : Nat → Int) (h : ∀ i, i < 16 → 0 ≤ f i ∧ f i ≤ 1048576) : ∀ k, k ≤ 16 → 0 ≤ sumN f k ∧ sumN f k ≤ 1048576 * k ∧ ∀ j, j + 1 = k → sumN f k = sumN f j + f j := by
  intro k
  induction k with
  | zero => intro _; exact ⟨by simp [sumN], by simp [sumN], fun j hj => by omega⟩
  | succ k ih =>
    intro hk
    obtain ⟨h1, h2, _⟩ := ih (by omega)
    have hf := h k (by omega)
    have e : sumN f (k + 1) = sumN f k + f k := by simp only [sumN]; omega
    refine ⟨by omega, by rw [e]; omega, fun j hj => ?_⟩
    obtain rfl : j = k := by omega
    exact e
theorem right_join (f g : Nat → Int) (hf : rightV f = true) (hg : rightV g = true) : rightV (joinV f g) = true := by
  rw [right_iff] at *
  intro i hi
  have := hf i hi; have := hg i hi
  unfold joinV; omega
theorem right_meet (f g : Nat → Int) (hf : rightV f = true) (hg : rightV g = true) : rightV (meetV f g) = true := by
  rw [right_iff] at *
  intro i hi
  have := hf i hi; have := hg i hi
  unfold meetV; omega
theorem sums_all (f g : Nat → Int) (hf : rightV f = true) (hg : rightV g = true) : sumN (joinV f g) 16 + sumN (meetV f g) 16 = sumN f 16 + sumN g 16 := by
  have h1 := sumN_right _ ((right_iff _).1 (right_join f g hf hg))
  have h2 := sumN_right _ ((right_iff _).1 (right_meet f g hf hg))
  have h3 := sumN_right _ ((right_iff _).1 hf)
  have h4 := sumN_right _ ((right_iff _).1 hg)
  have key : ∀ k, k ≤ 16 → sumN (joinV f g) k + sumN (meetV f g) k = sumN f k + sumN g k := by
    intro k
    induction k with
    | zero => intro _; simp [sumN]
    | succ k ih =>
      intro hk
      have := ih (by omega)
      rw [(h1 (k + 1) hk).2.2 k rfl, (h2 (k + 1) hk).2.2 k rfl, (h3 (k + 1) hk).2.2 k rfl, (h4 (k + 1) hk).2.2 k rfl]
      unfold joinV meetV at *
      omega
  exact key 16 (Nat.le_refl _)
theorem sum_small (f : Nat → Int) (hf : rightV f = true) : 0 ≤ sumN f 16 ∧ sumN f 16 ≤ 16777216 := by
  have := sumN_right _ ((right_iff _).1 hf) 16 (Nat.le_refl _)
  omega
theorem right_is (f : Nat → Int) (b : Bool) (h : rightV f = b) (w : World) : Calls Try.prog 16 #[.agg (vA f)] w fun e w' => e = .returned (.bool b) ∧ Below w.heap.size w w' := by
  have := right_any f w
  rwa [h] at this
theorem run_sums {a b c d : Int} (h : a + b = c + d) (w : World) : (binOp .eql 3 (.int .i64 (a + b)) (.int .i64 (c + d))).run Try.prog w = .ok (.bool true) w := by rw [h]; go_simp
theorem run_plus {a b : Int} (ha : 0 ≤ a ∧ a ≤ 16777216) (hb : 0 ≤ b ∧ b ≤ 16777216) (w : World) : (binOp .add 3 (.int .i64 a) (.int .i64 b)).run Try.prog w = .ok (.int .i64 (a + b)) w := by
  have hw := IntWalk.i64_in (a + b) (by omega)
  go_simp
theorem guardI (x y : Operand) (a b : Int) (w : World) (op : BinOp) (t : TypeId) : (eqGuard op t x y (.int .i64 a) (.int .i64 b)).run Try.prog w = .ok () w := by cases op <;> go_simp

set_option maxRecDepth 100000 in
set_option maxHeartbeats 4000000 in
theorem sums_walk (f g : Nat → Int) (w : World) : Calls Try.prog 6 #[.agg (vA f), .agg (vA g)] w (Law w) := by
  obtain ⟨X, hX⟩ : ∃ X, X = (w.alloc (.cells (vA f) 23)).alloc (.cells (vA g) 23) := ⟨_, rfl⟩
  have hv1 : VB X w.heap.size f := by rw [hX]; exact (VB.new_ f rfl).alloc_ _
  have hv2 : VB X (w.heap.size + 1) g := by rw [hX]; exact VB.new_ g (by simp)
  have hb : Below w.heap.size w X := by rw [hX]; exact ((Below.refl _ _).alloc (Nat.le_refl _) _).alloc (by simp) _
  have HX := Lib.hid hX
  have H1 := Lib.hid hv1
  have H2 := Lib.hid hv2
  have HB := Lib.hid hb
  clear hX hv1 hv2 hb
  cases hf : rightV f
  · have RF := Lib.hid (right_is f _ hf)
    clear hf
    go_enter Try.func6, Try.ntmps6
    go_wp2_with fail
    rw [← HX.out]
    refine (fixed_any X).mono ?_
    rintro e Y ⟨rfl, hby⟩
    have h1 := H1.out.keep hby
    have h2 := H2.out.keep hby
    have hw := HB.out.trans (hby.mono HB.out.size)
    have K1 := Lib.hid h1
    have K2 := Lib.hid h2
    have HW := Lib.hid hw
    clear h1 h2 hw hby H1 H2 HB HX
    go_wp2_with (first | (refine wpList_load_if rfl 23 (.tmp 2) rfl w.heap.size rfl _ _ _ _ K1.out Try.underlying23 rfl (sizeV f) ?_) | (refine wpList_load_if rfl 23 (.tmp 3) rfl (w.heap.size + 1) rfl _ _ _ _ K2.out Try.underlying23 rfl (sizeV g) ?_))
    refine (RF.out _).mono ?_
    rintro e Z ⟨rfl, hz⟩
    have HW' := Lib.hid (HW.out.trans (hz.mono HW.out.size))
    clear hz HW
    go_wp2
    go_ret
    exact ⟨rfl, HW'.out⟩
  · cases hg : rightV g
    · have RF := Lib.hid (right_is f _ hf)
      have RG := Lib.hid (right_is g _ hg)
      clear hf hg
      go_enter Try.func6, Try.ntmps6
      go_wp2_with fail
      rw [← HX.out]
      refine (fixed_any X).mono ?_
      rintro e Y ⟨rfl, hby⟩
      have h1 := H1.out.keep hby
      have h2 := H2.out.keep hby
      have hw := HB.out.trans (hby.mono HB.out.size)
      have K1 := Lib.hid h1
      have K2 := Lib.hid h2
      have HW := Lib.hid hw
      clear h1 h2 hw hby H1 H2 HB HX
      go_wp2_with (first | (refine wpList_load_if rfl 23 (.tmp 2) rfl w.heap.size rfl _ _ _ _ K1.out Try.underlying23 rfl (sizeV f) ?_) | (refine wpList_load_if rfl 23 (.tmp 3) rfl (w.heap.size + 1) rfl _ _ _ _ K2.out Try.underlying23 rfl (sizeV g) ?_))
      refine (RF.out _).mono ?_
      rintro e Z ⟨rfl, hz⟩
      have HW' := Lib.hid (HW.out.trans (hz.mono HW.out.size))
      have J1 := Lib.hid (Blk.below K1.out hz (Blk.lt K1.out))
      have J2 := Lib.hid (Blk.below K2.out hz (Blk.lt K2.out))
      clear hz HW K1 K2
      go_wp2_with (first | (refine wpList_load_if rfl 23 (.tmp 2) rfl w.heap.size rfl _ _ _ _ J1.out Try.underlying23 rfl (sizeV f) ?_) | (refine wpList_load_if rfl 23 (.tmp 3) rfl (w.heap.size + 1) rfl _ _ _ _ J2.out Try.underlying23 rfl (sizeV g) ?_))
      refine (RG.out _).mono ?_
      rintro e Z2 ⟨rfl, hz⟩
      have HW2 := Lib.hid (HW'.out.trans (hz.mono HW'.out.size))
      clear hz HW'
      go_wp2
      go_ret
      exact ⟨rfl, HW2.out⟩
    · have RF := Lib.hid (right_is f _ hf)
      have RG := Lib.hid (right_is g _ hg)
      have RJ := Lib.hid (right_is _ _ (right_join f g hf hg))
      have RM := Lib.hid (right_is _ _ (right_meet f g hf hg))
      have S1 := Lib.hid (sum_small f hf)
      have S2 := Lib.hid (sum_small g hg)
      have S3 := Lib.hid (sum_small _ (right_join f g hf hg))
      have S4 := Lib.hid (sum_small _ (right_meet f g hf hg))
      have SA := Lib.hid (sums_all f g hf hg)
      clear hf hg
      go_enter Try.func6, Try.ntmps6
      go_wp2_with fail
      rw [← HX.out]
      refine (fixed_any X).mono ?_
      rintro e Y ⟨rfl, hby⟩
      have h1 := H1.out.keep hby
      have h2 := H2.out.keep hby
      have hw := HB.out.trans (hby.mono HB.out.size)
      have K1 := Lib.hid h1
      have K2 := Lib.hid h2
      have HW := Lib.hid hw
      clear h1 h2 hw hby H1 H2 HB HX
      go_wp2_with (first | (refine wpList_load_if rfl 23 (.tmp 2) rfl w.heap.size rfl _ _ _ _ K1.out Try.underlying23 rfl (sizeV f) ?_) | (refine wpList_load_if rfl 23 (.tmp 3) rfl (w.heap.size + 1) rfl _ _ _ _ K2.out Try.underlying23 rfl (sizeV g) ?_))
      refine (RF.out _).mono ?_
      rintro e Z ⟨rfl, hz⟩
      have HW' := Lib.hid (HW.out.trans (hz.mono HW.out.size))
      have J1 := Lib.hid (Blk.below K1.out hz (Blk.lt K1.out))
      have J2 := Lib.hid (Blk.below K2.out hz (Blk.lt K2.out))
      clear hz HW K1 K2
      go_wp2_with (first | (refine wpList_load_if rfl 23 (.tmp 2) rfl w.heap.size rfl _ _ _ _ J1.out Try.underlying23 rfl (sizeV f) ?_) | (refine wpList_load_if rfl 23 (.tmp 3) rfl (w.heap.size + 1) rfl _ _ _ _ J2.out Try.underlying23 rfl (sizeV g) ?_))
      refine (RG.out _).mono ?_
      rintro e Z2 ⟨rfl, hz⟩
      have HW2 := Lib.hid (HW'.out.trans (hz.mono HW'.out.size))
      have I1 := Lib.hid (Blk.below J1.out hz (Blk.lt J1.out))
      have I2 := Lib.hid (Blk.below J2.out hz (Blk.lt J2.out))
      clear hz HW' J1 J2
      go_upto_region 5 with fail
      refine wp_region_any (by kernel_rfl) ?_
      refine wpAny_below (fun i v _ => v = ([.agg (vA f), .agg (vA g), .agg (vA (joinV f g)), .int .i64 (sumN (joinV f g) 16), .agg (vA f), .agg (vA g), .agg (vA (meetV f g)), .int .i64 (sumN (meetV f g) 16), .int .i64 (sumN (joinV f g) 16 + sumN (meetV f g) 16), .agg (vA f), .int .i64 (sumN f 16), .agg (vA g), .int .i64 (sumN g 16), .int .i64 (sumN f 16 + sumN g 16), .bool true, .bool true, .agg (vA f), .agg (vA g), .agg (vA (joinV f g)), .bool true, .bool true, .bool true, .agg (vA f), .agg (vA g), .agg (vA (meetV f g)), .bool true, .bool true, .bool true] : List Value).getD i undef) _ Z2 (by kernel_rfl) (by kernel_rfl) (by kernel_rfl) (fun i v w w' _ h => h) ?_ ?_
      · refine ⟨?_, ?_, ?_, ?_, ?_, ?_, ?_, ?_, ?_, ?_, ?_, ?_, ?_, ?_, ?_, ?_, ?_, ?_, ?_, ?_, ?_, ?_, ?_, ?_, ?_, ?_, ?_, ?_, trivial⟩
        · intro a W hI hun haft hi
          have e2 : a.eval (.tmp 2) = .pointer (some ⟨w.heap.size, 0, none⟩) := hun 2 (by kernel_rfl)
          exact b_same hi hI rfl _ (run_load_op rfl e2 (Blk.below I1.out hI (Blk.lt I1.out)) Try.underlying23 rfl (sizeV f)) rfl
        · intro a W hI hun haft hi
          have e3 : a.eval (.tmp 3) = .pointer (some ⟨w.heap.size + 1, 0, none⟩) := hun 3 (by kernel_rfl)
          exact b_same hi hI rfl _ (run_load_op rfl e3 (Blk.below I2.out hI (Blk.lt I2.out)) Try.underlying23 rfl (sizeV g)) rfl
        · intro a W hI hun haft hi
          have f0 : a.eval (.tmp 15) = .agg (vA f) := haft ⟨0, .data⟩ (by simp) rfl _ _ rfl rfl
          have f1 : a.eval (.tmp 16) = .agg (vA g) := haft ⟨1, .data⟩ (by simp) rfl _ _ rfl rfl
          refine b_call hi hI rfl _ _ (run_call_op (args := #[.agg (vA f), .agg (vA g)]) rfl (by simp [f0, f1]) (by kernel_rfl)) ?_
          exact (join_any f g W).mono fun e w' H => ⟨_, H.1, rfl, H.2⟩
        · intro a W hI hun haft hi
          have f2 : a.eval (.tmp 17) = .agg (vA (joinV f g)) := haft ⟨2, .data⟩ (by simp) rfl _ _ rfl rfl
          refine b_call hi hI rfl _ _ (run_call_op (args := #[.agg (vA (joinV f g))]) rfl (by simp [f2]) (by kernel_rfl)) ?_
          exact (sum_any (joinV f g) W).mono fun e w' H => ⟨_, H.1, rfl, H.2⟩
        · intro a W hI hun haft hi
          have e2 : a.eval (.tmp 2) = .pointer (some ⟨w.heap.size, 0, none⟩) := hun 2 (by kernel_rfl)
          exact b_same hi hI rfl _ (run_load_op rfl e2 (Blk.below I1.out hI (Blk.lt I1.out)) Try.underlying23 rfl (sizeV f)) rfl
        · intro a W hI hun haft hi
          have e3 : a.eval (.tmp 3) = .pointer (some ⟨w.heap.size + 1, 0, none⟩) := hun 3 (by kernel_rfl)
          exact b_same hi hI rfl _ (run_load_op rfl e3 (Blk.below I2.out hI (Blk.lt I2.out)) Try.underlying23 rfl (sizeV g)) rfl
        · intro a W hI hun haft hi
          have f4 : a.eval (.tmp 19) = .agg (vA f) := haft ⟨4, .data⟩ (by simp) rfl _ _ rfl rfl
          have f5 : a.eval (.tmp 20) = .agg (vA g) := haft ⟨5, .data⟩ (by simp) rfl _ _ rfl rfl
          refine b_call hi hI rfl _ _ (run_call_op (args := #[.agg (vA f), .agg (vA g)]) rfl (by simp [f4, f5]) (by kernel_rfl)) ?_
          exact (meet_any f g W).mono fun e w' H => ⟨_, H.1, rfl, H.2⟩
        · intro a W hI hun haft hi
          have f6 : a.eval (.tmp 21) = .agg (vA (meetV f g)) := haft ⟨6, .data⟩ (by simp) rfl _ _ rfl rfl
          refine b_call hi hI rfl _ _ (run_call_op (args := #[.agg (vA (meetV f g))]) rfl (by simp [f6]) (by kernel_rfl)) ?_
          exact (sum_any (meetV f g) W).mono fun e w' H => ⟨_, H.1, rfl, H.2⟩
        · intro a W hI hun haft hi
          have f3 : a.eval (.tmp 18) = .int .i64 (sumN (joinV f g) 16) := haft ⟨3, .data⟩ (by simp) rfl _ _ rfl rfl
          have f7 : a.eval (.tmp 22) = .int .i64 (sumN (meetV f g) 16) := haft ⟨7, .data⟩ (by simp) rfl _ _ rfl rfl
          exact b_same hi hI rfl (.int .i64 (sumN (joinV f g) 16 + sumN (meetV f g) 16)) (run_bin_op rfl f3 f7 (guardI _ _ _ _ _ _ _) (run_plus S3.out S4.out _)) rfl
        · intro a W hI hun haft hi
          have e2 : a.eval (.tmp 2) = .pointer (some ⟨w.heap.size, 0, none⟩) := hun 2 (by kernel_rfl)
          exact b_same hi hI rfl _ (run_load_op rfl e2 (Blk.below I1.out hI (Blk.lt I1.out)) Try.underlying23 rfl (sizeV f)) rfl
        · intro a W hI hun haft hi
          have f9 : a.eval (.tmp 24) = .agg (vA f) := haft ⟨9, .data⟩ (by simp) rfl _ _ rfl rfl
          refine b_call hi hI rfl _ _ (run_call_op (args := #[.agg (vA f)]) rfl (by simp [f9]) (by kernel_rfl)) ?_
          exact (sum_any (f) W).mono fun e w' H => ⟨_, H.1, rfl, H.2⟩
        · intro a W hI hun haft hi
          have e3 : a.eval (.tmp 3) = .pointer (some ⟨w.heap.size + 1, 0, none⟩) := hun 3 (by kernel_rfl)
          exact b_same hi hI rfl _ (run_load_op rfl e3 (Blk.below I2.out hI (Blk.lt I2.out)) Try.underlying23 rfl (sizeV g)) rfl
        · intro a W hI hun haft hi
          have f11 : a.eval (.tmp 26) = .agg (vA g) := haft ⟨11, .data⟩ (by simp) rfl _ _ rfl rfl
          refine b_call hi hI rfl _ _ (run_call_op (args := #[.agg (vA g)]) rfl (by simp [f11]) (by kernel_rfl)) ?_
          exact (sum_any (g) W).mono fun e w' H => ⟨_, H.1, rfl, H.2⟩
        · intro a W hI hun haft hi
          have f10 : a.eval (.tmp 25) = .int .i64 (sumN f 16) := haft ⟨10, .data⟩ (by simp) rfl _ _ rfl rfl
          have f12 : a.eval (.tmp 27) = .int .i64 (sumN g 16) := haft ⟨12, .data⟩ (by simp) rfl _ _ rfl rfl
          exact b_same hi hI rfl (.int .i64 (sumN f 16 + sumN g 16)) (run_bin_op rfl f10 f12 (guardI _ _ _ _ _ _ _) (run_plus S1.out S2.out _)) rfl
        · intro a W hI hun haft hi
          have f8 : a.eval (.tmp 23) = .int .i64 (sumN (joinV f g) 16 + sumN (meetV f g) 16) := haft ⟨8, .data⟩ (by simp) rfl _ _ rfl rfl
          have f13 : a.eval (.tmp 28) = .int .i64 (sumN f 16 + sumN g 16) := haft ⟨13, .data⟩ (by simp) rfl _ _ rfl rfl
          exact b_same hi hI rfl (.bool true) (run_bin_op rfl f8 f13 (guardI _ _ _ _ _ _ _) (run_sums SA.out _)) rfl
        · intro a W hI hun haft hi
          have f14 : a.eval (.tmp 29) = .bool true := haft ⟨14, .data⟩ (by simp) rfl _ _ rfl rfl
          exact b_same hi hI rfl _ (run_move_op rfl f14) rfl
        · intro a W hI hun haft hi
          have fg : a.eval (.tmp 30) = .bool true := haft ⟨15, .guard⟩ (by simp) rfl _ _ rfl rfl
          have e2 : a.eval (.tmp 2) = .pointer (some ⟨w.heap.size, 0, none⟩) := hun 2 (by kernel_rfl)
          exact b_same hi hI (guard_ok rfl rfl rfl fg) _ (run_load_op rfl e2 (Blk.below I1.out hI (Blk.lt I1.out)) Try.underlying23 rfl (sizeV f)) rfl
        · intro a W hI hun haft hi
          have fg : a.eval (.tmp 30) = .bool true := haft ⟨15, .guard⟩ (by simp) rfl _ _ rfl rfl
          have e3 : a.eval (.tmp 3) = .pointer (some ⟨w.heap.size + 1, 0, none⟩) := hun 3 (by kernel_rfl)
          exact b_same hi hI (guard_ok rfl rfl rfl fg) _ (run_load_op rfl e3 (Blk.below I2.out hI (Blk.lt I2.out)) Try.underlying23 rfl (sizeV g)) rfl
        · intro a W hI hun haft hi
          have fg : a.eval (.tmp 30) = .bool true := haft ⟨15, .guard⟩ (by simp) rfl _ _ rfl rfl
          have f16 : a.eval (.tmp 31) = .agg (vA f) := haft ⟨16, .data⟩ (by simp) rfl _ _ rfl rfl
          have f17 : a.eval (.tmp 32) = .agg (vA g) := haft ⟨17, .data⟩ (by simp) rfl _ _ rfl rfl
          refine b_call hi hI (guard_ok rfl rfl rfl fg) _ _ (run_call_op (args := #[.agg (vA f), .agg (vA g)]) rfl (by simp [f16, f17]) (by kernel_rfl)) ?_
          exact (join_any f g W).mono fun e w' H => ⟨_, H.1, rfl, H.2⟩
        · intro a W hI hun haft hi
          have fg : a.eval (.tmp 30) = .bool true := haft ⟨15, .guard⟩ (by simp) rfl _ _ rfl rfl
          have f18 : a.eval (.tmp 33) = .agg (vA (joinV f g)) := haft ⟨18, .data⟩ (by simp) rfl _ _ rfl rfl
          refine b_call hi hI (guard_ok rfl rfl rfl fg) _ _ (run_call_op (args := #[.agg (vA (joinV f g))]) rfl (by simp [f18]) (by kernel_rfl)) ?_
          exact (RJ.out W).mono fun e w' H => ⟨_, H.1, rfl, H.2⟩
        · intro a W hI hun haft hi
          have f15 : a.eval (.tmp 30) = .bool true := haft ⟨15, .data⟩ (by simp) rfl _ _ rfl rfl
          have f19 : a.eval (.tmp 34) = .bool true := haft ⟨19, .data⟩ (by simp) rfl _ _ rfl rfl
          exact b_same hi hI rfl _ (run_pick_op (b := true) rfl f15 f19 rfl) rfl
        · intro a W hI hun haft hi
          have f20 : a.eval (.tmp 35) = .bool true := haft ⟨20, .data⟩ (by simp) rfl _ _ rfl rfl
          exact b_same hi hI rfl _ (run_move_op rfl f20) rfl
        · intro a W hI hun haft hi
          have fg : a.eval (.tmp 36) = .bool true := haft ⟨21, .guard⟩ (by simp) rfl _ _ rfl rfl
          have e2 : a.eval (.tmp 2) = .pointer (some ⟨w.heap.size, 0, none⟩) := hun 2 (by kernel_rfl)
          exact b_same hi hI (guard_ok rfl rfl rfl fg) _ (run_load_op rfl e2 (Blk.below I1.out hI (Blk.lt I1.out)) Try.underlying23 rfl (sizeV f)) rfl
        · intro a W hI hun haft hi
          have fg : a.eval (.tmp 36) = .bool true := haft ⟨21, .guard⟩ (by simp) rfl _ _ rfl rfl
          have e3 : a.eval (.tmp 3) = .pointer (some ⟨w.heap.size + 1, 0, none⟩) := hun 3 (by kernel_rfl)
          exact b_same hi hI (guard_ok rfl rfl rfl fg) _ (run_load_op rfl e3 (Blk.below I2.out hI (Blk.lt I2.out)) Try.underlying23 rfl (sizeV g)) rfl
        · intro a W hI hun haft hi
          have fg : a.eval (.tmp 36) = .bool true := haft ⟨21, .guard⟩ (by simp) rfl _ _ rfl rfl
          have f22 : a.eval (.tmp 37) = .agg (vA f) := haft ⟨22, .data⟩ (by simp) rfl _ _ rfl rfl
          have f23 : a.eval (.tmp 38) = .agg (vA g) := haft ⟨23, .data⟩ (by simp) rfl _ _ rfl rfl
          refine b_call hi hI (guard_ok rfl rfl rfl fg) _ _ (run_call_op (args := #[.agg (vA f), .agg (vA g)]) rfl (by simp [f22, f23]) (by kernel_rfl)) ?_
          exact (meet_any f g W).mono fun e w' H => ⟨_, H.1, rfl, H.2⟩
        · intro a W hI hun haft hi
          have fg : a.eval (.tmp 36) = .bool true := haft ⟨21, .guard⟩ (by simp) rfl _ _ rfl rfl
          have f24 : a.eval (.tmp 39) = .agg (vA (meetV f g)) := haft ⟨24, .data⟩ (by simp) rfl _ _ rfl rfl
          refine b_call hi hI (guard_ok rfl rfl rfl fg) _ _ (run_call_op (args := #[.agg (vA (meetV f g))]) rfl (by simp [f24]) (by kernel_rfl)) ?_
          exact (RM.out W).mono fun e w' H => ⟨_, H.1, rfl, H.2⟩
        · intro a W hI hun haft hi
          have f21 : a.eval (.tmp 36) = .bool true := haft ⟨21, .data⟩ (by simp) rfl _ _ rfl rfl
          have f25 : a.eval (.tmp 40) = .bool true := haft ⟨25, .data⟩ (by simp) rfl _ _ rfl rfl
          exact b_same hi hI rfl _ (run_pick_op (b := true) rfl f21 f25 rfl) rfl
        · intro a W hI hun haft hi
          have f26 : a.eval (.tmp 41) = .bool true := haft ⟨26, .data⟩ (by simp) rfl _ _ rfl rfl
          exact b_same hi hI rfl _ (run_assign_op rfl f26) rfl
      · intro vals W hI hp
        have hl27 : vals 27 = .bool true := hp 27 (by decide)
        have HI := Lib.hid hI
        clear hp hI
        simp only [layN, List.size_toArray, List.length_cons, List.length_nil, List.range, List.range.loop, if_true, List.getElem?_toArray, List.getElem?_cons_zero, List.getElem?_cons_succ, Act.put, List.setIfInBounds_toArray, List.set_cons_zero, List.set_cons_succ, Nat.zero_add, Nat.reduceAdd, hl27]
        clear hl27
        go_wp2
        go_ret
        exact ⟨rfl, HW2.out.trans (HI.out.mono HW2.out.size)⟩

end Go.Proofs.Ytcgbiikphcgoaaa
