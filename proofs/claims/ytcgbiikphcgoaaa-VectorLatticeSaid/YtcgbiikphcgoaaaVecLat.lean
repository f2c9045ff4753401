/-
  hedgerowlaw05.VectorLattice: the walk: for all vectors the call returns true, and nothing that was there has turned. Conditions: none.
-/
import Derived.Test.YtcgbiikphcgoaaaVecLatM
namespace Go.Proofs.Ytcgbiikphcgoaaa
open Go.RowKit

set_option maxRecDepth 100000 in
set_option maxHeartbeats 8000000 in
theorem lattice_walk (f g h : Nat → Int) (w : World) : Calls Try.prog 4 #[.agg (vA f), .agg (vA g), .agg (vA h)] w (Law w) := by
  obtain ⟨X, hX⟩ : ∃ X, X = ((w.alloc (.cells (vA f) 23)).alloc (.cells (vA g) 23)).alloc (.cells (vA h) 23) := ⟨_, rfl⟩
  have hv1 : VB X w.heap.size f := by rw [hX]; exact ((VB.new_ f rfl).alloc_ _).alloc_ _
  have hv2 : VB X (w.heap.size + 1) g := by rw [hX]; exact (VB.new_ g (by simp)).alloc_ _
  have hv3 : VB X (w.heap.size + 1 + 1) h := by rw [hX]; exact VB.new_ h (by simp)
  have hb : Below w.heap.size w X := by rw [hX]; exact (((Below.refl _ _).alloc (Nat.le_refl _) _).alloc (by simp) _).alloc (by simp; omega) _
  have HX := Lib.hid hX
  have H1 := Lib.hid hv1
  have H2 := Lib.hid hv2
  have H3 := Lib.hid hv3
  have HB := Lib.hid hb
  clear hX hv1 hv2 hv3 hb
  go_enter Try.func4, Try.ntmps4
  go_wp2_with fail
  rw [← HX.out]
  refine (fixed_any X).mono ?_
  rintro e Y ⟨rfl, hby⟩
  have h1 := H1.out.keep hby
  have h2 := H2.out.keep hby
  have h3 := H3.out.keep hby
  have hw := HB.out.trans (hby.mono HB.out.size)
  have K1 := Lib.hid h1
  have K2 := Lib.hid h2
  have K3 := Lib.hid h3
  have HW := Lib.hid hw
  clear h1 h2 h3 hw hby H1 H2 H3 HB HX
  go_upto_region 3 with fail
  go_cut [7, 8] (fun x y W => ∃ g6 g7, x = pv g6 ∧ y = pv g7 ∧ VB W g6 (joinV f g) ∧ VB W g7 (meetV f g) ∧ Below Y.heap.size Y W)
  case first =>
    refine wp_region_any (by kernel_rfl) ?_
    refine wpAny_inv (LInv Y (fun k => ([.agg (vA f), .agg (vA g), .agg (vA (joinV f g)), .agg (vA f), .agg (vA g), .agg (vA (meetV f g))] : List Value).getD k undef) (joinV f g) (meetV f g)) _ _ (by kernel_rfl) (by kernel_rfl) (by kernel_rfl) ?_ ?_ ?_
    · intro L hL
      refine ⟨(Below.refl _ _).drew, fun k _ hk => ?_, fun hk => ?_, fun hk => ?_, fun hk _ => ?_⟩
      all_goals (rw [hL] at hk; cases hk)
    · refine ⟨?_, ?_, ?_, ?_, ?_, ?_, ?_, ?_, ?_, ?_, trivial⟩
      · intro L vals a W hF hV
        have e : a.eval (.tmp 3) = .pointer (some ⟨w.heap.size, 0, none⟩) := hF.old 3 (by kernel_rfl)
        exact i_val hF rfl _ W (run_load_op rfl e (Blk.below K1.out hV.1 (Blk.lt K1.out)) Try.underlying23 rfl (sizeV _)) (hV.keep 0 (by decide) _ rfl (Below.refl _ _))
      · intro L vals a W hF hV
        have e : a.eval (.tmp 4) = .pointer (some ⟨w.heap.size + 1, 0, none⟩) := hF.old 4 (by kernel_rfl)
        exact i_val hF rfl _ W (run_load_op rfl e (Blk.below K2.out hV.1 (Blk.lt K2.out)) Try.underlying23 rfl (sizeV _)) (hV.keep 1 (by decide) _ rfl (Below.refl _ _))
      · intro L vals a W hF hV
        have e11 : a.eval (.tmp 11) = .agg (vA f) := (hF.slot 0 _ _ rfl rfl (hF.ahead ⟨0, .data⟩ (by simp) rfl)).trans (hV.2.1 0 (by decide) (hF.ahead ⟨0, .data⟩ (by simp) rfl))
        have e12 : a.eval (.tmp 12) = .agg (vA g) := (hF.slot 1 _ _ rfl rfl (hF.ahead ⟨1, .data⟩ (by simp) rfl)).trans (hV.2.1 1 (by decide) (hF.ahead ⟨1, .data⟩ (by simp) rfl))
        refine i_call hF rfl _ _ (run_call_op (args := #[.agg (vA f), .agg (vA g)]) rfl (by simp [e11, e12]) (by kernel_rfl)) ?_
        exact (join_any f g W).mono fun e w' ⟨he, hbw⟩ => ⟨_, he, hV.keep 2 (by decide) _ rfl hbw⟩
      · intro L vals a W hF hV
        have e : a.eval (.tmp 3) = .pointer (some ⟨w.heap.size, 0, none⟩) := hF.old 3 (by kernel_rfl)
        exact i_val hF rfl _ W (run_load_op rfl e (Blk.below K1.out hV.1 (Blk.lt K1.out)) Try.underlying23 rfl (sizeV _)) (hV.keep 3 (by decide) _ rfl (Below.refl _ _))
      · intro L vals a W hF hV
        have e : a.eval (.tmp 4) = .pointer (some ⟨w.heap.size + 1, 0, none⟩) := hF.old 4 (by kernel_rfl)
        exact i_val hF rfl _ W (run_load_op rfl e (Blk.below K2.out hV.1 (Blk.lt K2.out)) Try.underlying23 rfl (sizeV _)) (hV.keep 4 (by decide) _ rfl (Below.refl _ _))
      · intro L vals a W hF hV
        have e14 : a.eval (.tmp 14) = .agg (vA f) := (hF.slot 3 _ _ rfl rfl (hF.ahead ⟨3, .data⟩ (by simp) rfl)).trans (hV.2.1 3 (by decide) (hF.ahead ⟨3, .data⟩ (by simp) rfl))
        have e15 : a.eval (.tmp 15) = .agg (vA g) := (hF.slot 4 _ _ rfl rfl (hF.ahead ⟨4, .data⟩ (by simp) rfl)).trans (hV.2.1 4 (by decide) (hF.ahead ⟨4, .data⟩ (by simp) rfl))
        refine i_call hF rfl _ _ (run_call_op (args := #[.agg (vA f), .agg (vA g)]) rfl (by simp [e14, e15]) (by kernel_rfl)) ?_
        exact (meet_any f g W).mono fun e w' ⟨he, hbw⟩ => ⟨_, he, hV.keep 5 (by decide) _ rfl hbw⟩
      · intro L vals a W hF hV
        have l8 : L 8 = false := by
          cases hk : L 8 with
          | false => rfl
          | true =>
            have := hF.closed 8 _ rfl hk ⟨6, .data⟩ (by simp) rfl
            rw [hF.open_] at this
            cases this
        exact i_val hF rfl _ _ (run_allocV_op rfl) (hV.alloc6 l8)
      · intro L vals a W hF hV
        have l9 : L 9 = false := by
          cases hk : L 9 with
          | false => rfl
          | true =>
            have := hF.closed 9 _ rfl hk ⟨7, .data⟩ (by simp) rfl
            rw [hF.open_] at this
            cases this
        exact i_val hF rfl _ _ (run_allocV_op rfl) (hV.alloc7 l9)
      · intro L vals a W hF hV
        have la : L 6 = true := hF.ahead ⟨6, .data⟩ (by simp) rfl
        obtain ⟨q, q1, q2, q3⟩ := hV.2.2.1 la
        have e7 : a.eval (.tmp 7) = .pointer (some ⟨q, 0, none⟩) := (hF.slot 6 _ _ rfl rfl la).trans q1
        have e13 : a.eval (.tmp 13) = .agg (vA (joinV f g)) := (hF.slot 2 _ _ rfl rfl (hF.ahead ⟨2, .data⟩ (by simp) rfl)).trans (hV.2.1 2 (by decide) (hF.ahead ⟨2, .data⟩ (by simp) rfl))
        exact i_skip hF rfl rfl _ (run_storerow_op rfl e7 e13 q3 (sizeV _) (by rw [vA_size, vA_size]) (vA_one _)) (hV.store8 q q1 la)
      · intro L vals a W hF hV
        have la : L 7 = true := hF.ahead ⟨7, .data⟩ (by simp) rfl
        obtain ⟨q, q1, q2, q3⟩ := hV.2.2.2.1 la
        have e8 : a.eval (.tmp 8) = .pointer (some ⟨q, 0, none⟩) := (hF.slot 7 _ _ rfl rfl la).trans q1
        have e16 : a.eval (.tmp 16) = .agg (vA (meetV f g)) := (hF.slot 5 _ _ rfl rfl (hF.ahead ⟨5, .data⟩ (by simp) rfl)).trans (hV.2.1 5 (by decide) (hF.ahead ⟨5, .data⟩ (by simp) rfl))
        exact i_skip hF rfl rfl _ (run_storerow_op rfl e8 e16 q3 (sizeV _) (by rw [vA_size, vA_size]) (vA_one _)) (hV.store9 q q1 la)
    · intro L vals W hall ⟨hb, _, h6, h7, _⟩
      obtain ⟨g6, a1, _, a3⟩ := h6 (hall 6 (by decide))
      obtain ⟨g7, b1, _, b3⟩ := h7 (hall 7 (by decide))
      rw [hall 8 (by decide)] at a3
      rw [hall 9 (by decide)] at b3
      have A3 := Lib.hid a3
      have B3 := Lib.hid b3
      have HBB := Lib.hid hb
      simp only [layN, List.size_toArray, List.length_cons, List.length_nil, List.range, List.range.loop, if_true, List.getElem?_toArray, List.getElem?_cons_zero, List.getElem?_cons_succ, Act.put, List.setIfInBounds_toArray, List.set_cons_zero, List.set_cons_succ, Nat.zero_add, Nat.reduceAdd, a1, b1]
      clear a1 a3 b1 b3 hb h6 h7 hall
      go_wp2_with fail
      go_meet
      exact ⟨g6, g7, rfl, rfl, A3.out, B3.out, HBB.out⟩
  case rest =>
    obtain ⟨g6, g7, rfl, rfl, k6, k7, hb⟩ := hcut
    have K3_0 := Lib.hid (Blk.below K1.out hb (Blk.lt K1.out))
    have K4_0 := Lib.hid (Blk.below K2.out hb (Blk.lt K2.out))
    have K5_0 := Lib.hid (Blk.below K3.out hb (Blk.lt K3.out))
    have K7_0 := Lib.hid k6
    have K8_0 := Lib.hid k7
    have HW_0 := Lib.hid (HW.out.trans (hb.mono HW.out.size))
    clear k6 k7 hb HW K1 K2 K3
    unfold pv
    go_wp2_with (first | (refine wpList_load_if rfl 23 (.tmp 3) rfl w.heap.size rfl _ _ _ _ K3_0.out Try.underlying23 rfl (sizeV _) ?_) | (refine wpList_load_if rfl 23 (.tmp 4) rfl (w.heap.size + 1) rfl _ _ _ _ K4_0.out Try.underlying23 rfl (sizeV _) ?_) | (refine wpList_load_if rfl 23 (.tmp 5) rfl (w.heap.size + 1 + 1) rfl _ _ _ _ K5_0.out Try.underlying23 rfl (sizeV _) ?_) | (refine wpList_load_if rfl 23 (.tmp 7) rfl g6 rfl _ _ _ _ K7_0.out Try.underlying23 rfl (sizeV _) ?_) | (refine wpList_load_if rfl 23 (.tmp 8) rfl g7 rfl _ _ _ _ K8_0.out Try.underlying23 rfl (sizeV _) ?_))
    refine (below_is _ _ _ (le_join1 f g) _).mono ?_
    rintro e Z1 ⟨rfl, hz⟩
    have K3_1 := Lib.hid (Blk.below K3_0.out hz (Blk.lt K3_0.out))
    have K4_1 := Lib.hid (Blk.below K4_0.out hz (Blk.lt K4_0.out))
    have K5_1 := Lib.hid (Blk.below K5_0.out hz (Blk.lt K5_0.out))
    have K7_1 := Lib.hid (Blk.below K7_0.out hz (Blk.lt K7_0.out))
    have K8_1 := Lib.hid (Blk.below K8_0.out hz (Blk.lt K8_0.out))
    have HW_1 := Lib.hid (HW_0.out.trans (hz.mono HW_0.out.size))
    clear hz HW_0 K3_0 K4_0 K5_0 K7_0 K8_0
    go_wp2_with (first | (refine wpList_load_if rfl 23 (.tmp 3) rfl w.heap.size rfl _ _ _ _ K3_1.out Try.underlying23 rfl (sizeV _) ?_) | (refine wpList_load_if rfl 23 (.tmp 4) rfl (w.heap.size + 1) rfl _ _ _ _ K4_1.out Try.underlying23 rfl (sizeV _) ?_) | (refine wpList_load_if rfl 23 (.tmp 5) rfl (w.heap.size + 1 + 1) rfl _ _ _ _ K5_1.out Try.underlying23 rfl (sizeV _) ?_) | (refine wpList_load_if rfl 23 (.tmp 7) rfl g6 rfl _ _ _ _ K7_1.out Try.underlying23 rfl (sizeV _) ?_) | (refine wpList_load_if rfl 23 (.tmp 8) rfl g7 rfl _ _ _ _ K8_1.out Try.underlying23 rfl (sizeV _) ?_))
    refine (below_is _ _ _ (le_join2 f g) _).mono ?_
    rintro e Z2 ⟨rfl, hz⟩
    have K3_2 := Lib.hid (Blk.below K3_1.out hz (Blk.lt K3_1.out))
    have K4_2 := Lib.hid (Blk.below K4_1.out hz (Blk.lt K4_1.out))
    have K5_2 := Lib.hid (Blk.below K5_1.out hz (Blk.lt K5_1.out))
    have K7_2 := Lib.hid (Blk.below K7_1.out hz (Blk.lt K7_1.out))
    have K8_2 := Lib.hid (Blk.below K8_1.out hz (Blk.lt K8_1.out))
    have HW_2 := Lib.hid (HW_1.out.trans (hz.mono HW_1.out.size))
    clear hz HW_1 K3_1 K4_1 K5_1 K7_1 K8_1
    go_wp2_with (first | (refine wpList_load_if rfl 23 (.tmp 3) rfl w.heap.size rfl _ _ _ _ K3_2.out Try.underlying23 rfl (sizeV _) ?_) | (refine wpList_load_if rfl 23 (.tmp 4) rfl (w.heap.size + 1) rfl _ _ _ _ K4_2.out Try.underlying23 rfl (sizeV _) ?_) | (refine wpList_load_if rfl 23 (.tmp 5) rfl (w.heap.size + 1 + 1) rfl _ _ _ _ K5_2.out Try.underlying23 rfl (sizeV _) ?_) | (refine wpList_load_if rfl 23 (.tmp 7) rfl g6 rfl _ _ _ _ K7_2.out Try.underlying23 rfl (sizeV _) ?_) | (refine wpList_load_if rfl 23 (.tmp 8) rfl g7 rfl _ _ _ _ K8_2.out Try.underlying23 rfl (sizeV _) ?_))
    refine (below_is _ _ _ (le_meet1 f g) _).mono ?_
    rintro e Z3 ⟨rfl, hz⟩
    have K3_3 := Lib.hid (Blk.below K3_2.out hz (Blk.lt K3_2.out))
    have K4_3 := Lib.hid (Blk.below K4_2.out hz (Blk.lt K4_2.out))
    have K5_3 := Lib.hid (Blk.below K5_2.out hz (Blk.lt K5_2.out))
    have K7_3 := Lib.hid (Blk.below K7_2.out hz (Blk.lt K7_2.out))
    have K8_3 := Lib.hid (Blk.below K8_2.out hz (Blk.lt K8_2.out))
    have HW_3 := Lib.hid (HW_2.out.trans (hz.mono HW_2.out.size))
    clear hz HW_2 K3_2 K4_2 K5_2 K7_2 K8_2
    go_wp2_with (first | (refine wpList_load_if rfl 23 (.tmp 3) rfl w.heap.size rfl _ _ _ _ K3_3.out Try.underlying23 rfl (sizeV _) ?_) | (refine wpList_load_if rfl 23 (.tmp 4) rfl (w.heap.size + 1) rfl _ _ _ _ K4_3.out Try.underlying23 rfl (sizeV _) ?_) | (refine wpList_load_if rfl 23 (.tmp 5) rfl (w.heap.size + 1 + 1) rfl _ _ _ _ K5_3.out Try.underlying23 rfl (sizeV _) ?_) | (refine wpList_load_if rfl 23 (.tmp 7) rfl g6 rfl _ _ _ _ K7_3.out Try.underlying23 rfl (sizeV _) ?_) | (refine wpList_load_if rfl 23 (.tmp 8) rfl g7 rfl _ _ _ _ K8_3.out Try.underlying23 rfl (sizeV _) ?_))
    refine (below_is _ _ _ (le_meet2 f g) _).mono ?_
    rintro e Z4 ⟨rfl, hz⟩
    have K3_4 := Lib.hid (Blk.below K3_3.out hz (Blk.lt K3_3.out))
    have K4_4 := Lib.hid (Blk.below K4_3.out hz (Blk.lt K4_3.out))
    have K5_4 := Lib.hid (Blk.below K5_3.out hz (Blk.lt K5_3.out))
    have K7_4 := Lib.hid (Blk.below K7_3.out hz (Blk.lt K7_3.out))
    have K8_4 := Lib.hid (Blk.below K8_3.out hz (Blk.lt K8_3.out))
    have HW_4 := Lib.hid (HW_3.out.trans (hz.mono HW_3.out.size))
    clear hz HW_3 K3_3 K4_3 K5_3 K7_3 K8_3
    go_upto_region 6 with fail
    cases ha : leV f h
    · have HA := Lib.hid ha
      clear ha
      go_wp2_with (first | (refine wpList_load_if rfl 23 (.tmp 3) rfl w.heap.size rfl _ _ _ _ K3_4.out Try.underlying23 rfl (sizeV _) ?_) | (refine wpList_load_if rfl 23 (.tmp 4) rfl (w.heap.size + 1) rfl _ _ _ _ K4_4.out Try.underlying23 rfl (sizeV _) ?_) | (refine wpList_load_if rfl 23 (.tmp 5) rfl (w.heap.size + 1 + 1) rfl _ _ _ _ K5_4.out Try.underlying23 rfl (sizeV _) ?_) | (refine wpList_load_if rfl 23 (.tmp 7) rfl g6 rfl _ _ _ _ K7_4.out Try.underlying23 rfl (sizeV _) ?_) | (refine wpList_load_if rfl 23 (.tmp 8) rfl g7 rfl _ _ _ _ K8_4.out Try.underlying23 rfl (sizeV _) ?_))
      refine (below_is _ _ _ HA.out _).mono ?_
      rintro e Z5 ⟨rfl, hz⟩
      have K3_5 := Lib.hid (Blk.below K3_4.out hz (Blk.lt K3_4.out))
      have K4_5 := Lib.hid (Blk.below K4_4.out hz (Blk.lt K4_4.out))
      have K5_5 := Lib.hid (Blk.below K5_4.out hz (Blk.lt K5_4.out))
      have K7_5 := Lib.hid (Blk.below K7_4.out hz (Blk.lt K7_4.out))
      have K8_5 := Lib.hid (Blk.below K8_4.out hz (Blk.lt K8_4.out))
      have HW_5 := Lib.hid (HW_4.out.trans (hz.mono HW_4.out.size))
      clear hz HW_4 K3_4 K4_4 K5_4 K7_4 K8_4
      go_upto_region 8 with fail
      cases hc : leV h f
      · have HC := Lib.hid hc
        clear hc
        go_wp2_with (first | (refine wpList_load_if rfl 23 (.tmp 3) rfl w.heap.size rfl _ _ _ _ K3_5.out Try.underlying23 rfl (sizeV _) ?_) | (refine wpList_load_if rfl 23 (.tmp 4) rfl (w.heap.size + 1) rfl _ _ _ _ K4_5.out Try.underlying23 rfl (sizeV _) ?_) | (refine wpList_load_if rfl 23 (.tmp 5) rfl (w.heap.size + 1 + 1) rfl _ _ _ _ K5_5.out Try.underlying23 rfl (sizeV _) ?_) | (refine wpList_load_if rfl 23 (.tmp 7) rfl g6 rfl _ _ _ _ K7_5.out Try.underlying23 rfl (sizeV _) ?_) | (refine wpList_load_if rfl 23 (.tmp 8) rfl g7 rfl _ _ _ _ K8_5.out Try.underlying23 rfl (sizeV _) ?_))
        refine (below_is _ _ _ HC.out _).mono ?_
        rintro e Z6 ⟨rfl, hz⟩
        have K3_6 := Lib.hid (Blk.below K3_5.out hz (Blk.lt K3_5.out))
        have K4_6 := Lib.hid (Blk.below K4_5.out hz (Blk.lt K4_5.out))
        have K5_6 := Lib.hid (Blk.below K5_5.out hz (Blk.lt K5_5.out))
        have K7_6 := Lib.hid (Blk.below K7_5.out hz (Blk.lt K7_5.out))
        have K8_6 := Lib.hid (Blk.below K8_5.out hz (Blk.lt K8_5.out))
        have HW_6 := Lib.hid (HW_5.out.trans (hz.mono HW_5.out.size))
        clear hz HW_5 K3_5 K4_5 K5_5 K7_5 K8_5
        go_wp2
        go_ret
        exact ⟨rfl, HW_6.out⟩
      · cases hd : leV h g
        · have HC := Lib.hid hc
          have HD := Lib.hid hd
          clear hc hd
          go_wp2_with (first | (refine wpList_load_if rfl 23 (.tmp 3) rfl w.heap.size rfl _ _ _ _ K3_5.out Try.underlying23 rfl (sizeV _) ?_) | (refine wpList_load_if rfl 23 (.tmp 4) rfl (w.heap.size + 1) rfl _ _ _ _ K4_5.out Try.underlying23 rfl (sizeV _) ?_) | (refine wpList_load_if rfl 23 (.tmp 5) rfl (w.heap.size + 1 + 1) rfl _ _ _ _ K5_5.out Try.underlying23 rfl (sizeV _) ?_) | (refine wpList_load_if rfl 23 (.tmp 7) rfl g6 rfl _ _ _ _ K7_5.out Try.underlying23 rfl (sizeV _) ?_) | (refine wpList_load_if rfl 23 (.tmp 8) rfl g7 rfl _ _ _ _ K8_5.out Try.underlying23 rfl (sizeV _) ?_))
          refine (below_is _ _ _ HC.out _).mono ?_
          rintro e Z7 ⟨rfl, hz⟩
          have K3_7 := Lib.hid (Blk.below K3_5.out hz (Blk.lt K3_5.out))
          have K4_7 := Lib.hid (Blk.below K4_5.out hz (Blk.lt K4_5.out))
          have K5_7 := Lib.hid (Blk.below K5_5.out hz (Blk.lt K5_5.out))
          have K7_7 := Lib.hid (Blk.below K7_5.out hz (Blk.lt K7_5.out))
          have K8_7 := Lib.hid (Blk.below K8_5.out hz (Blk.lt K8_5.out))
          have HW_7 := Lib.hid (HW_5.out.trans (hz.mono HW_5.out.size))
          clear hz HW_5 K3_5 K4_5 K5_5 K7_5 K8_5
          go_wp2_with (first | (refine wpList_load_if rfl 23 (.tmp 3) rfl w.heap.size rfl _ _ _ _ K3_7.out Try.underlying23 rfl (sizeV _) ?_) | (refine wpList_load_if rfl 23 (.tmp 4) rfl (w.heap.size + 1) rfl _ _ _ _ K4_7.out Try.underlying23 rfl (sizeV _) ?_) | (refine wpList_load_if rfl 23 (.tmp 5) rfl (w.heap.size + 1 + 1) rfl _ _ _ _ K5_7.out Try.underlying23 rfl (sizeV _) ?_) | (refine wpList_load_if rfl 23 (.tmp 7) rfl g6 rfl _ _ _ _ K7_7.out Try.underlying23 rfl (sizeV _) ?_) | (refine wpList_load_if rfl 23 (.tmp 8) rfl g7 rfl _ _ _ _ K8_7.out Try.underlying23 rfl (sizeV _) ?_))
          refine (below_is _ _ _ HD.out _).mono ?_
          rintro e Z8 ⟨rfl, hz⟩
          have K3_8 := Lib.hid (Blk.below K3_7.out hz (Blk.lt K3_7.out))
          have K4_8 := Lib.hid (Blk.below K4_7.out hz (Blk.lt K4_7.out))
          have K5_8 := Lib.hid (Blk.below K5_7.out hz (Blk.lt K5_7.out))
          have K7_8 := Lib.hid (Blk.below K7_7.out hz (Blk.lt K7_7.out))
          have K8_8 := Lib.hid (Blk.below K8_7.out hz (Blk.lt K8_7.out))
          have HW_8 := Lib.hid (HW_7.out.trans (hz.mono HW_7.out.size))
          clear hz HW_7 K3_7 K4_7 K5_7 K7_7 K8_7
          go_wp2
          go_ret
          exact ⟨rfl, HW_8.out⟩
        · have HC := Lib.hid hc
          have HD := Lib.hid hd
          have HE := Lib.hid (le_meet3 f g h hc hd)
          clear hc hd
          go_wp2_with (first | (refine wpList_load_if rfl 23 (.tmp 3) rfl w.heap.size rfl _ _ _ _ K3_5.out Try.underlying23 rfl (sizeV _) ?_) | (refine wpList_load_if rfl 23 (.tmp 4) rfl (w.heap.size + 1) rfl _ _ _ _ K4_5.out Try.underlying23 rfl (sizeV _) ?_) | (refine wpList_load_if rfl 23 (.tmp 5) rfl (w.heap.size + 1 + 1) rfl _ _ _ _ K5_5.out Try.underlying23 rfl (sizeV _) ?_) | (refine wpList_load_if rfl 23 (.tmp 7) rfl g6 rfl _ _ _ _ K7_5.out Try.underlying23 rfl (sizeV _) ?_) | (refine wpList_load_if rfl 23 (.tmp 8) rfl g7 rfl _ _ _ _ K8_5.out Try.underlying23 rfl (sizeV _) ?_))
          refine (below_is _ _ _ HC.out _).mono ?_
          rintro e Z9 ⟨rfl, hz⟩
          have K3_9 := Lib.hid (Blk.below K3_5.out hz (Blk.lt K3_5.out))
          have K4_9 := Lib.hid (Blk.below K4_5.out hz (Blk.lt K4_5.out))
          have K5_9 := Lib.hid (Blk.below K5_5.out hz (Blk.lt K5_5.out))
          have K7_9 := Lib.hid (Blk.below K7_5.out hz (Blk.lt K7_5.out))
          have K8_9 := Lib.hid (Blk.below K8_5.out hz (Blk.lt K8_5.out))
          have HW_9 := Lib.hid (HW_5.out.trans (hz.mono HW_5.out.size))
          clear hz HW_5 K3_5 K4_5 K5_5 K7_5 K8_5
          go_wp2_with (first | (refine wpList_load_if rfl 23 (.tmp 3) rfl w.heap.size rfl _ _ _ _ K3_9.out Try.underlying23 rfl (sizeV _) ?_) | (refine wpList_load_if rfl 23 (.tmp 4) rfl (w.heap.size + 1) rfl _ _ _ _ K4_9.out Try.underlying23 rfl (sizeV _) ?_) | (refine wpList_load_if rfl 23 (.tmp 5) rfl (w.heap.size + 1 + 1) rfl _ _ _ _ K5_9.out Try.underlying23 rfl (sizeV _) ?_) | (refine wpList_load_if rfl 23 (.tmp 7) rfl g6 rfl _ _ _ _ K7_9.out Try.underlying23 rfl (sizeV _) ?_) | (refine wpList_load_if rfl 23 (.tmp 8) rfl g7 rfl _ _ _ _ K8_9.out Try.underlying23 rfl (sizeV _) ?_))
          refine (below_is _ _ _ HD.out _).mono ?_
          rintro e Z10 ⟨rfl, hz⟩
          have K3_10 := Lib.hid (Blk.below K3_9.out hz (Blk.lt K3_9.out))
          have K4_10 := Lib.hid (Blk.below K4_9.out hz (Blk.lt K4_9.out))
          have K5_10 := Lib.hid (Blk.below K5_9.out hz (Blk.lt K5_9.out))
          have K7_10 := Lib.hid (Blk.below K7_9.out hz (Blk.lt K7_9.out))
          have K8_10 := Lib.hid (Blk.below K8_9.out hz (Blk.lt K8_9.out))
          have HW_10 := Lib.hid (HW_9.out.trans (hz.mono HW_9.out.size))
          clear hz HW_9 K3_9 K4_9 K5_9 K7_9 K8_9
          go_wp2_with (first | (refine wpList_load_if rfl 23 (.tmp 3) rfl w.heap.size rfl _ _ _ _ K3_10.out Try.underlying23 rfl (sizeV _) ?_) | (refine wpList_load_if rfl 23 (.tmp 4) rfl (w.heap.size + 1) rfl _ _ _ _ K4_10.out Try.underlying23 rfl (sizeV _) ?_) | (refine wpList_load_if rfl 23 (.tmp 5) rfl (w.heap.size + 1 + 1) rfl _ _ _ _ K5_10.out Try.underlying23 rfl (sizeV _) ?_) | (refine wpList_load_if rfl 23 (.tmp 7) rfl g6 rfl _ _ _ _ K7_10.out Try.underlying23 rfl (sizeV _) ?_) | (refine wpList_load_if rfl 23 (.tmp 8) rfl g7 rfl _ _ _ _ K8_10.out Try.underlying23 rfl (sizeV _) ?_))
          refine (below_is _ _ _ HE.out _).mono ?_
          rintro e Z11 ⟨rfl, hz⟩
          have K3_11 := Lib.hid (Blk.below K3_10.out hz (Blk.lt K3_10.out))
          have K4_11 := Lib.hid (Blk.below K4_10.out hz (Blk.lt K4_10.out))
          have K5_11 := Lib.hid (Blk.below K5_10.out hz (Blk.lt K5_10.out))
          have K7_11 := Lib.hid (Blk.below K7_10.out hz (Blk.lt K7_10.out))
          have K8_11 := Lib.hid (Blk.below K8_10.out hz (Blk.lt K8_10.out))
          have HW_11 := Lib.hid (HW_10.out.trans (hz.mono HW_10.out.size))
          clear hz HW_10 K3_10 K4_10 K5_10 K7_10 K8_10
          go_wp2
          go_ret
          exact ⟨rfl, HW_11.out⟩
    · cases hb : leV g h
      · have HA := Lib.hid ha
        have HBx := Lib.hid hb
        clear ha hb
        go_wp2_with (first | (refine wpList_load_if rfl 23 (.tmp 3) rfl w.heap.size rfl _ _ _ _ K3_4.out Try.underlying23 rfl (sizeV _) ?_) | (refine wpList_load_if rfl 23 (.tmp 4) rfl (w.heap.size + 1) rfl _ _ _ _ K4_4.out Try.underlying23 rfl (sizeV _) ?_) | (refine wpList_load_if rfl 23 (.tmp 5) rfl (w.heap.size + 1 + 1) rfl _ _ _ _ K5_4.out Try.underlying23 rfl (sizeV _) ?_) | (refine wpList_load_if rfl 23 (.tmp 7) rfl g6 rfl _ _ _ _ K7_4.out Try.underlying23 rfl (sizeV _) ?_) | (refine wpList_load_if rfl 23 (.tmp 8) rfl g7 rfl _ _ _ _ K8_4.out Try.underlying23 rfl (sizeV _) ?_))
        refine (below_is _ _ _ HA.out _).mono ?_
        rintro e Z12 ⟨rfl, hz⟩
        have K3_12 := Lib.hid (Blk.below K3_4.out hz (Blk.lt K3_4.out))
        have K4_12 := Lib.hid (Blk.below K4_4.out hz (Blk.lt K4_4.out))
        have K5_12 := Lib.hid (Blk.below K5_4.out hz (Blk.lt K5_4.out))
        have K7_12 := Lib.hid (Blk.below K7_4.out hz (Blk.lt K7_4.out))
        have K8_12 := Lib.hid (Blk.below K8_4.out hz (Blk.lt K8_4.out))
        have HW_12 := Lib.hid (HW_4.out.trans (hz.mono HW_4.out.size))
        clear hz HW_4 K3_4 K4_4 K5_4 K7_4 K8_4
        go_wp2_with (first | (refine wpList_load_if rfl 23 (.tmp 3) rfl w.heap.size rfl _ _ _ _ K3_12.out Try.underlying23 rfl (sizeV _) ?_) | (refine wpList_load_if rfl 23 (.tmp 4) rfl (w.heap.size + 1) rfl _ _ _ _ K4_12.out Try.underlying23 rfl (sizeV _) ?_) | (refine wpList_load_if rfl 23 (.tmp 5) rfl (w.heap.size + 1 + 1) rfl _ _ _ _ K5_12.out Try.underlying23 rfl (sizeV _) ?_) | (refine wpList_load_if rfl 23 (.tmp 7) rfl g6 rfl _ _ _ _ K7_12.out Try.underlying23 rfl (sizeV _) ?_) | (refine wpList_load_if rfl 23 (.tmp 8) rfl g7 rfl _ _ _ _ K8_12.out Try.underlying23 rfl (sizeV _) ?_))
        refine (below_is _ _ _ HBx.out _).mono ?_
        rintro e Z13 ⟨rfl, hz⟩
        have K3_13 := Lib.hid (Blk.below K3_12.out hz (Blk.lt K3_12.out))
        have K4_13 := Lib.hid (Blk.below K4_12.out hz (Blk.lt K4_12.out))
        have K5_13 := Lib.hid (Blk.below K5_12.out hz (Blk.lt K5_12.out))
        have K7_13 := Lib.hid (Blk.below K7_12.out hz (Blk.lt K7_12.out))
        have K8_13 := Lib.hid (Blk.below K8_12.out hz (Blk.lt K8_12.out))
        have HW_13 := Lib.hid (HW_12.out.trans (hz.mono HW_12.out.size))
        clear hz HW_12 K3_12 K4_12 K5_12 K7_12 K8_12
        go_upto_region 8 with fail
        cases hc : leV h f
        · have HC := Lib.hid hc
          clear hc
          go_wp2_with (first | (refine wpList_load_if rfl 23 (.tmp 3) rfl w.heap.size rfl _ _ _ _ K3_13.out Try.underlying23 rfl (sizeV _) ?_) | (refine wpList_load_if rfl 23 (.tmp 4) rfl (w.heap.size + 1) rfl _ _ _ _ K4_13.out Try.underlying23 rfl (sizeV _) ?_) | (refine wpList_load_if rfl 23 (.tmp 5) rfl (w.heap.size + 1 + 1) rfl _ _ _ _ K5_13.out Try.underlying23 rfl (sizeV _) ?_) | (refine wpList_load_if rfl 23 (.tmp 7) rfl g6 rfl _ _ _ _ K7_13.out Try.underlying23 rfl (sizeV _) ?_) | (refine wpList_load_if rfl 23 (.tmp 8) rfl g7 rfl _ _ _ _ K8_13.out Try.underlying23 rfl (sizeV _) ?_))
          refine (below_is _ _ _ HC.out _).mono ?_
          rintro e Z14 ⟨rfl, hz⟩
          have K3_14 := Lib.hid (Blk.below K3_13.out hz (Blk.lt K3_13.out))
          have K4_14 := Lib.hid (Blk.below K4_13.out hz (Blk.lt K4_13.out))
          have K5_14 := Lib.hid (Blk.below K5_13.out hz (Blk.lt K5_13.out))
          have K7_14 := Lib.hid (Blk.below K7_13.out hz (Blk.lt K7_13.out))
          have K8_14 := Lib.hid (Blk.below K8_13.out hz (Blk.lt K8_13.out))
          have HW_14 := Lib.hid (HW_13.out.trans (hz.mono HW_13.out.size))
          clear hz HW_13 K3_13 K4_13 K5_13 K7_13 K8_13
          go_wp2
          go_ret
          exact ⟨rfl, HW_14.out⟩
        · cases hd : leV h g
          · have HC := Lib.hid hc
            have HD := Lib.hid hd
            clear hc hd
            go_wp2_with (first | (refine wpList_load_if rfl 23 (.tmp 3) rfl w.heap.size rfl _ _ _ _ K3_13.out Try.underlying23 rfl (sizeV _) ?_) | (refine wpList_load_if rfl 23 (.tmp 4) rfl (w.heap.size + 1) rfl _ _ _ _ K4_13.out Try.underlying23 rfl (sizeV _) ?_) | (refine wpList_load_if rfl 23 (.tmp 5) rfl (w.heap.size + 1 + 1) rfl _ _ _ _ K5_13.out Try.underlying23 rfl (sizeV _) ?_) | (refine wpList_load_if rfl 23 (.tmp 7) rfl g6 rfl _ _ _ _ K7_13.out Try.underlying23 rfl (sizeV _) ?_) | (refine wpList_load_if rfl 23 (.tmp 8) rfl g7 rfl _ _ _ _ K8_13.out Try.underlying23 rfl (sizeV _) ?_))
            refine (below_is _ _ _ HC.out _).mono ?_
            rintro e Z15 ⟨rfl, hz⟩
            have K3_15 := Lib.hid (Blk.below K3_13.out hz (Blk.lt K3_13.out))
            have K4_15 := Lib.hid (Blk.below K4_13.out hz (Blk.lt K4_13.out))
            have K5_15 := Lib.hid (Blk.below K5_13.out hz (Blk.lt K5_13.out))
            have K7_15 := Lib.hid (Blk.below K7_13.out hz (Blk.lt K7_13.out))
            have K8_15 := Lib.hid (Blk.below K8_13.out hz (Blk.lt K8_13.out))
            have HW_15 := Lib.hid (HW_13.out.trans (hz.mono HW_13.out.size))
            clear hz HW_13 K3_13 K4_13 K5_13 K7_13 K8_13
            go_wp2_with (first | (refine wpList_load_if rfl 23 (.tmp 3) rfl w.heap.size rfl _ _ _ _ K3_15.out Try.underlying23 rfl (sizeV _) ?_) | (refine wpList_load_if rfl 23 (.tmp 4) rfl (w.heap.size + 1) rfl _ _ _ _ K4_15.out Try.underlying23 rfl (sizeV _) ?_) | (refine wpList_load_if rfl 23 (.tmp 5) rfl (w.heap.size + 1 + 1) rfl _ _ _ _ K5_15.out Try.underlying23 rfl (sizeV _) ?_) | (refine wpList_load_if rfl 23 (.tmp 7) rfl g6 rfl _ _ _ _ K7_15.out Try.underlying23 rfl (sizeV _) ?_) | (refine wpList_load_if rfl 23 (.tmp 8) rfl g7 rfl _ _ _ _ K8_15.out Try.underlying23 rfl (sizeV _) ?_))
            refine (below_is _ _ _ HD.out _).mono ?_
            rintro e Z16 ⟨rfl, hz⟩
            have K3_16 := Lib.hid (Blk.below K3_15.out hz (Blk.lt K3_15.out))
            have K4_16 := Lib.hid (Blk.below K4_15.out hz (Blk.lt K4_15.out))
            have K5_16 := Lib.hid (Blk.below K5_15.out hz (Blk.lt K5_15.out))
            have K7_16 := Lib.hid (Blk.below K7_15.out hz (Blk.lt K7_15.out))
            have K8_16 := Lib.hid (Blk.below K8_15.out hz (Blk.lt K8_15.out))
            have HW_16 := Lib.hid (HW_15.out.trans (hz.mono HW_15.out.size))
            clear hz HW_15 K3_15 K4_15 K5_15 K7_15 K8_15
            go_wp2
            go_ret
            exact ⟨rfl, HW_16.out⟩
          · have HC := Lib.hid hc
            have HD := Lib.hid hd
            have HE := Lib.hid (le_meet3 f g h hc hd)
            clear hc hd
            go_wp2_with (first | (refine wpList_load_if rfl 23 (.tmp 3) rfl w.heap.size rfl _ _ _ _ K3_13.out Try.underlying23 rfl (sizeV _) ?_) | (refine wpList_load_if rfl 23 (.tmp 4) rfl (w.heap.size + 1) rfl _ _ _ _ K4_13.out Try.underlying23 rfl (sizeV _) ?_) | (refine wpList_load_if rfl 23 (.tmp 5) rfl (w.heap.size + 1 + 1) rfl _ _ _ _ K5_13.out Try.underlying23 rfl (sizeV _) ?_) | (refine wpList_load_if rfl 23 (.tmp 7) rfl g6 rfl _ _ _ _ K7_13.out Try.underlying23 rfl (sizeV _) ?_) | (refine wpList_load_if rfl 23 (.tmp 8) rfl g7 rfl _ _ _ _ K8_13.out Try.underlying23 rfl (sizeV _) ?_))
            refine (below_is _ _ _ HC.out _).mono ?_
            rintro e Z17 ⟨rfl, hz⟩
            have K3_17 := Lib.hid (Blk.below K3_13.out hz (Blk.lt K3_13.out))
            have K4_17 := Lib.hid (Blk.below K4_13.out hz (Blk.lt K4_13.out))
            have K5_17 := Lib.hid (Blk.below K5_13.out hz (Blk.lt K5_13.out))
            have K7_17 := Lib.hid (Blk.below K7_13.out hz (Blk.lt K7_13.out))
            have K8_17 := Lib.hid (Blk.below K8_13.out hz (Blk.lt K8_13.out))
            have HW_17 := Lib.hid (HW_13.out.trans (hz.mono HW_13.out.size))
            clear hz HW_13 K3_13 K4_13 K5_13 K7_13 K8_13
            go_wp2_with (first | (refine wpList_load_if rfl 23 (.tmp 3) rfl w.heap.size rfl _ _ _ _ K3_17.out Try.underlying23 rfl (sizeV _) ?_) | (refine wpList_load_if rfl 23 (.tmp 4) rfl (w.heap.size + 1) rfl _ _ _ _ K4_17.out Try.underlying23 rfl (sizeV _) ?_) | (refine wpList_load_if rfl 23 (.tmp 5) rfl (w.heap.size + 1 + 1) rfl _ _ _ _ K5_17.out Try.underlying23 rfl (sizeV _) ?_) | (refine wpList_load_if rfl 23 (.tmp 7) rfl g6 rfl _ _ _ _ K7_17.out Try.underlying23 rfl (sizeV _) ?_) | (refine wpList_load_if rfl 23 (.tmp 8) rfl g7 rfl _ _ _ _ K8_17.out Try.underlying23 rfl (sizeV _) ?_))
            refine (below_is _ _ _ HD.out _).mono ?_
            rintro e Z18 ⟨rfl, hz⟩
            have K3_18 := Lib.hid (Blk.below K3_17.out hz (Blk.lt K3_17.out))
            have K4_18 := Lib.hid (Blk.below K4_17.out hz (Blk.lt K4_17.out))
            have K5_18 := Lib.hid (Blk.below K5_17.out hz (Blk.lt K5_17.out))
            have K7_18 := Lib.hid (Blk.below K7_17.out hz (Blk.lt K7_17.out))
            have K8_18 := Lib.hid (Blk.below K8_17.out hz (Blk.lt K8_17.out))
            have HW_18 := Lib.hid (HW_17.out.trans (hz.mono HW_17.out.size))
            clear hz HW_17 K3_17 K4_17 K5_17 K7_17 K8_17
            go_wp2_with (first | (refine wpList_load_if rfl 23 (.tmp 3) rfl w.heap.size rfl _ _ _ _ K3_18.out Try.underlying23 rfl (sizeV _) ?_) | (refine wpList_load_if rfl 23 (.tmp 4) rfl (w.heap.size + 1) rfl _ _ _ _ K4_18.out Try.underlying23 rfl (sizeV _) ?_) | (refine wpList_load_if rfl 23 (.tmp 5) rfl (w.heap.size + 1 + 1) rfl _ _ _ _ K5_18.out Try.underlying23 rfl (sizeV _) ?_) | (refine wpList_load_if rfl 23 (.tmp 7) rfl g6 rfl _ _ _ _ K7_18.out Try.underlying23 rfl (sizeV _) ?_) | (refine wpList_load_if rfl 23 (.tmp 8) rfl g7 rfl _ _ _ _ K8_18.out Try.underlying23 rfl (sizeV _) ?_))
            refine (below_is _ _ _ HE.out _).mono ?_
            rintro e Z19 ⟨rfl, hz⟩
            have K3_19 := Lib.hid (Blk.below K3_18.out hz (Blk.lt K3_18.out))
            have K4_19 := Lib.hid (Blk.below K4_18.out hz (Blk.lt K4_18.out))
            have K5_19 := Lib.hid (Blk.below K5_18.out hz (Blk.lt K5_18.out))
            have K7_19 := Lib.hid (Blk.below K7_18.out hz (Blk.lt K7_18.out))
            have K8_19 := Lib.hid (Blk.below K8_18.out hz (Blk.lt K8_18.out))
            have HW_19 := Lib.hid (HW_18.out.trans (hz.mono HW_18.out.size))
            clear hz HW_18 K3_18 K4_18 K5_18 K7_18 K8_18
            go_wp2
            go_ret
            exact ⟨rfl, HW_19.out⟩
      · have HA := Lib.hid ha
        have HBx := Lib.hid hb
        have HJ := Lib.hid (le_join3 f g h ha hb)
        clear ha hb
        go_wp2_with (first | (refine wpList_load_if rfl 23 (.tmp 3) rfl w.heap.size rfl _ _ _ _ K3_4.out Try.underlying23 rfl (sizeV _) ?_) | (refine wpList_load_if rfl 23 (.tmp 4) rfl (w.heap.size + 1) rfl _ _ _ _ K4_4.out Try.underlying23 rfl (sizeV _) ?_) | (refine wpList_load_if rfl 23 (.tmp 5) rfl (w.heap.size + 1 + 1) rfl _ _ _ _ K5_4.out Try.underlying23 rfl (sizeV _) ?_) | (refine wpList_load_if rfl 23 (.tmp 7) rfl g6 rfl _ _ _ _ K7_4.out Try.underlying23 rfl (sizeV _) ?_) | (refine wpList_load_if rfl 23 (.tmp 8) rfl g7 rfl _ _ _ _ K8_4.out Try.underlying23 rfl (sizeV _) ?_))
        refine (below_is _ _ _ HA.out _).mono ?_
        rintro e Z20 ⟨rfl, hz⟩
        have K3_20 := Lib.hid (Blk.below K3_4.out hz (Blk.lt K3_4.out))
        have K4_20 := Lib.hid (Blk.below K4_4.out hz (Blk.lt K4_4.out))
        have K5_20 := Lib.hid (Blk.below K5_4.out hz (Blk.lt K5_4.out))
        have K7_20 := Lib.hid (Blk.below K7_4.out hz (Blk.lt K7_4.out))
        have K8_20 := Lib.hid (Blk.below K8_4.out hz (Blk.lt K8_4.out))
        have HW_20 := Lib.hid (HW_4.out.trans (hz.mono HW_4.out.size))
        clear hz HW_4 K3_4 K4_4 K5_4 K7_4 K8_4
        go_wp2_with (first | (refine wpList_load_if rfl 23 (.tmp 3) rfl w.heap.size rfl _ _ _ _ K3_20.out Try.underlying23 rfl (sizeV _) ?_) | (refine wpList_load_if rfl 23 (.tmp 4) rfl (w.heap.size + 1) rfl _ _ _ _ K4_20.out Try.underlying23 rfl (sizeV _) ?_) | (refine wpList_load_if rfl 23 (.tmp 5) rfl (w.heap.size + 1 + 1) rfl _ _ _ _ K5_20.out Try.underlying23 rfl (sizeV _) ?_) | (refine wpList_load_if rfl 23 (.tmp 7) rfl g6 rfl _ _ _ _ K7_20.out Try.underlying23 rfl (sizeV _) ?_) | (refine wpList_load_if rfl 23 (.tmp 8) rfl g7 rfl _ _ _ _ K8_20.out Try.underlying23 rfl (sizeV _) ?_))
        refine (below_is _ _ _ HBx.out _).mono ?_
        rintro e Z21 ⟨rfl, hz⟩
        have K3_21 := Lib.hid (Blk.below K3_20.out hz (Blk.lt K3_20.out))
        have K4_21 := Lib.hid (Blk.below K4_20.out hz (Blk.lt K4_20.out))
        have K5_21 := Lib.hid (Blk.below K5_20.out hz (Blk.lt K5_20.out))
        have K7_21 := Lib.hid (Blk.below K7_20.out hz (Blk.lt K7_20.out))
        have K8_21 := Lib.hid (Blk.below K8_20.out hz (Blk.lt K8_20.out))
        have HW_21 := Lib.hid (HW_20.out.trans (hz.mono HW_20.out.size))
        clear hz HW_20 K3_20 K4_20 K5_20 K7_20 K8_20
        go_wp2_with (first | (refine wpList_load_if rfl 23 (.tmp 3) rfl w.heap.size rfl _ _ _ _ K3_21.out Try.underlying23 rfl (sizeV _) ?_) | (refine wpList_load_if rfl 23 (.tmp 4) rfl (w.heap.size + 1) rfl _ _ _ _ K4_21.out Try.underlying23 rfl (sizeV _) ?_) | (refine wpList_load_if rfl 23 (.tmp 5) rfl (w.heap.size + 1 + 1) rfl _ _ _ _ K5_21.out Try.underlying23 rfl (sizeV _) ?_) | (refine wpList_load_if rfl 23 (.tmp 7) rfl g6 rfl _ _ _ _ K7_21.out Try.underlying23 rfl (sizeV _) ?_) | (refine wpList_load_if rfl 23 (.tmp 8) rfl g7 rfl _ _ _ _ K8_21.out Try.underlying23 rfl (sizeV _) ?_))
        refine (below_is _ _ _ HJ.out _).mono ?_
        rintro e Z22 ⟨rfl, hz⟩
        have K3_22 := Lib.hid (Blk.below K3_21.out hz (Blk.lt K3_21.out))
        have K4_22 := Lib.hid (Blk.below K4_21.out hz (Blk.lt K4_21.out))
        have K5_22 := Lib.hid (Blk.below K5_21.out hz (Blk.lt K5_21.out))
        have K7_22 := Lib.hid (Blk.below K7_21.out hz (Blk.lt K7_21.out))
        have K8_22 := Lib.hid (Blk.below K8_21.out hz (Blk.lt K8_21.out))
        have HW_22 := Lib.hid (HW_21.out.trans (hz.mono HW_21.out.size))
        clear hz HW_21 K3_21 K4_21 K5_21 K7_21 K8_21
        go_upto_region 8 with fail
        cases hc : leV h f
        · have HC := Lib.hid hc
          clear hc
          go_wp2_with (first | (refine wpList_load_if rfl 23 (.tmp 3) rfl w.heap.size rfl _ _ _ _ K3_22.out Try.underlying23 rfl (sizeV _) ?_) | (refine wpList_load_if rfl 23 (.tmp 4) rfl (w.heap.size + 1) rfl _ _ _ _ K4_22.out Try.underlying23 rfl (sizeV _) ?_) | (refine wpList_load_if rfl 23 (.tmp 5) rfl (w.heap.size + 1 + 1) rfl _ _ _ _ K5_22.out Try.underlying23 rfl (sizeV _) ?_) | (refine wpList_load_if rfl 23 (.tmp 7) rfl g6 rfl _ _ _ _ K7_22.out Try.underlying23 rfl (sizeV _) ?_) | (refine wpList_load_if rfl 23 (.tmp 8) rfl g7 rfl _ _ _ _ K8_22.out Try.underlying23 rfl (sizeV _) ?_))
          refine (below_is _ _ _ HC.out _).mono ?_
          rintro e Z23 ⟨rfl, hz⟩
          have K3_23 := Lib.hid (Blk.below K3_22.out hz (Blk.lt K3_22.out))
          have K4_23 := Lib.hid (Blk.below K4_22.out hz (Blk.lt K4_22.out))
          have K5_23 := Lib.hid (Blk.below K5_22.out hz (Blk.lt K5_22.out))
          have K7_23 := Lib.hid (Blk.below K7_22.out hz (Blk.lt K7_22.out))
          have K8_23 := Lib.hid (Blk.below K8_22.out hz (Blk.lt K8_22.out))
          have HW_23 := Lib.hid (HW_22.out.trans (hz.mono HW_22.out.size))
          clear hz HW_22 K3_22 K4_22 K5_22 K7_22 K8_22
          go_wp2
          go_ret
          exact ⟨rfl, HW_23.out⟩
        · cases hd : leV h g
          · have HC := Lib.hid hc
            have HD := Lib.hid hd
            clear hc hd
            go_wp2_with (first | (refine wpList_load_if rfl 23 (.tmp 3) rfl w.heap.size rfl _ _ _ _ K3_22.out Try.underlying23 rfl (sizeV _) ?_) | (refine wpList_load_if rfl 23 (.tmp 4) rfl (w.heap.size + 1) rfl _ _ _ _ K4_22.out Try.underlying23 rfl (sizeV _) ?_) | (refine wpList_load_if rfl 23 (.tmp 5) rfl (w.heap.size + 1 + 1) rfl _ _ _ _ K5_22.out Try.underlying23 rfl (sizeV _) ?_) | (refine wpList_load_if rfl 23 (.tmp 7) rfl g6 rfl _ _ _ _ K7_22.out Try.underlying23 rfl (sizeV _) ?_) | (refine wpList_load_if rfl 23 (.tmp 8) rfl g7 rfl _ _ _ _ K8_22.out Try.underlying23 rfl (sizeV _) ?_))
            refine (below_is _ _ _ HC.out _).mono ?_
            rintro e Z24 ⟨rfl, hz⟩
            have K3_24 := Lib.hid (Blk.below K3_22.out hz (Blk.lt K3_22.out))
            have K4_24 := Lib.hid (Blk.below K4_22.out hz (Blk.lt K4_22.out))
            have K5_24 := Lib.hid (Blk.below K5_22.out hz (Blk.lt K5_22.out))
            have K7_24 := Lib.hid (Blk.below K7_22.out hz (Blk.lt K7_22.out))
            have K8_24 := Lib.hid (Blk.below K8_22.out hz (Blk.lt K8_22.out))
            have HW_24 := Lib.hid (HW_22.out.trans (hz.mono HW_22.out.size))
            clear hz HW_22 K3_22 K4_22 K5_22 K7_22 K8_22
            go_wp2_with (first | (refine wpList_load_if rfl 23 (.tmp 3) rfl w.heap.size rfl _ _ _ _ K3_24.out Try.underlying23 rfl (sizeV _) ?_) | (refine wpList_load_if rfl 23 (.tmp 4) rfl (w.heap.size + 1) rfl _ _ _ _ K4_24.out Try.underlying23 rfl (sizeV _) ?_) | (refine wpList_load_if rfl 23 (.tmp 5) rfl (w.heap.size + 1 + 1) rfl _ _ _ _ K5_24.out Try.underlying23 rfl (sizeV _) ?_) | (refine wpList_load_if rfl 23 (.tmp 7) rfl g6 rfl _ _ _ _ K7_24.out Try.underlying23 rfl (sizeV _) ?_) | (refine wpList_load_if rfl 23 (.tmp 8) rfl g7 rfl _ _ _ _ K8_24.out Try.underlying23 rfl (sizeV _) ?_))
            refine (below_is _ _ _ HD.out _).mono ?_
            rintro e Z25 ⟨rfl, hz⟩
            have K3_25 := Lib.hid (Blk.below K3_24.out hz (Blk.lt K3_24.out))
            have K4_25 := Lib.hid (Blk.below K4_24.out hz (Blk.lt K4_24.out))
            have K5_25 := Lib.hid (Blk.below K5_24.out hz (Blk.lt K5_24.out))
            have K7_25 := Lib.hid (Blk.below K7_24.out hz (Blk.lt K7_24.out))
            have K8_25 := Lib.hid (Blk.below K8_24.out hz (Blk.lt K8_24.out))
            have HW_25 := Lib.hid (HW_24.out.trans (hz.mono HW_24.out.size))
            clear hz HW_24 K3_24 K4_24 K5_24 K7_24 K8_24
            go_wp2
            go_ret
            exact ⟨rfl, HW_25.out⟩
          · have HC := Lib.hid hc
            have HD := Lib.hid hd
            have HE := Lib.hid (le_meet3 f g h hc hd)
            clear hc hd
            go_wp2_with (first | (refine wpList_load_if rfl 23 (.tmp 3) rfl w.heap.size rfl _ _ _ _ K3_22.out Try.underlying23 rfl (sizeV _) ?_) | (refine wpList_load_if rfl 23 (.tmp 4) rfl (w.heap.size + 1) rfl _ _ _ _ K4_22.out Try.underlying23 rfl (sizeV _) ?_) | (refine wpList_load_if rfl 23 (.tmp 5) rfl (w.heap.size + 1 + 1) rfl _ _ _ _ K5_22.out Try.underlying23 rfl (sizeV _) ?_) | (refine wpList_load_if rfl 23 (.tmp 7) rfl g6 rfl _ _ _ _ K7_22.out Try.underlying23 rfl (sizeV _) ?_) | (refine wpList_load_if rfl 23 (.tmp 8) rfl g7 rfl _ _ _ _ K8_22.out Try.underlying23 rfl (sizeV _) ?_))
            refine (below_is _ _ _ HC.out _).mono ?_
            rintro e Z26 ⟨rfl, hz⟩
            have K3_26 := Lib.hid (Blk.below K3_22.out hz (Blk.lt K3_22.out))
            have K4_26 := Lib.hid (Blk.below K4_22.out hz (Blk.lt K4_22.out))
            have K5_26 := Lib.hid (Blk.below K5_22.out hz (Blk.lt K5_22.out))
            have K7_26 := Lib.hid (Blk.below K7_22.out hz (Blk.lt K7_22.out))
            have K8_26 := Lib.hid (Blk.below K8_22.out hz (Blk.lt K8_22.out))
            have HW_26 := Lib.hid (HW_22.out.trans (hz.mono HW_22.out.size))
            clear hz HW_22 K3_22 K4_22 K5_22 K7_22 K8_22
            go_wp2_with (first | (refine wpList_load_if rfl 23 (.tmp 3) rfl w.heap.size rfl _ _ _ _ K3_26.out Try.underlying23 rfl (sizeV _) ?_) | (refine wpList_load_if rfl 23 (.tmp 4) rfl (w.heap.size + 1) rfl _ _ _ _ K4_26.out Try.underlying23 rfl (sizeV _) ?_) | (refine wpList_load_if rfl 23 (.tmp 5) rfl (w.heap.size + 1 + 1) rfl _ _ _ _ K5_26.out Try.underlying23 rfl (sizeV _) ?_) | (refine wpList_load_if rfl 23 (.tmp 7) rfl g6 rfl _ _ _ _ K7_26.out Try.underlying23 rfl (sizeV _) ?_) | (refine wpList_load_if rfl 23 (.tmp 8) rfl g7 rfl _ _ _ _ K8_26.out Try.underlying23 rfl (sizeV _) ?_))
            refine (below_is _ _ _ HD.out _).mono ?_
            rintro e Z27 ⟨rfl, hz⟩
            have K3_27 := Lib.hid (Blk.below K3_26.out hz (Blk.lt K3_26.out))
            have K4_27 := Lib.hid (Blk.below K4_26.out hz (Blk.lt K4_26.out))
            have K5_27 := Lib.hid (Blk.below K5_26.out hz (Blk.lt K5_26.out))
            have K7_27 := Lib.hid (Blk.below K7_26.out hz (Blk.lt K7_26.out))
            have K8_27 := Lib.hid (Blk.below K8_26.out hz (Blk.lt K8_26.out))
            have HW_27 := Lib.hid (HW_26.out.trans (hz.mono HW_26.out.size))
            clear hz HW_26 K3_26 K4_26 K5_26 K7_26 K8_26
            go_wp2_with (first | (refine wpList_load_if rfl 23 (.tmp 3) rfl w.heap.size rfl _ _ _ _ K3_27.out Try.underlying23 rfl (sizeV _) ?_) | (refine wpList_load_if rfl 23 (.tmp 4) rfl (w.heap.size + 1) rfl _ _ _ _ K4_27.out Try.underlying23 rfl (sizeV _) ?_) | (refine wpList_load_if rfl 23 (.tmp 5) rfl (w.heap.size + 1 + 1) rfl _ _ _ _ K5_27.out Try.underlying23 rfl (sizeV _) ?_) | (refine wpList_load_if rfl 23 (.tmp 7) rfl g6 rfl _ _ _ _ K7_27.out Try.underlying23 rfl (sizeV _) ?_) | (refine wpList_load_if rfl 23 (.tmp 8) rfl g7 rfl _ _ _ _ K8_27.out Try.underlying23 rfl (sizeV _) ?_))
            refine (below_is _ _ _ HE.out _).mono ?_
            rintro e Z28 ⟨rfl, hz⟩
            have K3_28 := Lib.hid (Blk.below K3_27.out hz (Blk.lt K3_27.out))
            have K4_28 := Lib.hid (Blk.below K4_27.out hz (Blk.lt K4_27.out))
            have K5_28 := Lib.hid (Blk.below K5_27.out hz (Blk.lt K5_27.out))
            have K7_28 := Lib.hid (Blk.below K7_27.out hz (Blk.lt K7_27.out))
            have K8_28 := Lib.hid (Blk.below K8_27.out hz (Blk.lt K8_27.out))
            have HW_28 := Lib.hid (HW_27.out.trans (hz.mono HW_27.out.size))
            clear hz HW_27 K3_27 K4_27 K5_27 K7_27 K8_27
            go_wp2
            go_ret
            exact ⟨rfl, HW_28.out⟩

end Go.Proofs.Ytcgbiikphcgoaaa
