/-
  hedgerowlaw09.AcceptTells: the walk: for all vectors and events the call returns true, and nothing that was there has turned. Conditions: lengths.
-/
import Derived.Test.YtpioapkhfhjlgaaAcGD
namespace Go.Proofs.Ytpioapkhfhjlgaa
open Go.RowKit Go.MapKept Go.Sort

set_option maxRecDepth 100000 in
set_option maxHeartbeats 4000000 in
theorem tells_walk (f : Nat → Int) (l : List Ev) (A : Option Addr) (N c : Nat) (w : World) (hs : SlK encE 27 w (.slice A N c) l) (hN : l.length = N) (hN2 : N ≤ 4611686018427387903) (hf : ∀ e ∈ l, Fit e) (hw : CutOk w) :
    Calls Try.prog 6 #[.agg (vA f), .slice A N c] w (Law w) := by
  obtain ⟨p, hp⟩ : ∃ p, w.heap.size = p := ⟨_, rfl⟩
  obtain ⟨X, hX⟩ : ∃ X, X = w.alloc (.cells (vA f) 27) := ⟨_, rfl⟩
  have hbX : Below w.heap.size w X := by rw [hX]; exact (Below.refl _ _).alloc (Nat.le_refl _) _
  have HV := Lib.hid (show VB X p f by rw [hX, ← hp]; exact VB.new_ f rfl)
  have HX := Lib.hid hX
  have HP := Lib.hid hp
  have HS0 := Lib.hid hs
  have HS := Lib.hid (hs.below hbX)
  have HN := Lib.hid hN
  have HY := Lib.hid hbX
  have HC0 := Lib.hid hw
  have HC := Lib.hid (hw.below hbX)
  have HFw := Lib.hid (few_is9t l A N c hN hN2 hf)
  clear hp hX hbX hs hN hN2 hf hw
  cases hfew : few9B l
  · have HFe := Lib.hid (HFw.out false hfew)
    clear hfew HFw
    go_enter Try.func6, Try.ntmps6
    go_upto_region 1 with fail
    rw [← HX.out, HP.out]
    go_wp2_with fail
    refine (fixed9 X HC.out).mono ?_
    rintro e w1 ⟨rfl, hb⟩
    have HB1 := Lib.hid hb
    clear hb
    go_wp2_with fail
    refine (HFe.out w1 (HS.out.below HB1.out)).mono ?_
    rintro e w2 ⟨rfl, hb⟩
    have HB2 := Lib.hid (HB1.out.trans (hb.mono HB1.out.size))
    clear hb
    go_wp2
    go_ret
    exact ⟨rfl, HY.out.trans (HB2.out.mono HY.out.size)⟩
  · have HFe := Lib.hid (HFw.out true hfew)
    have hsh : ∀ e ∈ l, shortB e = true := by
      unfold few9B at hfew
      simp only [Bool.and_eq_true, List.all_eq_true] at hfew
      exact hfew.1
    have hl80 : N ≤ 80 := by
      unfold few9B at hfew
      simp only [Bool.and_eq_true, decide_eq_true_eq] at hfew
      rw [← HN.out]; exact hfew.2
    have HLn := Lib.hid (show ∀ e ∈ l, Lens e from fun e he => short_lens e (hsh e he))
    have HTy := Lib.hid (show ∀ e ∈ l, Tiny e from fun e he => short_tiny e (hsh e he))
    have H80 := Lib.hid hl80
    have HZv := Lib.hid (zero_of_info zeroV).1
    have HZe := Lib.hid (zero_of_info zeroE).1
    clear hfew HFw hsh hl80
    go_enter Try.func6, Try.ntmps6
    go_upto_region 1 with fail
    rw [← HX.out, HP.out]
    go_wp2_with fail
    refine (fixed9 X HC.out).mono ?_
    rintro e w1 ⟨rfl, hb⟩
    have HB1 := Lib.hid hb
    clear hb
    go_wp2_with fail
    refine (HFe.out w1 (HS.out.below HB1.out)).mono ?_
    rintro e w2 ⟨rfl, hb⟩
    have HB2 := Lib.hid (HB1.out.trans (hb.mono HB1.out.size))
    clear hb
    have HV2 := Lib.hid (VB.keep HV.out HB2.out)
    obtain ⟨X5, hX5⟩ : ∃ X5, X5 = w2.alloc (.cells (vA f) 27) := ⟨_, rfl⟩
    have hbX5 : Below w2.heap.size w2 X5 := by rw [hX5]; exact (Below.refl _ _).alloc (Nat.le_refl _) _
    have HV5 := Lib.hid (show VB X5 w2.heap.size f by rw [hX5]; exact VB.new_ _ rfl)
    have HAl5 := Lib.hid fun c => World.setRow_alloc_new w2 (vA fun _ => 0) c 27
    have HZ5 := Lib.hid (show Blk (w2.alloc (.cells (vA fun _ => 0) 27)) w2.heap.size 27 (vA fun _ => 0) from Blk.new _ _ _)
    have HX5 := Lib.hid hX5
    have HB5 := Lib.hid (show Below w.heap.size w X5 from (HY.out.trans (HB2.out.mono HY.out.size)).trans (hbX5.mono (Nat.le_trans HY.out.size HB2.out.size)))
    have HQ := Lib.hid (show p ≤ w2.heap.size from by have h1 := Blk.lt HV.out; have h2 := HB2.out.size; omega)
    have HPQ := Lib.hid (show p ≠ w2.heap.size from by have h1 := Blk.lt HV.out; have h2 := HB2.out.size; omega)
    have HI5 := Lib.hid (show TellI p p w2.heap.size X5 f f (.slice none 0 0) (.slice none 0 0) [] [] from ⟨VB.keep HV2.out hbX5, HV5.out, OwnK.nil_ _ _ _ _ _, OwnK.nil_ _ _ _ _ _, fun k e => by simp [Value.ownBlock] at e⟩)
    clear hX5 hbX5
    have hz := HZv.out
    go_upto_region 6 with (first
      | (refine' wpList_load_if ?q1 27 (.tmp 2) ?q2 p ?q3 _ _ _ _ ?q4 Try.underlying27 ?q5 ?q6 ?_; (case q2 => rfl); (case q1 => rfl); (case q3 => rfl); (case q4 => exact HV2.out); (case q5 => rfl); (case q6 => exact sizeV _))
      | (refine wpList_store_row (o := ⟨none, _, _, _, _, _⟩) rfl 27 (.tmp 5) (.tmp 26) rfl w2.heap.size (vA f) rfl rfl _ _ HZ5.out (sizeV _) (by rw [vA_size, vA_size]) (vA_one _) ?_; rw [HAl5.out, ← HX5.out])
      | fail)
    clear hz HZ5 HAl5 HX5 HV5
    obtain ⟨q, hq⟩ : ∃ q, w2.heap.size = q := ⟨_, rfl⟩
    rw [hq] at HPQ HQ HI5 ⊢
    clear hq
    go_wp2_with fail
    go_loopw [6, 7, 8, 29] (fun v6 v7 v8 v29 wr => ∃ j : Nat, v29 = .int .i64 j ∧ j ≤ N ∧ v8 = .int .i64 (allA (l.take j) [] f).2.2 ∧ TellI p p q wr f (allA (l.take j) [] f).2.1 v6 v7 (allA (l.take j) [] f).1 (lackL f (l.take j)) ∧ Below w.heap.size w wr) (fun _ _ _ v29 _ => N - (intOf v29).toNat)
    case atStart => exact ⟨0, rfl, Nat.zero_le _, rfl, HI5.out, HB5.out⟩
    case round =>
      obtain ⟨j, rfl, hj, rfl, hi, hbw⟩ := hrel
      obtain ⟨wo, rfl⟩ : ∃ wo, wo = wr := ⟨_, rfl⟩
      have HBw := Lib.hid hbw
      clear hbw HI5 HB5 HV2
      by_cases hlt : j < N
      · obtain ⟨e, he⟩ : ∃ e, l[j]? = some e := ⟨l[j]'(by rw [HN.out]; exact hlt), List.getElem?_eq_getElem _⟩
        have hnx := allA_next (f := f) he
        have hlx := lack_next (f := f) he
        have hdl := allA_len (l.take j) [] f
        have hll : (lackL f (l.take j)).length ≤ (l.take j).length := List.length_filter_le _ _
        have htk := List.length_take_le j l
        obtain ⟨S, hS⟩ : ∃ S, S = allA (l.take j) [] f := ⟨_, rfl⟩
        rw [← hS] at hnx hi hdl ⊢
        clear hS
        obtain ⟨Dw, h, cc⟩ := S
        dsimp only at hnx hi hdl ⊢
        obtain ⟨Dl, hDl⟩ : ∃ Dl, Dl = lackL f (l.take j) := ⟨_, rfl⟩
        rw [← hDl] at hlx hi hll
        clear hDl
        have HDw := Lib.hid (show Dw.length ≤ 80 from by have := H80.out; simp at hdl; omega)
        have HDl := Lib.hid (show Dl.length ≤ 80 from by have := H80.out; omega)
        have HNx := Lib.hid hnx
        have HLx := Lib.hid hlx
        have HLe := Lib.hid (HLn.out e (List.mem_of_getElem? he))
        have HTe := Lib.hid (HTy.out e (List.mem_of_getElem? he))
        obtain ⟨gs, o, hA, _, hce⟩ := (HS0.out.below HBw.out).ev he
        subst hA
        have HCe := Lib.hid hce
        have HAt := Lib.hid (at_Ev gs o c N j hlt wo)
        have HAl := Lib.hid fun c => World.setRow_alloc_new wo (evC ev0) c 39
        have HZz := Lib.hid (show Blk (wo.alloc (.cells (evC ev0) 39)) wo.heap.size 39 (evC ev0) from Blk.new _ _ _)
        obtain ⟨Y, hY⟩ : ∃ Y, Y = wo.alloc (.cells (evC e) 39) := ⟨_, rfl⟩
        have hbY : Below wo.heap.size wo Y := by rw [hY]; exact (Below.refl _ _).alloc (Nat.le_refl _) _
        have HBY := Lib.hid (show EB Y wo.heap.size e by rw [hY]; exact Blk.new _ _ _)
        have HYe := Lib.hid hY
        have HIY := Lib.hid (hi.keep hbY)
        have HOw := Lib.hid (show ∀ k, u6.ownBlock = some k → k < wo.heap.size from fun k hk => (hi.ow.lt k hk).2)
        have HOl := Lib.hid (show ∀ k, u7.ownBlock = some k → k < wo.heap.size from fun k hk => (hi.ol.lt k hk).2)
        have HbY := Lib.hid (HBw.out.trans (hbY.mono HBw.out.size))
        have HW1 := Lib.hid (IntWalk.i64_in ((j : Int) + 1) (by have := H80.out; omega))
        have HJ1 := Lib.hid (show ¬ 9223372036854775807 < j + 1 by have := H80.out; omega)
        clear hnx hlx hdl hll htk he hce hY hbY hi
        have hz := HZe.out
        go_upto_region 11 with (first
          | (refine wpList_val (o := ⟨some 31, _, _, _, _, _⟩) rfl (.pointer (some ⟨gs, o + j * 27, none⟩)) wo (run_indexAddr_op rfl rfl rfl HAt.out) ?_)
          | (refine' wpList_load_midif ?q1 39 (.tmp 31) ?q2 gs (o + j * 27) ?q3 (encE e) _ ?q4 Try.underlying39 ?q5 ?q6 ?_; (case q2 => rfl); (case q1 => rfl); (case q3 => rfl); (case q4 => exact HCe.out); (case q5 => rfl); (case q6 => exact (sizeE e)))
          | (refine wpList_store_row (o := ⟨none, _, _, _, _, _⟩) rfl 39 (.tmp 10) (.tmp 32) rfl wo.heap.size (evC e) rfl rfl _ _ HZz.out (sizeE e) rfl (by kernel_rfl) ?_; rw [HAl.out, ← HYe.out])
          | fail)
        clear hz HZz HAl HYe HAt HCe
        obtain ⟨b10, hb10⟩ : ∃ b10, wo.heap.size = b10 := ⟨_, rfl⟩
        rw [hb10] at HBY HOw HOl ⊢
        clear hb10
        refine wp_region_any (by kernel_rfl) ?_
        refine wpAny_below (fun i v _ => v = ([.agg (vA f), evV e, .int .i64 (oneI f e), .agg (vA f), evV e, .int .i64 (oneI f e), .bool false] : List Value).getD i undef) _ Y (by kernel_rfl) (by kernel_rfl) (by kernel_rfl) (fun i v w w' _ h => h) ?_ ?_
        · refine ⟨?_, ?_, ?_, ?_, ?_, ?_, ?_, trivial⟩
          · intro a W hI hun haft hi
            have e2 : a.eval (.tmp 2) = .pointer (some ⟨p, 0, none⟩) := hun 2 (by kernel_rfl)
            exact b_same hi hI rfl _ (run_load_op rfl e2 (Blk.below HIY.out.v hI (Blk.lt HIY.out.v)) Try.underlying27 rfl (sizeV _)) rfl
          · intro a W hI hun haft hi
            have e10 : a.eval (.tmp 10) = .pointer (some ⟨b10, 0, none⟩) := hun 10 (by kernel_rfl)
            exact b_same hi hI rfl _ (run_load_op rfl e10 (Blk.below HBY.out hI (Blk.lt HBY.out)) Try.underlying39 rfl (sizeE e)) rfl
          · intro a W hI hun haft hi
            have f0 : a.eval (.tmp 33) = .agg (vA f) := haft ⟨0, .data⟩ (by simp) rfl _ _ rfl rfl
            have f1 : a.eval (.tmp 34) = evV e := haft ⟨1, .data⟩ (by simp) rfl _ _ rfl rfl
            refine b_call hi hI rfl _ _ (run_call_op (args := #[.agg (vA f), evV e]) rfl (by simp [f0, f1]) (by kernel_rfl)) ?_
            exact (one_any f e W HLe.out (HC0.out.below (HbY.out.trans (hI.mono HbY.out.size)))).mono fun e w' H => ⟨_, H.1, rfl, H.2⟩
          · intro a W hI hun haft hi
            have e2 : a.eval (.tmp 2) = .pointer (some ⟨p, 0, none⟩) := hun 2 (by kernel_rfl)
            exact b_same hi hI rfl _ (run_load_op rfl e2 (Blk.below HIY.out.v hI (Blk.lt HIY.out.v)) Try.underlying27 rfl (sizeV _)) rfl
          · intro a W hI hun haft hi
            have e10 : a.eval (.tmp 10) = .pointer (some ⟨b10, 0, none⟩) := hun 10 (by kernel_rfl)
            exact b_same hi hI rfl _ (run_load_op rfl e10 (Blk.below HBY.out hI (Blk.lt HBY.out)) Try.underlying39 rfl (sizeE e)) rfl
          · intro a W hI hun haft hi
            have f3 : a.eval (.tmp 36) = .agg (vA f) := haft ⟨3, .data⟩ (by simp) rfl _ _ rfl rfl
            have f4 : a.eval (.tmp 37) = evV e := haft ⟨4, .data⟩ (by simp) rfl _ _ rfl rfl
            refine b_call hi hI rfl _ _ (run_call_op (args := #[.agg (vA f), evV e]) rfl (by simp [f3, f4]) (by kernel_rfl)) ?_
            exact (one9_any f e W HTe.out).mono fun e w' H => ⟨_, H.1, rfl, H.2⟩
          · intro a W hI hun haft hi
            have f2 : a.eval (.tmp 35) = .int .i64 (oneI f e) := haft ⟨2, .data⟩ (by simp) rfl _ _ rfl rfl
            have f5 : a.eval (.tmp 38) = .int .i64 (oneI f e) := haft ⟨5, .data⟩ (by simp) rfl _ _ rfl rfl
            exact b_same hi hI rfl (.bool false) (run_bin_op rfl f2 f5 (by kernel_rfl) (run_neErr (beq_self_eq_true _) W)) rfl
        · intro vals W hI hp
          have hl6 : vals 6 = .bool false := hp 6 (by decide)
          have HI := Lib.hid hI
          clear hp hI
          simp only [layN, List.size_toArray, List.length_cons, List.length_nil, List.range, List.range.loop, if_true, List.getElem?_toArray, List.getElem?_cons_zero, List.getElem?_cons_succ, Act.put, List.setIfInBounds_toArray, List.set_cons_zero, List.set_cons_succ, Nat.zero_add, Nat.reduceAdd, hl6]
          clear hl6
          have HI11 := Lib.hid (HIY.out.keep HI.out)
          have HE11 := Lib.hid (EB.keep HBY.out HI.out)
          have HB11 := Lib.hid (HbY.out.trans (HI.out.mono HbY.out.size))
          clear HI HIY HBY HbY HBw HC0
          generalize W = W11 at *
          have HDot := Lib.hid (EB.dot HE11.out)
          have HAld := Lib.hid fun c => World.setRow_alloc_new W11 #[.int .i64 0, .int .i64 0] c 33
          have HZd := Lib.hid (show Blk (W11.alloc (.cells #[.int .i64 0, .int .i64 0] 33)) W11.heap.size 33 #[.int .i64 0, .int .i64 0] from Blk.new _ _ _)
          obtain ⟨Z, hZ⟩ : ∃ Z, Z = W11.alloc (.cells #[.int .i64 e.r, .int .i64 e.c] 33) := ⟨_, rfl⟩
          have hbZ : Below W11.heap.size W11 Z := by rw [hZ]; exact (Below.refl _ _).alloc (Nat.le_refl _) _
          have HDZ := Lib.hid (show Blk Z W11.heap.size 33 #[.int .i64 e.r, .int .i64 e.c] by rw [hZ]; exact Blk.new _ _ _)
          have HZe := Lib.hid hZ
          have HIZ := Lib.hid (HI11.out.keep hbZ)
          have HEZ := Lib.hid (EB.keep HE11.out hbZ)
          have HBZ := Lib.hid (HB11.out.trans (hbZ.mono HB11.out.size))
          clear hZ hbZ HI11 HE11 HB11
          go_upto_region 14 with (first
            | (refine' wpList_load_midif ?q1 33 (.tmp 40) ?q2 b10 0 ?q3 _ _ ?q4 Try.underlying33 ?q5 ?q6 ?_; (case q2 => rfl); (case q1 => rfl); (case q3 => rfl); (case q4 => exact HDot.out); (case q5 => rfl); (case q6 => exact (by kernel_rfl)))
            | (refine wpList_store_row (o := ⟨none, _, _, _, _, _⟩) rfl 33 (.tmp 11) (.tmp 41) rfl W11.heap.size #[.int .i64 e.r, .int .i64 e.c] rfl rfl _ _ HZd.out (by kernel_rfl) rfl (by kernel_rfl) ?_; rw [HAld.out, ← HZe.out])
            | fail)
          clear HDot HAld HZd HZe
          obtain ⟨b11, hb11⟩ : ∃ b11, W11.heap.size = b11 := ⟨_, rfl⟩
          rw [hb11] at HDZ ⊢
          clear hb11
          have HD0 := Lib.hid (show Z.cell? ⟨b11, 0, none⟩ = some (.int .i64 e.r) from (Blk.cell HDZ.out 0).trans rfl)
          have HD1 := Lib.hid (show Z.cell? ⟨b11, 0 + 1, none⟩ = some (.int .i64 e.c) from (Blk.cell HDZ.out 1).trans rfl)
          have HDb := Lib.hid (Blk.lt HDZ.out)
          have HPl : Hid (p < Z.heap.size) := Lib.hid (Blk.lt (show Blk Z p 27 (vA f) from HIZ.out.v))
          simp only [Act.put]
          go_cut [68] (fun x wx => x = .bool (!knowsB f e.r e.c) ∧ Below Z.heap.size Z wx)
          case first =>
            rcases knows_cases f e.r e.c with ⟨hk, hr⟩ | ⟨hk, n, hrn, hn, h1, h2, h3⟩
            · rcases hr with hr | ⟨ha, hr⟩ | ⟨ha, hb, hr⟩ | ⟨ha, hb, hcc, hr⟩ | ⟨n, hrn, hn, h1, h2, h3⟩
              · refine wp_region_any (by kernel_rfl) ?_
                refine wpAny_below (fun i v _ => v = ([.pointer (some ⟨b11, 0, none⟩), .int .i64 e.r, .bool true, .bool true, undef, undef, undef, .bool true, .bool true, undef, undef, undef, .bool true, .bool true, undef, undef, undef, .bool true, .bool true, undef, undef, undef, undef, undef, undef, undef, .bool true] : List Value).getD i undef) _ Z (by kernel_rfl) (by kernel_rfl) (by kernel_rfl) (fun i v w w' _ h => h) ?_ ?_
                · refine ⟨?_, ?_, ?_, ?_, ?_, ?_, ?_, ?_, ?_, ?_, ?_, ?_, ?_, ?_, ?_, ?_, ?_, ?_, ?_, ?_, ?_, ?_, ?_, ?_, ?_, ?_, ?_, trivial⟩
                  · intro a W hI hun haft hi
                    have e11 : a.eval (.tmp 11) = .pointer (some ⟨b11, 0, none⟩) := hun 11 (by kernel_rfl)
                    exact b_same hi hI rfl _ (run_fieldAddr_op rfl e11 (at_dot0' _ _ _)) rfl
                  · intro a W hI hun haft hi
                    have f0 : a.eval (.tmp 42) = .pointer (some ⟨b11, 0, none⟩) := haft ⟨0, .data⟩ (by simp) rfl _ _ rfl rfl
                    exact b_same hi hI rfl _ (run_loadint_op rfl f0 Try.underlying3 ((Below.cell hI HDb.out).trans HD0.out)) rfl
                  · intro a W hI hun haft hi
                    have f1 : a.eval (.tmp 43) = .int .i64 e.r := haft ⟨1, .data⟩ (by simp) rfl _ _ rfl rfl
                    exact b_same hi hI rfl (.bool true) (run_bin_op rfl f1 rfl (by kernel_rfl) (run_lti (decide_eq_true (by omega)) _)) rfl
                  · intro a W hI hun haft hi
                    have f2 : a.eval (.tmp 44) = .bool true := haft ⟨2, .data⟩ (by simp) rfl _ _ rfl rfl
                    exact b_same hi hI rfl _ (run_move_op rfl f2) rfl
                  · intro a W hI hun haft hi
                    have fg : a.eval (.tmp 45) = .bool true := haft ⟨3, .guard⟩ (by simp) rfl _ _ rfl rfl
                    exact b_skip hi hI (guard_no rfl rfl rfl (.inl fg)) rfl
                  · intro a W hI hun haft hi
                    have fg : a.eval (.tmp 45) = .bool true := haft ⟨3, .guard⟩ (by simp) rfl _ _ rfl rfl
                    exact b_skip hi hI (guard_no rfl rfl rfl (.inl fg)) rfl
                  · intro a W hI hun haft hi
                    have fg : a.eval (.tmp 45) = .bool true := haft ⟨3, .guard⟩ (by simp) rfl _ _ rfl rfl
                    exact b_skip hi hI (guard_no rfl rfl rfl (.inl fg)) rfl
                  · intro a W hI hun haft hi
                    have f3 : a.eval (.tmp 45) = .bool true := haft ⟨3, .data⟩ (by simp) rfl _ _ rfl rfl
                    have f6 : a.eval (.tmp 48) = undef := haft ⟨6, .data⟩ (by simp) rfl _ _ rfl rfl
                    exact b_same hi hI rfl _ (run_pick_op (b := true) rfl f3 rfl f6) rfl
                  · intro a W hI hun haft hi
                    have f7 : a.eval (.tmp 49) = .bool true := haft ⟨7, .data⟩ (by simp) rfl _ _ rfl rfl
                    exact b_same hi hI rfl _ (run_move_op rfl f7) rfl
                  · intro a W hI hun haft hi
                    have fg : a.eval (.tmp 50) = .bool true := haft ⟨8, .guard⟩ (by simp) rfl _ _ rfl rfl
                    exact b_skip hi hI (guard_no rfl rfl rfl (.inl fg)) rfl
                  · intro a W hI hun haft hi
                    have fg : a.eval (.tmp 50) = .bool true := haft ⟨8, .guard⟩ (by simp) rfl _ _ rfl rfl
                    exact b_skip hi hI (guard_no rfl rfl rfl (.inl fg)) rfl
                  · intro a W hI hun haft hi
                    have fg : a.eval (.tmp 50) = .bool true := haft ⟨8, .guard⟩ (by simp) rfl _ _ rfl rfl
                    exact b_skip hi hI (guard_no rfl rfl rfl (.inl fg)) rfl
                  · intro a W hI hun haft hi
                    have f8 : a.eval (.tmp 50) = .bool true := haft ⟨8, .data⟩ (by simp) rfl _ _ rfl rfl
                    have f11 : a.eval (.tmp 53) = undef := haft ⟨11, .data⟩ (by simp) rfl _ _ rfl rfl
                    exact b_same hi hI rfl _ (run_pick_op (b := true) rfl f8 rfl f11) rfl
                  · intro a W hI hun haft hi
                    have f12 : a.eval (.tmp 54) = .bool true := haft ⟨12, .data⟩ (by simp) rfl _ _ rfl rfl
                    exact b_same hi hI rfl _ (run_move_op rfl f12) rfl
                  · intro a W hI hun haft hi
                    have fg : a.eval (.tmp 55) = .bool true := haft ⟨13, .guard⟩ (by simp) rfl _ _ rfl rfl
                    exact b_skip hi hI (guard_no rfl rfl rfl (.inl fg)) rfl
                  · intro a W hI hun haft hi
                    have fg : a.eval (.tmp 55) = .bool true := haft ⟨13, .guard⟩ (by simp) rfl _ _ rfl rfl
                    exact b_skip hi hI (guard_no rfl rfl rfl (.inl fg)) rfl
                  · intro a W hI hun haft hi
                    have fg : a.eval (.tmp 55) = .bool true := haft ⟨13, .guard⟩ (by simp) rfl _ _ rfl rfl
                    exact b_skip hi hI (guard_no rfl rfl rfl (.inl fg)) rfl
                  · intro a W hI hun haft hi
                    have f13 : a.eval (.tmp 55) = .bool true := haft ⟨13, .data⟩ (by simp) rfl _ _ rfl rfl
                    have f16 : a.eval (.tmp 58) = undef := haft ⟨16, .data⟩ (by simp) rfl _ _ rfl rfl
                    exact b_same hi hI rfl _ (run_pick_op (b := true) rfl f13 rfl f16) rfl
                  · intro a W hI hun haft hi
                    have f17 : a.eval (.tmp 59) = .bool true := haft ⟨17, .data⟩ (by simp) rfl _ _ rfl rfl
                    exact b_same hi hI rfl _ (run_move_op rfl f17) rfl
                  · intro a W hI hun haft hi
                    have fg : a.eval (.tmp 60) = .bool true := haft ⟨18, .guard⟩ (by simp) rfl _ _ rfl rfl
                    exact b_skip hi hI (guard_no rfl rfl rfl (.inl fg)) rfl
                  · intro a W hI hun haft hi
                    have fg : a.eval (.tmp 60) = .bool true := haft ⟨18, .guard⟩ (by simp) rfl _ _ rfl rfl
                    exact b_skip hi hI (guard_no rfl rfl rfl (.inl fg)) rfl
                  · intro a W hI hun haft hi
                    have fg : a.eval (.tmp 60) = .bool true := haft ⟨18, .guard⟩ (by simp) rfl _ _ rfl rfl
                    exact b_skip hi hI (guard_no rfl rfl rfl (.inl fg)) rfl
                  · intro a W hI hun haft hi
                    have fg : a.eval (.tmp 60) = .bool true := haft ⟨18, .guard⟩ (by simp) rfl _ _ rfl rfl
                    exact b_skip hi hI (guard_no rfl rfl rfl (.inl fg)) rfl
                  · intro a W hI hun haft hi
                    have fg : a.eval (.tmp 60) = .bool true := haft ⟨18, .guard⟩ (by simp) rfl _ _ rfl rfl
                    exact b_skip hi hI (guard_no rfl rfl rfl (.inl fg)) rfl
                  · intro a W hI hun haft hi
                    have fg : a.eval (.tmp 60) = .bool true := haft ⟨18, .guard⟩ (by simp) rfl _ _ rfl rfl
                    exact b_skip hi hI (guard_no rfl rfl rfl (.inl fg)) rfl
                  · intro a W hI hun haft hi
                    have fg : a.eval (.tmp 60) = .bool true := haft ⟨18, .guard⟩ (by simp) rfl _ _ rfl rfl
                    exact b_skip hi hI (guard_no rfl rfl rfl (.inl fg)) rfl
                  · intro a W hI hun haft hi
                    have f18 : a.eval (.tmp 60) = .bool true := haft ⟨18, .data⟩ (by simp) rfl _ _ rfl rfl
                    have f25 : a.eval (.tmp 67) = undef := haft ⟨25, .data⟩ (by simp) rfl _ _ rfl rfl
                    exact b_same hi hI rfl _ (run_pick_op (b := true) rfl f18 rfl f25) rfl
                · intro vals W hI hp
                  have hl26 : vals 26 = .bool true := hp 26 (by decide)
                  have HI := Lib.hid hI
                  clear hp hI
                  simp only [layN, List.size_toArray, List.length_cons, List.length_nil, List.range, List.range.loop, if_true, List.getElem?_toArray, List.getElem?_cons_zero, List.getElem?_cons_succ, Act.put, List.setIfInBounds_toArray, List.set_cons_zero, List.set_cons_succ, Nat.zero_add, Nat.reduceAdd, hl26]
                  clear hl26
                  go_wp2_with fail
                  go_meet
                  exact ⟨by rw [hk]; rfl, HI.out⟩
              · refine wp_region_any (by kernel_rfl) ?_
                refine wpAny_below (fun i v _ => v = ([.pointer (some ⟨b11, 0, none⟩), .int .i64 e.r, .bool false, .bool false, .pointer (some ⟨b11, 0, none⟩), .int .i64 e.r, .bool true, .bool true, .bool true, undef, undef, undef, .bool true, .bool true, undef, undef, undef, .bool true, .bool true, undef, undef, undef, undef, undef, undef, undef, .bool true] : List Value).getD i undef) _ Z (by kernel_rfl) (by kernel_rfl) (by kernel_rfl) (fun i v w w' _ h => h) ?_ ?_
                · refine ⟨?_, ?_, ?_, ?_, ?_, ?_, ?_, ?_, ?_, ?_, ?_, ?_, ?_, ?_, ?_, ?_, ?_, ?_, ?_, ?_, ?_, ?_, ?_, ?_, ?_, ?_, ?_, trivial⟩
                  · intro a W hI hun haft hi
                    have e11 : a.eval (.tmp 11) = .pointer (some ⟨b11, 0, none⟩) := hun 11 (by kernel_rfl)
                    exact b_same hi hI rfl _ (run_fieldAddr_op rfl e11 (at_dot0' _ _ _)) rfl
                  · intro a W hI hun haft hi
                    have f0 : a.eval (.tmp 42) = .pointer (some ⟨b11, 0, none⟩) := haft ⟨0, .data⟩ (by simp) rfl _ _ rfl rfl
                    exact b_same hi hI rfl _ (run_loadint_op rfl f0 Try.underlying3 ((Below.cell hI HDb.out).trans HD0.out)) rfl
                  · intro a W hI hun haft hi
                    have f1 : a.eval (.tmp 43) = .int .i64 e.r := haft ⟨1, .data⟩ (by simp) rfl _ _ rfl rfl
                    exact b_same hi hI rfl (.bool false) (run_bin_op rfl f1 rfl (by kernel_rfl) (run_lti (decide_eq_false (by omega)) _)) rfl
                  · intro a W hI hun haft hi
                    have f2 : a.eval (.tmp 44) = .bool false := haft ⟨2, .data⟩ (by simp) rfl _ _ rfl rfl
                    exact b_same hi hI rfl _ (run_move_op rfl f2) rfl
                  · intro a W hI hun haft hi
                    have fg : a.eval (.tmp 45) = .bool false := haft ⟨3, .guard⟩ (by simp) rfl _ _ rfl rfl
                    have e11 : a.eval (.tmp 11) = .pointer (some ⟨b11, 0, none⟩) := hun 11 (by kernel_rfl)
                    exact b_same hi hI (guard_ok rfl rfl rfl fg) _ (run_fieldAddr_op rfl e11 (at_dot0' _ _ _)) rfl
                  · intro a W hI hun haft hi
                    have fg : a.eval (.tmp 45) = .bool false := haft ⟨3, .guard⟩ (by simp) rfl _ _ rfl rfl
                    have f4 : a.eval (.tmp 46) = .pointer (some ⟨b11, 0, none⟩) := haft ⟨4, .data⟩ (by simp) rfl _ _ rfl rfl
                    exact b_same hi hI (guard_ok rfl rfl rfl fg) _ (run_loadint_op rfl f4 Try.underlying3 ((Below.cell hI HDb.out).trans HD0.out)) rfl
                  · intro a W hI hun haft hi
                    have fg : a.eval (.tmp 45) = .bool false := haft ⟨3, .guard⟩ (by simp) rfl _ _ rfl rfl
                    have f5 : a.eval (.tmp 47) = .int .i64 e.r := haft ⟨5, .data⟩ (by simp) rfl _ _ rfl rfl
                    exact b_same hi hI (guard_ok rfl rfl rfl fg) (.bool true) (run_bin_op rfl f5 rfl (by kernel_rfl) (run_gti (decide_eq_true (by omega)) _)) rfl
                  · intro a W hI hun haft hi
                    have f3 : a.eval (.tmp 45) = .bool false := haft ⟨3, .data⟩ (by simp) rfl _ _ rfl rfl
                    have f6 : a.eval (.tmp 48) = .bool true := haft ⟨6, .data⟩ (by simp) rfl _ _ rfl rfl
                    exact b_same hi hI rfl _ (run_pick_op (b := false) rfl f3 rfl f6) rfl
                  · intro a W hI hun haft hi
                    have f7 : a.eval (.tmp 49) = .bool true := haft ⟨7, .data⟩ (by simp) rfl _ _ rfl rfl
                    exact b_same hi hI rfl _ (run_move_op rfl f7) rfl
                  · intro a W hI hun haft hi
                    have fg : a.eval (.tmp 50) = .bool true := haft ⟨8, .guard⟩ (by simp) rfl _ _ rfl rfl
                    exact b_skip hi hI (guard_no rfl rfl rfl (.inl fg)) rfl
                  · intro a W hI hun haft hi
                    have fg : a.eval (.tmp 50) = .bool true := haft ⟨8, .guard⟩ (by simp) rfl _ _ rfl rfl
                    exact b_skip hi hI (guard_no rfl rfl rfl (.inl fg)) rfl
                  · intro a W hI hun haft hi
                    have fg : a.eval (.tmp 50) = .bool true := haft ⟨8, .guard⟩ (by simp) rfl _ _ rfl rfl
                    exact b_skip hi hI (guard_no rfl rfl rfl (.inl fg)) rfl
                  · intro a W hI hun haft hi
                    have f8 : a.eval (.tmp 50) = .bool true := haft ⟨8, .data⟩ (by simp) rfl _ _ rfl rfl
                    have f11 : a.eval (.tmp 53) = undef := haft ⟨11, .data⟩ (by simp) rfl _ _ rfl rfl
                    exact b_same hi hI rfl _ (run_pick_op (b := true) rfl f8 rfl f11) rfl
                  · intro a W hI hun haft hi
                    have f12 : a.eval (.tmp 54) = .bool true := haft ⟨12, .data⟩ (by simp) rfl _ _ rfl rfl
                    exact b_same hi hI rfl _ (run_move_op rfl f12) rfl
                  · intro a W hI hun haft hi
                    have fg : a.eval (.tmp 55) = .bool true := haft ⟨13, .guard⟩ (by simp) rfl _ _ rfl rfl
                    exact b_skip hi hI (guard_no rfl rfl rfl (.inl fg)) rfl
                  · intro a W hI hun haft hi
                    have fg : a.eval (.tmp 55) = .bool true := haft ⟨13, .guard⟩ (by simp) rfl _ _ rfl rfl
                    exact b_skip hi hI (guard_no rfl rfl rfl (.inl fg)) rfl
                  · intro a W hI hun haft hi
                    have fg : a.eval (.tmp 55) = .bool true := haft ⟨13, .guard⟩ (by simp) rfl _ _ rfl rfl
                    exact b_skip hi hI (guard_no rfl rfl rfl (.inl fg)) rfl
                  · intro a W hI hun haft hi
                    have f13 : a.eval (.tmp 55) = .bool true := haft ⟨13, .data⟩ (by simp) rfl _ _ rfl rfl
                    have f16 : a.eval (.tmp 58) = undef := haft ⟨16, .data⟩ (by simp) rfl _ _ rfl rfl
                    exact b_same hi hI rfl _ (run_pick_op (b := true) rfl f13 rfl f16) rfl
                  · intro a W hI hun haft hi
                    have f17 : a.eval (.tmp 59) = .bool true := haft ⟨17, .data⟩ (by simp) rfl _ _ rfl rfl
                    exact b_same hi hI rfl _ (run_move_op rfl f17) rfl
                  · intro a W hI hun haft hi
                    have fg : a.eval (.tmp 60) = .bool true := haft ⟨18, .guard⟩ (by simp) rfl _ _ rfl rfl
                    exact b_skip hi hI (guard_no rfl rfl rfl (.inl fg)) rfl
                  · intro a W hI hun haft hi
                    have fg : a.eval (.tmp 60) = .bool true := haft ⟨18, .guard⟩ (by simp) rfl _ _ rfl rfl
                    exact b_skip hi hI (guard_no rfl rfl rfl (.inl fg)) rfl
                  · intro a W hI hun haft hi
                    have fg : a.eval (.tmp 60) = .bool true := haft ⟨18, .guard⟩ (by simp) rfl _ _ rfl rfl
                    exact b_skip hi hI (guard_no rfl rfl rfl (.inl fg)) rfl
                  · intro a W hI hun haft hi
                    have fg : a.eval (.tmp 60) = .bool true := haft ⟨18, .guard⟩ (by simp) rfl _ _ rfl rfl
                    exact b_skip hi hI (guard_no rfl rfl rfl (.inl fg)) rfl
                  · intro a W hI hun haft hi
                    have fg : a.eval (.tmp 60) = .bool true := haft ⟨18, .guard⟩ (by simp) rfl _ _ rfl rfl
                    exact b_skip hi hI (guard_no rfl rfl rfl (.inl fg)) rfl
                  · intro a W hI hun haft hi
                    have fg : a.eval (.tmp 60) = .bool true := haft ⟨18, .guard⟩ (by simp) rfl _ _ rfl rfl
                    exact b_skip hi hI (guard_no rfl rfl rfl (.inl fg)) rfl
                  · intro a W hI hun haft hi
                    have fg : a.eval (.tmp 60) = .bool true := haft ⟨18, .guard⟩ (by simp) rfl _ _ rfl rfl
                    exact b_skip hi hI (guard_no rfl rfl rfl (.inl fg)) rfl
                  · intro a W hI hun haft hi
                    have f18 : a.eval (.tmp 60) = .bool true := haft ⟨18, .data⟩ (by simp) rfl _ _ rfl rfl
                    have f25 : a.eval (.tmp 67) = undef := haft ⟨25, .data⟩ (by simp) rfl _ _ rfl rfl
                    exact b_same hi hI rfl _ (run_pick_op (b := true) rfl f18 rfl f25) rfl
                · intro vals W hI hp
                  have hl26 : vals 26 = .bool true := hp 26 (by decide)
                  have HI := Lib.hid hI
                  clear hp hI
                  simp only [layN, List.size_toArray, List.length_cons, List.length_nil, List.range, List.range.loop, if_true, List.getElem?_toArray, List.getElem?_cons_zero, List.getElem?_cons_succ, Act.put, List.setIfInBounds_toArray, List.set_cons_zero, List.set_cons_succ, Nat.zero_add, Nat.reduceAdd, hl26]
                  clear hl26
                  go_wp2_with fail
                  go_meet
                  exact ⟨by rw [hk]; rfl, HI.out⟩
              · refine wp_region_any (by kernel_rfl) ?_
                refine wpAny_below (fun i v _ => v = ([.pointer (some ⟨b11, 0, none⟩), .int .i64 e.r, .bool false, .bool false, .pointer (some ⟨b11, 0, none⟩), .int .i64 e.r, .bool false, .bool false, .bool false, .pointer (some ⟨b11, 0 + 1, none⟩), .int .i64 e.c, .bool true, .bool true, .bool true, undef, undef, undef, .bool true, .bool true, undef, undef, undef, undef, undef, undef, undef, .bool true] : List Value).getD i undef) _ Z (by kernel_rfl) (by kernel_rfl) (by kernel_rfl) (fun i v w w' _ h => h) ?_ ?_
                · refine ⟨?_, ?_, ?_, ?_, ?_, ?_, ?_, ?_, ?_, ?_, ?_, ?_, ?_, ?_, ?_, ?_, ?_, ?_, ?_, ?_, ?_, ?_, ?_, ?_, ?_, ?_, ?_, trivial⟩
                  · intro a W hI hun haft hi
                    have e11 : a.eval (.tmp 11) = .pointer (some ⟨b11, 0, none⟩) := hun 11 (by kernel_rfl)
                    exact b_same hi hI rfl _ (run_fieldAddr_op rfl e11 (at_dot0' _ _ _)) rfl
                  · intro a W hI hun haft hi
                    have f0 : a.eval (.tmp 42) = .pointer (some ⟨b11, 0, none⟩) := haft ⟨0, .data⟩ (by simp) rfl _ _ rfl rfl
                    exact b_same hi hI rfl _ (run_loadint_op rfl f0 Try.underlying3 ((Below.cell hI HDb.out).trans HD0.out)) rfl
                  · intro a W hI hun haft hi
                    have f1 : a.eval (.tmp 43) = .int .i64 e.r := haft ⟨1, .data⟩ (by simp) rfl _ _ rfl rfl
                    exact b_same hi hI rfl (.bool false) (run_bin_op rfl f1 rfl (by kernel_rfl) (run_lti (decide_eq_false (by omega)) _)) rfl
                  · intro a W hI hun haft hi
                    have f2 : a.eval (.tmp 44) = .bool false := haft ⟨2, .data⟩ (by simp) rfl _ _ rfl rfl
                    exact b_same hi hI rfl _ (run_move_op rfl f2) rfl
                  · intro a W hI hun haft hi
                    have fg : a.eval (.tmp 45) = .bool false := haft ⟨3, .guard⟩ (by simp) rfl _ _ rfl rfl
                    have e11 : a.eval (.tmp 11) = .pointer (some ⟨b11, 0, none⟩) := hun 11 (by kernel_rfl)
                    exact b_same hi hI (guard_ok rfl rfl rfl fg) _ (run_fieldAddr_op rfl e11 (at_dot0' _ _ _)) rfl
                  · intro a W hI hun haft hi
                    have fg : a.eval (.tmp 45) = .bool false := haft ⟨3, .guard⟩ (by simp) rfl _ _ rfl rfl
                    have f4 : a.eval (.tmp 46) = .pointer (some ⟨b11, 0, none⟩) := haft ⟨4, .data⟩ (by simp) rfl _ _ rfl rfl
                    exact b_same hi hI (guard_ok rfl rfl rfl fg) _ (run_loadint_op rfl f4 Try.underlying3 ((Below.cell hI HDb.out).trans HD0.out)) rfl
                  · intro a W hI hun haft hi
                    have fg : a.eval (.tmp 45) = .bool false := haft ⟨3, .guard⟩ (by simp) rfl _ _ rfl rfl
                    have f5 : a.eval (.tmp 47) = .int .i64 e.r := haft ⟨5, .data⟩ (by simp) rfl _ _ rfl rfl
                    exact b_same hi hI (guard_ok rfl rfl rfl fg) (.bool false) (run_bin_op rfl f5 rfl (by kernel_rfl) (run_gti (decide_eq_false (by omega)) _)) rfl
                  · intro a W hI hun haft hi
                    have f3 : a.eval (.tmp 45) = .bool false := haft ⟨3, .data⟩ (by simp) rfl _ _ rfl rfl
                    have f6 : a.eval (.tmp 48) = .bool false := haft ⟨6, .data⟩ (by simp) rfl _ _ rfl rfl
                    exact b_same hi hI rfl _ (run_pick_op (b := false) rfl f3 rfl f6) rfl
                  · intro a W hI hun haft hi
                    have f7 : a.eval (.tmp 49) = .bool false := haft ⟨7, .data⟩ (by simp) rfl _ _ rfl rfl
                    exact b_same hi hI rfl _ (run_move_op rfl f7) rfl
                  · intro a W hI hun haft hi
                    have fg : a.eval (.tmp 50) = .bool false := haft ⟨8, .guard⟩ (by simp) rfl _ _ rfl rfl
                    have e11 : a.eval (.tmp 11) = .pointer (some ⟨b11, 0, none⟩) := hun 11 (by kernel_rfl)
                    exact b_same hi hI (guard_ok rfl rfl rfl fg) _ (run_fieldAddr_op rfl e11 (at_dot1' _ _ _)) rfl
                  · intro a W hI hun haft hi
                    have fg : a.eval (.tmp 50) = .bool false := haft ⟨8, .guard⟩ (by simp) rfl _ _ rfl rfl
                    have f9 : a.eval (.tmp 51) = .pointer (some ⟨b11, 0 + 1, none⟩) := haft ⟨9, .data⟩ (by simp) rfl _ _ rfl rfl
                    exact b_same hi hI (guard_ok rfl rfl rfl fg) _ (run_loadint_op rfl f9 Try.underlying3 ((Below.cell hI HDb.out).trans HD1.out)) rfl
                  · intro a W hI hun haft hi
                    have fg : a.eval (.tmp 50) = .bool false := haft ⟨8, .guard⟩ (by simp) rfl _ _ rfl rfl
                    have f10 : a.eval (.tmp 52) = .int .i64 e.c := haft ⟨10, .data⟩ (by simp) rfl _ _ rfl rfl
                    exact b_same hi hI (guard_ok rfl rfl rfl fg) (.bool true) (run_bin_op rfl f10 rfl (by kernel_rfl) (run_lti (decide_eq_true (by omega)) _)) rfl
                  · intro a W hI hun haft hi
                    have f8 : a.eval (.tmp 50) = .bool false := haft ⟨8, .data⟩ (by simp) rfl _ _ rfl rfl
                    have f11 : a.eval (.tmp 53) = .bool true := haft ⟨11, .data⟩ (by simp) rfl _ _ rfl rfl
                    exact b_same hi hI rfl _ (run_pick_op (b := false) rfl f8 rfl f11) rfl
                  · intro a W hI hun haft hi
                    have f12 : a.eval (.tmp 54) = .bool true := haft ⟨12, .data⟩ (by simp) rfl _ _ rfl rfl
                    exact b_same hi hI rfl _ (run_move_op rfl f12) rfl
                  · intro a W hI hun haft hi
                    have fg : a.eval (.tmp 55) = .bool true := haft ⟨13, .guard⟩ (by simp) rfl _ _ rfl rfl
                    exact b_skip hi hI (guard_no rfl rfl rfl (.inl fg)) rfl
                  · intro a W hI hun haft hi
                    have fg : a.eval (.tmp 55) = .bool true := haft ⟨13, .guard⟩ (by simp) rfl _ _ rfl rfl
                    exact b_skip hi hI (guard_no rfl rfl rfl (.inl fg)) rfl
                  · intro a W hI hun haft hi
                    have fg : a.eval (.tmp 55) = .bool true := haft ⟨13, .guard⟩ (by simp) rfl _ _ rfl rfl
                    exact b_skip hi hI (guard_no rfl rfl rfl (.inl fg)) rfl
                  · intro a W hI hun haft hi
                    have f13 : a.eval (.tmp 55) = .bool true := haft ⟨13, .data⟩ (by simp) rfl _ _ rfl rfl
                    have f16 : a.eval (.tmp 58) = undef := haft ⟨16, .data⟩ (by simp) rfl _ _ rfl rfl
                    exact b_same hi hI rfl _ (run_pick_op (b := true) rfl f13 rfl f16) rfl
                  · intro a W hI hun haft hi
                    have f17 : a.eval (.tmp 59) = .bool true := haft ⟨17, .data⟩ (by simp) rfl _ _ rfl rfl
                    exact b_same hi hI rfl _ (run_move_op rfl f17) rfl
                  · intro a W hI hun haft hi
                    have fg : a.eval (.tmp 60) = .bool true := haft ⟨18, .guard⟩ (by simp) rfl _ _ rfl rfl
                    exact b_skip hi hI (guard_no rfl rfl rfl (.inl fg)) rfl
                  · intro a W hI hun haft hi
                    have fg : a.eval (.tmp 60) = .bool true := haft ⟨18, .guard⟩ (by simp) rfl _ _ rfl rfl
                    exact b_skip hi hI (guard_no rfl rfl rfl (.inl fg)) rfl
                  · intro a W hI hun haft hi
                    have fg : a.eval (.tmp 60) = .bool true := haft ⟨18, .guard⟩ (by simp) rfl _ _ rfl rfl
                    exact b_skip hi hI (guard_no rfl rfl rfl (.inl fg)) rfl
                  · intro a W hI hun haft hi
                    have fg : a.eval (.tmp 60) = .bool true := haft ⟨18, .guard⟩ (by simp) rfl _ _ rfl rfl
                    exact b_skip hi hI (guard_no rfl rfl rfl (.inl fg)) rfl
                  · intro a W hI hun haft hi
                    have fg : a.eval (.tmp 60) = .bool true := haft ⟨18, .guard⟩ (by simp) rfl _ _ rfl rfl
                    exact b_skip hi hI (guard_no rfl rfl rfl (.inl fg)) rfl
                  · intro a W hI hun haft hi
                    have fg : a.eval (.tmp 60) = .bool true := haft ⟨18, .guard⟩ (by simp) rfl _ _ rfl rfl
                    exact b_skip hi hI (guard_no rfl rfl rfl (.inl fg)) rfl
                  · intro a W hI hun haft hi
                    have fg : a.eval (.tmp 60) = .bool true := haft ⟨18, .guard⟩ (by simp) rfl _ _ rfl rfl
                    exact b_skip hi hI (guard_no rfl rfl rfl (.inl fg)) rfl
                  · intro a W hI hun haft hi
                    have f18 : a.eval (.tmp 60) = .bool true := haft ⟨18, .data⟩ (by simp) rfl _ _ rfl rfl
                    have f25 : a.eval (.tmp 67) = undef := haft ⟨25, .data⟩ (by simp) rfl _ _ rfl rfl
                    exact b_same hi hI rfl _ (run_pick_op (b := true) rfl f18 rfl f25) rfl
                · intro vals W hI hp
                  have hl26 : vals 26 = .bool true := hp 26 (by decide)
                  have HI := Lib.hid hI
                  clear hp hI
                  simp only [layN, List.size_toArray, List.length_cons, List.length_nil, List.range, List.range.loop, if_true, List.getElem?_toArray, List.getElem?_cons_zero, List.getElem?_cons_succ, Act.put, List.setIfInBounds_toArray, List.set_cons_zero, List.set_cons_succ, Nat.zero_add, Nat.reduceAdd, hl26]
                  clear hl26
                  go_wp2_with fail
                  go_meet
                  exact ⟨by rw [hk]; rfl, HI.out⟩
              · refine wp_region_any (by kernel_rfl) ?_
                refine wpAny_below (fun i v _ => v = ([.pointer (some ⟨b11, 0, none⟩), .int .i64 e.r, .bool false, .bool false, .pointer (some ⟨b11, 0, none⟩), .int .i64 e.r, .bool false, .bool false, .bool false, .pointer (some ⟨b11, 0 + 1, none⟩), .int .i64 e.c, .bool false, .bool false, .bool false, .pointer (some ⟨b11, 0 + 1, none⟩), .int .i64 e.c, .bool true, .bool true, .bool true, undef, undef, undef, undef, undef, undef, undef, .bool true] : List Value).getD i undef) _ Z (by kernel_rfl) (by kernel_rfl) (by kernel_rfl) (fun i v w w' _ h => h) ?_ ?_
                · refine ⟨?_, ?_, ?_, ?_, ?_, ?_, ?_, ?_, ?_, ?_, ?_, ?_, ?_, ?_, ?_, ?_, ?_, ?_, ?_, ?_, ?_, ?_, ?_, ?_, ?_, ?_, ?_, trivial⟩
                  · intro a W hI hun haft hi
                    have e11 : a.eval (.tmp 11) = .pointer (some ⟨b11, 0, none⟩) := hun 11 (by kernel_rfl)
                    exact b_same hi hI rfl _ (run_fieldAddr_op rfl e11 (at_dot0' _ _ _)) rfl
                  · intro a W hI hun haft hi
                    have f0 : a.eval (.tmp 42) = .pointer (some ⟨b11, 0, none⟩) := haft ⟨0, .data⟩ (by simp) rfl _ _ rfl rfl
                    exact b_same hi hI rfl _ (run_loadint_op rfl f0 Try.underlying3 ((Below.cell hI HDb.out).trans HD0.out)) rfl
                  · intro a W hI hun haft hi
                    have f1 : a.eval (.tmp 43) = .int .i64 e.r := haft ⟨1, .data⟩ (by simp) rfl _ _ rfl rfl
                    exact b_same hi hI rfl (.bool false) (run_bin_op rfl f1 rfl (by kernel_rfl) (run_lti (decide_eq_false (by omega)) _)) rfl
                  · intro a W hI hun haft hi
                    have f2 : a.eval (.tmp 44) = .bool false := haft ⟨2, .data⟩ (by simp) rfl _ _ rfl rfl
                    exact b_same hi hI rfl _ (run_move_op rfl f2) rfl
                  · intro a W hI hun haft hi
                    have fg : a.eval (.tmp 45) = .bool false := haft ⟨3, .guard⟩ (by simp) rfl _ _ rfl rfl
                    have e11 : a.eval (.tmp 11) = .pointer (some ⟨b11, 0, none⟩) := hun 11 (by kernel_rfl)
                    exact b_same hi hI (guard_ok rfl rfl rfl fg) _ (run_fieldAddr_op rfl e11 (at_dot0' _ _ _)) rfl
                  · intro a W hI hun haft hi
                    have fg : a.eval (.tmp 45) = .bool false := haft ⟨3, .guard⟩ (by simp) rfl _ _ rfl rfl
                    have f4 : a.eval (.tmp 46) = .pointer (some ⟨b11, 0, none⟩) := haft ⟨4, .data⟩ (by simp) rfl _ _ rfl rfl
                    exact b_same hi hI (guard_ok rfl rfl rfl fg) _ (run_loadint_op rfl f4 Try.underlying3 ((Below.cell hI HDb.out).trans HD0.out)) rfl
                  · intro a W hI hun haft hi
                    have fg : a.eval (.tmp 45) = .bool false := haft ⟨3, .guard⟩ (by simp) rfl _ _ rfl rfl
                    have f5 : a.eval (.tmp 47) = .int .i64 e.r := haft ⟨5, .data⟩ (by simp) rfl _ _ rfl rfl
                    exact b_same hi hI (guard_ok rfl rfl rfl fg) (.bool false) (run_bin_op rfl f5 rfl (by kernel_rfl) (run_gti (decide_eq_false (by omega)) _)) rfl
                  · intro a W hI hun haft hi
                    have f3 : a.eval (.tmp 45) = .bool false := haft ⟨3, .data⟩ (by simp) rfl _ _ rfl rfl
                    have f6 : a.eval (.tmp 48) = .bool false := haft ⟨6, .data⟩ (by simp) rfl _ _ rfl rfl
                    exact b_same hi hI rfl _ (run_pick_op (b := false) rfl f3 rfl f6) rfl
                  · intro a W hI hun haft hi
                    have f7 : a.eval (.tmp 49) = .bool false := haft ⟨7, .data⟩ (by simp) rfl _ _ rfl rfl
                    exact b_same hi hI rfl _ (run_move_op rfl f7) rfl
                  · intro a W hI hun haft hi
                    have fg : a.eval (.tmp 50) = .bool false := haft ⟨8, .guard⟩ (by simp) rfl _ _ rfl rfl
                    have e11 : a.eval (.tmp 11) = .pointer (some ⟨b11, 0, none⟩) := hun 11 (by kernel_rfl)
                    exact b_same hi hI (guard_ok rfl rfl rfl fg) _ (run_fieldAddr_op rfl e11 (at_dot1' _ _ _)) rfl
                  · intro a W hI hun haft hi
                    have fg : a.eval (.tmp 50) = .bool false := haft ⟨8, .guard⟩ (by simp) rfl _ _ rfl rfl
                    have f9 : a.eval (.tmp 51) = .pointer (some ⟨b11, 0 + 1, none⟩) := haft ⟨9, .data⟩ (by simp) rfl _ _ rfl rfl
                    exact b_same hi hI (guard_ok rfl rfl rfl fg) _ (run_loadint_op rfl f9 Try.underlying3 ((Below.cell hI HDb.out).trans HD1.out)) rfl
                  · intro a W hI hun haft hi
                    have fg : a.eval (.tmp 50) = .bool false := haft ⟨8, .guard⟩ (by simp) rfl _ _ rfl rfl
                    have f10 : a.eval (.tmp 52) = .int .i64 e.c := haft ⟨10, .data⟩ (by simp) rfl _ _ rfl rfl
                    exact b_same hi hI (guard_ok rfl rfl rfl fg) (.bool false) (run_bin_op rfl f10 rfl (by kernel_rfl) (run_lti (decide_eq_false (by omega)) _)) rfl
                  · intro a W hI hun haft hi
                    have f8 : a.eval (.tmp 50) = .bool false := haft ⟨8, .data⟩ (by simp) rfl _ _ rfl rfl
                    have f11 : a.eval (.tmp 53) = .bool false := haft ⟨11, .data⟩ (by simp) rfl _ _ rfl rfl
                    exact b_same hi hI rfl _ (run_pick_op (b := false) rfl f8 rfl f11) rfl
                  · intro a W hI hun haft hi
                    have f12 : a.eval (.tmp 54) = .bool false := haft ⟨12, .data⟩ (by simp) rfl _ _ rfl rfl
                    exact b_same hi hI rfl _ (run_move_op rfl f12) rfl
                  · intro a W hI hun haft hi
                    have fg : a.eval (.tmp 55) = .bool false := haft ⟨13, .guard⟩ (by simp) rfl _ _ rfl rfl
                    have e11 : a.eval (.tmp 11) = .pointer (some ⟨b11, 0, none⟩) := hun 11 (by kernel_rfl)
                    exact b_same hi hI (guard_ok rfl rfl rfl fg) _ (run_fieldAddr_op rfl e11 (at_dot1' _ _ _)) rfl
                  · intro a W hI hun haft hi
                    have fg : a.eval (.tmp 55) = .bool false := haft ⟨13, .guard⟩ (by simp) rfl _ _ rfl rfl
                    have f14 : a.eval (.tmp 56) = .pointer (some ⟨b11, 0 + 1, none⟩) := haft ⟨14, .data⟩ (by simp) rfl _ _ rfl rfl
                    exact b_same hi hI (guard_ok rfl rfl rfl fg) _ (run_loadint_op rfl f14 Try.underlying3 ((Below.cell hI HDb.out).trans HD1.out)) rfl
                  · intro a W hI hun haft hi
                    have fg : a.eval (.tmp 55) = .bool false := haft ⟨13, .guard⟩ (by simp) rfl _ _ rfl rfl
                    have f15 : a.eval (.tmp 57) = .int .i64 e.c := haft ⟨15, .data⟩ (by simp) rfl _ _ rfl rfl
                    exact b_same hi hI (guard_ok rfl rfl rfl fg) (.bool true) (run_bin_op rfl f15 rfl (by kernel_rfl) (run_gti (decide_eq_true (by omega)) _)) rfl
                  · intro a W hI hun haft hi
                    have f13 : a.eval (.tmp 55) = .bool false := haft ⟨13, .data⟩ (by simp) rfl _ _ rfl rfl
                    have f16 : a.eval (.tmp 58) = .bool true := haft ⟨16, .data⟩ (by simp) rfl _ _ rfl rfl
                    exact b_same hi hI rfl _ (run_pick_op (b := false) rfl f13 rfl f16) rfl
                  · intro a W hI hun haft hi
                    have f17 : a.eval (.tmp 59) = .bool true := haft ⟨17, .data⟩ (by simp) rfl _ _ rfl rfl
                    exact b_same hi hI rfl _ (run_move_op rfl f17) rfl
                  · intro a W hI hun haft hi
                    have fg : a.eval (.tmp 60) = .bool true := haft ⟨18, .guard⟩ (by simp) rfl _ _ rfl rfl
                    exact b_skip hi hI (guard_no rfl rfl rfl (.inl fg)) rfl
                  · intro a W hI hun haft hi
                    have fg : a.eval (.tmp 60) = .bool true := haft ⟨18, .guard⟩ (by simp) rfl _ _ rfl rfl
                    exact b_skip hi hI (guard_no rfl rfl rfl (.inl fg)) rfl
                  · intro a W hI hun haft hi
                    have fg : a.eval (.tmp 60) = .bool true := haft ⟨18, .guard⟩ (by simp) rfl _ _ rfl rfl
                    exact b_skip hi hI (guard_no rfl rfl rfl (.inl fg)) rfl
                  · intro a W hI hun haft hi
                    have fg : a.eval (.tmp 60) = .bool true := haft ⟨18, .guard⟩ (by simp) rfl _ _ rfl rfl
                    exact b_skip hi hI (guard_no rfl rfl rfl (.inl fg)) rfl
                  · intro a W hI hun haft hi
                    have fg : a.eval (.tmp 60) = .bool true := haft ⟨18, .guard⟩ (by simp) rfl _ _ rfl rfl
                    exact b_skip hi hI (guard_no rfl rfl rfl (.inl fg)) rfl
                  · intro a W hI hun haft hi
                    have fg : a.eval (.tmp 60) = .bool true := haft ⟨18, .guard⟩ (by simp) rfl _ _ rfl rfl
                    exact b_skip hi hI (guard_no rfl rfl rfl (.inl fg)) rfl
                  · intro a W hI hun haft hi
                    have fg : a.eval (.tmp 60) = .bool true := haft ⟨18, .guard⟩ (by simp) rfl _ _ rfl rfl
                    exact b_skip hi hI (guard_no rfl rfl rfl (.inl fg)) rfl
                  · intro a W hI hun haft hi
                    have f18 : a.eval (.tmp 60) = .bool true := haft ⟨18, .data⟩ (by simp) rfl _ _ rfl rfl
                    have f25 : a.eval (.tmp 67) = undef := haft ⟨25, .data⟩ (by simp) rfl _ _ rfl rfl
                    exact b_same hi hI rfl _ (run_pick_op (b := true) rfl f18 rfl f25) rfl
                · intro vals W hI hp
                  have hl26 : vals 26 = .bool true := hp 26 (by decide)
                  have HI := Lib.hid hI
                  clear hp hI
                  simp only [layN, List.size_toArray, List.length_cons, List.length_nil, List.range, List.range.loop, if_true, List.getElem?_toArray, List.getElem?_cons_zero, List.getElem?_cons_succ, Act.put, List.setIfInBounds_toArray, List.set_cons_zero, List.set_cons_succ, Nat.zero_add, Nat.reduceAdd, hl26]
                  clear hl26
                  go_wp2_with fail
                  go_meet
                  exact ⟨by rw [hk]; rfl, HI.out⟩
              · refine wp_region_any (by kernel_rfl) ?_
                refine wpAny_below (fun i v _ => v = ([.pointer (some ⟨b11, 0, none⟩), .int .i64 e.r, .bool false, .bool false, .pointer (some ⟨b11, 0, none⟩), .int .i64 e.r, .bool false, .bool false, .bool false, .pointer (some ⟨b11, 0 + 1, none⟩), .int .i64 e.c, .bool false, .bool false, .bool false, .pointer (some ⟨b11, 0 + 1, none⟩), .int .i64 e.c, .bool false, .bool false, .bool false, .pointer (some ⟨b11, 0, none⟩), .int .i64 e.r, .pointer (some ⟨p, n, none⟩), .int .i64 (f n), .pointer (some ⟨b11, 0 + 1, none⟩), .int .i64 e.c, .bool true, .bool true] : List Value).getD i undef) _ Z (by kernel_rfl) (by kernel_rfl) (by kernel_rfl) (fun i v w w' _ h => h) ?_ ?_
                · refine ⟨?_, ?_, ?_, ?_, ?_, ?_, ?_, ?_, ?_, ?_, ?_, ?_, ?_, ?_, ?_, ?_, ?_, ?_, ?_, ?_, ?_, ?_, ?_, ?_, ?_, ?_, ?_, trivial⟩
                  · intro a W hI hun haft hi
                    have e11 : a.eval (.tmp 11) = .pointer (some ⟨b11, 0, none⟩) := hun 11 (by kernel_rfl)
                    exact b_same hi hI rfl _ (run_fieldAddr_op rfl e11 (at_dot0' _ _ _)) rfl
                  · intro a W hI hun haft hi
                    have f0 : a.eval (.tmp 42) = .pointer (some ⟨b11, 0, none⟩) := haft ⟨0, .data⟩ (by simp) rfl _ _ rfl rfl
                    exact b_same hi hI rfl _ (run_loadint_op rfl f0 Try.underlying3 ((Below.cell hI HDb.out).trans HD0.out)) rfl
                  · intro a W hI hun haft hi
                    have f1 : a.eval (.tmp 43) = .int .i64 e.r := haft ⟨1, .data⟩ (by simp) rfl _ _ rfl rfl
                    exact b_same hi hI rfl (.bool false) (run_bin_op rfl f1 rfl (by kernel_rfl) (run_lti (decide_eq_false (by omega)) _)) rfl
                  · intro a W hI hun haft hi
                    have f2 : a.eval (.tmp 44) = .bool false := haft ⟨2, .data⟩ (by simp) rfl _ _ rfl rfl
                    exact b_same hi hI rfl _ (run_move_op rfl f2) rfl
                  · intro a W hI hun haft hi
                    have fg : a.eval (.tmp 45) = .bool false := haft ⟨3, .guard⟩ (by simp) rfl _ _ rfl rfl
                    have e11 : a.eval (.tmp 11) = .pointer (some ⟨b11, 0, none⟩) := hun 11 (by kernel_rfl)
                    exact b_same hi hI (guard_ok rfl rfl rfl fg) _ (run_fieldAddr_op rfl e11 (at_dot0' _ _ _)) rfl
                  · intro a W hI hun haft hi
                    have fg : a.eval (.tmp 45) = .bool false := haft ⟨3, .guard⟩ (by simp) rfl _ _ rfl rfl
                    have f4 : a.eval (.tmp 46) = .pointer (some ⟨b11, 0, none⟩) := haft ⟨4, .data⟩ (by simp) rfl _ _ rfl rfl
                    exact b_same hi hI (guard_ok rfl rfl rfl fg) _ (run_loadint_op rfl f4 Try.underlying3 ((Below.cell hI HDb.out).trans HD0.out)) rfl
                  · intro a W hI hun haft hi
                    have fg : a.eval (.tmp 45) = .bool false := haft ⟨3, .guard⟩ (by simp) rfl _ _ rfl rfl
                    have f5 : a.eval (.tmp 47) = .int .i64 e.r := haft ⟨5, .data⟩ (by simp) rfl _ _ rfl rfl
                    exact b_same hi hI (guard_ok rfl rfl rfl fg) (.bool false) (run_bin_op rfl f5 rfl (by kernel_rfl) (run_gti (decide_eq_false (by omega)) _)) rfl
                  · intro a W hI hun haft hi
                    have f3 : a.eval (.tmp 45) = .bool false := haft ⟨3, .data⟩ (by simp) rfl _ _ rfl rfl
                    have f6 : a.eval (.tmp 48) = .bool false := haft ⟨6, .data⟩ (by simp) rfl _ _ rfl rfl
                    exact b_same hi hI rfl _ (run_pick_op (b := false) rfl f3 rfl f6) rfl
                  · intro a W hI hun haft hi
                    have f7 : a.eval (.tmp 49) = .bool false := haft ⟨7, .data⟩ (by simp) rfl _ _ rfl rfl
                    exact b_same hi hI rfl _ (run_move_op rfl f7) rfl
                  · intro a W hI hun haft hi
                    have fg : a.eval (.tmp 50) = .bool false := haft ⟨8, .guard⟩ (by simp) rfl _ _ rfl rfl
                    have e11 : a.eval (.tmp 11) = .pointer (some ⟨b11, 0, none⟩) := hun 11 (by kernel_rfl)
                    exact b_same hi hI (guard_ok rfl rfl rfl fg) _ (run_fieldAddr_op rfl e11 (at_dot1' _ _ _)) rfl
                  · intro a W hI hun haft hi
                    have fg : a.eval (.tmp 50) = .bool false := haft ⟨8, .guard⟩ (by simp) rfl _ _ rfl rfl
                    have f9 : a.eval (.tmp 51) = .pointer (some ⟨b11, 0 + 1, none⟩) := haft ⟨9, .data⟩ (by simp) rfl _ _ rfl rfl
                    exact b_same hi hI (guard_ok rfl rfl rfl fg) _ (run_loadint_op rfl f9 Try.underlying3 ((Below.cell hI HDb.out).trans HD1.out)) rfl
                  · intro a W hI hun haft hi
                    have fg : a.eval (.tmp 50) = .bool false := haft ⟨8, .guard⟩ (by simp) rfl _ _ rfl rfl
                    have f10 : a.eval (.tmp 52) = .int .i64 e.c := haft ⟨10, .data⟩ (by simp) rfl _ _ rfl rfl
                    exact b_same hi hI (guard_ok rfl rfl rfl fg) (.bool false) (run_bin_op rfl f10 rfl (by kernel_rfl) (run_lti (decide_eq_false (by omega)) _)) rfl
                  · intro a W hI hun haft hi
                    have f8 : a.eval (.tmp 50) = .bool false := haft ⟨8, .data⟩ (by simp) rfl _ _ rfl rfl
                    have f11 : a.eval (.tmp 53) = .bool false := haft ⟨11, .data⟩ (by simp) rfl _ _ rfl rfl
                    exact b_same hi hI rfl _ (run_pick_op (b := false) rfl f8 rfl f11) rfl
                  · intro a W hI hun haft hi
                    have f12 : a.eval (.tmp 54) = .bool false := haft ⟨12, .data⟩ (by simp) rfl _ _ rfl rfl
                    exact b_same hi hI rfl _ (run_move_op rfl f12) rfl
                  · intro a W hI hun haft hi
                    have fg : a.eval (.tmp 55) = .bool false := haft ⟨13, .guard⟩ (by simp) rfl _ _ rfl rfl
                    have e11 : a.eval (.tmp 11) = .pointer (some ⟨b11, 0, none⟩) := hun 11 (by kernel_rfl)
                    exact b_same hi hI (guard_ok rfl rfl rfl fg) _ (run_fieldAddr_op rfl e11 (at_dot1' _ _ _)) rfl
                  · intro a W hI hun haft hi
                    have fg : a.eval (.tmp 55) = .bool false := haft ⟨13, .guard⟩ (by simp) rfl _ _ rfl rfl
                    have f14 : a.eval (.tmp 56) = .pointer (some ⟨b11, 0 + 1, none⟩) := haft ⟨14, .data⟩ (by simp) rfl _ _ rfl rfl
                    exact b_same hi hI (guard_ok rfl rfl rfl fg) _ (run_loadint_op rfl f14 Try.underlying3 ((Below.cell hI HDb.out).trans HD1.out)) rfl
                  · intro a W hI hun haft hi
                    have fg : a.eval (.tmp 55) = .bool false := haft ⟨13, .guard⟩ (by simp) rfl _ _ rfl rfl
                    have f15 : a.eval (.tmp 57) = .int .i64 e.c := haft ⟨15, .data⟩ (by simp) rfl _ _ rfl rfl
                    exact b_same hi hI (guard_ok rfl rfl rfl fg) (.bool false) (run_bin_op rfl f15 rfl (by kernel_rfl) (run_gti (decide_eq_false (by omega)) _)) rfl
                  · intro a W hI hun haft hi
                    have f13 : a.eval (.tmp 55) = .bool false := haft ⟨13, .data⟩ (by simp) rfl _ _ rfl rfl
                    have f16 : a.eval (.tmp 58) = .bool false := haft ⟨16, .data⟩ (by simp) rfl _ _ rfl rfl
                    exact b_same hi hI rfl _ (run_pick_op (b := false) rfl f13 rfl f16) rfl
                  · intro a W hI hun haft hi
                    have f17 : a.eval (.tmp 59) = .bool false := haft ⟨17, .data⟩ (by simp) rfl _ _ rfl rfl
                    exact b_same hi hI rfl _ (run_move_op rfl f17) rfl
                  · intro a W hI hun haft hi
                    have fg : a.eval (.tmp 60) = .bool false := haft ⟨18, .guard⟩ (by simp) rfl _ _ rfl rfl
                    have e11 : a.eval (.tmp 11) = .pointer (some ⟨b11, 0, none⟩) := hun 11 (by kernel_rfl)
                    exact b_same hi hI (guard_ok rfl rfl rfl fg) _ (run_fieldAddr_op rfl e11 (at_dot0' _ _ _)) rfl
                  · intro a W hI hun haft hi
                    have fg : a.eval (.tmp 60) = .bool false := haft ⟨18, .guard⟩ (by simp) rfl _ _ rfl rfl
                    have f19 : a.eval (.tmp 61) = .pointer (some ⟨b11, 0, none⟩) := haft ⟨19, .data⟩ (by simp) rfl _ _ rfl rfl
                    exact b_same hi hI (guard_ok rfl rfl rfl fg) _ (run_loadint_op rfl f19 Try.underlying3 ((Below.cell hI HDb.out).trans HD0.out)) rfl
                  · intro a W hI hun haft hi
                    have fg : a.eval (.tmp 60) = .bool false := haft ⟨18, .guard⟩ (by simp) rfl _ _ rfl rfl
                    have e2 : a.eval (.tmp 2) = .pointer (some ⟨p, 0, none⟩) := hun 2 (by kernel_rfl)
                    have f20 : a.eval (.tmp 62) = .int .i64 e.r := haft ⟨20, .data⟩ (by simp) rfl _ _ rfl rfl
                    exact b_same hi hI (guard_ok rfl rfl rfl fg) _ (run_indexAddr_op rfl e2 f20 (by rw [hrn]; exact at_vec p n hn _)) rfl
                  · intro a W hI hun haft hi
                    have fg : a.eval (.tmp 60) = .bool false := haft ⟨18, .guard⟩ (by simp) rfl _ _ rfl rfl
                    have f21 : a.eval (.tmp 63) = .pointer (some ⟨p, n, none⟩) := haft ⟨21, .data⟩ (by simp) rfl _ _ rfl rfl
                    exact b_same hi hI (guard_ok rfl rfl rfl fg) _ (run_loadint_op rfl f21 Try.underlying3 ((Below.cell hI HPl.out).trans (VB.cell_ HIZ.out.v n hn))) rfl
                  · intro a W hI hun haft hi
                    have fg : a.eval (.tmp 60) = .bool false := haft ⟨18, .guard⟩ (by simp) rfl _ _ rfl rfl
                    have e11 : a.eval (.tmp 11) = .pointer (some ⟨b11, 0, none⟩) := hun 11 (by kernel_rfl)
                    exact b_same hi hI (guard_ok rfl rfl rfl fg) _ (run_fieldAddr_op rfl e11 (at_dot1' _ _ _)) rfl
                  · intro a W hI hun haft hi
                    have fg : a.eval (.tmp 60) = .bool false := haft ⟨18, .guard⟩ (by simp) rfl _ _ rfl rfl
                    have f23 : a.eval (.tmp 65) = .pointer (some ⟨b11, 0 + 1, none⟩) := haft ⟨23, .data⟩ (by simp) rfl _ _ rfl rfl
                    exact b_same hi hI (guard_ok rfl rfl rfl fg) _ (run_loadint_op rfl f23 Try.underlying3 ((Below.cell hI HDb.out).trans HD1.out)) rfl
                  · intro a W hI hun haft hi
                    have fg : a.eval (.tmp 60) = .bool false := haft ⟨18, .guard⟩ (by simp) rfl _ _ rfl rfl
                    have f22 : a.eval (.tmp 64) = .int .i64 (f n) := haft ⟨22, .data⟩ (by simp) rfl _ _ rfl rfl
                    have f24 : a.eval (.tmp 66) = .int .i64 e.c := haft ⟨24, .data⟩ (by simp) rfl _ _ rfl rfl
                    exact b_same hi hI (guard_ok rfl rfl rfl fg) (.bool true) (run_bin_op rfl f22 f24 (by kernel_rfl) (run_lti (decide_eq_true (by omega)) _)) rfl
                  · intro a W hI hun haft hi
                    have f18 : a.eval (.tmp 60) = .bool false := haft ⟨18, .data⟩ (by simp) rfl _ _ rfl rfl
                    have f25 : a.eval (.tmp 67) = .bool true := haft ⟨25, .data⟩ (by simp) rfl _ _ rfl rfl
                    exact b_same hi hI rfl _ (run_pick_op (b := false) rfl f18 rfl f25) rfl
                · intro vals W hI hp
                  have hl26 : vals 26 = .bool true := hp 26 (by decide)
                  have HI := Lib.hid hI
                  clear hp hI
                  simp only [layN, List.size_toArray, List.length_cons, List.length_nil, List.range, List.range.loop, if_true, List.getElem?_toArray, List.getElem?_cons_zero, List.getElem?_cons_succ, Act.put, List.setIfInBounds_toArray, List.set_cons_zero, List.set_cons_succ, Nat.zero_add, Nat.reduceAdd, hl26]
                  clear hl26
                  go_wp2_with fail
                  go_meet
                  exact ⟨by rw [hk]; rfl, HI.out⟩
            · refine wp_region_any (by kernel_rfl) ?_
              refine wpAny_below (fun i v _ => v = ([.pointer (some ⟨b11, 0, none⟩), .int .i64 e.r, .bool false, .bool false, .pointer (some ⟨b11, 0, none⟩), .int .i64 e.r, .bool false, .bool false, .bool false, .pointer (some ⟨b11, 0 + 1, none⟩), .int .i64 e.c, .bool false, .bool false, .bool false, .pointer (some ⟨b11, 0 + 1, none⟩), .int .i64 e.c, .bool false, .bool false, .bool false, .pointer (some ⟨b11, 0, none⟩), .int .i64 e.r, .pointer (some ⟨p, n, none⟩), .int .i64 (f n), .pointer (some ⟨b11, 0 + 1, none⟩), .int .i64 e.c, .bool false, .bool false] : List Value).getD i undef) _ Z (by kernel_rfl) (by kernel_rfl) (by kernel_rfl) (fun i v w w' _ h => h) ?_ ?_
              · refine ⟨?_, ?_, ?_, ?_, ?_, ?_, ?_, ?_, ?_, ?_, ?_, ?_, ?_, ?_, ?_, ?_, ?_, ?_, ?_, ?_, ?_, ?_, ?_, ?_, ?_, ?_, ?_, trivial⟩
                · intro a W hI hun haft hi
                  have e11 : a.eval (.tmp 11) = .pointer (some ⟨b11, 0, none⟩) := hun 11 (by kernel_rfl)
                  exact b_same hi hI rfl _ (run_fieldAddr_op rfl e11 (at_dot0' _ _ _)) rfl
                · intro a W hI hun haft hi
                  have f0 : a.eval (.tmp 42) = .pointer (some ⟨b11, 0, none⟩) := haft ⟨0, .data⟩ (by simp) rfl _ _ rfl rfl
                  exact b_same hi hI rfl _ (run_loadint_op rfl f0 Try.underlying3 ((Below.cell hI HDb.out).trans HD0.out)) rfl
                · intro a W hI hun haft hi
                  have f1 : a.eval (.tmp 43) = .int .i64 e.r := haft ⟨1, .data⟩ (by simp) rfl _ _ rfl rfl
                  exact b_same hi hI rfl (.bool false) (run_bin_op rfl f1 rfl (by kernel_rfl) (run_lti (decide_eq_false (by omega)) _)) rfl
                · intro a W hI hun haft hi
                  have f2 : a.eval (.tmp 44) = .bool false := haft ⟨2, .data⟩ (by simp) rfl _ _ rfl rfl
                  exact b_same hi hI rfl _ (run_move_op rfl f2) rfl
                · intro a W hI hun haft hi
                  have fg : a.eval (.tmp 45) = .bool false := haft ⟨3, .guard⟩ (by simp) rfl _ _ rfl rfl
                  have e11 : a.eval (.tmp 11) = .pointer (some ⟨b11, 0, none⟩) := hun 11 (by kernel_rfl)
                  exact b_same hi hI (guard_ok rfl rfl rfl fg) _ (run_fieldAddr_op rfl e11 (at_dot0' _ _ _)) rfl
                · intro a W hI hun haft hi
                  have fg : a.eval (.tmp 45) = .bool false := haft ⟨3, .guard⟩ (by simp) rfl _ _ rfl rfl
                  have f4 : a.eval (.tmp 46) = .pointer (some ⟨b11, 0, none⟩) := haft ⟨4, .data⟩ (by simp) rfl _ _ rfl rfl
                  exact b_same hi hI (guard_ok rfl rfl rfl fg) _ (run_loadint_op rfl f4 Try.underlying3 ((Below.cell hI HDb.out).trans HD0.out)) rfl
                · intro a W hI hun haft hi
                  have fg : a.eval (.tmp 45) = .bool false := haft ⟨3, .guard⟩ (by simp) rfl _ _ rfl rfl
                  have f5 : a.eval (.tmp 47) = .int .i64 e.r := haft ⟨5, .data⟩ (by simp) rfl _ _ rfl rfl
                  exact b_same hi hI (guard_ok rfl rfl rfl fg) (.bool false) (run_bin_op rfl f5 rfl (by kernel_rfl) (run_gti (decide_eq_false (by omega)) _)) rfl
                · intro a W hI hun haft hi
                  have f3 : a.eval (.tmp 45) = .bool false := haft ⟨3, .data⟩ (by simp) rfl _ _ rfl rfl
                  have f6 : a.eval (.tmp 48) = .bool false := haft ⟨6, .data⟩ (by simp) rfl _ _ rfl rfl
                  exact b_same hi hI rfl _ (run_pick_op (b := false) rfl f3 rfl f6) rfl
                · intro a W hI hun haft hi
                  have f7 : a.eval (.tmp 49) = .bool false := haft ⟨7, .data⟩ (by simp) rfl _ _ rfl rfl
                  exact b_same hi hI rfl _ (run_move_op rfl f7) rfl
                · intro a W hI hun haft hi
                  have fg : a.eval (.tmp 50) = .bool false := haft ⟨8, .guard⟩ (by simp) rfl _ _ rfl rfl
                  have e11 : a.eval (.tmp 11) = .pointer (some ⟨b11, 0, none⟩) := hun 11 (by kernel_rfl)
                  exact b_same hi hI (guard_ok rfl rfl rfl fg) _ (run_fieldAddr_op rfl e11 (at_dot1' _ _ _)) rfl
                · intro a W hI hun haft hi
                  have fg : a.eval (.tmp 50) = .bool false := haft ⟨8, .guard⟩ (by simp) rfl _ _ rfl rfl
                  have f9 : a.eval (.tmp 51) = .pointer (some ⟨b11, 0 + 1, none⟩) := haft ⟨9, .data⟩ (by simp) rfl _ _ rfl rfl
                  exact b_same hi hI (guard_ok rfl rfl rfl fg) _ (run_loadint_op rfl f9 Try.underlying3 ((Below.cell hI HDb.out).trans HD1.out)) rfl
                · intro a W hI hun haft hi
                  have fg : a.eval (.tmp 50) = .bool false := haft ⟨8, .guard⟩ (by simp) rfl _ _ rfl rfl
                  have f10 : a.eval (.tmp 52) = .int .i64 e.c := haft ⟨10, .data⟩ (by simp) rfl _ _ rfl rfl
                  exact b_same hi hI (guard_ok rfl rfl rfl fg) (.bool false) (run_bin_op rfl f10 rfl (by kernel_rfl) (run_lti (decide_eq_false (by omega)) _)) rfl
                · intro a W hI hun haft hi
                  have f8 : a.eval (.tmp 50) = .bool false := haft ⟨8, .data⟩ (by simp) rfl _ _ rfl rfl
                  have f11 : a.eval (.tmp 53) = .bool false := haft ⟨11, .data⟩ (by simp) rfl _ _ rfl rfl
                  exact b_same hi hI rfl _ (run_pick_op (b := false) rfl f8 rfl f11) rfl
                · intro a W hI hun haft hi
                  have f12 : a.eval (.tmp 54) = .bool false := haft ⟨12, .data⟩ (by simp) rfl _ _ rfl rfl
                  exact b_same hi hI rfl _ (run_move_op rfl f12) rfl
                · intro a W hI hun haft hi
                  have fg : a.eval (.tmp 55) = .bool false := haft ⟨13, .guard⟩ (by simp) rfl _ _ rfl rfl
                  have e11 : a.eval (.tmp 11) = .pointer (some ⟨b11, 0, none⟩) := hun 11 (by kernel_rfl)
                  exact b_same hi hI (guard_ok rfl rfl rfl fg) _ (run_fieldAddr_op rfl e11 (at_dot1' _ _ _)) rfl
                · intro a W hI hun haft hi
                  have fg : a.eval (.tmp 55) = .bool false := haft ⟨13, .guard⟩ (by simp) rfl _ _ rfl rfl
                  have f14 : a.eval (.tmp 56) = .pointer (some ⟨b11, 0 + 1, none⟩) := haft ⟨14, .data⟩ (by simp) rfl _ _ rfl rfl
                  exact b_same hi hI (guard_ok rfl rfl rfl fg) _ (run_loadint_op rfl f14 Try.underlying3 ((Below.cell hI HDb.out).trans HD1.out)) rfl
                · intro a W hI hun haft hi
                  have fg : a.eval (.tmp 55) = .bool false := haft ⟨13, .guard⟩ (by simp) rfl _ _ rfl rfl
                  have f15 : a.eval (.tmp 57) = .int .i64 e.c := haft ⟨15, .data⟩ (by simp) rfl _ _ rfl rfl
                  exact b_same hi hI (guard_ok rfl rfl rfl fg) (.bool false) (run_bin_op rfl f15 rfl (by kernel_rfl) (run_gti (decide_eq_false (by omega)) _)) rfl
                · intro a W hI hun haft hi
                  have f13 : a.eval (.tmp 55) = .bool false := haft ⟨13, .data⟩ (by simp) rfl _ _ rfl rfl
                  have f16 : a.eval (.tmp 58) = .bool false := haft ⟨16, .data⟩ (by simp) rfl _ _ rfl rfl
                  exact b_same hi hI rfl _ (run_pick_op (b := false) rfl f13 rfl f16) rfl
                · intro a W hI hun haft hi
                  have f17 : a.eval (.tmp 59) = .bool false := haft ⟨17, .data⟩ (by simp) rfl _ _ rfl rfl
                  exact b_same hi hI rfl _ (run_move_op rfl f17) rfl
                · intro a W hI hun haft hi
                  have fg : a.eval (.tmp 60) = .bool false := haft ⟨18, .guard⟩ (by simp) rfl _ _ rfl rfl
                  have e11 : a.eval (.tmp 11) = .pointer (some ⟨b11, 0, none⟩) := hun 11 (by kernel_rfl)
                  exact b_same hi hI (guard_ok rfl rfl rfl fg) _ (run_fieldAddr_op rfl e11 (at_dot0' _ _ _)) rfl
                · intro a W hI hun haft hi
                  have fg : a.eval (.tmp 60) = .bool false := haft ⟨18, .guard⟩ (by simp) rfl _ _ rfl rfl
                  have f19 : a.eval (.tmp 61) = .pointer (some ⟨b11, 0, none⟩) := haft ⟨19, .data⟩ (by simp) rfl _ _ rfl rfl
                  exact b_same hi hI (guard_ok rfl rfl rfl fg) _ (run_loadint_op rfl f19 Try.underlying3 ((Below.cell hI HDb.out).trans HD0.out)) rfl
                · intro a W hI hun haft hi
                  have fg : a.eval (.tmp 60) = .bool false := haft ⟨18, .guard⟩ (by simp) rfl _ _ rfl rfl
                  have e2 : a.eval (.tmp 2) = .pointer (some ⟨p, 0, none⟩) := hun 2 (by kernel_rfl)
                  have f20 : a.eval (.tmp 62) = .int .i64 e.r := haft ⟨20, .data⟩ (by simp) rfl _ _ rfl rfl
                  exact b_same hi hI (guard_ok rfl rfl rfl fg) _ (run_indexAddr_op rfl e2 f20 (by rw [hrn]; exact at_vec p n hn _)) rfl
                · intro a W hI hun haft hi
                  have fg : a.eval (.tmp 60) = .bool false := haft ⟨18, .guard⟩ (by simp) rfl _ _ rfl rfl
                  have f21 : a.eval (.tmp 63) = .pointer (some ⟨p, n, none⟩) := haft ⟨21, .data⟩ (by simp) rfl _ _ rfl rfl
                  exact b_same hi hI (guard_ok rfl rfl rfl fg) _ (run_loadint_op rfl f21 Try.underlying3 ((Below.cell hI HPl.out).trans (VB.cell_ HIZ.out.v n hn))) rfl
                · intro a W hI hun haft hi
                  have fg : a.eval (.tmp 60) = .bool false := haft ⟨18, .guard⟩ (by simp) rfl _ _ rfl rfl
                  have e11 : a.eval (.tmp 11) = .pointer (some ⟨b11, 0, none⟩) := hun 11 (by kernel_rfl)
                  exact b_same hi hI (guard_ok rfl rfl rfl fg) _ (run_fieldAddr_op rfl e11 (at_dot1' _ _ _)) rfl
                · intro a W hI hun haft hi
                  have fg : a.eval (.tmp 60) = .bool false := haft ⟨18, .guard⟩ (by simp) rfl _ _ rfl rfl
                  have f23 : a.eval (.tmp 65) = .pointer (some ⟨b11, 0 + 1, none⟩) := haft ⟨23, .data⟩ (by simp) rfl _ _ rfl rfl
                  exact b_same hi hI (guard_ok rfl rfl rfl fg) _ (run_loadint_op rfl f23 Try.underlying3 ((Below.cell hI HDb.out).trans HD1.out)) rfl
                · intro a W hI hun haft hi
                  have fg : a.eval (.tmp 60) = .bool false := haft ⟨18, .guard⟩ (by simp) rfl _ _ rfl rfl
                  have f22 : a.eval (.tmp 64) = .int .i64 (f n) := haft ⟨22, .data⟩ (by simp) rfl _ _ rfl rfl
                  have f24 : a.eval (.tmp 66) = .int .i64 e.c := haft ⟨24, .data⟩ (by simp) rfl _ _ rfl rfl
                  exact b_same hi hI (guard_ok rfl rfl rfl fg) (.bool false) (run_bin_op rfl f22 f24 (by kernel_rfl) (run_lti (decide_eq_false (by omega)) _)) rfl
                · intro a W hI hun haft hi
                  have f18 : a.eval (.tmp 60) = .bool false := haft ⟨18, .data⟩ (by simp) rfl _ _ rfl rfl
                  have f25 : a.eval (.tmp 67) = .bool false := haft ⟨25, .data⟩ (by simp) rfl _ _ rfl rfl
                  exact b_same hi hI rfl _ (run_pick_op (b := false) rfl f18 rfl f25) rfl
              · intro vals W hI hp
                have hl26 : vals 26 = .bool false := hp 26 (by decide)
                have HI := Lib.hid hI
                clear hp hI
                simp only [layN, List.size_toArray, List.length_cons, List.length_nil, List.range, List.range.loop, if_true, List.getElem?_toArray, List.getElem?_cons_zero, List.getElem?_cons_succ, Act.put, List.setIfInBounds_toArray, List.set_cons_zero, List.set_cons_succ, Nat.zero_add, Nat.reduceAdd, hl26]
                clear hl26
                go_wp2_with fail
                go_meet
                exact ⟨by rw [hk]; rfl, HI.out⟩
          case rest =>
            obtain ⟨hx, hb⟩ := hcut
            subst hx
            have HI2 := Lib.hid (HIZ.out.keep hb)
            have HE2 := Lib.hid (EB.keep HEZ.out hb)
            have HB3 := Lib.hid (HBZ.out.trans (hb.mono HBZ.out.size))
            clear hb HIZ HEZ HBZ HDZ HD0 HD1 HDb HPl
            go_upto_if 68 with fail
            go_cut [7] (fun u7 wx => TellI p p q wx f h u6 u7 Dw (lackL f (l.take (j + 1))) ∧ EB wx b10 e ∧ Below w.heap.size w wx)
            case first =>
              have hB3 := HB3.out
              rw [HP.out] at hB3
              cases hk : knowsB f e.r e.c
              · obtain ⟨u', w3, hr3, hi3, he3, hb3, _, _⟩ := HI2.out.swap.grow HE2.out HOl.out hB3 (Nat.le_of_eq HP.out.symm) (by have := HDl.out; omega)
                have HA := Lib.hid hr3
                have HI3 := Lib.hid hi3.swap
                have HE3 := Lib.hid he3
                rw [← HP.out] at hb3
                have HB4 := Lib.hid hb3
                rw [hk] at HLx
                clear hr3 hi3 he3 hb3 hB3
                have kb : (!false) = true := rfl
                go_wp2_with (first
                  | (refine' wpList_load_if ?q1 39 (.tmp 10) ?q2 b10 ?q3 _ _ _ _ ?q4 Try.underlying39 ?q5 ?q6 ?_; (case q2 => rfl); (case q1 => rfl); (case q3 => rfl); (case q4 => exact HE2.out); (case q5 => rfl); (case q6 => exact (sizeE e)))
                  | (refine wpList_val (o := ⟨some 71, _, _, _, _, _⟩) rfl _ _ (run_buildSlice_op (vs := #[(0, .agg (evC e))]) rfl (by simp only [List.map_toArray, List.map_cons, List.map_nil]; rfl) (bsEv e _)) ?_)
                  | (at_builtin; refine Lib.wpList_append_run (o := ⟨some 72, _, _, _, _, _⟩) _ rfl _ _ _ _ rfl _ _ rfl rfl _ _ HA.out ?_)
                  | fail)
                go_meet
                exact ⟨by rw [HLx.out]; exact HI3.out, HE3.out, HB4.out⟩
              · rw [hk] at HLx
                clear hB3
                go_wp2_with fail
                go_meet
                exact ⟨by rw [HLx.out, if_pos trivial, List.append_nil]; exact HI2.out, HE2.out, HB3.out⟩
            case rest =>
              obtain ⟨hi3, he3, hb3⟩ := hcut
              have HI3 := Lib.hid hi3
              have HE3 := Lib.hid he3
              have HB4 := Lib.hid hb3
              clear hi3 he3 hb3 HI2 HE2 HB3
              by_cases hcc : cc = 0
              · subst hcc
                go_wp2_with (first
                  | (refine' wpList_load_if ?q1 27 (.tmp 5) ?q2 q ?q3 _ _ _ _ ?q4 Try.underlying27 ?q5 ?q6 ?_; (case q2 => rfl); (case q1 => rfl); (case q3 => rfl); (case q4 => exact HI3.out.n); (case q5 => rfl); (case q6 => exact sizeV _))
                  | (refine' wpList_load_if ?q1 39 (.tmp 10) ?q2 b10 ?q3 _ _ _ _ ?q4 Try.underlying39 ?q5 ?q6 ?_; (case q2 => rfl); (case q1 => rfl); (case q3 => rfl); (case q4 => exact HE3.out); (case q5 => rfl); (case q6 => exact (sizeE e)))
                  | fail)
                refine (one9_any h e _ HTe.out).mono ?_
                rintro x w4 ⟨rfl, hb4⟩
                have HI4 := Lib.hid (HI3.out.keep hb4)
                have HE4 := Lib.hid (EB.keep HE3.out hb4)
                have HB5 := Lib.hid (HB4.out.trans (hb4.mono HB4.out.size))
                clear hb4 HI3 HE3 HB4
                rcases oneI_cases h e with ho | ho | ho | ho
                · rw [ho]
                  have hm := oneI_may.1 ho
                  unfold mayC at hm
                  simp only [Bool.and_eq_true] at hm
                  obtain ⟨n, hrn, hn, _, _⟩ := ok_dot hm.1.1
                  have HNX := Lib.hid (nextA_on (s := (Dw, h, 0)) (e := e) rfl ho)
                  have HRn := Lib.hid hrn
                  have HNl := Lib.hid hn
                  have hB3 := HB5.out
                  rw [HP.out] at hB3
                  obtain ⟨u', w6, hr6, hi6, he6, hb6, _, _⟩ := HI4.out.grow HE4.out HOw.out hB3 (Nat.le_of_eq HP.out.symm) (by have := HDw.out; omega)
                  have HA := Lib.hid hr6
                  have HI6 := Lib.hid (hi6.put HPQ.out HRn.out)
                  rw [← HP.out] at hb6
                  have HB7 := Lib.hid (hb6.setCell (p := ⟨q, n, none⟩) (show w.heap.size ≤ q from by have := HQ.out; have := HP.out; omega) (.int .i64 e.c))
                  have c0 : w6.cell? ⟨b10, 0, none⟩ = some (.int .i64 n) := (Blk.cell he6 0).trans (by rw [show (evC e)[0]? = some (.int .i64 e.r) from rfl, HRn.out])
                  have c1 : w6.cell? ⟨b10, 1, none⟩ = some (.int .i64 e.c) := (Blk.cell he6 1).trans rfl
                  have cv : w6.cell? ⟨q, n, none⟩ = some (.int .i64 (h n)) := VB.cell_ hi6.n n HNl.out
                  have fv : w6.frozen? ⟨q, n, none⟩ = false := Blk.free hi6.n n
                  have hjm := HJ1.out
                  have hw := HW1.out
                  clear hr6 hi6 he6 hb6 hB3 hm hrn hn ho
                  go_wp2_with (first
                    | (refine' wpList_load_if ?q1 39 (.tmp 10) ?q2 b10 ?q3 _ _ _ _ ?q4 Try.underlying39 ?q5 ?q6 ?_; (case q2 => rfl); (case q1 => rfl); (case q3 => rfl); (case q4 => exact HE4.out); (case q5 => rfl); (case q6 => exact (sizeE e)))
                    | (refine wpList_val (o := ⟨some 84, _, _, _, _, _⟩) rfl _ _ (run_buildSlice_op (vs := #[(0, .agg (evC e))]) rfl (by simp only [List.map_toArray, List.map_cons, List.map_nil]; rfl) (bsEv e _)) ?_)
                    | (at_builtin; refine Lib.wpList_append_run (o := ⟨some 85, _, _, _, _, _⟩) _ rfl _ _ _ _ rfl _ _ rfl rfl _ _ HA.out ?_)
                    | (refine wpList_val (o := ⟨some 92, _, _, _, _, _⟩) rfl (.pointer (some ⟨q, n, none⟩)) _ (run_indexAddr_op rfl rfl rfl (at_vec q n HNl.out _)) ?_)
                    | fail)
                  go_roundw
                  case rel => exact ⟨j + 1, by go_num, by omega, by rw [HNx.out, HNX.out], by rw [HNx.out, HNX.out]; exact HI6.out, HB7.out⟩
                  case measure => simp [intOf] <;> omega
                · have HNX := Lib.hid (nextA_stop (s := (Dw, h, 0)) (e := e) rfl (by rw [ho]; decide) (by rw [ho]; decide))
                  rw [ho] at HNX ⊢
                  have hjm := HJ1.out
                  have hw := HW1.out
                  clear ho
                  go_wp2
                  go_roundw
                  case rel => exact ⟨j + 1, by go_num, by omega, by rw [HNx.out, HNX.out], by rw [HNx.out, HNX.out]; exact HI4.out, HB5.out⟩
                  case measure => simp [intOf] <;> omega
                · have HNX := Lib.hid (nextA_seen (s := (Dw, h, 0)) (e := e) ho)
                  rw [ho]
                  have hjm := HJ1.out
                  have hw := HW1.out
                  clear ho
                  go_wp2
                  go_roundw
                  case rel => exact ⟨j + 1, by go_num, by omega, by rw [HNx.out, HNX.out], by rw [HNx.out, HNX.out]; exact HI4.out, HB5.out⟩
                  case measure => simp [intOf] <;> omega
                · have HNX := Lib.hid (nextA_stop (s := (Dw, h, 0)) (e := e) rfl (by rw [ho]; decide) (by rw [ho]; decide))
                  rw [ho] at HNX ⊢
                  have hjm := HJ1.out
                  have hw := HW1.out
                  clear ho
                  go_wp2
                  go_roundw
                  case rel => exact ⟨j + 1, by go_num, by omega, by rw [HNx.out, HNX.out], by rw [HNx.out, HNX.out]; exact HI4.out, HB5.out⟩
                  case measure => simp [intOf] <;> omega
              · have HNX := Lib.hid (nextA_stays (s := (Dw, h, cc)) (e := e) hcc)
                have n1 : (cc == 0) = false := by rw [beq_eq_false_iff_ne]; exact hcc
                have n2 : (cc != 0) = true := by rw [bne, n1]; rfl
                have hjm := HJ1.out
                have hw := HW1.out
                go_wp2
                go_roundw
                case rel => exact ⟨j + 1, by go_num, by omega, by rw [HNx.out, HNX.out], by rw [HNx.out, HNX.out]; exact HI3.out, HB4.out⟩
                case measure => simp [intOf] <;> omega
      · have hjN : j = N := by omega
        have HA2 := Lib.hid (all8_any l A N c f wo (HS0.out.below HBw.out) HN.out (by have := H80.out; omega) HLn.out (HC0.out.below HBw.out))
        rw [hjN, List.take_of_length_le (Nat.le_of_eq HN.out)] at hi ⊢
        clear hjN hlt hj
        have hDl1 : (lackL f l).length ≤ l.length := List.length_filter_le _ _
        have hDw1 := allA_len l [] f
        obtain ⟨Dw, hDw⟩ : ∃ Dw, (allA l [] f).1 = Dw := ⟨_, rfl⟩
        obtain ⟨h, hh⟩ : ∃ h, (allA l [] f).2.1 = h := ⟨_, rfl⟩
        obtain ⟨cc, hcc⟩ : ∃ cc, (allA l [] f).2.2 = cc := ⟨_, rfl⟩
        rw [hDw, hh] at hi
        rw [hDw, hh, hcc] at HA2
        rw [hcc]
        rw [hDw] at hDw1
        have HI := Lib.hid hi
        obtain ⟨A6, c6, hu6, _, _⟩ := hi.ow.read encE_len
        obtain ⟨A7, c7, hu7, _, _⟩ := hi.ol.read encE_len
        subst hu6 hu7
        obtain ⟨nD, hnD⟩ : ∃ nD, Dw.length = nD := ⟨_, rfl⟩
        obtain ⟨Dl, hDl⟩ : ∃ Dl, lackL f l = Dl := ⟨_, rfl⟩
        obtain ⟨nL, hnL⟩ : ∃ nL, Dl.length = nL := ⟨_, rfl⟩
        rw [hDl] at HI hDl1
        rw [hDl, hnD, hnL]
        rw [hnD, hnL] at HI
        have HnD := Lib.hid hnD
        have HnL := Lib.hid hnL
        have HDl := Lib.hid hDl
        have HnD80 := Lib.hid (show nD ≤ 80 from by have := H80.out; have := HN.out; simp at hDw1; omega)
        have HnL80 := Lib.hid (show nL ≤ 80 from by have := H80.out; have := HN.out; omega)
        clear hi hDw hh hcc hnD hDl hnL hDl1 hDw1
        have hz := HZv.out
        go_wp2_with (first
          | (refine' wpList_load_if ?q1 27 (.tmp 2) ?q2 p ?q3 _ _ _ _ ?q4 Try.underlying27 ?q5 ?q6 ?_; (case q2 => rfl); (case q1 => rfl); (case q3 => rfl); (case q4 => exact HI.out.v); (case q5 => rfl); (case q6 => exact sizeV _))
          | fail)
        refine HA2.out.mono ?_
        rintro e w3 ⟨v13, rfl, ho13, hb3⟩
        obtain ⟨A13, c13, rfl, _, _⟩ := ho13.read encE_len
        rw [HnD.out] at ho13 ⊢
        obtain ⟨X3, hX3⟩ : ∃ X3, X3 = w3.alloc (.cells (vA h) 27) := ⟨_, rfl⟩
        have hbX3 : Below w3.heap.size w3 X3 := by rw [hX3]; exact (Below.refl _ _).alloc (Nat.le_refl _) _
        have HV3 := Lib.hid (show VB X3 w3.heap.size h by rw [hX3]; exact VB.new_ _ rfl)
        have HAl3 := Lib.hid fun c => World.setRow_alloc_new w3 (vA fun _ => 0) c 27
        have HZ3 := Lib.hid (show Blk (w3.alloc (.cells (vA fun _ => 0) 27)) w3.heap.size 27 (vA fun _ => 0) from Blk.new _ _ _)
        have HX3 := Lib.hid hX3
        have HO3 := Lib.hid (ho13.keep hbX3)
        have hb23 := hb3.trans (hbX3.mono hb3.size)
        have HI3 := Lib.hid (HI.out.keep hb23)
        have HB3 := Lib.hid (HBw.out.trans (hb23.mono HBw.out.size))
        have HL1 := Lib.hid (lacks_any l A N c f X3 (HS0.out.below HB3.out) HN.out (by have := H80.out; omega))
        rw [HDl.out] at HL1
        clear ho13 hb3 hX3 hbX3 hb23 HI HBw HA2
        go_upto_region 26 with (first
          | (refine wpList_store_row (o := ⟨none, _, _, _, _, _⟩) rfl 27 (.tmp 14) (.tmp 101) rfl w3.heap.size (vA h) rfl rfl _ _ HZ3.out (sizeV _) (by rw [vA_size, vA_size]) (vA_one _) ?_; rw [HAl3.out, ← HX3.out])
          | fail)
        obtain ⟨b14, hb14⟩ : ∃ b14, w3.heap.size = b14 := ⟨_, rfl⟩
        rw [hb14] at HV3 ⊢
        clear hb14 HZ3 HAl3 hz
        go_wp2_with (first
          | (refine' wpList_load_if ?q1 27 (.tmp 2) ?q2 p ?q3 _ _ _ _ ?q4 Try.underlying27 ?q5 ?q6 ?_; (case q2 => rfl); (case q1 => rfl); (case q3 => rfl); (case q4 => exact HI3.out.v); (case q5 => rfl); (case q6 => exact sizeV _))
          | fail)
        refine HL1.out.mono ?_
        rintro e w4 ⟨v16, rfl, ho16, hb4⟩
        obtain ⟨A16, c16, rfl, _, _⟩ := ho16.read encE_len
        rw [HnL.out] at ho16 ⊢
        have HO16 := Lib.hid ho16
        have HO13 := Lib.hid (HO3.out.keep hb4)
        have HI4 := Lib.hid (HI3.out.keep hb4)
        have HV4 := Lib.hid (VB.keep HV3.out hb4)
        have HB4 := Lib.hid (HB3.out.trans (hb4.mono HB3.out.size))
        clear ho16 hb4 HO3 HI3 HV3 HB3 HL1 HX3
        have q0 : (cc == cc) = true := beq_self_eq_true _
        have q00 : (cc != cc) = false := by rw [bne, q0]; rfl
        have hqv := fun w => eq_inV w h
        have q1 : ((nD : Int) == (nD : Int)) = true := beq_self_eq_true _
        have q2 : ((nD : Int) != (nD : Int)) = false := by rw [bne, q1]; rfl
        have q3 : ((nL : Int) == (nL : Int)) = true := beq_self_eq_true _
        have q4 : ((nL : Int) != (nL : Int)) = false := by rw [bne, q3]; rfl
        go_upto_region 29 with (first
          | (refine' wpList_load_if ?q1 27 (.tmp 14) ?q2 b14 ?q3 _ _ _ _ ?q4 Try.underlying27 ?q5 ?q6 ?_; (case q2 => rfl); (case q1 => rfl); (case q3 => rfl); (case q4 => exact HV4.out); (case q5 => rfl); (case q6 => exact sizeV _))
          | (refine' wpList_load_if ?q1 27 (.tmp 5) ?q2 q ?q3 _ _ _ _ ?q4 Try.underlying27 ?q5 ?q6 ?_; (case q2 => rfl); (case q1 => rfl); (case q3 => rfl); (case q4 => exact HI4.out.n); (case q5 => rfl); (case q6 => exact sizeV _))
          | fail)
        clear hqv q0 q00 q1 q2 q3 q4
        go_wp2_with fail
        go_loopw [130] (fun i wr => ∃ k : Nat, i = .int .i64 k ∧ k ≤ nD ∧ Below w4.heap.size w4 wr) (fun i _ => nD - (intOf i).toNat)
        case atStart => exact ⟨0, rfl, Nat.zero_le _, Below.refl _ _⟩
        case round =>
          obtain ⟨k, rfl, hk, hbw⟩ := hrel
          obtain ⟨wk, rfl⟩ : ∃ wk, wk = wr := ⟨_, rfl⟩
          have HBk := Lib.hid hbw
          by_cases hlt : k < nD
          · obtain ⟨e, he⟩ : ∃ e, Dw[k]? = some e := ⟨Dw[k]'(by rw [HnD.out]; exact hlt), List.getElem?_eq_getElem _⟩
            obtain ⟨ga, oa, hAa, hla, hca⟩ := ((HO13.out.read encE_len).below hbw).ev he
            obtain ⟨gb, ob, hAb, hlb, hcb⟩ := ((HI4.out.ow.read encE_len).below hbw).ev he
            subst hAa hAb
            have HCa := Lib.hid hca
            have HCb := Lib.hid hcb
            have HLa := Lib.hid hla
            have HLb := Lib.hid hlb
            have HLt := Lib.hid hlt
            have HW1 := Lib.hid (IntWalk.i64_in ((k : Int) + 1) (by have := HnD80.out; omega))
            have HJ1 := Lib.hid (show ¬ 9223372036854775807 < k + 1 by have := HnD80.out; omega)
            clear he hca hcb hla hlb hbw
            go_upto_region 32 with fail
            refine wp_region_any (by kernel_rfl) ?_
            refine wpAny_below (fun i v _ => v = ([.slice (some ⟨ga, oa, none⟩) nD c13, .int .i64 k, .pointer (some ⟨ga, oa + k * 27, none⟩), evV e, .slice (some ⟨gb, ob, none⟩) nD c6, .int .i64 k, .pointer (some ⟨gb, ob + k * 27, none⟩), evV e, .bool false] : List Value).getD i undef) _ wk (by kernel_rfl) (by kernel_rfl) (by kernel_rfl) (fun i v w w' _ h => h) ?_ ?_
            · refine ⟨?_, ?_, ?_, ?_, ?_, ?_, ?_, ?_, ?_, trivial⟩
              · intro a W hI hun haft hi
                have e13 : a.eval (.tmp 13) = .slice (some ⟨ga, oa, none⟩) nD c13 := hun 13 (by kernel_rfl)
                exact b_same hi hI rfl _ (run_move_op rfl e13) rfl
              · intro a W hI hun haft hi
                have e17 : a.eval (.tmp 17) = .int .i64 k := hun 17 (by kernel_rfl)
                exact b_same hi hI rfl _ (run_move_op rfl e17) rfl
              · intro a W hI hun haft hi
                have f0 : a.eval (.tmp 133) = .slice (some ⟨ga, oa, none⟩) nD c13 := haft ⟨0, .data⟩ (by simp) rfl _ _ rfl rfl
                have f1 : a.eval (.tmp 134) = .int .i64 k := haft ⟨1, .data⟩ (by simp) rfl _ _ rfl rfl
                exact b_same hi hI rfl _ (run_indexAddr_op rfl f0 f1 (at_Ev ga oa c13 nD k HLt.out _)) rfl
              · intro a W hI hun haft hi
                have f2 : a.eval (.tmp 135) = .pointer (some ⟨ga, oa + k * 27, none⟩) := haft ⟨2, .data⟩ (by simp) rfl _ _ rfl rfl
                exact b_same hi hI rfl _ (run_loadmid_op rfl f2 (rangeAt_same HCa.out (hI.block ga HLa.out)) Try.underlying39 rfl (sizeE e)) rfl
              · intro a W hI hun haft hi
                have e6 : a.eval (.tmp 6) = .slice (some ⟨gb, ob, none⟩) nD c6 := hun 6 (by kernel_rfl)
                exact b_same hi hI rfl _ (run_move_op rfl e6) rfl
              · intro a W hI hun haft hi
                have e17 : a.eval (.tmp 17) = .int .i64 k := hun 17 (by kernel_rfl)
                exact b_same hi hI rfl _ (run_move_op rfl e17) rfl
              · intro a W hI hun haft hi
                have f4 : a.eval (.tmp 137) = .slice (some ⟨gb, ob, none⟩) nD c6 := haft ⟨4, .data⟩ (by simp) rfl _ _ rfl rfl
                have f5 : a.eval (.tmp 138) = .int .i64 k := haft ⟨5, .data⟩ (by simp) rfl _ _ rfl rfl
                exact b_same hi hI rfl _ (run_indexAddr_op rfl f4 f5 (at_Ev gb ob c6 nD k HLt.out _)) rfl
              · intro a W hI hun haft hi
                have f6 : a.eval (.tmp 139) = .pointer (some ⟨gb, ob + k * 27, none⟩) := haft ⟨6, .data⟩ (by simp) rfl _ _ rfl rfl
                exact b_same hi hI rfl _ (run_loadmid_op rfl f6 (rangeAt_same HCb.out (hI.block gb HLb.out)) Try.underlying39 rfl (sizeE e)) rfl
              · intro a W hI hun haft hi
                have f3 : a.eval (.tmp 136) = evV e := haft ⟨3, .data⟩ (by simp) rfl _ _ rfl rfl
                have f7 : a.eval (.tmp 140) = evV e := haft ⟨7, .data⟩ (by simp) rfl _ _ rfl rfl
                exact b_same hi hI rfl (.bool false) (run_bin_op rfl f3 f7 (by kernel_rfl) (run_neEv W e)) rfl
            · intro vals W hI hp
              have hl8 : vals 8 = .bool false := hp 8 (by decide)
              have HI := Lib.hid hI
              clear hp hI
              simp only [layN, List.size_toArray, List.length_cons, List.length_nil, List.range, List.range.loop, if_true, List.getElem?_toArray, List.getElem?_cons_zero, List.getElem?_cons_succ, Act.put, List.setIfInBounds_toArray, List.set_cons_zero, List.set_cons_succ, Nat.zero_add, Nat.reduceAdd, hl8]
              clear hl8
              have hjm := HJ1.out
              have hw := HW1.out
              have hlt := HLt.out
              clear HCa HCb HLa HLb
              generalize W = W32 at *
              go_wp2
              go_roundw
              case rel => exact ⟨k + 1, by go_num, HLt.out, HBk.out.trans (HI.out.mono HBk.out.size)⟩
              case measure => simp [intOf] <;> omega
          · have hkn : k = nD := by omega
            rw [hkn]
            have HBa := Lib.hid (HB4.out.trans (hbw.mono HB4.out.size))
            have HI5 := Lib.hid (HI4.out.keep hbw)
            have HO17 := Lib.hid (HO16.out.keep hbw)
            clear hkn hk hlt hbw HBk HB4 HI4 HO16 HO13 HV4
            go_wp2_with fail
            go_loopw [145] (fun i wr => ∃ k : Nat, i = .int .i64 k ∧ k ≤ nL ∧ Below wk.heap.size wk wr) (fun i _ => nL - (intOf i).toNat)
            case atStart => exact ⟨0, rfl, Nat.zero_le _, Below.refl _ _⟩
            case round =>
              obtain ⟨k, rfl, hk, hbw⟩ := hrel
              obtain ⟨wl, rfl⟩ : ∃ wl, wl = wr := ⟨_, rfl⟩
              have HBk := Lib.hid hbw
              by_cases hlt : k < nL
              · obtain ⟨e, he⟩ : ∃ e, Dl[k]? = some e := ⟨Dl[k]'(by rw [HnL.out]; exact hlt), List.getElem?_eq_getElem _⟩
                obtain ⟨ga, oa, hAa, hla, hca⟩ := ((HO17.out.read encE_len).below hbw).ev he
                obtain ⟨gb, ob, hAb, hlb, hcb⟩ := ((HI5.out.ol.read encE_len).below hbw).ev he
                subst hAa hAb
                have HCa := Lib.hid hca
                have HCb := Lib.hid hcb
                have HLa := Lib.hid hla
                have HLb := Lib.hid hlb
                have HLt := Lib.hid hlt
                have HW1 := Lib.hid (IntWalk.i64_in ((k : Int) + 1) (by have := HnL80.out; omega))
                have HJ1 := Lib.hid (show ¬ 9223372036854775807 < k + 1 by have := HnL80.out; omega)
                clear he hca hcb hla hlb hbw
                go_upto_region 38 with fail
                refine wp_region_any (by kernel_rfl) ?_
                refine wpAny_below (fun i v _ => v = ([.slice (some ⟨ga, oa, none⟩) nL c16, .int .i64 k, .pointer (some ⟨ga, oa + k * 27, none⟩), evV e, .slice (some ⟨gb, ob, none⟩) nL c7, .int .i64 k, .pointer (some ⟨gb, ob + k * 27, none⟩), evV e, .bool false] : List Value).getD i undef) _ wl (by kernel_rfl) (by kernel_rfl) (by kernel_rfl) (fun i v w w' _ h => h) ?_ ?_
                · refine ⟨?_, ?_, ?_, ?_, ?_, ?_, ?_, ?_, ?_, trivial⟩
                  · intro a W hI hun haft hi
                    have e16 : a.eval (.tmp 16) = .slice (some ⟨ga, oa, none⟩) nL c16 := hun 16 (by kernel_rfl)
                    exact b_same hi hI rfl _ (run_move_op rfl e16) rfl
                  · intro a W hI hun haft hi
                    have e18 : a.eval (.tmp 18) = .int .i64 k := hun 18 (by kernel_rfl)
                    exact b_same hi hI rfl _ (run_move_op rfl e18) rfl
                  · intro a W hI hun haft hi
                    have f0 : a.eval (.tmp 148) = .slice (some ⟨ga, oa, none⟩) nL c16 := haft ⟨0, .data⟩ (by simp) rfl _ _ rfl rfl
                    have f1 : a.eval (.tmp 149) = .int .i64 k := haft ⟨1, .data⟩ (by simp) rfl _ _ rfl rfl
                    exact b_same hi hI rfl _ (run_indexAddr_op rfl f0 f1 (at_Ev ga oa c16 nL k HLt.out _)) rfl
                  · intro a W hI hun haft hi
                    have f2 : a.eval (.tmp 150) = .pointer (some ⟨ga, oa + k * 27, none⟩) := haft ⟨2, .data⟩ (by simp) rfl _ _ rfl rfl
                    exact b_same hi hI rfl _ (run_loadmid_op rfl f2 (rangeAt_same HCa.out (hI.block ga HLa.out)) Try.underlying39 rfl (sizeE e)) rfl
                  · intro a W hI hun haft hi
                    have e7 : a.eval (.tmp 7) = .slice (some ⟨gb, ob, none⟩) nL c7 := hun 7 (by kernel_rfl)
                    exact b_same hi hI rfl _ (run_move_op rfl e7) rfl
                  · intro a W hI hun haft hi
                    have e18 : a.eval (.tmp 18) = .int .i64 k := hun 18 (by kernel_rfl)
                    exact b_same hi hI rfl _ (run_move_op rfl e18) rfl
                  · intro a W hI hun haft hi
                    have f4 : a.eval (.tmp 152) = .slice (some ⟨gb, ob, none⟩) nL c7 := haft ⟨4, .data⟩ (by simp) rfl _ _ rfl rfl
                    have f5 : a.eval (.tmp 153) = .int .i64 k := haft ⟨5, .data⟩ (by simp) rfl _ _ rfl rfl
                    exact b_same hi hI rfl _ (run_indexAddr_op rfl f4 f5 (at_Ev gb ob c7 nL k HLt.out _)) rfl
                  · intro a W hI hun haft hi
                    have f6 : a.eval (.tmp 154) = .pointer (some ⟨gb, ob + k * 27, none⟩) := haft ⟨6, .data⟩ (by simp) rfl _ _ rfl rfl
                    exact b_same hi hI rfl _ (run_loadmid_op rfl f6 (rangeAt_same HCb.out (hI.block gb HLb.out)) Try.underlying39 rfl (sizeE e)) rfl
                  · intro a W hI hun haft hi
                    have f3 : a.eval (.tmp 151) = evV e := haft ⟨3, .data⟩ (by simp) rfl _ _ rfl rfl
                    have f7 : a.eval (.tmp 155) = evV e := haft ⟨7, .data⟩ (by simp) rfl _ _ rfl rfl
                    exact b_same hi hI rfl (.bool false) (run_bin_op rfl f3 f7 (by kernel_rfl) (run_neEv W e)) rfl
                · intro vals W hI hp
                  have hl8 : vals 8 = .bool false := hp 8 (by decide)
                  have HI := Lib.hid hI
                  clear hp hI
                  simp only [layN, List.size_toArray, List.length_cons, List.length_nil, List.range, List.range.loop, if_true, List.getElem?_toArray, List.getElem?_cons_zero, List.getElem?_cons_succ, Act.put, List.setIfInBounds_toArray, List.set_cons_zero, List.set_cons_succ, Nat.zero_add, Nat.reduceAdd, hl8]
                  clear hl8
                  have hjm := HJ1.out
                  have hw := HW1.out
                  have hlt := HLt.out
                  clear HCa HCb HLa HLb
                  generalize W = W38 at *
                  go_wp2
                  go_roundw
                  case rel => exact ⟨k + 1, by go_num, HLt.out, HBk.out.trans (HI.out.mono HBk.out.size)⟩
                  case measure => simp [intOf] <;> omega
              · have hkn : k = nL := by omega
                rw [hkn]
                have HBl := Lib.hid (HBa.out.trans (hbw.mono HBa.out.size))
                have hrc := row_caus l
                have hcau := causal8_any l A N c wl (HS0.out.below HBl.out) HN.out (by have := H80.out; omega) HTy.out
                obtain ⟨nK, hnK⟩ : ∃ nK, (causC l).1.length = nK := ⟨_, rfl⟩
                obtain ⟨hK, hhK⟩ : ∃ hK, (causC l).2 = hK := ⟨_, rfl⟩
                obtain ⟨DK, hDK⟩ : ∃ DK, (causC l).1 = DK := ⟨_, rfl⟩
                rw [hnK, HN.out] at hrc
                rw [hDK] at hnK
                rw [hhK, hDK] at hcau
                obtain ⟨bb, hbb⟩ : ∃ bb, rowB l = bb := ⟨_, rfl⟩
                have hrow := fun W (h1 : Below w.heap.size w W) => row8_any l A N c W (HS0.out.below h1) HN.out (by have := H80.out; omega) HLn.out (HC0.out.below h1)
                rw [hbb] at hrc hrow
                have kn : ((nK : Int) == (N : Int)) = bb := by
                  rw [hrc]
                  by_cases h : nK = N
                  · rw [decide_eq_true h, beq_iff_eq, h]
                  · rw [decide_eq_false h, beq_eq_false_iff_ne]; omega
                have KN := Lib.hid kn
                have HCA := Lib.hid hcau
                have HNK := Lib.hid hnK
                have HROW := Lib.hid hrow
                clear hkn hk hlt hbw HBk HBa HI5 HO17 hrc hcau hnK hhK hDK hbb hrow kn
                have hz := HZv.out
                go_wp2_with fail
                refine HCA.out.mono ?_
                rintro e w5 ⟨v19, rfl, ho19, hb5⟩
                obtain ⟨A19, c19, rfl, _, _⟩ := ho19.read encE_len
                rw [HNK.out] at ho19 ⊢
                obtain ⟨X6, hX6⟩ : ∃ X6, X6 = w5.alloc (.cells (vA hK) 27) := ⟨_, rfl⟩
                have hbX6 : Below w5.heap.size w5 X6 := by rw [hX6]; exact (Below.refl _ _).alloc (Nat.le_refl _) _
                have HAl6 := Lib.hid fun c => World.setRow_alloc_new w5 (vA fun _ => 0) c 27
                have HZ6 := Lib.hid (show Blk (w5.alloc (.cells (vA fun _ => 0) 27)) w5.heap.size 27 (vA fun _ => 0) from Blk.new _ _ _)
                have HX6 := Lib.hid hX6
                have hb56 := hb5.trans (hbX6.mono hb5.size)
                have HB6 := Lib.hid (HBl.out.trans (hb56.mono HBl.out.size))
                clear ho19 hb5 hX6 hbX6 hb56 HCA HBl
                go_upto_region 42 with (first
                  | (refine wpList_store_row (o := ⟨none, _, _, _, _, _⟩) rfl 27 (.tmp 20) (.tmp 162) rfl w5.heap.size (vA hK) rfl rfl _ _ HZ6.out (sizeV _) (by rw [vA_size, vA_size]) (vA_one _) ?_; rw [HAl6.out, ← HX6.out])
                  | fail)
                clear hz HZ6 HAl6 HX6
                generalize w5.heap.size = b20 at *
                go_wp2_with fail
                refine (HROW.out X6 HB6.out).mono ?_
                rintro e w7 ⟨rfl, hb7⟩
                have HB7 := Lib.hid (HB6.out.trans (hb7.mono HB6.out.size))
                have kn := KN.out
                clear hb7 HB6 HROW KN
                cases bb
                · go_wp2
                  go_ret
                  exact ⟨rfl, HB7.out⟩
                · go_wp2
                  go_ret
                  exact ⟨rfl, HB7.out⟩

end Go.Proofs.Ytpioapkhfhjlgaa
