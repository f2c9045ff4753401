/-
  hedgerowlaw06.EventRight: the walk: for all events the call returns true, and nothing that was there has turned. Conditions: CutOk, lengths.
-/
import Derived.Test.YtmchnnnpabpelaaEvRefRt
import Derived.Test.YtmchnnnpabpelaaEvFixed
namespace Go.Proofs.Ytmchnnnpabpelaa
open Go.RowKit

theorem at_ev0 (g : Nat) (w : World) : (Instr.fieldAt 31 (.pointer (some ⟨g, 0, none⟩)) 0).run Try.prog w = .ok (.pointer (some ⟨g, 0, none⟩)) w := by go_simp
theorem short_is (e : Ev) (hf : Fit e) (b : Bool) (h : shortB e = b) (w : World) : Calls Try.prog 7 #[evV e] w (Gives w (.bool b)) := by
  have := short_any e w hf; rwa [h] at this
theorem run_eqe (a : Int) (w : World) : (binOp .eql 36 (.int .i64 a) (.int .i64 a)).run Try.prog w = .ok (.bool true) w := by go_simp

set_option maxRecDepth 100000 in
set_option maxHeartbeats 2000000 in
theorem eventright_walk (e : Ev) (w : World) (hf : Fit e) (hw : CutOk w) : Calls Try.prog 3 #[evV e] w (Gives w (.bool true)) := by
  have HSh := Lib.hid (short_is e hf)
  obtain ⟨X, hX⟩ : ∃ X, X = w.alloc (.cells (evC e) 31) := ⟨_, rfl⟩
  have hk : EB X w.heap.size e := by rw [hX]; exact EB.new_ w e
  have hy : Below w.heap.size w X := by rw [hX]; exact (Below.refl _ _).alloc (Nat.le_refl _) _
  have HX := Lib.hid hX
  have K0 := Lib.hid hk
  have Y0 := Lib.hid hy
  have W0 := Lib.hid (hw.below hy)
  clear hX hk hy hf hw
  unfold evV at *
  go_enter Try.func3, Try.ntmps3
  go_upto_region 1 with fail
  rw [← HX.out]
  go_wp2_with fail
  refine (efixed_any _ W0.out).mono ?_
  rintro x1 A1 ⟨rfl, hb⟩
  have K1 := Lib.hid (EB.keep K0.out hb)
  have Y1 := Lib.hid (Y0.out.trans (hb.mono Y0.out.size))
  have W1 := Lib.hid (CutOk.below W0.out hb)
  clear hb K0 Y0 W0
  cases hs : shortB e
  · have HS := Lib.hid (HSh.out _ hs)
    clear HSh hs
    go_wp2_with (refine wpList_load_if rfl 31 (.tmp 1) rfl w.heap.size rfl _ _ _ _ K1.out Try.underlying31 rfl (sizeE _) ?_)
    refine (HS.out _).mono ?_
    rintro x2 A2 ⟨rfl, hb⟩
    have Y2 := Lib.hid (Y1.out.trans (hb.mono Y1.out.size))
    clear hb
    go_wp2
    go_ret
    exact ⟨rfl, Y2.out⟩
  · have HS := Lib.hid (HSh.out _ hs)
    have HL := Lib.hid (short_lens e hs)
    have HT := Lib.hid (short_tiny e hs)
    clear HSh hs
    have hz := (zero_of_info zeroC).1
    have HZ := Lib.hid hz
    clear hz
    go_wp2_with (refine wpList_load_if rfl 31 (.tmp 1) rfl w.heap.size rfl _ _ _ _ K1.out Try.underlying31 rfl (sizeE _) ?_)
    refine (HS.out _).mono ?_
    rintro x2 A2 ⟨rfl, hb⟩
    have K2 := Lib.hid (EB.keep K1.out hb)
    have Y2 := Lib.hid (Y1.out.trans (hb.mono Y1.out.size))
    have W2 := Lib.hid (CutOk.below W1.out hb)
    clear hb K1 Y1 W1
    have hz := HZ.out
    have NN := Lib.hid (Blk.new A2 35 (chC ev0))
    have co := K2.out.opc
    go_upto_region 6 with (first
      | (refine wpList_load_midif rfl 27 (.tmp 11) rfl w.heap.size 19 rfl _ _ K2.out.elem Try.underlying27 rfl (by kernel_rfl) ?_)
      | (refine wpList_load_midif rfl 29 (.tmp 13) rfl w.heap.size 24 rfl _ _ K2.out.value Try.underlying29 rfl (by kernel_rfl) ?_)
      | (refine wpList_val (o := ⟨some 15, _, _, _, _, _⟩) rfl (chV e) A2 (by kernel_rfl) ?_)
      | (refine wpList_store_row rfl 35 (.tmp 3) (.tmp 15) rfl A2.heap.size (chC e) rfl rfl _ _ NN.out (sizeC _) rfl (chC_one _) ?_))
    clear hz co
    have hbb : Below A2.heap.size A2 ((A2.alloc (.cells (chC ev0) 35)).setRow A2.heap.size (chC e)) := ((Below.refl _ _).alloc (Nat.le_refl _) _).trans (setRow_below _ _ _ _ (Nat.le_refl _))
    have hq : Blk ((A2.alloc (.cells (chC ev0) 35)).setRow A2.heap.size (chC e)) A2.heap.size 35 (chC e) := setRow_blk _ _ _ _ _ NN.out
    generalize (A2.alloc (.cells (chC ev0) 35)).setRow A2.heap.size (chC e) = A3 at *
    have C3 := Lib.hid hq
    have K3 := Lib.hid (EB.keep K2.out hbb)
    have Y3 := Lib.hid (Y2.out.trans (hbb.mono Y2.out.size))
    have W3 := Lib.hid (CutOk.below W2.out hbb)
    clear hq hbb K2 Y2 W2 NN
    refine wp_region_any (by kernel_rfl) ?_
    refine wpAny_below (fun i v _ => v = ([evV e, .int .i64 (codeI (okB e)), evV e, .bool (okB e), .int .i64 (codeI (okB e)), .bool true, .bool true, chV e, .int .i64 (codeI (changeB e)), chV e, .bool (changeB e), .int .i64 (codeI (changeB e)), .bool true, .bool true, .bool true, evV e, chV e, chV e, .bool true, .bool true, .bool true, .pointer (some ⟨w.heap.size, 0, none⟩), dv e.r e.c, .pointer (some ⟨w.heap.size, 2, none⟩), .agg (vA e.p), chV e, evV e, evV e, .bool true, .bool true, .bool true] : List Value).getD i undef) _ A3 (by kernel_rfl) (by kernel_rfl) (by kernel_rfl) (fun i v w w' _ h => h) ?_ ?_
    · refine ⟨?_, ?_, ?_, ?_, ?_, ?_, ?_, ?_, ?_, ?_, ?_, ?_, ?_, ?_, ?_, ?_, ?_, ?_, ?_, ?_, ?_, ?_, ?_, ?_, ?_, ?_, ?_, ?_, ?_, ?_, ?_, trivial⟩
      · intro a W hI hun haft hi
        have e1 : a.eval (.tmp 1) = .pointer (some ⟨w.heap.size, 0, none⟩) := hun 1 (by kernel_rfl)
        exact b_same hi hI rfl _ (run_load_op rfl e1 (Blk.below K3.out hI (Blk.lt K3.out)) Try.underlying31 rfl (sizeE _)) rfl
      · intro a W hI hun haft hi
        have f0 : a.eval (.tmp 16) = evV e := haft ⟨0, .data⟩ (by simp) rfl _ _ rfl rfl
        refine b_call hi hI rfl _ _ (run_call_op (args := #[evV e]) rfl (by simp [f0]) (by kernel_rfl)) ?_
        exact (eright_any e W HL.out (CutOk.below W3.out hI)).mono fun e w' H => ⟨_, H.1, rfl, H.2⟩
      · intro a W hI hun haft hi
        have e1 : a.eval (.tmp 1) = .pointer (some ⟨w.heap.size, 0, none⟩) := hun 1 (by kernel_rfl)
        exact b_same hi hI rfl _ (run_load_op rfl e1 (Blk.below K3.out hI (Blk.lt K3.out)) Try.underlying31 rfl (sizeE _)) rfl
      · intro a W hI hun haft hi
        have f2 : a.eval (.tmp 18) = evV e := haft ⟨2, .data⟩ (by simp) rfl _ _ rfl rfl
        refine b_call hi hI rfl _ _ (run_call_op (args := #[evV e]) rfl (by simp [f2]) (by kernel_rfl)) ?_
        exact (refright6_any e W HT.out).mono fun e w' H => ⟨_, H.1, rfl, H.2⟩
      · intro a W hI hun haft hi
        have f3 : a.eval (.tmp 19) = .bool (okB e) := haft ⟨3, .data⟩ (by simp) rfl _ _ rfl rfl
        refine b_call hi hI rfl _ _ (run_call_op (args := #[.bool (okB e)]) rfl (by simp [f3]) (by kernel_rfl)) ?_
        exact (code_any _ W).mono fun e w' H => ⟨_, H.1, rfl, H.2⟩
      · intro a W hI hun haft hi
        have f1 : a.eval (.tmp 17) = .int .i64 (codeI (okB e)) := haft ⟨1, .data⟩ (by simp) rfl _ _ rfl rfl
        have f4 : a.eval (.tmp 20) = .int .i64 (codeI (okB e)) := haft ⟨4, .data⟩ (by simp) rfl _ _ rfl rfl
        exact b_same hi hI rfl (.bool true) (run_bin_op rfl f1 f4 (guardI6 _ _ _ _ _ _ _) (run_eqe _ _)) rfl
      · intro a W hI hun haft hi
        have f5 : a.eval (.tmp 21) = .bool true := haft ⟨5, .data⟩ (by simp) rfl _ _ rfl rfl
        exact b_same hi hI rfl _ (run_move_op rfl f5) rfl
      · intro a W hI hun haft hi
        have fg : a.eval (.tmp 22) = .bool true := haft ⟨6, .guard⟩ (by simp) rfl _ _ rfl rfl
        have e3 : a.eval (.tmp 3) = .pointer (some ⟨A2.heap.size, 0, none⟩) := hun 3 (by kernel_rfl)
        exact b_same hi hI (guard_ok rfl rfl rfl fg) _ (run_load_op rfl e3 (Blk.below C3.out hI (Blk.lt C3.out)) Try.underlying35 rfl (sizeC _)) rfl
      · intro a W hI hun haft hi
        have fg : a.eval (.tmp 22) = .bool true := haft ⟨6, .guard⟩ (by simp) rfl _ _ rfl rfl
        have f7 : a.eval (.tmp 23) = chV e := haft ⟨7, .data⟩ (by simp) rfl _ _ rfl rfl
        refine b_call hi hI (guard_ok rfl rfl rfl fg) _ _ (run_call_op (args := #[chV e]) rfl (by simp [f7]) (by kernel_rfl)) ?_
        exact (change_any e W HL.out (CutOk.below W3.out hI)).mono fun e w' H => ⟨_, H.1, rfl, H.2⟩
      · intro a W hI hun haft hi
        have fg : a.eval (.tmp 22) = .bool true := haft ⟨6, .guard⟩ (by simp) rfl _ _ rfl rfl
        have e3 : a.eval (.tmp 3) = .pointer (some ⟨A2.heap.size, 0, none⟩) := hun 3 (by kernel_rfl)
        exact b_same hi hI (guard_ok rfl rfl rfl fg) _ (run_load_op rfl e3 (Blk.below C3.out hI (Blk.lt C3.out)) Try.underlying35 rfl (sizeC _)) rfl
      · intro a W hI hun haft hi
        have fg : a.eval (.tmp 22) = .bool true := haft ⟨6, .guard⟩ (by simp) rfl _ _ rfl rfl
        have f9 : a.eval (.tmp 25) = chV e := haft ⟨9, .data⟩ (by simp) rfl _ _ rfl rfl
        refine b_call hi hI (guard_ok rfl rfl rfl fg) _ _ (run_call_op (args := #[chV e]) rfl (by simp [f9]) (by kernel_rfl)) ?_
        exact (refchange_any e W HT.out).mono fun e w' H => ⟨_, H.1, rfl, H.2⟩
      · intro a W hI hun haft hi
        have fg : a.eval (.tmp 22) = .bool true := haft ⟨6, .guard⟩ (by simp) rfl _ _ rfl rfl
        have f10 : a.eval (.tmp 26) = .bool (changeB e) := haft ⟨10, .data⟩ (by simp) rfl _ _ rfl rfl
        refine b_call hi hI (guard_ok rfl rfl rfl fg) _ _ (run_call_op (args := #[.bool (changeB e)]) rfl (by simp [f10]) (by kernel_rfl)) ?_
        exact (code_any _ W).mono fun e w' H => ⟨_, H.1, rfl, H.2⟩
      · intro a W hI hun haft hi
        have fg : a.eval (.tmp 22) = .bool true := haft ⟨6, .guard⟩ (by simp) rfl _ _ rfl rfl
        have f8 : a.eval (.tmp 24) = .int .i64 (codeI (changeB e)) := haft ⟨8, .data⟩ (by simp) rfl _ _ rfl rfl
        have f11 : a.eval (.tmp 27) = .int .i64 (codeI (changeB e)) := haft ⟨11, .data⟩ (by simp) rfl _ _ rfl rfl
        exact b_same hi hI (guard_ok rfl rfl rfl fg) (.bool true) (run_bin_op rfl f8 f11 (guardI6 _ _ _ _ _ _ _) (run_eqe _ _)) rfl
      · intro a W hI hun haft hi
        have f6 : a.eval (.tmp 22) = .bool true := haft ⟨6, .data⟩ (by simp) rfl _ _ rfl rfl
        have f12 : a.eval (.tmp 28) = .bool true := haft ⟨12, .data⟩ (by simp) rfl _ _ rfl rfl
        exact b_same hi hI rfl _ (run_pick_op (b := true) rfl f6 f12 rfl) rfl
      · intro a W hI hun haft hi
        have f13 : a.eval (.tmp 29) = .bool true := haft ⟨13, .data⟩ (by simp) rfl _ _ rfl rfl
        exact b_same hi hI rfl _ (run_move_op rfl f13) rfl
      · intro a W hI hun haft hi
        have fg : a.eval (.tmp 30) = .bool true := haft ⟨14, .guard⟩ (by simp) rfl _ _ rfl rfl
        have e1 : a.eval (.tmp 1) = .pointer (some ⟨w.heap.size, 0, none⟩) := hun 1 (by kernel_rfl)
        exact b_same hi hI (guard_ok rfl rfl rfl fg) _ (run_load_op rfl e1 (Blk.below K3.out hI (Blk.lt K3.out)) Try.underlying31 rfl (sizeE _)) rfl
      · intro a W hI hun haft hi
        have fg : a.eval (.tmp 30) = .bool true := haft ⟨14, .guard⟩ (by simp) rfl _ _ rfl rfl
        have f15 : a.eval (.tmp 31) = evV e := haft ⟨15, .data⟩ (by simp) rfl _ _ rfl rfl
        refine b_call hi hI (guard_ok rfl rfl rfl fg) _ _ (run_call_op (args := #[evV e]) rfl (by simp [f15]) (by kernel_rfl)) ?_
        exact (eof_any e W).mono fun e w' H => ⟨_, H.1, rfl, H.2⟩
      · intro a W hI hun haft hi
        have fg : a.eval (.tmp 30) = .bool true := haft ⟨14, .guard⟩ (by simp) rfl _ _ rfl rfl
        have e3 : a.eval (.tmp 3) = .pointer (some ⟨A2.heap.size, 0, none⟩) := hun 3 (by kernel_rfl)
        exact b_same hi hI (guard_ok rfl rfl rfl fg) _ (run_load_op rfl e3 (Blk.below C3.out hI (Blk.lt C3.out)) Try.underlying35 rfl (sizeC _)) rfl
      · intro a W hI hun haft hi
        have fg : a.eval (.tmp 30) = .bool true := haft ⟨14, .guard⟩ (by simp) rfl _ _ rfl rfl
        have f16 : a.eval (.tmp 32) = chV e := haft ⟨16, .data⟩ (by simp) rfl _ _ rfl rfl
        have f17 : a.eval (.tmp 33) = chV e := haft ⟨17, .data⟩ (by simp) rfl _ _ rfl rfl
        exact b_same hi hI (guard_ok rfl rfl rfl fg) (.bool true) (run_bin_op rfl f16 f17 (guard_agg _ (by kernel_rfl) _ _ _ _ _) (eq_change _ _)) rfl
      · intro a W hI hun haft hi
        have f14 : a.eval (.tmp 30) = .bool true := haft ⟨14, .data⟩ (by simp) rfl _ _ rfl rfl
        have f18 : a.eval (.tmp 34) = .bool true := haft ⟨18, .data⟩ (by simp) rfl _ _ rfl rfl
        exact b_same hi hI rfl _ (run_pick_op (b := true) rfl f14 f18 rfl) rfl
      · intro a W hI hun haft hi
        have f19 : a.eval (.tmp 35) = .bool true := haft ⟨19, .data⟩ (by simp) rfl _ _ rfl rfl
        exact b_same hi hI rfl _ (run_move_op rfl f19) rfl
      · intro a W hI hun haft hi
        have fg : a.eval (.tmp 36) = .bool true := haft ⟨20, .guard⟩ (by simp) rfl _ _ rfl rfl
        have e1 : a.eval (.tmp 1) = .pointer (some ⟨w.heap.size, 0, none⟩) := hun 1 (by kernel_rfl)
        exact b_same hi hI (guard_ok rfl rfl rfl fg) _ (run_fieldAddr_any rfl e1 (at_ev0 _ _)) rfl
      · intro a W hI hun haft hi
        have fg : a.eval (.tmp 36) = .bool true := haft ⟨20, .guard⟩ (by simp) rfl _ _ rfl rfl
        have f21 : a.eval (.tmp 37) = .pointer (some ⟨w.heap.size, 0, none⟩) := haft ⟨21, .data⟩ (by simp) rfl _ _ rfl rfl
        exact b_same hi hI (guard_ok rfl rfl rfl fg) _ (run_loadmid_op rfl f21 (EB.dot (EB.keep K3.out hI)) Try.underlying23 rfl (by kernel_rfl)) rfl
      · intro a W hI hun haft hi
        have fg : a.eval (.tmp 36) = .bool true := haft ⟨20, .guard⟩ (by simp) rfl _ _ rfl rfl
        have e1 : a.eval (.tmp 1) = .pointer (some ⟨w.heap.size, 0, none⟩) := hun 1 (by kernel_rfl)
        exact b_same hi hI (guard_ok rfl rfl rfl fg) _ (run_fieldAddr_any rfl e1 (at_ev1 _ _)) rfl
      · intro a W hI hun haft hi
        have fg : a.eval (.tmp 36) = .bool true := haft ⟨20, .guard⟩ (by simp) rfl _ _ rfl rfl
        have f23 : a.eval (.tmp 39) = .pointer (some ⟨w.heap.size, 2, none⟩) := haft ⟨23, .data⟩ (by simp) rfl _ _ rfl rfl
        exact b_same hi hI (guard_ok rfl rfl rfl fg) _ (run_loadmid_op rfl f23 (EB.past (EB.keep K3.out hI)) Try.underlying25 rfl (by kernel_rfl)) rfl
      · intro a W hI hun haft hi
        have fg : a.eval (.tmp 36) = .bool true := haft ⟨20, .guard⟩ (by simp) rfl _ _ rfl rfl
        have e3 : a.eval (.tmp 3) = .pointer (some ⟨A2.heap.size, 0, none⟩) := hun 3 (by kernel_rfl)
        exact b_same hi hI (guard_ok rfl rfl rfl fg) _ (run_load_op rfl e3 (Blk.below C3.out hI (Blk.lt C3.out)) Try.underlying35 rfl (sizeC _)) rfl
      · intro a W hI hun haft hi
        have fg : a.eval (.tmp 36) = .bool true := haft ⟨20, .guard⟩ (by simp) rfl _ _ rfl rfl
        have f22 : a.eval (.tmp 38) = dv e.r e.c := haft ⟨22, .data⟩ (by simp) rfl _ _ rfl rfl
        have f24 : a.eval (.tmp 40) = .agg (vA e.p) := haft ⟨24, .data⟩ (by simp) rfl _ _ rfl rfl
        have f25 : a.eval (.tmp 41) = chV e := haft ⟨25, .data⟩ (by simp) rfl _ _ rfl rfl
        refine b_call hi hI (guard_ok rfl rfl rfl fg) _ _ (run_call_op (args := #[dv e.r e.c, .agg (vA e.p), chV e]) rfl (by simp [f22, f24, f25]) (by kernel_rfl)) ?_
        exact (make_any e W).mono fun e w' H => ⟨_, H.1, rfl, H.2⟩
      · intro a W hI hun haft hi
        have fg : a.eval (.tmp 36) = .bool true := haft ⟨20, .guard⟩ (by simp) rfl _ _ rfl rfl
        have e1 : a.eval (.tmp 1) = .pointer (some ⟨w.heap.size, 0, none⟩) := hun 1 (by kernel_rfl)
        exact b_same hi hI (guard_ok rfl rfl rfl fg) _ (run_load_op rfl e1 (Blk.below K3.out hI (Blk.lt K3.out)) Try.underlying31 rfl (sizeE _)) rfl
      · intro a W hI hun haft hi
        have fg : a.eval (.tmp 36) = .bool true := haft ⟨20, .guard⟩ (by simp) rfl _ _ rfl rfl
        have f26 : a.eval (.tmp 42) = evV e := haft ⟨26, .data⟩ (by simp) rfl _ _ rfl rfl
        have f27 : a.eval (.tmp 43) = evV e := haft ⟨27, .data⟩ (by simp) rfl _ _ rfl rfl
        exact b_same hi hI (guard_ok rfl rfl rfl fg) (.bool true) (run_bin_op rfl f26 f27 (guard_agg _ (by kernel_rfl) _ _ _ _ _) (eq_event _ _)) rfl
      · intro a W hI hun haft hi
        have f20 : a.eval (.tmp 36) = .bool true := haft ⟨20, .data⟩ (by simp) rfl _ _ rfl rfl
        have f28 : a.eval (.tmp 44) = .bool true := haft ⟨28, .data⟩ (by simp) rfl _ _ rfl rfl
        exact b_same hi hI rfl _ (run_pick_op (b := true) rfl f20 f28 rfl) rfl
      · intro a W hI hun haft hi
        have f29 : a.eval (.tmp 45) = .bool true := haft ⟨29, .data⟩ (by simp) rfl _ _ rfl rfl
        exact b_same hi hI rfl _ (run_assign_op rfl f29) rfl
    · intro vals W hI hp
      have hl30 : vals 30 = .bool true := hp 30 (by decide)
      have HI := Lib.hid hI
      clear hp hI
      simp only [layN, List.size_toArray, List.length_cons, List.length_nil, List.range, List.range.loop, if_true, List.getElem?_toArray, List.getElem?_cons_zero, List.getElem?_cons_succ, Act.put, List.setIfInBounds_toArray, List.set_cons_zero, List.set_cons_succ, Nat.zero_add, Nat.reduceAdd, hl30]
      clear hl30
      go_wp2
      go_ret
      exact ⟨rfl, Y3.out.trans (HI.out.mono Y3.out.size)⟩

end Go.Proofs.Ytmchnnnpabpelaa
