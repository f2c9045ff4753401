/-
  hedgerowlaw06.EventBytes: the walk: for all events the call returns true, and nothing that was there has turned. Conditions: CutOk, lengths.
-/
import Derived.Test.YtmchnnnpabpelaaEvLawC
import Derived.Test.YtmchnnnpabpelaaEvPut
namespace Go.Proofs.Ytmchnnnpabpelaa
open Go.RowKit

theorem refright6_is (e : Ev) (hl : Tiny e) (b : Bool) (h : okB e = b) (w : World) : Calls Try.prog 10 #[evV e] w (Gives w (.bool b)) := by
  have := refright6_any e w hl; rwa [h] at this
theorem neq_same (t : TypeId) (l : List UInt8) (w : World) : (binOp .neq t (.string ⟨l.toArray⟩) (.string ⟨l.toArray⟩)).run Try.prog w = .ok (.bool false) w := by
  rw [binOp_string_neq]
  simp [Sem.run_pure]

set_option maxRecDepth 100000 in
set_option maxHeartbeats 1500000 in
theorem eventbytes_walk (e : Ev) (w : World) (hf : Fit e) (hw : CutOk w) : Calls Try.prog 4 #[evV e] w (Gives w (.bool true)) := by
  have HSh := Lib.hid (short_is e hf)
  obtain ⟨X, hX⟩ : ∃ X, X = w.alloc (.cells (evC e) 31) := ⟨_, rfl⟩
  have hk : EB X w.heap.size e := by rw [hX]; exact EB.new_ w e
  have hy : Below w.heap.size w X := by rw [hX]; exact (Below.refl _ _).alloc (Nat.le_refl _) _
  have HX := Lib.hid hX
  have K0 := Lib.hid hk
  have Y0 := Lib.hid hy
  have W0 := Lib.hid (hw.below hy)
  clear hX hk hy hf hw
  unfold evV at *
  go_enter Try.func4, Try.ntmps4
  go_upto_region 1 with fail
  rw [← HX.out]
  go_wp2_with fail
  refine (efixed_any _ W0.out).mono ?_
  rintro x1 A1 ⟨rfl, hb⟩
  have K1 := Lib.hid (EB.keep K0.out hb)
  have Y1 := Lib.hid (Y0.out.trans (hb.mono Y0.out.size))
  have W1 := Lib.hid (CutOk.below W0.out hb)
  clear hb K0 Y0 W0
  cases hs : shortB e
  · have HS := Lib.hid (HSh.out _ hs)
    clear HSh hs
    go_wp2_with (refine wpList_load_if rfl 31 (.tmp 1) rfl w.heap.size rfl _ _ _ _ K1.out Try.underlying31 rfl (sizeE _) ?_)
    refine (HS.out _).mono ?_
    rintro x2 A2 ⟨rfl, hb⟩
    have Y2 := Lib.hid (Y1.out.trans (hb.mono Y1.out.size))
    clear hb
    go_wp2
    go_ret
    exact ⟨rfl, Y2.out⟩
  · have HS := Lib.hid (HSh.out _ hs)
    have HL := Lib.hid (short_lens e hs)
    have HT := Lib.hid (short_tiny e hs)
    clear HSh hs
    have HPt := Lib.hid (fun W => refput6_any e W HL.out)
    have HEp := Lib.hid (fun W => evput_any e W HL.out (by have := bytesE_small e HT.out; omega))
    go_wp2_with (refine wpList_load_if rfl 31 (.tmp 1) rfl w.heap.size rfl _ _ _ _ K1.out Try.underlying31 rfl (sizeE _) ?_)
    refine (HS.out _).mono ?_
    rintro x2 A2 ⟨rfl, hb⟩
    have K2 := Lib.hid (EB.keep K1.out hb)
    have Y2 := Lib.hid (Y1.out.trans (hb.mono Y1.out.size))
    have W2 := Lib.hid (CutOk.below W1.out hb)
    clear hb K1 Y1 W1 HS
    go_wp2_with (refine wpList_load_if rfl 31 (.tmp 1) rfl w.heap.size rfl _ _ _ _ K2.out Try.underlying31 rfl (sizeE _) ?_)
    refine (HPt.out _).mono ?_
    rintro x3 A3 ⟨v3, rfl, ho3, hb⟩
    have K3 := Lib.hid (EB.keep K2.out hb)
    have Y3 := Lib.hid (Y2.out.trans (hb.mono Y2.out.size))
    have W3 := Lib.hid (CutOk.below W2.out hb)
    obtain ⟨P3, c3, rfl⟩ := ho3.form
    have S3 := Lib.hid ho3
    clear hb ho3 K2 Y2 W2 HPt
    go_upto_region 6 with fail
    go_cut [20] (fun x wx => x = .bool false ∧ Below A3.heap.size A3 wx)
    case first =>
      refine wp_region_any (by kernel_rfl) ?_
      refine wpAny_below (fun i => pOf6 (([(some (evV e), none), (none, some (bytesE e)), (some (.string ⟨(bytesE e).toArray⟩), none), (some (.slice P3 (bytesE e).length c3), none), (some (.string ⟨(bytesE e).toArray⟩), none), (some (.bool false), none)] : List (Option Value × Option (List UInt8))).getD i (none, none))) _ A3 (by kernel_rfl) (by kernel_rfl) (by kernel_rfl) (fun i v w w' => pOf6_stable _ i v w w') ?_ ?_
      · refine ⟨?_, ?_, ?_, ?_, ?_, ?_, trivial⟩
        · intro a W hI hun haft hi
          have e1 : a.eval (.tmp 1) = .pointer (some ⟨w.heap.size, 0, none⟩) := hun 1 (by kernel_rfl)
          exact b_same hi hI rfl _ (run_load_op rfl e1 (Blk.below K3.out hI (Blk.lt K3.out)) Try.underlying31 rfl (sizeE _)) rfl
        · intro a W hI hun haft hi
          have f0 : a.eval (.tmp 15) = evV e := haft ⟨0, .data⟩ (by simp) rfl _ _ rfl rfl
          refine b_call hi hI rfl _ _ (run_call_op (args := #[a.eval (.const (.slice none 0 0)), a.eval (.tmp 15)]) rfl (by simp) (by kernel_rfl)) ?_
          rw [f0]
          exact (HEp.out W).mono fun e' w' H => by
            obtain ⟨v', he, ho, hb⟩ := H
            exact ⟨v', he, Sl.of_own ho, hb⟩
        · intro a W hI hun haft hi
          have f1 : Sl bv W (a.eval (.tmp 16)) (bytesE e) := haft ⟨1, .data⟩ (by simp) rfl _ _ rfl rfl
          exact b_same hi hI rfl _ (run_convert_op rfl rfl (run_string_sl (P := Try.prog) W 43 9 5 Try.underlying43 Try.underlying5 Try.underlying9 _ _ f1)) rfl
        · intro a W hI hun haft hi
          have e3 : a.eval (.tmp 3) = .slice P3 (bytesE e).length c3 := hun 3 (by kernel_rfl)
          exact b_same hi hI rfl _ (run_move_op rfl e3) rfl
        · intro a W hI hun haft hi
          have f3 : a.eval (.tmp 18) = .slice P3 (bytesE e).length c3 := haft ⟨3, .data⟩ (by simp) rfl _ _ rfl rfl
          exact b_same hi hI rfl _ (run_convert_op rfl f3 (run_string_sl (P := Try.prog) W 43 9 5 Try.underlying43 Try.underlying5 Try.underlying9 _ _ (Sl.below S3.out hI))) rfl
        · intro a W hI hun haft hi
          have f2 : a.eval (.tmp 17) = .string ⟨(bytesE e).toArray⟩ := haft ⟨2, .data⟩ (by simp) rfl _ _ rfl rfl
          have f4 : a.eval (.tmp 19) = .string ⟨(bytesE e).toArray⟩ := haft ⟨4, .data⟩ (by simp) rfl _ _ rfl rfl
          exact b_same hi hI rfl (.bool false) (run_bin_op rfl f2 f4 (by simp [eqGuard]) (neq_same _ _ _)) rfl
      · intro vals W hI hp
        have hl5 : vals 5 = .bool false := hp 5 (by decide)
        have H5 := Lib.hid hl5
        have HI := Lib.hid hI
        clear hp hl5 hI
        simp only [layN, List.size_toArray, List.length_cons, List.length_nil, List.range, List.range.loop, if_true, List.getElem?_toArray, List.getElem?_cons_zero, List.getElem?_cons_succ, Act.put, List.setIfInBounds_toArray, List.set_cons_zero, List.set_cons_succ, Nat.zero_add, Nat.reduceAdd]
        go_wp2_with fail
        go_meet
        exact ⟨H5.out, HI.out⟩
    case rest =>
      obtain ⟨hx, hb⟩ := hcut
      subst hx
      have K4 := Lib.hid (EB.keep K3.out hb)
      have Y4 := Lib.hid (Y3.out.trans (hb.mono Y3.out.size))
      have W4 := Lib.hid (CutOk.below W3.out hb)
      have S4 := Lib.hid (Sl.below S3.out hb)
      clear hb K3 Y3 W3 S3 HEp
      cases ho : okB e
      · have HB := Lib.hid (ebytes_no e ho HL.out)
        have HR := Lib.hid (refright6_is e HT.out _ ho)
        clear ho
        go_wp2_with (refine wpList_load_if rfl 31 (.tmp 1) rfl w.heap.size rfl _ _ _ _ K4.out Try.underlying31 rfl (sizeE _) ?_)
        refine (HB.out _ W4.out).mono ?_
        rintro x5 A5 ⟨v5, rfl, hown, hb⟩
        have K5 := Lib.hid (EB.keep K4.out hb)
        have Y5 := Lib.hid (Y4.out.trans (hb.mono Y4.out.size))
        obtain ⟨P5, c5, rfl⟩ := own_form hown
        clear hb hown K4 Y4 W4 S4
        go_wp2_with (refine wpList_load_if rfl 31 (.tmp 1) rfl w.heap.size rfl _ _ _ _ K5.out Try.underlying31 rfl (sizeE _) ?_)
        refine (HR.out _).mono ?_
        rintro x6 A6 ⟨rfl, hb⟩
        have Y6 := Lib.hid (Y5.out.trans (hb.mono Y5.out.size))
        clear hb K5 Y5
        go_wp2
        go_ret
        exact ⟨rfl, Y6.out⟩
      · have HB := Lib.hid (ebytes_yes e ho HL.out)
        have HR := Lib.hid (refright6_is e HT.out _ ho)
        have HSm := Lib.hid (bytesE_small e HT.out)
        have HBack := Lib.hid (parse_back e ho HL.out)
        clear ho
        generalize bytesE e = L at *
        go_wp2_with (refine wpList_load_if rfl 31 (.tmp 1) rfl w.heap.size rfl _ _ _ _ K4.out Try.underlying31 rfl (sizeE _) ?_)
        refine (HB.out _ W4.out).mono ?_
        rintro x5 A5 ⟨v5, rfl, hown, hb⟩
        have K5 := Lib.hid (EB.keep K4.out hb)
        have Y5 := Lib.hid (Y4.out.trans (hb.mono Y4.out.size))
        have W5 := Lib.hid (CutOk.below W4.out hb)
        have S5 := Lib.hid (Sl.below S4.out hb)
        have T5 := Lib.hid (Sl.of_own hown)
        obtain ⟨P5, c5, rfl⟩ := own_form hown
        clear hb hown K4 Y4 W4 S4 HB
        go_wp2_with (refine wpList_load_if rfl 31 (.tmp 1) rfl w.heap.size rfl _ _ _ _ K5.out Try.underlying31 rfl (sizeE _) ?_)
        refine (HR.out _).mono ?_
        rintro x6 A6 ⟨rfl, hb⟩
        have K6 := Lib.hid (EB.keep K5.out hb)
        have Y6 := Lib.hid (Y5.out.trans (hb.mono Y5.out.size))
        have W6 := Lib.hid (CutOk.below W5.out hb)
        have S6 := Lib.hid (Sl.below S5.out hb)
        have T6 := Lib.hid (Sl.below T5.out hb)
        clear hb K5 Y5 W5 S5 T5 HR
        go_wp2_with fail
        refine (parse_is _ L _ T6.out (by have := HSm.out; omega) W6.out 0 HBack.out.1).mono ?_
        rintro x7 A7 ⟨rfl, hb⟩
        have HSame := Lib.hid (same_evC HBack.out.2)
        generalize parsE L = EY at *
        have K7 := Lib.hid (EB.keep K6.out hb)
        have Y7 := Lib.hid (Y6.out.trans (hb.mono Y6.out.size))
        have S7 := Lib.hid (Sl.below S6.out hb)
        have T7 := Lib.hid (Sl.below T6.out hb)
        clear hb K6 Y6 W6 S6 T6
        have hz := (zero_of_info zeroE).1
        have NN := Lib.hid (EB.new_ A7 ev0)
        unfold evV
        go_upto_region 12 with (refine wpList_store_row rfl 31 (.tmp 6) (.tmp 39) rfl A7.heap.size (evC EY) rfl rfl _ _ NN.out (sizeE _) rfl (evC_one _) ?_)
        clear hz
        have hbb : Below A7.heap.size A7 ((A7.alloc (.cells (evC ev0) 31)).setRow A7.heap.size (evC EY)) := ((Below.refl _ _).alloc (Nat.le_refl _) _).trans (setRow_below _ _ _ _ (Nat.le_refl _))
        have hq : EB ((A7.alloc (.cells (evC ev0) 31)).setRow A7.heap.size (evC EY)) A7.heap.size EY := setRow_blk _ _ _ _ _ NN.out
        generalize (A7.alloc (.cells (evC ev0) 31)).setRow A7.heap.size (evC EY) = A8 at *
        have Q8 := Lib.hid hq
        have K8 := Lib.hid (EB.keep K7.out hbb)
        have Y8 := Lib.hid (Y7.out.trans (hbb.mono Y7.out.size))
        have q1 := run_string_sl (P := Try.prog) A8 43 9 5 Try.underlying43 Try.underlying5 Try.underlying9 _ _ (Sl.below S7.out hbb)
        have q2 := run_string_sl (P := Try.prog) A8 43 9 5 Try.underlying43 Try.underlying5 Try.underlying9 _ _ (Sl.below T7.out hbb)
        clear hq hbb K7 Y7 NN S7 T7
        have heq := fun w => eq_same HSame.out w
        unfold evV at heq
        have hgd := fun (x y : Operand) (a b : Array Value) (w : World) => guard_agg 31 (by kernel_rfl) x y a b w
        go_wp2_with (first
          | (refine wpList_load_if rfl 31 (.tmp 6) rfl A7.heap.size rfl _ _ _ _ Q8.out Try.underlying31 rfl (sizeE _) ?_)
          | (refine wpList_load_if rfl 31 (.tmp 1) rfl w.heap.size rfl _ _ _ _ K8.out Try.underlying31 rfl (sizeE _) ?_))
        go_ret
        exact ⟨rfl, Y8.out⟩

end Go.Proofs.Ytmchnnnpabpelaa
