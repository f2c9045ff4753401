/-
  hedgerowlaw12.SnapCuts: the walk: for all snapshots, cuts and bytes behind the call returns true, and nothing that was there has turned. Conditions: CutOk, lengths.
-/
import Derived.Test.YthmjaodiofkogaaSnCutM
namespace Go.Proofs.Ythmjaodiofkogaa
open Go.RowKit Go.MapKept Go.Sort

theorem few12_is (f : Nat → Int) (I : List (El × List (Dt × Va))) (E : List Ev) (A A2 : Option Addr) (N c N2 c2 : Nat) (b : Bool) (hb : fewS I E = b) (w : World) (hi : ItsIs w (.slice A N c) I) (hN : I.length = N) (hx : ∀ q ∈ I, ItCan q) (he : SlK encE 27 w (.slice A2 N2 c2) E) (hM : E.length = N2) (hF : ∀ e ∈ E, Fit e) :
    Calls Try.prog 5 #[sV f (.slice A N c) (.slice A2 N2 c2)] w (Gives w (.bool b)) := by subst hb; exact few12_any f I E A A2 N c N2 c2 w hi hN hx he hM hF

set_option maxRecDepth 100000 in
set_option maxHeartbeats 4000000 in
theorem scuts_walk (f : Nat → Int) (I : List (El × List (Dt × Va))) (E : List Ev) (A A' : Option Addr) (N c N' c' : Nat) (cut : Nat) (vt : Value) (t : List UInt8) (w : World) (hi : ItsIs w (.slice A N c) I) (hN : I.length = N) (hx : ∀ q ∈ I, ItCan q) (he : SlK encE 27 w (.slice A' N' c') E) (hM : E.length = N') (hF : ∀ e ∈ E, Fit e) (hcf : CanonV f) (hce : ∀ e ∈ E, CanonV e.p)
    (hcut : cut < 65536) (ht : Sl bv w vt t) (htl : t.length ≤ 140737488355328) (hw : CutOk w) :
    Calls Try.prog 3 #[sV f (.slice A N c) (.slice A' N' c'), .int .u16 cut, vt] w (Gives w (.bool true)) := by
  obtain ⟨p, hp⟩ : ∃ p, w.heap.size = p := ⟨_, rfl⟩
  obtain ⟨X, hX⟩ : ∃ X, X = w.alloc (.cells (sC f (.slice A N c) (.slice A' N' c')) 27) := ⟨_, rfl⟩
  have hbX : Below w.heap.size w X := by rw [hX]; exact (Below.refl _ _).alloc (Nat.le_refl _) _
  have hmb : SB X p f (.slice A N c) (.slice A' N' c') := by rw [hX, ← hp]; exact SB.new_ w f _ _
  obtain ⟨B, d, rfl⟩ := ht.form
  obtain ⟨nt, hnt⟩ : ∃ nt, t.length = nt := ⟨_, rfl⟩
  have K0 := Lib.hid hmb
  have I0 := Lib.hid (hi.below hbX)
  have E0 := Lib.hid (he.below hbX)
  have T0 := Lib.hid (Sl.below ht hbX)
  have HX := Lib.hid hX
  have HP := Lib.hid hp
  have Y0 := Lib.hid hbX
  have W0 := Lib.hid (hw.below hbX)
  have HN := Lib.hid hN
  have HM := Lib.hid hM
  have HFw := Lib.hid (fun b hb W h1 h2 => few12_is f I E A A' N c N' c' b hb W h1 hN hx h2 hM hF)
  have HCf := Lib.hid hcf
  have HCe := Lib.hid hce
  have HCut := Lib.hid hcut
  have HNt := Lib.hid hnt
  rw [hnt] at htl T0 ⊢
  clear hX hbX hmb hp hi hN hx he hM hF hcf hce hw ht hnt
  unfold sV
  go_enter Try.func3, Try.ntmps3
  go_upto_region 1 with fail
  rw [← HX.out, HP.out]
  go_wp2_with fail
  refine (sfixed_any _ W0.out).mono ?_
  rintro x1 A1 ⟨rfl, hb⟩
  have K1 := Lib.hid (SB.keep K0.out hb)
  have I1 := Lib.hid (I0.out.below hb)
  have E1 := Lib.hid (E0.out.below hb)
  have Y1 := Lib.hid (Y0.out.trans (hb.mono Y0.out.size))
  have W1 := Lib.hid (CutOk.below W0.out hb)
  have T1 := Lib.hid (Sl.below T0.out hb)
  clear hb Y0 K0 I0 E0 W0 T0
  cases hq : fewS I E
  · have HQ := Lib.hid (HFw.out false hq)
    clear hq
    go_wp2_with (refine wpList_load_if rfl 27 (.tmp 3) rfl p rfl _ _ _ _ K1.out Try.underlying27 rfl (sizeSn _ _ _) ?_)
    refine (HQ.out A1 I1.out E1.out).mono ?_
    rintro x2 A2 ⟨rfl, hb⟩
    have Y2 := Lib.hid (Y1.out.trans (hb.mono Y1.out.size))
    clear hb
    go_wp2
    go_ret
    exact ⟨rfl, Y2.out⟩
  · have HQ := Lib.hid (HFw.out true hq)
    have HFew := Lib.hid hq
    have H30 := Lib.hid (show N ≤ 30 ∧ N' ≤ 30 by rw [← HN.out, ← HM.out]; exact ⟨(fewS_parts hq).1, (fewS_parts hq).2.1⟩)
    clear hq
    go_wp2_with (refine wpList_load_if rfl 27 (.tmp 3) rfl p rfl _ _ _ _ K1.out Try.underlying27 rfl (sizeSn _ _ _) ?_)
    refine (HQ.out A1 I1.out E1.out).mono ?_
    rintro x2 A2 ⟨rfl, hb⟩
    have K2 := Lib.hid (SB.keep K1.out hb)
    have I2 := Lib.hid (I1.out.below hb)
    have E2 := Lib.hid (E1.out.below hb)
    have Y2 := Lib.hid (Y1.out.trans (hb.mono Y1.out.size))
    have W2 := Lib.hid (CutOk.below W1.out hb)
    have T2 := Lib.hid (Sl.below T1.out hb)
    clear hb Y1 K1 I1 E1 W1 T1 HQ HFw
    by_cases hbig : 100 < nt
    · have hbg : decide ((100 : Int) < (nt : Int)) = true := decide_eq_true (by omega)
      clear hbig
      go_wp2
      go_ret
      exact ⟨rfl, Y2.out⟩
    have hbg : decide ((100 : Int) < (nt : Int)) = false := decide_eq_false (by omega)
    have HBig := Lib.hid hbig
    clear hbig
    cases hr : rightS f I E
    · have HRr := Lib.hid (fun W h1 h2 h3 => sbytes_no f I E A A' N N' c c' W h1 HN.out h2 HM.out HFew.out h3 hr)
      clear hr
      go_wp2_with (refine wpList_load_if rfl 27 (.tmp 3) rfl p rfl _ _ _ _ K2.out Try.underlying27 rfl (sizeSn _ _ _) ?_)
      refine (HRr.out A2 I2.out E2.out W2.out).mono ?_
      rintro x3 A3 ⟨B3, d3, rfl, hb⟩
      have Y3 := Lib.hid (Y2.out.trans (hb.mono Y2.out.size))
      clear hb
      go_wp2
      go_ret
      exact ⟨rfl, Y3.out⟩
    · obtain ⟨LL, hLL⟩ : ∃ LL, bytesS f I E = LL := ⟨_, rfl⟩
      have hrd := snap_read hr HCf.out (by rw [HN.out]; have := H30.out; omega) (fun q hq => few_fits ((fewS_parts HFew.out).2.2.1 q hq)) (by rw [HM.out]; have := H30.out; omega) (fun e he => ⟨short_lens e ((fewS_parts HFew.out).2.2.2 e he), HCe.out e he⟩)
      have hlen := few_len f HFew.out
      rw [hLL] at hrd hlen
      have hpos := bytes_some hrd.2.2.2.2
      have HRd := Lib.hid hrd
      have HPart := Lib.hid (part_two LL hrd.2.2.2.2)
      have HMore := Lib.hid (more_two LL t hrd.2.2.2.2)
      have HRb := Lib.hid (fun W h1 h2 h3 => sbytes_yes f I E A A' N N' c c' W h1 HN.out h2 HM.out HFew.out h3 hr LL hLL)
      obtain ⟨nl, hnl⟩ : ∃ nl, LL.length = nl := ⟨_, rfl⟩
      have HNl := Lib.hid hnl
      rw [hnl] at hlen hpos HPart
      have HLen := Lib.hid hlen
      have HPos := Lib.hid hpos
      clear hr hLL hlen hnl hrd hpos
      go_wp2_with (refine wpList_load_if rfl 27 (.tmp 3) rfl p rfl _ _ _ _ K2.out Try.underlying27 rfl (sizeSn _ _ _) ?_)
      refine (HRb.out A2 I2.out E2.out W2.out).mono ?_
      rintro x4 A4 ⟨v4, rfl, ho, hb⟩
      rw [HNl.out] at ho
      obtain ⟨g, cg, rfl, hgl⟩ := own_rowS ho HPos.out
      have O4 := Lib.hid ho
      clear ho hgl hbg
      have K4 := Lib.hid (SB.keep K2.out hb)
      have I4 := Lib.hid (I2.out.below hb)
      have E4 := Lib.hid (E2.out.below hb)
      have Y4 := Lib.hid (Y2.out.trans (hb.mono Y2.out.size))
      have W4 := Lib.hid (CutOk.below W2.out hb)
      have T4 := Lib.hid (Sl.below T2.out hb)
      clear hb Y2 K2 I2 E2 W2 T2 HRb
      obtain ⟨k1, hk1⟩ : ∃ k1, cut % nl = k1 := ⟨_, rfl⟩
      have hk1l : k1 < nl := by rw [← hk1]; exact Nat.mod_lt _ HPos.out
      have HK1 := Lib.hid hk1l
      have hrm1 := rem_runS cut nl HCut.out HPos.out (by have := HLen.out; omega) A4
      rw [hk1] at hrm1
      have HRm1 := Lib.hid hrm1
      clear hk1 hk1l hrm1
      have hsh : Sl bv A4 (.slice (some ⟨g, 0, none⟩) k1 cg) (LL.take k1) := by
        have h1 := (own_slS O4.out HNl.out).hi k1 (by have := HK1.out; omega)
        rw [slA_zeroS] at h1
        exact h1
      have HSh := Lib.hid hsh
      clear hsh
      have hk1c : k1 ≤ cg := by
        have h1 := (own_slS O4.out HNl.out).len.2
        rw [HNl.out] at h1
        have := HK1.out
        omega
      go_wp2_with (first
        | (refine wpList_val (o := ⟨some 39, _, _, _, _, _⟩) rfl (.int .i64 k1) A4 (run_bin_op rfl rfl rfl (guard_remS _ _ _ _ _) HRm1.out) ?_)
        | fail)
      refine (sparse_is (LL.take k1) 2 (HPart.out k1 HK1.out).1 (by rw [List.length_take, HNl.out]; have := HLen.out; omega) (fun h => absurd h (HPart.out k1 HK1.out).2) _ A4 HSh.out W4.out).mono ?_
      rintro x5 A5 ⟨f5, P5, n5, p5, Q5, m5, q5, rfl, _, hb⟩
      have K5 := Lib.hid (SB.keep K4.out hb)
      have I5 := Lib.hid (I4.out.below hb)
      have E5 := Lib.hid (E4.out.below hb)
      have Y5 := Lib.hid (Y4.out.trans (hb.mono Y4.out.size))
      have W5 := Lib.hid (CutOk.below W4.out hb)
      have T5 := Lib.hid (Sl.below T4.out hb)
      have O5 := Lib.hid (own_belowS O4.out hb)
      clear hb Y4 K4 I4 E4 W4 T4 O4 HPart
      have hz := (zero_of_info zeroSn).1
      have NN := Lib.hid (SB.new_ A5 (fun _ => 0) (.slice none 0 0) (.slice none 0 0))
      unfold sV
      go_upto_region 9 with (refine wpList_store_row rfl 27 (.tmp 9) (.tmp 42) rfl A5.heap.size (sC f5 (.slice P5 n5 p5) (.slice Q5 m5 q5)) rfl rfl _ _ NN.out (sizeSn _ _ _) rfl (sC_one _ _ _ _ _ _ _) ?_)
      clear hz
      have hb : Below A5.heap.size A5 ((A5.alloc (.cells (sC (fun _ => 0) (.slice none 0 0) (.slice none 0 0)) 27)).setRow A5.heap.size (sC f5 (.slice P5 n5 p5) (.slice Q5 m5 q5))) := ((Below.refl _ _).alloc (Nat.le_refl _) _).trans (setRow_below _ _ _ _ (Nat.le_refl _))
      generalize (A5.alloc (.cells (sC (fun _ => 0) (.slice none 0 0) (.slice none 0 0)) 27)).setRow A5.heap.size (sC f5 (.slice P5 n5 p5) (.slice Q5 m5 q5)) = A6 at *
      have K6 := Lib.hid (SB.keep K5.out hb)
      have I6 := Lib.hid (I5.out.below hb)
      have E6 := Lib.hid (E5.out.below hb)
      have Y6 := Lib.hid (Y5.out.trans (hb.mono Y5.out.size))
      have W6 := Lib.hid (CutOk.below W5.out hb)
      have T6 := Lib.hid (Sl.below T5.out hb)
      have O6 := Lib.hid (own_belowS O5.out hb)
      clear hb Y5 K5 I5 E5 W5 T5 O5 NN
      try simp only [Act.put]
      obtain ⟨v7, w7, hr7, ho7, hb7⟩ := append_freshS A6 _ LL (own_slS O6.out HNl.out) (by rw [HNl.out]; have := HLen.out; omega)
      obtain ⟨v8, w8, hr8, ho8, hb8⟩ := append_moreS A6 w7 v7 LL ho7 hb7 _ t (Sl.below T6.out hb7) (by rw [HNl.out]; have := HLen.out; have := HNt.out; have := HBig.out; omega)
      have hs8 := Sl.of_own ho8
      have hb := hb8
      obtain ⟨A9, c9, rfl⟩ := (Sl.of_own ho7).form
      obtain ⟨A8, c8, rfl⟩ := hs8.form
      obtain ⟨n8, hn8⟩ : ∃ n8, (LL ++ t).length = n8 := ⟨_, rfl⟩
      rw [hn8] at hs8 hr8
      have HS8 := Lib.hid hs8
      have HR7 := Lib.hid hr7
      have HR8 := Lib.hid hr8
      clear hs8 hn8
      rw [HNl.out] at HR7 HR8
      clear hr7 ho7 hb7 hr8 ho8 hb8
      have K8 := Lib.hid (SB.keep K6.out hb)
      have I8 := Lib.hid (I6.out.below hb)
      have E8 := Lib.hid (E6.out.below hb)
      have Y8 := Lib.hid (Y6.out.trans (hb.mono Y6.out.size))
      have W8 := Lib.hid (CutOk.below W6.out hb)
      clear hb Y6 K6 I6 E6 W6 O6 T6
      go_wp2_with (first
        | (at_builtin; refine Lib.wpList_append_run (o := ⟨some 47, _, _, _, _, _⟩) _ rfl _ _ _ _ rfl _ _ rfl rfl _ _ HR7.out ?_)
        | (at_builtin; refine Lib.wpList_append_run (o := ⟨some 49, _, _, _, _, _⟩) _ rfl _ _ _ _ rfl _ _ rfl rfl _ _ HR8.out ?_)
        | fail)
      obtain ⟨x7, hx7⟩ : ∃ x7, snC (LL ++ t) = x7 := ⟨_, rfl⟩
      have HX7 := Lib.hid hx7
      clear hx7
      refine (sparse_is (LL ++ t) x7 HX7.out (by rw [List.length_append, HNl.out, HNt.out]; have := HLen.out; have := HBig.out; omega) (fun h => by
        by_cases h2 : t = []
        · subst h2
          rw [List.append_nil, HRd.out.2.2.1, HRd.out.2.2.2.1]
          exact ⟨by rw [HN.out]; have := H30.out; omega, (fun q hq => few_fits ((fewS_parts HFew.out).2.2.1 q hq)), by rw [HM.out]; have := H30.out; omega, (fun e he => short_lens e ((fewS_parts HFew.out).2.2.2 e he))⟩
        · exact absurd h (HMore.out h2).2) _ w8 HS8.out W8.out).mono ?_
      rintro y5 A9 ⟨f9, P9, n9, p9, Q9, m9, q9, rfl, hres, hb⟩
      have HRes := Lib.hid hres
      have K9 := Lib.hid (SB.keep K8.out hb)
      have I9 := Lib.hid (I8.out.below hb)
      have E9 := Lib.hid (E8.out.below hb)
      have Y9 := Lib.hid (Y8.out.trans (hb.mono Y8.out.size))
      clear hb hres Y8 K8 I8 E8 W8 HR7 HR8 HS8
      have hz := (zero_of_info zeroSn).1
      have NN := Lib.hid (SB.new_ A9 (fun _ => 0) (.slice none 0 0) (.slice none 0 0))
      unfold sV
      go_upto_region 10 with (refine wpList_store_row rfl 27 (.tmp 11) (.tmp 51) rfl A9.heap.size (sC f9 (.slice P9 n9 p9) (.slice Q9 m9 q9)) rfl rfl _ _ NN.out (sizeSn _ _ _) rfl (sC_one _ _ _ _ _ _ _) ?_)
      clear hz
      have hb : Below A9.heap.size A9 ((A9.alloc (.cells (sC (fun _ => 0) (.slice none 0 0) (.slice none 0 0)) 27)).setRow A9.heap.size (sC f9 (.slice P9 n9 p9) (.slice Q9 m9 q9))) := ((Below.refl _ _).alloc (Nat.le_refl _) _).trans (setRow_below _ _ _ _ (Nat.le_refl _))
      have hg : SB ((A9.alloc (.cells (sC (fun _ => 0) (.slice none 0 0) (.slice none 0 0)) 27)).setRow A9.heap.size (sC f9 (.slice P9 n9 p9) (.slice Q9 m9 q9))) A9.heap.size f9 (.slice P9 n9 p9) (.slice Q9 m9 q9) := setRow_blk _ _ _ _ _ NN.out
      generalize (A9.alloc (.cells (sC (fun _ => 0) (.slice none 0 0) (.slice none 0 0)) 27)).setRow A9.heap.size (sC f9 (.slice P9 n9 p9) (.slice Q9 m9 q9)) = A10 at *
      have G10 := Lib.hid hg
      have K10 := Lib.hid (SB.keep K9.out hb)
      have I10 := Lib.hid (I9.out.below hb)
      have E10 := Lib.hid (E9.out.below hb)
      have Y10 := Lib.hid (Y9.out.trans (hb.mono Y9.out.size))
      have HRes2 := Lib.hid (show x7 = 0 → f9 = (sF (LL ++ t)).1 ∧ n9 = (sI (LL ++ t)).1.length ∧ m9 = (sE (LL ++ t)).1.length ∧ ItsIs A10 (.slice P9 n9 p9) (sI (LL ++ t)).1 ∧ SlK encE 27 A10 (.slice Q9 m9 q9) (sE (LL ++ t)).1 from fun h => by
        obtain ⟨h1, h2, h3, h4, h5⟩ := HRes.out h
        exact ⟨h1, h2, h3, h4.below hb, h5.below hb⟩)
      obtain ⟨b9, hb9⟩ : ∃ b9, A9.heap.size = b9 := ⟨_, rfl⟩
      rw [hb9] at G10 ⊢
      clear hb hg Y9 K9 I9 E9 NN HRes hb9
      try simp only [Act.put]
      by_cases h : t = []
      · have HT := Lib.hid h
        have hx0 : x7 = 0 := by rw [← HX7.out, h, List.append_nil]; exact HRd.out.1
        have hn0 : nt = 0 := by rw [← HNt.out, h]; rfl
        obtain ⟨h1, h2, h3, h4, h5⟩ := HRes2.out hx0
        rw [h, List.append_nil, HRd.out.2.1] at h1
        rw [h, List.append_nil, HRd.out.2.2.1] at h2 h4
        rw [h, List.append_nil, HRd.out.2.2.2.1] at h3 h5
        rw [HN.out] at h2
        rw [HM.out] at h3
        subst h1 h2 h3
        have I11 := Lib.hid h4
        have E11 := Lib.hid h5
        subst hx0 hn0
        clear h h4 h5
        go_wp2_with (first
          | (refine wpList_load_if rfl 27 (.tmp 3) rfl p rfl _ _ _ _ K10.out Try.underlying27 rfl (sizeSn _ _ _) ?_)
          | (refine wpList_load_if rfl 27 (.tmp 11) rfl b9 rfl _ _ _ _ G10.out Try.underlying27 rfl (sizeSn _ _ _) ?_)
          | fail)
        refine (ssame_true f9 I E A P9 A' Q9 n9 m9 c p9 c' q9 A10 I10.out I11.out E10.out E11.out HN.out (by have := H30.out; omega) HM.out (by have := H30.out; omega) (fun q hq => (few_fits ((fewS_parts HFew.out).2.2.1 q hq)).2.1)).mono ?_
        rintro y6 A11 ⟨rfl, hb⟩
        have Y11 := Lib.hid (Y10.out.trans (hb.mono Y10.out.size))
        clear hb Y10
        go_wp2
        go_ret
        exact ⟨rfl, Y11.out⟩
      · have hx2 : x7 = 2 := by rw [← HX7.out]; exact (HMore.out h).1
        have hn0 : ((nt : Int) == 0) = false := by
          have := List.length_pos_iff.2 h
          rw [HNt.out] at this
          rw [beq_eq_false_iff_ne]; omega
        subst hx2
        clear h
        go_wp2
        go_ret
        exact ⟨rfl, Y10.out⟩

end Go.Proofs.Ythmjaodiofkogaa
