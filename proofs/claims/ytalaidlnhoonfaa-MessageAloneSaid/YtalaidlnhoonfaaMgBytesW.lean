/-
  hedgerowlaw14.MessageBytes: the walk: for all messages the call returns true, and nothing that was there has turned. Conditions: CutOk, lengths.
-/
import Derived.Test.YtalaidlnhoonfaaMgFew
import Derived.Test.YtalaidlnhoonfaaMgFixed
namespace Go.Proofs.Ytalaidlnhoonfaa
open Go.RowKit

theorem eql_str (l : List UInt8) (w : World) : (binOp .eql 9 (.string ⟨l.toArray⟩) (.string ⟨l.toArray⟩)).run Try.prog w = .ok (.bool true) w := by
  rw [binOp_string_eql]
  simp [Sem.run_pure]
theorem few14_is (m : Mg) (l : List Ev) (A : Option Addr) (N c : Nat) (b : Bool) (hb : fewM l = b) (hN : l.length = N) (hN2 : N ≤ 4611686018427387903) (hf : ∀ e ∈ l, Fit e) (w : World) (hs : SlK encE 27 w (.slice A N c) l) :
    Calls Try.prog 8 #[mV m (.slice A N c)] w (Gives w (.bool b)) := by subst hb; exact few14_any m l A N c w hs hN hN2 hf
theorem mbytes_no (m : Mg) (l : List Ev) (A : Option Addr) (N c : Nat) (h : rightM m l = false) (hf : fewM l = true) (hN : l.length = N) (w : World) (hs : SlK encE 27 w (.slice A N c) l) (hw : CutOk w) :
    Calls Try.prog 9 #[mV m (.slice A N c)] w fun e w' => ∃ P q, e = .returned (.tuple #[.slice P 0 q, .int .i64 1]) ∧ Below w.heap.size w w' := by
  obtain ⟨hl, h30⟩ := few_lens hf
  refine (mbytes_any m l A N c w hs hN (by omega) hl hw (by have := few_pay m l hf; omega)).mono ?_
  rintro e w' ⟨v, rfl, ho, hb⟩
  rw [h, if_neg Bool.false_ne_true] at ho
  obtain ⟨P, q, rfl⟩ := (Sl.of_own ho).form
  exact ⟨P, q, by rw [h]; rfl, hb⟩
theorem mbytes_yes (m : Mg) (l : List Ev) (A : Option Addr) (N c : Nat) (h : rightM m l = true) (hf : fewM l = true) (hN : l.length = N) (L : List UInt8) (hL : bytesM m l = L) (w : World) (hs : SlK encE 27 w (.slice A N c) l) (hw : CutOk w) :
    Calls Try.prog 9 #[mV m (.slice A N c)] w fun e w' => ∃ P q, e = .returned (.tuple #[.slice P L.length q, .int .i64 0]) ∧ Sl bv w' (.slice P L.length q) L ∧ Below w.heap.size w w' := by
  obtain ⟨hl, h30⟩ := few_lens hf
  refine (mbytes_any m l A N c w hs hN (by omega) hl hw (by have := few_pay m l hf; omega)).mono ?_
  rintro e w' ⟨v, rfl, ho, hb⟩
  rw [h, if_pos rfl, hL] at ho
  have hs2 : Sl bv w' v L := Sl.of_own ho
  obtain ⟨P, q, rfl⟩ := hs2.form
  exact ⟨P, q, by rw [h]; rfl, hs2, hb⟩
theorem refbytes_is (m : Mg) (l : List Ev) (A : Option Addr) (N c : Nat) (hf : fewM l = true) (hN : l.length = N) (L : List UInt8) (hL : bytesM m l = L) (w : World) (hs : SlK encE 27 w (.slice A N c) l) :
    Calls Try.prog 13 #[mV m (.slice A N c)] w (Makes w L) := by
  obtain ⟨hl, h30⟩ := few_lens hf
  subst hL
  exact refbytes_any m l A N c w hs hN (by omega) hl (by have := few_pay m l hf; omega)
theorem bytesM_len (m : Mg) (l : List Ev) : (bytesM m l).length = (payB m l).length + 8 := by unfold bytesM; exact Fr.frameB_length _
theorem mparse_back (m : Mg) (l : List Ev) (N : Nat) (h : rightM m l = true) (hf : fewM l = true) (hN : l.length = N) (hc : CanonM m) (hl : ∀ e ∈ l, Canon e) (L : List UInt8) (hL : bytesM m l = L) (v : Value) (w : World) (hv : Sl bv w v L) (hw : CutOk w) :
    Calls Try.prog 12 #[v] w fun e w' => ∃ A c, e = .returned (.tuple #[mV m (.slice A N c), .int .i64 0]) ∧ SlK encE 27 w' (.slice A N c) l ∧ Below w.heap.size w w' := by
  subst hL
  have hp := few_pay m l hf
  obtain ⟨b1, b2⟩ := msg_back m l h hc (fun e he => ⟨(few_lens hf).1 e he, hl e he⟩) (by omega)
  refine (mparse_any v _ w hv (by rw [bytesM_len]; omega) hw).mono ?_
  rintro e w' ⟨A, c, rfl, ho, hb⟩
  rw [b1, b2]
  rw [b2] at ho
  dsimp only at ho ⊢
  rw [hN] at ho ⊢
  exact ⟨A, c, rfl, ho.read encE_len, hb⟩

set_option maxRecDepth 100000 in
set_option maxHeartbeats 4000000 in
theorem mbytes_walk (m : Mg) (l : List Ev) (A : Option Addr) (N c : Nat) (w : World) (hs : SlK encE 27 w (.slice A N c) l) (hN : l.length = N) (hN2 : N ≤ 4611686018427387903) (hf : ∀ e ∈ l, Fit e) (hcm : CanonM m) (hcl : ∀ e ∈ l, Canon e) (hw : CutOk w) :
    Calls Try.prog 3 #[mV m (.slice A N c)] w (Gives w (.bool true)) := by
  obtain ⟨p, hp⟩ : ∃ p, w.heap.size = p := ⟨_, rfl⟩
  obtain ⟨X, hX⟩ : ∃ X, X = w.alloc (.cells (mC m (.slice A N c)) 26) := ⟨_, rfl⟩
  have hbX : Below w.heap.size w X := by rw [hX]; exact (Below.refl _ _).alloc (Nat.le_refl _) _
  have hmb : MB X p m (.slice A N c) := by rw [hX, ← hp]; exact MB.new_ w m _
  have K0 := Lib.hid hmb
  have Sl0 := Lib.hid (hs.below hbX)
  have HX := Lib.hid hX
  have HP := Lib.hid hp
  have Y0 := Lib.hid hbX
  have W0 := Lib.hid (hw.below hbX)
  have HN := Lib.hid hN
  have HFw := Lib.hid (fun b hb => few14_is m l A N c b hb hN hN2 hf)
  have HCm := Lib.hid hcm
  have HCl := Lib.hid hcl
  clear hX hbX hmb hp hs hN hN2 hf hcm hcl hw
  unfold mV
  go_enter Try.func3, Try.ntmps3
  go_upto_region 1 with fail
  rw [← HX.out, HP.out]
  go_wp2_with fail
  refine (mfixed_any _ W0.out).mono ?_
  rintro x1 A1 ⟨rfl, hb⟩
  have K1 := Lib.hid (MB.keep K0.out hb)
  have Sl1 := Lib.hid (Sl0.out.below hb)
  have Y1 := Lib.hid (Y0.out.trans (hb.mono Y0.out.size))
  have W1 := Lib.hid (CutOk.below W0.out hb)
  clear hb K0 Sl0 Y0 W0
  cases hq : fewM l
  · have HQ := Lib.hid (HFw.out false hq)
    clear hq
    go_wp2_with (refine wpList_load_if rfl 26 (.tmp 1) rfl p rfl _ _ _ _ K1.out Try.underlying26 rfl (sizeM _ _) ?_)
    refine (HQ.out A1 Sl1.out).mono ?_
    rintro x2 A2 ⟨rfl, hb⟩
    have Y2 := Lib.hid (Y1.out.trans (hb.mono Y1.out.size))
    clear hb
    go_wp2
    go_ret
    exact ⟨rfl, Y2.out⟩
  · have HQ := Lib.hid (HFw.out true hq)
    have HFew := Lib.hid hq
    have H30 := Lib.hid (show N ≤ 30 by rw [← HN.out]; exact (few_lens hq).2)
    clear hq
    go_wp2_with (refine wpList_load_if rfl 26 (.tmp 1) rfl p rfl _ _ _ _ K1.out Try.underlying26 rfl (sizeM _ _) ?_)
    refine (HQ.out A1 Sl1.out).mono ?_
    rintro x2 A2 ⟨rfl, hb⟩
    have K2 := Lib.hid (MB.keep K1.out hb)
    have Sl2 := Lib.hid (Sl1.out.below hb)
    have Y2 := Lib.hid (Y1.out.trans (hb.mono Y1.out.size))
    have W2 := Lib.hid (CutOk.below W1.out hb)
    clear hb K1 Sl1 Y1 W1 HQ
    cases hr : rightM m l
    · have HBn := Lib.hid (mbytes_no m l A N c hr HFew.out HN.out)
      have HRr := Lib.hid (fun W hs => Rf.refright14_is m l A N c false hr W hs HN.out (by have := H30.out; omega) (few_tiny HFew.out))
      have HMr := Lib.hid (fun W hs hw => mright_is m l A N c false hr W hs HN.out (by have := H30.out; omega) (few_lens HFew.out).1 hw)
      clear hr
      go_wp2_with (refine wpList_load_if rfl 26 (.tmp 1) rfl p rfl _ _ _ _ K2.out Try.underlying26 rfl (sizeM _ _) ?_)
      refine (HBn.out A2 Sl2.out W2.out).mono ?_
      rintro x3 A3 ⟨P3, c3, rfl, hb⟩
      have K3 := Lib.hid (MB.keep K2.out hb)
      have Sl3 := Lib.hid (Sl2.out.below hb)
      have Y3 := Lib.hid (Y2.out.trans (hb.mono Y2.out.size))
      have W3 := Lib.hid (CutOk.below W2.out hb)
      clear hb K2 Sl2 Y2 W2
      go_wp2_with (refine wpList_load_if rfl 26 (.tmp 1) rfl p rfl _ _ _ _ K3.out Try.underlying26 rfl (sizeM _ _) ?_)
      refine (HRr.out A3 Sl3.out).mono ?_
      rintro x4 A4 ⟨rfl, hb⟩
      have K4 := Lib.hid (MB.keep K3.out hb)
      have Sl4 := Lib.hid (Sl3.out.below hb)
      have Y4 := Lib.hid (Y3.out.trans (hb.mono Y3.out.size))
      have W4 := Lib.hid (CutOk.below W3.out hb)
      clear hb K3 Sl3 Y3 W3
      go_wp2_with (refine wpList_load_if rfl 26 (.tmp 1) rfl p rfl _ _ _ _ K4.out Try.underlying26 rfl (sizeM _ _) ?_)
      refine (HMr.out A4 Sl4.out W4.out).mono ?_
      rintro x5 A5 ⟨rfl, hb⟩
      have Y5 := Lib.hid (Y4.out.trans (hb.mono Y4.out.size))
      clear hb K4 Sl4 Y4 W4
      go_wp2
      go_ret
      exact ⟨rfl, Y5.out⟩
    · obtain ⟨LL, hLL⟩ : ∃ LL, bytesM m l = LL := ⟨_, rfl⟩
      have HBy := Lib.hid (mbytes_yes m l A N c hr HFew.out HN.out LL hLL)
      have HRr := Lib.hid (fun W hs => Rf.refright14_is m l A N c true hr W hs HN.out (by have := H30.out; omega) (few_tiny HFew.out))
      have HMr := Lib.hid (fun W hs hw => mright_is m l A N c true hr W hs HN.out (by have := H30.out; omega) (few_lens HFew.out).1 hw)
      have HPb := Lib.hid (mparse_back m l N hr HFew.out HN.out HCm.out HCl.out LL hLL)
      have HRb := Lib.hid (refbytes_is m l A N c HFew.out HN.out LL hLL)
      unfold mV at *
      clear hr hLL
      obtain ⟨n3, hn3⟩ : ∃ n3, LL.length = n3 := ⟨_, rfl⟩
      rw [hn3] at HBy
      clear hn3
      go_wp2_with (refine wpList_load_if rfl 26 (.tmp 1) rfl p rfl _ _ _ _ K2.out Try.underlying26 rfl (sizeM _ _) ?_)
      refine (HBy.out A2 Sl2.out W2.out).mono ?_
      rintro x3 A3 ⟨P3, c3, rfl, hs3, hb⟩
      have S3 := Lib.hid hs3
      have K3 := Lib.hid (MB.keep K2.out hb)
      have Sl3 := Lib.hid (Sl2.out.below hb)
      have Y3 := Lib.hid (Y2.out.trans (hb.mono Y2.out.size))
      have W3 := Lib.hid (CutOk.below W2.out hb)
      clear hb hs3 K2 Sl2 Y2 W2 HBy
      go_wp2_with (refine wpList_load_if rfl 26 (.tmp 1) rfl p rfl _ _ _ _ K3.out Try.underlying26 rfl (sizeM _ _) ?_)
      refine (HRr.out A3 Sl3.out).mono ?_
      rintro x4 A4 ⟨rfl, hb⟩
      have S4 := Lib.hid (Sl.below S3.out hb)
      have K4 := Lib.hid (MB.keep K3.out hb)
      have Sl4 := Lib.hid (Sl3.out.below hb)
      have Y4 := Lib.hid (Y3.out.trans (hb.mono Y3.out.size))
      have W4 := Lib.hid (CutOk.below W3.out hb)
      clear hb K3 Sl3 Y3 W3 HRr S3
      go_wp2_with fail
      refine (HPb.out _ A4 S4.out W4.out).mono ?_
      rintro x5 A5 ⟨A2, c2, rfl, hs5, hb⟩
      have Sm5 := Lib.hid hs5
      have S5 := Lib.hid (Sl.below S4.out hb)
      have K5 := Lib.hid (MB.keep K4.out hb)
      have Sl5 := Lib.hid (Sl4.out.below hb)
      have Y5 := Lib.hid (Y4.out.trans (hb.mono Y4.out.size))
      have W5 := Lib.hid (CutOk.below W4.out hb)
      clear hb hs5 K4 Sl4 Y4 W4 HPb S4
      have hz := (zero_of_info zeroM).1
      have NN := Lib.hid (MB.new_ A5 m0 (.slice none 0 0))
      go_upto_region 9 with (refine wpList_store_row rfl 26 (.tmp 5) (.tmp 35) rfl A5.heap.size (mC m (.slice A2 N c2)) rfl rfl _ _ NN.out (sizeM _ _) rfl (mC_one _ _ _ _) ?_)
      clear hz
      have hbb : Below A5.heap.size A5 ((A5.alloc (.cells (mC m0 (.slice none 0 0)) 26)).setRow A5.heap.size (mC m (.slice A2 N c2))) := ((Below.refl _ _).alloc (Nat.le_refl _) _).trans (setRow_below _ _ _ _ (Nat.le_refl _))
      have hq : MB ((A5.alloc (.cells (mC m0 (.slice none 0 0)) 26)).setRow A5.heap.size (mC m (.slice A2 N c2))) A5.heap.size m (.slice A2 N c2) := setRow_blk _ _ _ _ _ NN.out
      generalize (A5.alloc (.cells (mC m0 (.slice none 0 0)) 26)).setRow A5.heap.size (mC m (.slice A2 N c2)) = A8 at *
      obtain ⟨q, hqq⟩ : ∃ q, A5.heap.size = q := ⟨_, rfl⟩
      rw [hqq] at hq ⊢
      have Q8 := Lib.hid hq
      have Sm8 := Lib.hid (Sm5.out.below hbb)
      have S8 := Lib.hid (Sl.below S5.out hbb)
      have K8 := Lib.hid (MB.keep K5.out hbb)
      have Sl8 := Lib.hid (Sl5.out.below hbb)
      have Y8 := Lib.hid (Y5.out.trans (hbb.mono Y5.out.size))
      have W8 := Lib.hid (CutOk.below W5.out hbb)
      clear hq hbb NN K5 Sl5 Y5 W5 S5 Sm5 hqq
      try simp only [Act.put]
      refine wp_region_any (by kernel_rfl) ?_
      refine wpAny_late (fun i uq W => if i = 11 then Sl bv W uq LL else  uq = ([.int .i64 0, .bool true, .bool true, .agg (mC m (.slice A N c)), .int .i64 0, .bool true, .bool true, .bool true, .slice P3 n3 c3, .string ⟨LL.toArray⟩, .agg (mC m (.slice A N c)), undef, .string ⟨LL.toArray⟩, .bool true, .bool true, .bool true, .int .i64 0, .bool true, .bool true, .bool true, .agg (mC m (.slice A N c)), .agg (mC m (.slice A2 N c2)), .bool true, .bool true, .bool true] : List Value).getD i undef) _ A8 (by kernel_rfl) (by kernel_rfl) (by kernel_rfl) (fun i v w w' hb h => by
          try dsimp only at h ⊢
          by_cases hq : i = 11
          · rw [if_pos hq] at h ⊢; exact Sl.below h hb
          · rw [if_neg hq] at h ⊢; exact h) ?_ ?_
      · refine ⟨?_, ?_, ?_, ?_, ?_, ?_, ?_, ?_, ?_, ?_, ?_, ?_, ?_, ?_, ?_, ?_, ?_, ?_, ?_, ?_, ?_, ?_, ?_, ?_, ?_, trivial⟩
        · intro a W hI hun haft hi
          have e4 : a.eval (.tmp 4) = .int .i64 0 := hun 4 (by kernel_rfl)
          exact b_same hi hI rfl _ (run_move_op rfl e4) rfl
        · intro a W hI hun haft hi
          have f0 : a.eval (.tmp 37) = .int .i64 0 := haft ⟨0, .data⟩ (by simp) rfl _ _ rfl rfl
          exact b_same hi hI rfl (.bool true) (run_bin_op rfl f0 rfl (by kernel_rfl) (by kernel_rfl)) rfl
        · intro a W hI hun haft hi
          have f1 : a.eval (.tmp 38) = .bool true := haft ⟨1, .data⟩ (by simp) rfl _ _ rfl rfl
          exact b_same hi hI rfl _ (run_move_op rfl f1) rfl
        · intro a W hI hun haft hi
          have fg : a.eval (.tmp 39) = .bool true := haft ⟨2, .guard⟩ (by simp) rfl _ _ rfl rfl
          have e1 : a.eval (.tmp 1) = .pointer (some ⟨p, 0, none⟩) := hun 1 (by kernel_rfl)
          exact b_same hi hI (guard_ok rfl rfl rfl fg) _ (run_load_op rfl e1 (Blk.below K8.out hI (Blk.lt K8.out)) Try.underlying26 rfl (sizeM _ _)) rfl
        · intro a W hI hun haft hi
          have fg : a.eval (.tmp 39) = .bool true := haft ⟨2, .guard⟩ (by simp) rfl _ _ rfl rfl
          have f3 : a.eval (.tmp 40) = .agg (mC m (.slice A N c)) := haft ⟨3, .data⟩ (by simp) rfl _ _ rfl rfl
          refine b_call hi hI (guard_ok rfl rfl rfl fg) _ _ (run_call_op (args := #[.agg (mC m (.slice A N c))]) rfl (by simp [f3]) (by kernel_rfl)) ?_
          exact (HMr.out W (Sl8.out.below hI) (W8.out.below hI)).mono fun e w' H => ⟨_, H.1, rfl, H.2⟩
        · intro a W hI hun haft hi
          have fg : a.eval (.tmp 39) = .bool true := haft ⟨2, .guard⟩ (by simp) rfl _ _ rfl rfl
          have f4 : a.eval (.tmp 41) = .int .i64 0 := haft ⟨4, .data⟩ (by simp) rfl _ _ rfl rfl
          exact b_same hi hI (guard_ok rfl rfl rfl fg) (.bool true) (run_bin_op rfl f4 rfl (by kernel_rfl) (by kernel_rfl)) rfl
        · intro a W hI hun haft hi
          have f2 : a.eval (.tmp 39) = .bool true := haft ⟨2, .data⟩ (by simp) rfl _ _ rfl rfl
          have f5 : a.eval (.tmp 42) = .bool true := haft ⟨5, .data⟩ (by simp) rfl _ _ rfl rfl
          exact b_same hi hI rfl _ (run_pick_op (b := true) rfl f2 f5 rfl) rfl
        · intro a W hI hun haft hi
          have f6 : a.eval (.tmp 43) = .bool true := haft ⟨6, .data⟩ (by simp) rfl _ _ rfl rfl
          exact b_same hi hI rfl _ (run_move_op rfl f6) rfl
        · intro a W hI hun haft hi
          have fg : a.eval (.tmp 44) = .bool true := haft ⟨7, .guard⟩ (by simp) rfl _ _ rfl rfl
          have e3 : a.eval (.tmp 3) = .slice P3 n3 c3 := hun 3 (by kernel_rfl)
          exact b_same hi hI (guard_ok rfl rfl rfl fg) _ (run_move_op rfl e3) rfl
        · intro a W hI hun haft hi
          have fg : a.eval (.tmp 44) = .bool true := haft ⟨7, .guard⟩ (by simp) rfl _ _ rfl rfl
          have f8 : a.eval (.tmp 45) = .slice P3 n3 c3 := haft ⟨8, .data⟩ (by simp) rfl _ _ rfl rfl
          exact b_same hi hI (guard_ok rfl rfl rfl fg) _ (run_convert_op rfl f8 (run_string_sl (P := Try.prog) W 29 9 5 Try.underlying29 Try.underlying5 Try.underlying9 _ _ (Sl.below S8.out hI))) rfl
        · intro a W hI hun haft hi
          have fg : a.eval (.tmp 44) = .bool true := haft ⟨7, .guard⟩ (by simp) rfl _ _ rfl rfl
          have e1 : a.eval (.tmp 1) = .pointer (some ⟨p, 0, none⟩) := hun 1 (by kernel_rfl)
          exact b_same hi hI (guard_ok rfl rfl rfl fg) _ (run_load_op rfl e1 (Blk.below K8.out hI (Blk.lt K8.out)) Try.underlying26 rfl (sizeM _ _)) rfl
        · intro a W hI hun haft hi
          have fg : a.eval (.tmp 44) = .bool true := haft ⟨7, .guard⟩ (by simp) rfl _ _ rfl rfl
          have f10 : a.eval (.tmp 47) = .agg (mC m (.slice A N c)) := haft ⟨10, .data⟩ (by simp) rfl _ _ rfl rfl
          refine b_call hi hI (guard_ok rfl rfl rfl fg) _ _ (run_call_op (args := #[.agg (mC m (.slice A N c))]) rfl (by simp [f10]) (by kernel_rfl)) ?_
          exact (HRb.out W (Sl8.out.below hI)).mono fun e' w' H => by
            obtain ⟨v', he, ho, hb⟩ := H
            exact ⟨v', he, Sl.of_own ho, hb⟩
        · intro a W hI hun haft hi
          have fg : a.eval (.tmp 44) = .bool true := haft ⟨7, .guard⟩ (by simp) rfl _ _ rfl rfl
          have f11 : Sl bv W (a.eval (.tmp 48)) LL := haft ⟨11, .data⟩ (by simp) rfl _ _ rfl rfl
          exact b_same hi hI (guard_ok rfl rfl rfl fg) _ (run_convert_op rfl rfl (run_string_sl (P := Try.prog) W 29 9 5 Try.underlying29 Try.underlying5 Try.underlying9 _ _ (f11))) rfl
        · intro a W hI hun haft hi
          have fg : a.eval (.tmp 44) = .bool true := haft ⟨7, .guard⟩ (by simp) rfl _ _ rfl rfl
          have f9 : a.eval (.tmp 46) = .string ⟨LL.toArray⟩ := haft ⟨9, .data⟩ (by simp) rfl _ _ rfl rfl
          have f12 : a.eval (.tmp 49) = .string ⟨LL.toArray⟩ := haft ⟨12, .data⟩ (by simp) rfl _ _ rfl rfl
          exact b_same hi hI (guard_ok rfl rfl rfl fg) (.bool true) (run_bin_op rfl f9 f12 (by simp [eqGuard]) (eql_str _ _)) rfl
        · intro a W hI hun haft hi
          have f7 : a.eval (.tmp 44) = .bool true := haft ⟨7, .data⟩ (by simp) rfl _ _ rfl rfl
          have f13 : a.eval (.tmp 50) = .bool true := haft ⟨13, .data⟩ (by simp) rfl _ _ rfl rfl
          exact b_same hi hI rfl _ (run_pick_op (b := true) rfl f7 f13 rfl) rfl
        · intro a W hI hun haft hi
          have f14 : a.eval (.tmp 51) = .bool true := haft ⟨14, .data⟩ (by simp) rfl _ _ rfl rfl
          exact b_same hi hI rfl _ (run_move_op rfl f14) rfl
        · intro a W hI hun haft hi
          have fg : a.eval (.tmp 52) = .bool true := haft ⟨15, .guard⟩ (by simp) rfl _ _ rfl rfl
          have e6 : a.eval (.tmp 6) = .int .i64 0 := hun 6 (by kernel_rfl)
          exact b_same hi hI (guard_ok rfl rfl rfl fg) _ (run_move_op rfl e6) rfl
        · intro a W hI hun haft hi
          have fg : a.eval (.tmp 52) = .bool true := haft ⟨15, .guard⟩ (by simp) rfl _ _ rfl rfl
          have f16 : a.eval (.tmp 53) = .int .i64 0 := haft ⟨16, .data⟩ (by simp) rfl _ _ rfl rfl
          exact b_same hi hI (guard_ok rfl rfl rfl fg) (.bool true) (run_bin_op rfl f16 rfl (by kernel_rfl) (by kernel_rfl)) rfl
        · intro a W hI hun haft hi
          have f15 : a.eval (.tmp 52) = .bool true := haft ⟨15, .data⟩ (by simp) rfl _ _ rfl rfl
          have f17 : a.eval (.tmp 54) = .bool true := haft ⟨17, .data⟩ (by simp) rfl _ _ rfl rfl
          exact b_same hi hI rfl _ (run_pick_op (b := true) rfl f15 f17 rfl) rfl
        · intro a W hI hun haft hi
          have f18 : a.eval (.tmp 55) = .bool true := haft ⟨18, .data⟩ (by simp) rfl _ _ rfl rfl
          exact b_same hi hI rfl _ (run_move_op rfl f18) rfl
        · intro a W hI hun haft hi
          have fg : a.eval (.tmp 56) = .bool true := haft ⟨19, .guard⟩ (by simp) rfl _ _ rfl rfl
          have e1 : a.eval (.tmp 1) = .pointer (some ⟨p, 0, none⟩) := hun 1 (by kernel_rfl)
          exact b_same hi hI (guard_ok rfl rfl rfl fg) _ (run_load_op rfl e1 (Blk.below K8.out hI (Blk.lt K8.out)) Try.underlying26 rfl (sizeM _ _)) rfl
        · intro a W hI hun haft hi
          have fg : a.eval (.tmp 56) = .bool true := haft ⟨19, .guard⟩ (by simp) rfl _ _ rfl rfl
          have e5 : a.eval (.tmp 5) = .pointer (some ⟨q, 0, none⟩) := hun 5 (by kernel_rfl)
          exact b_same hi hI (guard_ok rfl rfl rfl fg) _ (run_load_op rfl e5 (Blk.below Q8.out hI (Blk.lt Q8.out)) Try.underlying26 rfl (sizeM _ _)) rfl
        · intro a W hI hun haft hi
          have fg : a.eval (.tmp 56) = .bool true := haft ⟨19, .guard⟩ (by simp) rfl _ _ rfl rfl
          have f20 : a.eval (.tmp 57) = .agg (mC m (.slice A N c)) := haft ⟨20, .data⟩ (by simp) rfl _ _ rfl rfl
          have f21 : a.eval (.tmp 58) = .agg (mC m (.slice A2 N c2)) := haft ⟨21, .data⟩ (by simp) rfl _ _ rfl rfl
          refine b_call hi hI (guard_ok rfl rfl rfl fg) _ _ (run_call_op (args := #[.agg (mC m (.slice A N c)), .agg (mC m (.slice A2 N c2))]) rfl (by simp [f20, f21]) (by kernel_rfl)) ?_
          exact (refsame_true m l A A2 N c c2 W (Sl8.out.below hI) (Sm8.out.below hI) HN.out (by have := H30.out; omega)).mono fun e w' H => ⟨_, H.1, rfl, H.2⟩
        · intro a W hI hun haft hi
          have f19 : a.eval (.tmp 56) = .bool true := haft ⟨19, .data⟩ (by simp) rfl _ _ rfl rfl
          have f22 : a.eval (.tmp 59) = .bool true := haft ⟨22, .data⟩ (by simp) rfl _ _ rfl rfl
          exact b_same hi hI rfl _ (run_pick_op (b := true) rfl f19 f22 rfl) rfl
        · intro a W hI hun haft hi
          have f23 : a.eval (.tmp 60) = .bool true := haft ⟨23, .data⟩ (by simp) rfl _ _ rfl rfl
          exact b_same hi hI rfl _ (run_assign_op rfl f23) rfl
      · intro vals W hI hp
        have hl24 : vals 24 = .bool true := hp 24 (by decide)
        have HI := Lib.hid hI
        clear hp hI
        simp only [layN, List.size_toArray, List.length_cons, List.length_nil, List.range, List.range.loop, if_true, List.getElem?_toArray, List.getElem?_cons_zero, List.getElem?_cons_succ, Act.put, List.setIfInBounds_toArray, List.set_cons_zero, List.set_cons_succ, Nat.zero_add, Nat.reduceAdd, hl24]
        clear hl24
        go_wp2_with fail
        go_ret
        exact ⟨rfl, Y8.out.trans (HI.out.mono Y8.out.size)⟩

end Go.Proofs.Ytalaidlnhoonfaa
