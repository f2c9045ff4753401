/-
  hedgerowlaw14.MessageAlone: the walk: for any two messages the call returns true, and nothing that was there has turned. Conditions: CutOk, lengths.
-/
import Derived.Test.YtalaidlnhoonfaaMgTurnW
import Derived.Test.YtalaidlnhoonfaaMgSameAny
import Derived.Test.YtalaidlnhoonfaaMgSameR
namespace Go.Proofs.Ytalaidlnhoonfaa
open Go.RowKit

theorem eql_two (l r : List UInt8) (b : Bool) (h : decide (l = r) = b) (w : World) : (binOp .eql 9 (.string ⟨l.toArray⟩) (.string ⟨r.toArray⟩)).run Try.prog w = .ok (.bool b) w := by
  rw [binOp_string_eql, Lib.toList_data, Lib.toList_data]
  subst h
  by_cases e : l = r <;> simp [e, Sem.run_pure]
theorem msame_is (m n : Mg) (l r : List Ev) (b : Bool) (h : sameM m l n r = b) (A A' : Option Addr) (N N' c c' : Nat) (w : World) (hs : SlK encE 27 w (.slice A N c) l) (hs' : SlK encE 27 w (.slice A' N' c') r) (hN : l.length = N) (hR : r.length = N') (hN2 : N ≤ 10000) :
    Calls Try.prog 16 #[mV m (.slice A N c), mV n (.slice A' N' c')] w (Gives w (.bool b)) := by subst h; exact msame_any m n l r A A' N N' c c' w hs hs' hN hR hN2
theorem refsame_is (m n : Mg) (l r : List Ev) (b : Bool) (h : sameM m l n r = b) (A A' : Option Addr) (N N' c c' : Nat) (w : World) (hs : SlK encE 27 w (.slice A N c) l) (hs' : SlK encE 27 w (.slice A' N' c') r) (hN : l.length = N) (hR : r.length = N') (hN2 : N ≤ 10000) :
    Calls Try.prog 14 #[mV m (.slice A N c), mV n (.slice A' N' c')] w (Gives w (.bool b)) := by subst h; exact refsame_any m n l r A A' N N' c c' w hs hs' hN hR hN2
/-- Messages that are not the same have other bytes. -/
theorem bytes_same {m n : Mg} {l r : List Ev} (hm : rightM m l = true) (hn : rightM n r = true) (fl : fewM l = true) (fr : fewM r = true) (cm : CanonM m) (cn : CanonM n) (cl : ∀ e ∈ l, Canon e) (cr : ∀ e ∈ r, Canon e) : decide (bytesM m l = bytesM n r) = sameM m l n r := by
  have p1 := few_pay m l fl
  have p2 := few_pay n r fr
  have b1 := (msg_back m l hm cm (fun e he => ⟨(few_lens fl).1 e he, cl e he⟩) (by omega)).2
  have b2 := (msg_back n r hn cn (fun e he => ⟨(few_lens fr).1 e he, cr e he⟩) (by omega)).2
  cases h : sameM m l n r
  · refine decide_eq_false fun e => ?_
    rw [e, b2, Prod.mk.injEq] at b1
    rw [b1.1, b1.2, sameM_self] at h
    cases h
  · obtain ⟨rfl, rfl⟩ := sameM_eq h cm cn cl cr
    exact decide_eq_true rfl

set_option maxRecDepth 100000 in
set_option maxHeartbeats 4000000 in
theorem alone_walk (m n : Mg) (l r : List Ev) (A A' : Option Addr) (N N' c c' : Nat) (w : World) (hs : SlK encE 27 w (.slice A N c) l) (hN : l.length = N) (hN2 : N ≤ 4611686018427387903) (hf : ∀ e ∈ l, Fit e) (hcm : CanonM m) (hcl : ∀ e ∈ l, Canon e)
    (hs' : SlK encE 27 w (.slice A' N' c') r) (hR : r.length = N') (hR2 : N' ≤ 4611686018427387903) (hf' : ∀ e ∈ r, Fit e) (hcn : CanonM n) (hcr : ∀ e ∈ r, Canon e) (hw : CutOk w) :
    Calls Try.prog 6 #[mV m (.slice A N c), mV n (.slice A' N' c')] w (Gives w (.bool true)) := by
  obtain ⟨p, hp⟩ : ∃ p, w.heap.size = p := ⟨_, rfl⟩
  obtain ⟨X, hX⟩ : ∃ X, X = (w.alloc (.cells (mC m (.slice A N c)) 26)).alloc (.cells (mC n (.slice A' N' c')) 26) := ⟨_, rfl⟩
  have hbX : Below w.heap.size w X := by rw [hX]; exact ((Below.refl _ _).alloc (Nat.le_refl _) _).alloc (by simp) _
  have hm1 : MB X p m (.slice A N c) := by rw [hX, ← hp]; exact (MB.new_ w m _).keep ((Below.refl _ _).alloc (Nat.le_refl _) _)
  have hm2 : MB X (p + 1) n (.slice A' N' c') := by
    rw [hX, ← hp]
    have := MB.new_ (w.alloc (.cells (mC m (.slice A N c)) 26)) n (.slice A' N' c')
    simpa using this
  have K0 := Lib.hid hm1
  have J0 := Lib.hid hm2
  have Sl0 := Lib.hid (hs.below hbX)
  have Sr0 := Lib.hid (hs'.below hbX)
  have HX := Lib.hid hX
  have HP := Lib.hid hp
  have Y0 := Lib.hid hbX
  have W0 := Lib.hid (hw.below hbX)
  have HN := Lib.hid hN
  have HR := Lib.hid hR
  have HFw := Lib.hid (fun b hb => few14_is m l A N c b hb hN hN2 hf)
  have HFr := Lib.hid (fun b hb => few14_is n r A' N' c' b hb hR hR2 hf')
  have HCm := Lib.hid hcm
  have HCl := Lib.hid hcl
  have HCn := Lib.hid hcn
  have HCr := Lib.hid hcr
  clear hX hbX hm1 hm2 hp hs hN hN2 hf hcm hcl hw hs' hR hR2 hf' hcn hcr
  unfold mV
  go_enter Try.func6, Try.ntmps6
  go_upto_region 1 with fail
  try simp only [World.size_alloc]
  rw [← HX.out, HP.out]
  go_wp2_with fail
  refine (mfixed_any _ W0.out).mono ?_
  rintro x1 A1 ⟨rfl, hb⟩
  have K1 := Lib.hid (MB.keep K0.out hb)
  have J1 := Lib.hid (MB.keep J0.out hb)
  have Sl1 := Lib.hid (Sl0.out.below hb)
  have Sr1 := Lib.hid (Sr0.out.below hb)
  have W1 := Lib.hid (CutOk.below W0.out hb)
  have Y1 := Lib.hid (Y0.out.trans (hb.mono Y0.out.size))
  clear hb Y0 K0 J0 Sl0 Sr0 W0 
  cases hq : fewM l
  · have HQ := Lib.hid (HFw.out false hq)
    clear hq
    go_wp2_with (first
      | (refine wpList_load_if rfl 26 (.tmp 2) rfl p rfl _ _ _ _ K1.out Try.underlying26 rfl (sizeM _ _) ?_)
      | (refine wpList_load_if rfl 26 (.tmp 3) rfl (p + 1) rfl _ _ _ _ J1.out Try.underlying26 rfl (sizeM _ _) ?_)
      | fail)
    refine (HQ.out A1 Sl1.out).mono ?_
    rintro x2 A2 ⟨rfl, hb⟩
    have Y2 := Lib.hid (Y1.out.trans (hb.mono Y1.out.size))
    clear hb
    go_wp2
    go_ret
    exact ⟨rfl, Y2.out⟩
  · have HQ := Lib.hid (HFw.out true hq)
    have HFl := Lib.hid hq
    have H30 := Lib.hid (show N ≤ 30 by rw [← HN.out]; exact (few_lens hq).2)
    clear hq
    go_wp2_with (first
      | (refine wpList_load_if rfl 26 (.tmp 2) rfl p rfl _ _ _ _ K1.out Try.underlying26 rfl (sizeM _ _) ?_)
      | (refine wpList_load_if rfl 26 (.tmp 3) rfl (p + 1) rfl _ _ _ _ J1.out Try.underlying26 rfl (sizeM _ _) ?_)
      | fail)
    refine (HQ.out A1 Sl1.out).mono ?_
    rintro x2 A2 ⟨rfl, hb⟩
    have K2 := Lib.hid (MB.keep K1.out hb)
    have J2 := Lib.hid (MB.keep J1.out hb)
    have Sl2 := Lib.hid (Sl1.out.below hb)
    have Sr2 := Lib.hid (Sr1.out.below hb)
    have W2 := Lib.hid (CutOk.below W1.out hb)
    have Y2 := Lib.hid (Y1.out.trans (hb.mono Y1.out.size))
    clear hb Y1 K1 J1 Sl1 Sr1 W1 HQ
    cases hq : fewM r
    · have HQ := Lib.hid (HFr.out false hq)
      clear hq
      go_wp2_with (first
        | (refine wpList_load_if rfl 26 (.tmp 2) rfl p rfl _ _ _ _ K2.out Try.underlying26 rfl (sizeM _ _) ?_)
        | (refine wpList_load_if rfl 26 (.tmp 3) rfl (p + 1) rfl _ _ _ _ J2.out Try.underlying26 rfl (sizeM _ _) ?_)
        | fail)
      refine (HQ.out A2 Sr2.out).mono ?_
      rintro x3 A3 ⟨rfl, hb⟩
      have Y3 := Lib.hid (Y2.out.trans (hb.mono Y2.out.size))
      clear hb
      go_wp2
      go_ret
      exact ⟨rfl, Y3.out⟩
    · have HQ := Lib.hid (HFr.out true hq)
      have HFq := Lib.hid hq
      have H31 := Lib.hid (show N' ≤ 30 by rw [← HR.out]; exact (few_lens hq).2)
      clear hq
      go_wp2_with (first
        | (refine wpList_load_if rfl 26 (.tmp 2) rfl p rfl _ _ _ _ K2.out Try.underlying26 rfl (sizeM _ _) ?_)
        | (refine wpList_load_if rfl 26 (.tmp 3) rfl (p + 1) rfl _ _ _ _ J2.out Try.underlying26 rfl (sizeM _ _) ?_)
        | fail)
      refine (HQ.out A2 Sr2.out).mono ?_
      rintro x3 A3 ⟨rfl, hb⟩
      have K3 := Lib.hid (MB.keep K2.out hb)
      have J3 := Lib.hid (MB.keep J2.out hb)
      have Sl3 := Lib.hid (Sl2.out.below hb)
      have Sr3 := Lib.hid (Sr2.out.below hb)
      have W3 := Lib.hid (CutOk.below W2.out hb)
      have Y3 := Lib.hid (Y2.out.trans (hb.mono Y2.out.size))
      clear hb Y2 K2 J2 Sl2 Sr2 W2 HQ
      cases hq : rightM m l
      · have HQ := Lib.hid (fun W hs => Rf.refright14_is m l A N c false hq W hs HN.out (by have := H30.out; omega) (few_tiny HFl.out))
        clear hq
        go_wp2_with (first
          | (refine wpList_load_if rfl 26 (.tmp 2) rfl p rfl _ _ _ _ K3.out Try.underlying26 rfl (sizeM _ _) ?_)
          | (refine wpList_load_if rfl 26 (.tmp 3) rfl (p + 1) rfl _ _ _ _ J3.out Try.underlying26 rfl (sizeM _ _) ?_)
          | fail)
        refine (HQ.out A3 Sl3.out).mono ?_
        rintro x4 A4 ⟨rfl, hb⟩
        have Y4 := Lib.hid (Y3.out.trans (hb.mono Y3.out.size))
        clear hb
        go_wp2
        go_ret
        exact ⟨rfl, Y4.out⟩
      · have HQ := Lib.hid (fun W hs => Rf.refright14_is m l A N c true hq W hs HN.out (by have := H30.out; omega) (few_tiny HFl.out))
        have HRl := Lib.hid hq
        clear hq
        go_wp2_with (first
          | (refine wpList_load_if rfl 26 (.tmp 2) rfl p rfl _ _ _ _ K3.out Try.underlying26 rfl (sizeM _ _) ?_)
          | (refine wpList_load_if rfl 26 (.tmp 3) rfl (p + 1) rfl _ _ _ _ J3.out Try.underlying26 rfl (sizeM _ _) ?_)
          | fail)
        refine (HQ.out A3 Sl3.out).mono ?_
        rintro x4 A4 ⟨rfl, hb⟩
        have K4 := Lib.hid (MB.keep K3.out hb)
        have J4 := Lib.hid (MB.keep J3.out hb)
        have Sl4 := Lib.hid (Sl3.out.below hb)
        have Sr4 := Lib.hid (Sr3.out.below hb)
        have W4 := Lib.hid (CutOk.below W3.out hb)
        have Y4 := Lib.hid (Y3.out.trans (hb.mono Y3.out.size))
        clear hb Y3 K3 J3 Sl3 Sr3 W3 HQ
        cases hq : rightM n r
        · have HQ := Lib.hid (fun W hs => Rf.refright14_is n r A' N' c' false hq W hs HR.out (by have := H31.out; omega) (few_tiny HFq.out))
          clear hq
          go_wp2_with (first
            | (refine wpList_load_if rfl 26 (.tmp 2) rfl p rfl _ _ _ _ K4.out Try.underlying26 rfl (sizeM _ _) ?_)
            | (refine wpList_load_if rfl 26 (.tmp 3) rfl (p + 1) rfl _ _ _ _ J4.out Try.underlying26 rfl (sizeM _ _) ?_)
            | fail)
          refine (HQ.out A4 Sr4.out).mono ?_
          rintro x5 A5 ⟨rfl, hb⟩
          have Y5 := Lib.hid (Y4.out.trans (hb.mono Y4.out.size))
          clear hb
          go_wp2
          go_ret
          exact ⟨rfl, Y5.out⟩
        · have HQ := Lib.hid (fun W hs => Rf.refright14_is n r A' N' c' true hq W hs HR.out (by have := H31.out; omega) (few_tiny HFq.out))
          have HRr := Lib.hid hq
          clear hq
          go_wp2_with (first
            | (refine wpList_load_if rfl 26 (.tmp 2) rfl p rfl _ _ _ _ K4.out Try.underlying26 rfl (sizeM _ _) ?_)
            | (refine wpList_load_if rfl 26 (.tmp 3) rfl (p + 1) rfl _ _ _ _ J4.out Try.underlying26 rfl (sizeM _ _) ?_)
            | fail)
          refine (HQ.out A4 Sr4.out).mono ?_
          rintro x5 A5 ⟨rfl, hb⟩
          have K5 := Lib.hid (MB.keep K4.out hb)
          have J5 := Lib.hid (MB.keep J4.out hb)
          have Sl5 := Lib.hid (Sl4.out.below hb)
          have Sr5 := Lib.hid (Sr4.out.below hb)
          have W5 := Lib.hid (CutOk.below W4.out hb)
          have Y5 := Lib.hid (Y4.out.trans (hb.mono Y4.out.size))
          clear hb Y4 K4 J4 Sl4 Sr4 W4 HQ
          obtain ⟨LA, hLA⟩ : ∃ LA, bytesM m l = LA := ⟨_, rfl⟩
          obtain ⟨LB, hLB⟩ : ∃ LB, bytesM n r = LB := ⟨_, rfl⟩
          have HBs := bytes_same HRl.out HRr.out HFl.out HFq.out HCm.out HCn.out HCl.out HCr.out
          rw [hLA, hLB] at HBs
          have HBS := Lib.hid HBs
          have HlA := Lib.hid (show LA.length ≤ 20008 by rw [← hLA, bytesM_len]; have := few_pay m l HFl.out; omega)
          have HlB := Lib.hid (show 8 ≤ LB.length ∧ LB.length ≤ 20008 by rw [← hLB, bytesM_len]; have := few_pay n r HFq.out; omega)
          have HPa := Lib.hid (mparse_back m l N HRl.out HFl.out HN.out HCm.out HCl.out LA hLA)
          have HPb := Lib.hid (mparse_back n r N' HRr.out HFq.out HR.out HCn.out HCr.out LB hLB)
          have HMo := msg_more m l (by have := few_pay m l HFl.out; omega) LB (by intro e; have := HlB.out; rw [e] at this; simp at this)
          rw [hLA] at HMo
          have HMO := Lib.hid HMo
          have HRa := Lib.hid (refbytes_is m l A N c HFl.out HN.out LA hLA)
          have HRb := Lib.hid (refbytes_is n r A' N' c' HFq.out HR.out LB hLB)
          clear hLA hLB HBs HMo
          unfold mV at HRa HRb
          go_upto_region 5 with fail
          go_cut [5, 6] (fun va vb wx => ∃ P5 c5 P6 c6, va = .slice P5 LA.length c5 ∧ vb = .slice P6 LB.length c6 ∧ Sl bv wx va LA ∧ Sl bv wx vb LB ∧ Below A5.heap.size A5 wx)
          case first =>
            refine wp_region_any (by kernel_rfl) ?_
            refine wpAny_late (fun i v W => match i with | 0 => v = .agg (mC m (.slice A N c)) | 1 => Sl bv W v LA | 2 => v = .agg (mC n (.slice A' N' c')) | 3 => Sl bv W v LB | 4 => Sl bv W v LA | 5 => Sl bv W v LB | _ => True) _ A5 (by kernel_rfl) (by kernel_rfl) (by kernel_rfl) (fun i v w w' hb h => by
              match i, h with
              | 0, h => exact h
              | 1, h => exact Sl.below h hb
              | 2, h => exact h
              | 3, h => exact Sl.below h hb
              | 4, h => exact Sl.below h hb
              | 5, h => exact Sl.below h hb
              | _ + 6, _ => trivial) ?_ ?_
            · refine ⟨?_, ?_, ?_, ?_, ?_, ?_, trivial⟩
              · intro a W hI hun haft hi
                have e2 : a.eval (.tmp 2) = .pointer (some ⟨p, 0, none⟩) := hun 2 (by kernel_rfl)
                exact b_same hi hI rfl _ (run_load_op rfl e2 (Blk.below K5.out hI (Blk.lt K5.out)) Try.underlying26 rfl (sizeM _ _)) rfl
              · intro a W hI hun haft hi
                have f0 : a.eval (.tmp 33) = .agg (mC m (.slice A N c)) := haft ⟨0, .data⟩ (by simp) rfl _ _ rfl rfl
                refine b_call hi hI rfl _ _ (run_call_op (args := #[a.eval (.tmp 33)]) rfl (by simp) (by kernel_rfl)) ?_
                rw [f0]
                exact (HRa.out W (Sl5.out.below hI)).mono fun e' w' H => by
                  obtain ⟨v', he, ho, hb⟩ := H
                  exact ⟨v', he, Sl.of_own ho, hb⟩
              · intro a W hI hun haft hi
                have e3 : a.eval (.tmp 3) = .pointer (some ⟨p + 1, 0, none⟩) := hun 3 (by kernel_rfl)
                exact b_same hi hI rfl _ (run_load_op rfl e3 (Blk.below J5.out hI (Blk.lt J5.out)) Try.underlying26 rfl (sizeM _ _)) rfl
              · intro a W hI hun haft hi
                have f2 : a.eval (.tmp 35) = .agg (mC n (.slice A' N' c')) := haft ⟨2, .data⟩ (by simp) rfl _ _ rfl rfl
                refine b_call hi hI rfl _ _ (run_call_op (args := #[a.eval (.tmp 35)]) rfl (by simp) (by kernel_rfl)) ?_
                rw [f2]
                exact (HRb.out W (Sr5.out.below hI)).mono fun e' w' H => by
                  obtain ⟨v', he, ho, hb⟩ := H
                  exact ⟨v', he, Sl.of_own ho, hb⟩
              · intro a W hI hun haft hi
                have f1 : Sl bv W (a.eval (.tmp 34)) LA := haft ⟨1, .data⟩ (by simp) rfl _ _ rfl rfl
                exact b_same hi hI rfl _ (run_assign_op rfl rfl) f1
              · intro a W hI hun haft hi
                have f3 : Sl bv W (a.eval (.tmp 36)) LB := haft ⟨3, .data⟩ (by simp) rfl _ _ rfl rfl
                exact b_same hi hI rfl _ (run_assign_op rfl rfl) f3
            · intro vals W hI hp
              have s4 : Sl bv W (vals 4) LA := hp 4 (by decide)
              have s5 : Sl bv W (vals 5) LB := hp 5 (by decide)
              obtain ⟨P5, c5, h4⟩ := s4.form
              obtain ⟨P6, c6, h5⟩ := s5.form
              rw [h4] at s4
              rw [h5] at s5
              have H4 := Lib.hid s4
              have H5 := Lib.hid s5
              have HI := Lib.hid hI
              clear hp hI s4 s5
              simp only [layN, List.size_toArray, List.length_cons, List.length_nil, List.range, List.range.loop, if_true, List.getElem?_toArray, List.getElem?_cons_zero, List.getElem?_cons_succ, Act.put, List.setIfInBounds_toArray, List.set_cons_zero, List.set_cons_succ, Nat.zero_add, Nat.reduceAdd, h4, h5]
              clear h4 h5
              try go_wp2_with fail
              go_meet
              exact ⟨P5, c5, P6, c6, rfl, rfl, H4.out, H5.out, HI.out⟩
          case rest =>
            obtain ⟨P5, c5, P6, c6, rfl, rfl, hsa, hsb, hb⟩ := hcut
            obtain ⟨nA, hnA⟩ : ∃ nA, LA.length = nA := ⟨_, rfl⟩
            obtain ⟨nB, hnB⟩ : ∃ nB, LB.length = nB := ⟨_, rfl⟩
            rw [hnA] at hsa ⊢
            rw [hnB] at hsb ⊢
            have SA6 := Lib.hid hsa
            have SB6 := Lib.hid hsb
            have HnA := Lib.hid hnA
            have HnB := Lib.hid hnB
            clear hsa hsb hnA hnB HRa HRb
            obtain ⟨A6, hA6⟩ : ∃ A6, wc = A6 := ⟨_, rfl⟩
            rw [hA6] at SA6 SB6 hb ⊢
            clear hA6
            have K6 := Lib.hid (MB.keep K5.out hb)
            have J6 := Lib.hid (MB.keep J5.out hb)
            have Sl6 := Lib.hid (Sl5.out.below hb)
            have Sr6 := Lib.hid (Sr5.out.below hb)
            have W6 := Lib.hid (CutOk.below W5.out hb)
            have Y6 := Lib.hid (Y5.out.trans (hb.mono Y5.out.size))
            clear hb Y5 K5 J5 Sl5 Sr5 W5 
            go_wp2_with fail
            refine (HPa.out _ A6 SA6.out W6.out).mono ?_
            rintro x7 A7 ⟨Px, cx, rfl, hsx, hb⟩
            have Sx7 := Lib.hid hsx
            clear hsx
            have K7 := Lib.hid (MB.keep K6.out hb)
            have J7 := Lib.hid (MB.keep J6.out hb)
            have Sl7 := Lib.hid (Sl6.out.below hb)
            have Sr7 := Lib.hid (Sr6.out.below hb)
            have W7 := Lib.hid (CutOk.below W6.out hb)
            have SA7 := Lib.hid (Sl.below SA6.out hb)
            have SB7 := Lib.hid (Sl.below SB6.out hb)
            have Y7 := Lib.hid (Y6.out.trans (hb.mono Y6.out.size))
            clear hb Y6 K6 J6 Sl6 Sr6 W6 SA6 SB6 
            have hz := (zero_of_info zeroM).1
            have NN := Lib.hid (MB.new_ A7 m0 (.slice none 0 0))
            unfold mV
            go_upto_region 7 with (refine wpList_store_row rfl 26 (.tmp 7) (.tmp 40) rfl A7.heap.size (mC m (.slice Px N cx)) rfl rfl _ _ NN.out (sizeM _ _) rfl (mC_one _ _ _ _) ?_)
            clear hz
            have hb : Below A7.heap.size A7 ((A7.alloc (.cells (mC m0 (.slice none 0 0)) 26)).setRow A7.heap.size (mC m (.slice Px N cx))) := ((Below.refl _ _).alloc (Nat.le_refl _) _).trans (setRow_below _ _ _ _ (Nat.le_refl _))
            have hq : MB ((A7.alloc (.cells (mC m0 (.slice none 0 0)) 26)).setRow A7.heap.size (mC m (.slice Px N cx))) A7.heap.size m (.slice Px N cx) := setRow_blk _ _ _ _ _ NN.out
            generalize (A7.alloc (.cells (mC m0 (.slice none 0 0)) 26)).setRow A7.heap.size (mC m (.slice Px N cx)) = A8 at *
            obtain ⟨q, hqq⟩ : ∃ q, A7.heap.size = q := ⟨_, rfl⟩
            rw [hqq] at hq ⊢
            have Q8 := Lib.hid hq
            clear hq NN hqq
            have K8 := Lib.hid (MB.keep K7.out hb)
            have J8 := Lib.hid (MB.keep J7.out hb)
            have Sl8 := Lib.hid (Sl7.out.below hb)
            have Sr8 := Lib.hid (Sr7.out.below hb)
            have W8 := Lib.hid (CutOk.below W7.out hb)
            have SA8 := Lib.hid (Sl.below SA7.out hb)
            have SB8 := Lib.hid (Sl.below SB7.out hb)
            have Sx8 := Lib.hid (Sx7.out.below hb)
            have Y8 := Lib.hid (Y7.out.trans (hb.mono Y7.out.size))
            clear hb Y7 K7 J7 Sl7 Sr7 W7 SA7 SB7 Sx7 
            try simp only [Act.put]
            go_wp2_with fail
            refine (HPb.out _ A8 SB8.out W8.out).mono ?_
            rintro x9 A9 ⟨Py, cy, rfl, hsy, hb⟩
            have Sy9 := Lib.hid hsy
            clear hsy
            have K9 := Lib.hid (MB.keep K8.out hb)
            have J9 := Lib.hid (MB.keep J8.out hb)
            have Sl9 := Lib.hid (Sl8.out.below hb)
            have Sr9 := Lib.hid (Sr8.out.below hb)
            have W9 := Lib.hid (CutOk.below W8.out hb)
            have SA9 := Lib.hid (Sl.below SA8.out hb)
            have SB9 := Lib.hid (Sl.below SB8.out hb)
            have Q9 := Lib.hid (MB.keep Q8.out hb)
            have Sx9 := Lib.hid (Sx8.out.below hb)
            have Y9 := Lib.hid (Y8.out.trans (hb.mono Y8.out.size))
            clear hb Y8 K8 J8 Sl8 Sr8 W8 SA8 SB8 Sx8 Q8 
            have hz := (zero_of_info zeroM).1
            have NN := Lib.hid (MB.new_ A9 m0 (.slice none 0 0))
            unfold mV
            go_upto_region 8 with (refine wpList_store_row rfl 26 (.tmp 9) (.tmp 45) rfl A9.heap.size (mC n (.slice Py N' cy)) rfl rfl _ _ NN.out (sizeM _ _) rfl (mC_one _ _ _ _) ?_)
            clear hz
            have hb : Below A9.heap.size A9 ((A9.alloc (.cells (mC m0 (.slice none 0 0)) 26)).setRow A9.heap.size (mC n (.slice Py N' cy))) := ((Below.refl _ _).alloc (Nat.le_refl _) _).trans (setRow_below _ _ _ _ (Nat.le_refl _))
            have hq : MB ((A9.alloc (.cells (mC m0 (.slice none 0 0)) 26)).setRow A9.heap.size (mC n (.slice Py N' cy))) A9.heap.size n (.slice Py N' cy) := setRow_blk _ _ _ _ _ NN.out
            generalize (A9.alloc (.cells (mC m0 (.slice none 0 0)) 26)).setRow A9.heap.size (mC n (.slice Py N' cy)) = A10 at *
            obtain ⟨s, hqq⟩ : ∃ s, A9.heap.size = s := ⟨_, rfl⟩
            rw [hqq] at hq ⊢
            have R10 := Lib.hid hq
            clear hq NN hqq
            have K10 := Lib.hid (MB.keep K9.out hb)
            have J10 := Lib.hid (MB.keep J9.out hb)
            have Sl10 := Lib.hid (Sl9.out.below hb)
            have Sr10 := Lib.hid (Sr9.out.below hb)
            have W10 := Lib.hid (CutOk.below W9.out hb)
            have SA10 := Lib.hid (Sl.below SA9.out hb)
            have SB10 := Lib.hid (Sl.below SB9.out hb)
            have Q10 := Lib.hid (MB.keep Q9.out hb)
            have Sx10 := Lib.hid (Sx9.out.below hb)
            have Sy10 := Lib.hid (Sy9.out.below hb)
            have Y10 := Lib.hid (Y9.out.trans (hb.mono Y9.out.size))
            clear hb Y9 K9 J9 Sl9 Sr9 W9 SA9 SB9 Sx9 Q9 Sy9 
            try simp only [Act.put]
            obtain ⟨v7, w7, hr7, ho7, hb7⟩ := Fr.append_fresh A10 _ LA SA10.out (by have := HlA.out; omega)
            obtain ⟨v8, A11, hr8, ho8, hb8⟩ := Fr.append_more A10 w7 v7 LA ho7 hb7 _ LB (Sl.below SB10.out hb7) (by have := HlA.out; have := HlB.out; omega)
            have hs8 := Sl.of_own ho8
            have hb := hb8
            obtain ⟨P7, c7, rfl⟩ := (Sl.of_own ho7).form
            obtain ⟨P8, c8, rfl⟩ := hs8.form
            obtain ⟨n8, hn8⟩ : ∃ n8, (LA ++ LB).length = n8 := ⟨_, rfl⟩
            have hn8' : (LA ++ LB).length ≤ 1000000 := by rw [List.length_append]; have := HlA.out; have := HlB.out; omega
            rw [hn8] at hs8 hr8
            have HS8 := Lib.hid hs8
            have HR7 := Lib.hid hr7
            have HR8 := Lib.hid hr8
            have HN8 := Lib.hid hn8'
            clear hs8 hn8 hn8'
            rw [HnA.out] at HR7 HR8
            clear hr7 ho7 hb7 hr8 ho8 hb8
            have K11 := Lib.hid (MB.keep K10.out hb)
            have J11 := Lib.hid (MB.keep J10.out hb)
            have Sl11 := Lib.hid (Sl10.out.below hb)
            have Sr11 := Lib.hid (Sr10.out.below hb)
            have W11 := Lib.hid (CutOk.below W10.out hb)
            have SA11 := Lib.hid (Sl.below SA10.out hb)
            have SB11 := Lib.hid (Sl.below SB10.out hb)
            have Q11 := Lib.hid (MB.keep Q10.out hb)
            have Sx11 := Lib.hid (Sx10.out.below hb)
            have R11 := Lib.hid (MB.keep R10.out hb)
            have Sy11 := Lib.hid (Sy10.out.below hb)
            have Y11 := Lib.hid (Y10.out.trans (hb.mono Y10.out.size))
            clear hb Y10 K10 J10 Sl10 Sr10 W10 SA10 SB10 Sx10 Q10 Sy10 R10 
            go_wp2_with (first
              | (at_builtin; refine Lib.wpList_append_run (o := ⟨some 50, _, _, _, _, _⟩) _ rfl _ _ _ _ rfl _ _ rfl rfl _ _ HR7.out ?_)
              | (at_builtin; refine Lib.wpList_append_run (o := ⟨some 52, _, _, _, _, _⟩) _ rfl _ _ _ _ rfl _ _ rfl rfl _ _ HR8.out ?_)
              | fail)
            refine (mparse_is (LA ++ LB) 2 HMO.out HN8.out _ A11 HS8.out W11.out).mono ?_
            rintro x12 A12 ⟨mz, Pz, nz, cz, rfl, hb⟩
            have K12 := Lib.hid (MB.keep K11.out hb)
            have J12 := Lib.hid (MB.keep J11.out hb)
            have Sl12 := Lib.hid (Sl11.out.below hb)
            have Sr12 := Lib.hid (Sr11.out.below hb)
            have W12 := Lib.hid (CutOk.below W11.out hb)
            have SA12 := Lib.hid (Sl.below SA11.out hb)
            have SB12 := Lib.hid (Sl.below SB11.out hb)
            have Q12 := Lib.hid (MB.keep Q11.out hb)
            have Sx12 := Lib.hid (Sx11.out.below hb)
            have R12 := Lib.hid (MB.keep R11.out hb)
            have Sy12 := Lib.hid (Sy11.out.below hb)
            have Y12 := Lib.hid (Y11.out.trans (hb.mono Y11.out.size))
            clear hb Y11 K11 J11 Sl11 Sr11 W11 SA11 SB11 Sx11 Q11 Sy11 R11 HR7 HR8 HS8
            have hz := (zero_of_info zeroM).1
            have NN := Lib.hid (MB.new_ A12 m0 (.slice none 0 0))
            unfold mV
            go_upto_region 9 with (refine wpList_store_row rfl 26 (.tmp 11) (.tmp 54) rfl A12.heap.size (mC mz (.slice Pz nz cz)) rfl rfl _ _ NN.out (sizeM _ _) rfl (mC_one _ _ _ _) ?_)
            clear hz
            have hb : Below A12.heap.size A12 ((A12.alloc (.cells (mC m0 (.slice none 0 0)) 26)).setRow A12.heap.size (mC mz (.slice Pz nz cz))) := ((Below.refl _ _).alloc (Nat.le_refl _) _).trans (setRow_below _ _ _ _ (Nat.le_refl _))
            have hq : MB ((A12.alloc (.cells (mC m0 (.slice none 0 0)) 26)).setRow A12.heap.size (mC mz (.slice Pz nz cz))) A12.heap.size mz (.slice Pz nz cz) := setRow_blk _ _ _ _ _ NN.out
            generalize (A12.alloc (.cells (mC m0 (.slice none 0 0)) 26)).setRow A12.heap.size (mC mz (.slice Pz nz cz)) = A13 at *
            clear hq NN
            have K13 := Lib.hid (MB.keep K12.out hb)
            have J13 := Lib.hid (MB.keep J12.out hb)
            have Sl13 := Lib.hid (Sl12.out.below hb)
            have Sr13 := Lib.hid (Sr12.out.below hb)
            have W13 := Lib.hid (CutOk.below W12.out hb)
            have SA13 := Lib.hid (Sl.below SA12.out hb)
            have SB13 := Lib.hid (Sl.below SB12.out hb)
            have Q13 := Lib.hid (MB.keep Q12.out hb)
            have Sx13 := Lib.hid (Sx12.out.below hb)
            have R13 := Lib.hid (MB.keep R12.out hb)
            have Sy13 := Lib.hid (Sy12.out.below hb)
            have Y13 := Lib.hid (Y12.out.trans (hb.mono Y12.out.size))
            clear hb Y12 K12 J12 Sl12 Sr12 W12 SA12 SB12 Sx12 Q12 Sy12 R12 
            try simp only [Act.put]
            cases hsm : sameM m l n r
            · have HSm := Lib.hid hsm
              have HTx := Lib.hid (HBS.out.trans hsm)
              clear hsm
              refine wp_region_any (by kernel_rfl) ?_
              refine wpAny_late (fun i uq W =>  uq = ([.int .i64 0, .bool true, .bool true, .int .i64 0, .bool true, .bool true, .bool true, .agg (mC m (.slice Px N cx)), .agg (mC m (.slice A N c)), .bool true, .bool true, .bool true, .agg (mC n (.slice Py N' cy)), .agg (mC n (.slice A' N' c')), .bool true, .bool true, .bool true, .int .i64 2, .bool true, .bool true, .bool true, .agg (mC m (.slice A N c)), .agg (mC n (.slice A' N' c')), .bool false, .agg (mC m (.slice A N c)), .agg (mC n (.slice A' N' c')), .bool false, .bool true, .bool true, .bool true, .slice P5 nA c5, .string ⟨LA.toArray⟩, .slice P6 nB c6, .string ⟨LB.toArray⟩, .bool false, .agg (mC m (.slice A N c)), .agg (mC n (.slice A' N' c')), .bool false, .bool true, .bool true, .bool true] : List Value).getD i undef) _ A13 (by kernel_rfl) (by kernel_rfl) (by kernel_rfl) (fun i v w w' _ h => h) ?_ ?_
              · refine ⟨?_, ?_, ?_, ?_, ?_, ?_, ?_, ?_, ?_, ?_, ?_, ?_, ?_, ?_, ?_, ?_, ?_, ?_, ?_, ?_, ?_, ?_, ?_, ?_, ?_, ?_, ?_, ?_, ?_, ?_, ?_, ?_, ?_, ?_, ?_, ?_, ?_, ?_, ?_, ?_, ?_, trivial⟩
                · intro a W hI hun haft hi
                  have e8 : a.eval (.tmp 8) = .int .i64 0 := hun 8 (by kernel_rfl)
                  exact b_same hi hI rfl _ (run_move_op rfl e8) rfl
                · intro a W hI hun haft hi
                  have f0 : a.eval (.tmp 56) = .int .i64 0 := haft ⟨0, .data⟩ (by simp) rfl _ _ rfl rfl
                  exact b_same hi hI rfl (.bool true) (run_bin_op rfl f0 rfl (by kernel_rfl) (by kernel_rfl)) rfl
                · intro a W hI hun haft hi
                  have f1 : a.eval (.tmp 57) = .bool true := haft ⟨1, .data⟩ (by simp) rfl _ _ rfl rfl
                  exact b_same hi hI rfl _ (run_move_op rfl f1) rfl
                · intro a W hI hun haft hi
                  have fg : a.eval (.tmp 58) = .bool true := haft ⟨2, .guard⟩ (by simp) rfl _ _ rfl rfl
                  have e10 : a.eval (.tmp 10) = .int .i64 0 := hun 10 (by kernel_rfl)
                  exact b_same hi hI (guard_ok rfl rfl rfl fg) _ (run_move_op rfl e10) rfl
                · intro a W hI hun haft hi
                  have fg : a.eval (.tmp 58) = .bool true := haft ⟨2, .guard⟩ (by simp) rfl _ _ rfl rfl
                  have f3 : a.eval (.tmp 59) = .int .i64 0 := haft ⟨3, .data⟩ (by simp) rfl _ _ rfl rfl
                  exact b_same hi hI (guard_ok rfl rfl rfl fg) (.bool true) (run_bin_op rfl f3 rfl (by kernel_rfl) (by kernel_rfl)) rfl
                · intro a W hI hun haft hi
                  have f2 : a.eval (.tmp 58) = .bool true := haft ⟨2, .data⟩ (by simp) rfl _ _ rfl rfl
                  have f4 : a.eval (.tmp 60) = .bool true := haft ⟨4, .data⟩ (by simp) rfl _ _ rfl rfl
                  exact b_same hi hI rfl _ (run_pick_op (b := true) rfl f2 f4 rfl) rfl
                · intro a W hI hun haft hi
                  have f5 : a.eval (.tmp 61) = .bool true := haft ⟨5, .data⟩ (by simp) rfl _ _ rfl rfl
                  exact b_same hi hI rfl _ (run_move_op rfl f5) rfl
                · intro a W hI hun haft hi
                  have fg : a.eval (.tmp 62) = .bool true := haft ⟨6, .guard⟩ (by simp) rfl _ _ rfl rfl
                  have e7 : a.eval (.tmp 7) = .pointer (some ⟨q, 0, none⟩) := hun 7 (by kernel_rfl)
                  exact b_same hi hI (guard_ok rfl rfl rfl fg) _ (run_load_op rfl e7 (Blk.below Q13.out hI (Blk.lt Q13.out)) Try.underlying26 rfl (sizeM _ _)) rfl
                · intro a W hI hun haft hi
                  have fg : a.eval (.tmp 62) = .bool true := haft ⟨6, .guard⟩ (by simp) rfl _ _ rfl rfl
                  have e2 : a.eval (.tmp 2) = .pointer (some ⟨p, 0, none⟩) := hun 2 (by kernel_rfl)
                  exact b_same hi hI (guard_ok rfl rfl rfl fg) _ (run_load_op rfl e2 (Blk.below K13.out hI (Blk.lt K13.out)) Try.underlying26 rfl (sizeM _ _)) rfl
                · intro a W hI hun haft hi
                  have fg : a.eval (.tmp 62) = .bool true := haft ⟨6, .guard⟩ (by simp) rfl _ _ rfl rfl
                  have f7 : a.eval (.tmp 63) = .agg (mC m (.slice Px N cx)) := haft ⟨7, .data⟩ (by simp) rfl _ _ rfl rfl
                  have f8 : a.eval (.tmp 64) = .agg (mC m (.slice A N c)) := haft ⟨8, .data⟩ (by simp) rfl _ _ rfl rfl
                  refine b_call hi hI (guard_ok rfl rfl rfl fg) _ _ (run_call_op (args := #[.agg (mC m (.slice Px N cx)), .agg (mC m (.slice A N c))]) rfl (by simp [f7, f8]) (by kernel_rfl)) ?_
                  exact (msame_is m m l l true (sameM_self m l) Px A N N cx c W (Sx13.out.below hI) (Sl13.out.below hI) HN.out HN.out (by have := H30.out; omega)).mono fun e w' H => ⟨_, H.1, rfl, H.2⟩
                · intro a W hI hun haft hi
                  have f6 : a.eval (.tmp 62) = .bool true := haft ⟨6, .data⟩ (by simp) rfl _ _ rfl rfl
                  have f9 : a.eval (.tmp 65) = .bool true := haft ⟨9, .data⟩ (by simp) rfl _ _ rfl rfl
                  exact b_same hi hI rfl _ (run_pick_op (b := true) rfl f6 f9 rfl) rfl
                · intro a W hI hun haft hi
                  have f10 : a.eval (.tmp 66) = .bool true := haft ⟨10, .data⟩ (by simp) rfl _ _ rfl rfl
                  exact b_same hi hI rfl _ (run_move_op rfl f10) rfl
                · intro a W hI hun haft hi
                  have fg : a.eval (.tmp 67) = .bool true := haft ⟨11, .guard⟩ (by simp) rfl _ _ rfl rfl
                  have e9 : a.eval (.tmp 9) = .pointer (some ⟨s, 0, none⟩) := hun 9 (by kernel_rfl)
                  exact b_same hi hI (guard_ok rfl rfl rfl fg) _ (run_load_op rfl e9 (Blk.below R13.out hI (Blk.lt R13.out)) Try.underlying26 rfl (sizeM _ _)) rfl
                · intro a W hI hun haft hi
                  have fg : a.eval (.tmp 67) = .bool true := haft ⟨11, .guard⟩ (by simp) rfl _ _ rfl rfl
                  have e3 : a.eval (.tmp 3) = .pointer (some ⟨p + 1, 0, none⟩) := hun 3 (by kernel_rfl)
                  exact b_same hi hI (guard_ok rfl rfl rfl fg) _ (run_load_op rfl e3 (Blk.below J13.out hI (Blk.lt J13.out)) Try.underlying26 rfl (sizeM _ _)) rfl
                · intro a W hI hun haft hi
                  have fg : a.eval (.tmp 67) = .bool true := haft ⟨11, .guard⟩ (by simp) rfl _ _ rfl rfl
                  have f12 : a.eval (.tmp 68) = .agg (mC n (.slice Py N' cy)) := haft ⟨12, .data⟩ (by simp) rfl _ _ rfl rfl
                  have f13 : a.eval (.tmp 69) = .agg (mC n (.slice A' N' c')) := haft ⟨13, .data⟩ (by simp) rfl _ _ rfl rfl
                  refine b_call hi hI (guard_ok rfl rfl rfl fg) _ _ (run_call_op (args := #[.agg (mC n (.slice Py N' cy)), .agg (mC n (.slice A' N' c'))]) rfl (by simp [f12, f13]) (by kernel_rfl)) ?_
                  exact (msame_is n n r r true (sameM_self n r) Py A' N' N' cy c' W (Sy13.out.below hI) (Sr13.out.below hI) HR.out HR.out (by have := H31.out; omega)).mono fun e w' H => ⟨_, H.1, rfl, H.2⟩
                · intro a W hI hun haft hi
                  have f11 : a.eval (.tmp 67) = .bool true := haft ⟨11, .data⟩ (by simp) rfl _ _ rfl rfl
                  have f14 : a.eval (.tmp 70) = .bool true := haft ⟨14, .data⟩ (by simp) rfl _ _ rfl rfl
                  exact b_same hi hI rfl _ (run_pick_op (b := true) rfl f11 f14 rfl) rfl
                · intro a W hI hun haft hi
                  have f15 : a.eval (.tmp 71) = .bool true := haft ⟨15, .data⟩ (by simp) rfl _ _ rfl rfl
                  exact b_same hi hI rfl _ (run_move_op rfl f15) rfl
                · intro a W hI hun haft hi
                  have fg : a.eval (.tmp 72) = .bool true := haft ⟨16, .guard⟩ (by simp) rfl _ _ rfl rfl
                  have e12 : a.eval (.tmp 12) = .int .i64 2 := hun 12 (by kernel_rfl)
                  exact b_same hi hI (guard_ok rfl rfl rfl fg) _ (run_move_op rfl e12) rfl
                · intro a W hI hun haft hi
                  have fg : a.eval (.tmp 72) = .bool true := haft ⟨16, .guard⟩ (by simp) rfl _ _ rfl rfl
                  have f17 : a.eval (.tmp 73) = .int .i64 2 := haft ⟨17, .data⟩ (by simp) rfl _ _ rfl rfl
                  exact b_same hi hI (guard_ok rfl rfl rfl fg) (.bool true) (run_bin_op rfl f17 rfl (by kernel_rfl) (by kernel_rfl)) rfl
                · intro a W hI hun haft hi
                  have f16 : a.eval (.tmp 72) = .bool true := haft ⟨16, .data⟩ (by simp) rfl _ _ rfl rfl
                  have f18 : a.eval (.tmp 74) = .bool true := haft ⟨18, .data⟩ (by simp) rfl _ _ rfl rfl
                  exact b_same hi hI rfl _ (run_pick_op (b := true) rfl f16 f18 rfl) rfl
                · intro a W hI hun haft hi
                  have f19 : a.eval (.tmp 75) = .bool true := haft ⟨19, .data⟩ (by simp) rfl _ _ rfl rfl
                  exact b_same hi hI rfl _ (run_move_op rfl f19) rfl
                · intro a W hI hun haft hi
                  have fg : a.eval (.tmp 76) = .bool true := haft ⟨20, .guard⟩ (by simp) rfl _ _ rfl rfl
                  have e2 : a.eval (.tmp 2) = .pointer (some ⟨p, 0, none⟩) := hun 2 (by kernel_rfl)
                  exact b_same hi hI (guard_ok rfl rfl rfl fg) _ (run_load_op rfl e2 (Blk.below K13.out hI (Blk.lt K13.out)) Try.underlying26 rfl (sizeM _ _)) rfl
                · intro a W hI hun haft hi
                  have fg : a.eval (.tmp 76) = .bool true := haft ⟨20, .guard⟩ (by simp) rfl _ _ rfl rfl
                  have e3 : a.eval (.tmp 3) = .pointer (some ⟨p + 1, 0, none⟩) := hun 3 (by kernel_rfl)
                  exact b_same hi hI (guard_ok rfl rfl rfl fg) _ (run_load_op rfl e3 (Blk.below J13.out hI (Blk.lt J13.out)) Try.underlying26 rfl (sizeM _ _)) rfl
                · intro a W hI hun haft hi
                  have fg : a.eval (.tmp 76) = .bool true := haft ⟨20, .guard⟩ (by simp) rfl _ _ rfl rfl
                  have f21 : a.eval (.tmp 77) = .agg (mC m (.slice A N c)) := haft ⟨21, .data⟩ (by simp) rfl _ _ rfl rfl
                  have f22 : a.eval (.tmp 78) = .agg (mC n (.slice A' N' c')) := haft ⟨22, .data⟩ (by simp) rfl _ _ rfl rfl
                  refine b_call hi hI (guard_ok rfl rfl rfl fg) _ _ (run_call_op (args := #[.agg (mC m (.slice A N c)), .agg (mC n (.slice A' N' c'))]) rfl (by simp [f21, f22]) (by kernel_rfl)) ?_
                  exact (msame_is m n l r false HSm.out A A' N N' c c' W (Sl13.out.below hI) (Sr13.out.below hI) HN.out HR.out (by have := H30.out; omega)).mono fun e w' H => ⟨_, H.1, rfl, H.2⟩
                · intro a W hI hun haft hi
                  have fg : a.eval (.tmp 76) = .bool true := haft ⟨20, .guard⟩ (by simp) rfl _ _ rfl rfl
                  have e2 : a.eval (.tmp 2) = .pointer (some ⟨p, 0, none⟩) := hun 2 (by kernel_rfl)
                  exact b_same hi hI (guard_ok rfl rfl rfl fg) _ (run_load_op rfl e2 (Blk.below K13.out hI (Blk.lt K13.out)) Try.underlying26 rfl (sizeM _ _)) rfl
                · intro a W hI hun haft hi
                  have fg : a.eval (.tmp 76) = .bool true := haft ⟨20, .guard⟩ (by simp) rfl _ _ rfl rfl
                  have e3 : a.eval (.tmp 3) = .pointer (some ⟨p + 1, 0, none⟩) := hun 3 (by kernel_rfl)
                  exact b_same hi hI (guard_ok rfl rfl rfl fg) _ (run_load_op rfl e3 (Blk.below J13.out hI (Blk.lt J13.out)) Try.underlying26 rfl (sizeM _ _)) rfl
                · intro a W hI hun haft hi
                  have fg : a.eval (.tmp 76) = .bool true := haft ⟨20, .guard⟩ (by simp) rfl _ _ rfl rfl
                  have f24 : a.eval (.tmp 80) = .agg (mC m (.slice A N c)) := haft ⟨24, .data⟩ (by simp) rfl _ _ rfl rfl
                  have f25 : a.eval (.tmp 81) = .agg (mC n (.slice A' N' c')) := haft ⟨25, .data⟩ (by simp) rfl _ _ rfl rfl
                  refine b_call hi hI (guard_ok rfl rfl rfl fg) _ _ (run_call_op (args := #[.agg (mC m (.slice A N c)), .agg (mC n (.slice A' N' c'))]) rfl (by simp [f24, f25]) (by kernel_rfl)) ?_
                  exact (refsame_is m n l r false HSm.out A A' N N' c c' W (Sl13.out.below hI) (Sr13.out.below hI) HN.out HR.out (by have := H30.out; omega)).mono fun e w' H => ⟨_, H.1, rfl, H.2⟩
                · intro a W hI hun haft hi
                  have fg : a.eval (.tmp 76) = .bool true := haft ⟨20, .guard⟩ (by simp) rfl _ _ rfl rfl
                  have f23 : a.eval (.tmp 79) = .bool false := haft ⟨23, .data⟩ (by simp) rfl _ _ rfl rfl
                  have f26 : a.eval (.tmp 82) = .bool false := haft ⟨26, .data⟩ (by simp) rfl _ _ rfl rfl
                  exact b_same hi hI (guard_ok rfl rfl rfl fg) (.bool true) (run_bin_op rfl f23 f26 (by kernel_rfl) (by kernel_rfl)) rfl
                · intro a W hI hun haft hi
                  have f20 : a.eval (.tmp 76) = .bool true := haft ⟨20, .data⟩ (by simp) rfl _ _ rfl rfl
                  have f27 : a.eval (.tmp 83) = .bool true := haft ⟨27, .data⟩ (by simp) rfl _ _ rfl rfl
                  exact b_same hi hI rfl _ (run_pick_op (b := true) rfl f20 f27 rfl) rfl
                · intro a W hI hun haft hi
                  have f28 : a.eval (.tmp 84) = .bool true := haft ⟨28, .data⟩ (by simp) rfl _ _ rfl rfl
                  exact b_same hi hI rfl _ (run_move_op rfl f28) rfl
                · intro a W hI hun haft hi
                  have fg : a.eval (.tmp 85) = .bool true := haft ⟨29, .guard⟩ (by simp) rfl _ _ rfl rfl
                  have e5 : a.eval (.tmp 5) = .slice P5 nA c5 := hun 5 (by kernel_rfl)
                  exact b_same hi hI (guard_ok rfl rfl rfl fg) _ (run_move_op rfl e5) rfl
                · intro a W hI hun haft hi
                  have fg : a.eval (.tmp 85) = .bool true := haft ⟨29, .guard⟩ (by simp) rfl _ _ rfl rfl
                  have f30 : a.eval (.tmp 86) = .slice P5 nA c5 := haft ⟨30, .data⟩ (by simp) rfl _ _ rfl rfl
                  exact b_same hi hI (guard_ok rfl rfl rfl fg) _ (run_convert_op rfl f30 (run_string_sl (P := Try.prog) W 29 9 5 Try.underlying29 Try.underlying5 Try.underlying9 _ _ (Sl.below SA13.out hI))) rfl
                · intro a W hI hun haft hi
                  have fg : a.eval (.tmp 85) = .bool true := haft ⟨29, .guard⟩ (by simp) rfl _ _ rfl rfl
                  have e6 : a.eval (.tmp 6) = .slice P6 nB c6 := hun 6 (by kernel_rfl)
                  exact b_same hi hI (guard_ok rfl rfl rfl fg) _ (run_move_op rfl e6) rfl
                · intro a W hI hun haft hi
                  have fg : a.eval (.tmp 85) = .bool true := haft ⟨29, .guard⟩ (by simp) rfl _ _ rfl rfl
                  have f32 : a.eval (.tmp 88) = .slice P6 nB c6 := haft ⟨32, .data⟩ (by simp) rfl _ _ rfl rfl
                  exact b_same hi hI (guard_ok rfl rfl rfl fg) _ (run_convert_op rfl f32 (run_string_sl (P := Try.prog) W 29 9 5 Try.underlying29 Try.underlying5 Try.underlying9 _ _ (Sl.below SB13.out hI))) rfl
                · intro a W hI hun haft hi
                  have fg : a.eval (.tmp 85) = .bool true := haft ⟨29, .guard⟩ (by simp) rfl _ _ rfl rfl
                  have f31 : a.eval (.tmp 87) = .string ⟨LA.toArray⟩ := haft ⟨31, .data⟩ (by simp) rfl _ _ rfl rfl
                  have f33 : a.eval (.tmp 89) = .string ⟨LB.toArray⟩ := haft ⟨33, .data⟩ (by simp) rfl _ _ rfl rfl
                  exact b_same hi hI (guard_ok rfl rfl rfl fg) (.bool false) (run_bin_op rfl f31 f33 (by simp [eqGuard]) (eql_two _ _ _ HTx.out _)) rfl
                · intro a W hI hun haft hi
                  have fg : a.eval (.tmp 85) = .bool true := haft ⟨29, .guard⟩ (by simp) rfl _ _ rfl rfl
                  have e2 : a.eval (.tmp 2) = .pointer (some ⟨p, 0, none⟩) := hun 2 (by kernel_rfl)
                  exact b_same hi hI (guard_ok rfl rfl rfl fg) _ (run_load_op rfl e2 (Blk.below K13.out hI (Blk.lt K13.out)) Try.underlying26 rfl (sizeM _ _)) rfl
                · intro a W hI hun haft hi
                  have fg : a.eval (.tmp 85) = .bool true := haft ⟨29, .guard⟩ (by simp) rfl _ _ rfl rfl
                  have e3 : a.eval (.tmp 3) = .pointer (some ⟨p + 1, 0, none⟩) := hun 3 (by kernel_rfl)
                  exact b_same hi hI (guard_ok rfl rfl rfl fg) _ (run_load_op rfl e3 (Blk.below J13.out hI (Blk.lt J13.out)) Try.underlying26 rfl (sizeM _ _)) rfl
                · intro a W hI hun haft hi
                  have fg : a.eval (.tmp 85) = .bool true := haft ⟨29, .guard⟩ (by simp) rfl _ _ rfl rfl
                  have f35 : a.eval (.tmp 91) = .agg (mC m (.slice A N c)) := haft ⟨35, .data⟩ (by simp) rfl _ _ rfl rfl
                  have f36 : a.eval (.tmp 92) = .agg (mC n (.slice A' N' c')) := haft ⟨36, .data⟩ (by simp) rfl _ _ rfl rfl
                  refine b_call hi hI (guard_ok rfl rfl rfl fg) _ _ (run_call_op (args := #[.agg (mC m (.slice A N c)), .agg (mC n (.slice A' N' c'))]) rfl (by simp [f35, f36]) (by kernel_rfl)) ?_
                  exact (refsame_is m n l r false HSm.out A A' N N' c c' W (Sl13.out.below hI) (Sr13.out.below hI) HN.out HR.out (by have := H30.out; omega)).mono fun e w' H => ⟨_, H.1, rfl, H.2⟩
                · intro a W hI hun haft hi
                  have fg : a.eval (.tmp 85) = .bool true := haft ⟨29, .guard⟩ (by simp) rfl _ _ rfl rfl
                  have f34 : a.eval (.tmp 90) = .bool false := haft ⟨34, .data⟩ (by simp) rfl _ _ rfl rfl
                  have f37 : a.eval (.tmp 93) = .bool false := haft ⟨37, .data⟩ (by simp) rfl _ _ rfl rfl
                  exact b_same hi hI (guard_ok rfl rfl rfl fg) (.bool true) (run_bin_op rfl f34 f37 (by kernel_rfl) (by kernel_rfl)) rfl
                · intro a W hI hun haft hi
                  have f29 : a.eval (.tmp 85) = .bool true := haft ⟨29, .data⟩ (by simp) rfl _ _ rfl rfl
                  have f38 : a.eval (.tmp 94) = .bool true := haft ⟨38, .data⟩ (by simp) rfl _ _ rfl rfl
                  exact b_same hi hI rfl _ (run_pick_op (b := true) rfl f29 f38 rfl) rfl
                · intro a W hI hun haft hi
                  have f39 : a.eval (.tmp 95) = .bool true := haft ⟨39, .data⟩ (by simp) rfl _ _ rfl rfl
                  exact b_same hi hI rfl _ (run_assign_op rfl f39) rfl
              · intro vals W hI hp
                have hl40 : vals 40 = .bool true := hp 40 (by decide)
                have HI := Lib.hid hI
                clear hp hI
                simp only [layN, List.size_toArray, List.length_cons, List.length_nil, List.range, List.range.loop, if_true, List.getElem?_toArray, List.getElem?_cons_zero, List.getElem?_cons_succ, Act.put, List.setIfInBounds_toArray, List.set_cons_zero, List.set_cons_succ, Nat.zero_add, Nat.reduceAdd, hl40]
                clear hl40
                go_wp2_with fail
                go_ret
                exact ⟨rfl, Y13.out.trans (HI.out.mono Y13.out.size)⟩
            · have HSm := Lib.hid hsm
              have HTx := Lib.hid (HBS.out.trans hsm)
              clear hsm
              refine wp_region_any (by kernel_rfl) ?_
              refine wpAny_late (fun i uq W =>  uq = ([.int .i64 0, .bool true, .bool true, .int .i64 0, .bool true, .bool true, .bool true, .agg (mC m (.slice Px N cx)), .agg (mC m (.slice A N c)), .bool true, .bool true, .bool true, .agg (mC n (.slice Py N' cy)), .agg (mC n (.slice A' N' c')), .bool true, .bool true, .bool true, .int .i64 2, .bool true, .bool true, .bool true, .agg (mC m (.slice A N c)), .agg (mC n (.slice A' N' c')), .bool true, .agg (mC m (.slice A N c)), .agg (mC n (.slice A' N' c')), .bool true, .bool true, .bool true, .bool true, .slice P5 nA c5, .string ⟨LA.toArray⟩, .slice P6 nB c6, .string ⟨LB.toArray⟩, .bool true, .agg (mC m (.slice A N c)), .agg (mC n (.slice A' N' c')), .bool true, .bool true, .bool true, .bool true] : List Value).getD i undef) _ A13 (by kernel_rfl) (by kernel_rfl) (by kernel_rfl) (fun i v w w' _ h => h) ?_ ?_
              · refine ⟨?_, ?_, ?_, ?_, ?_, ?_, ?_, ?_, ?_, ?_, ?_, ?_, ?_, ?_, ?_, ?_, ?_, ?_, ?_, ?_, ?_, ?_, ?_, ?_, ?_, ?_, ?_, ?_, ?_, ?_, ?_, ?_, ?_, ?_, ?_, ?_, ?_, ?_, ?_, ?_, ?_, trivial⟩
                · intro a W hI hun haft hi
                  have e8 : a.eval (.tmp 8) = .int .i64 0 := hun 8 (by kernel_rfl)
                  exact b_same hi hI rfl _ (run_move_op rfl e8) rfl
                · intro a W hI hun haft hi
                  have f0 : a.eval (.tmp 56) = .int .i64 0 := haft ⟨0, .data⟩ (by simp) rfl _ _ rfl rfl
                  exact b_same hi hI rfl (.bool true) (run_bin_op rfl f0 rfl (by kernel_rfl) (by kernel_rfl)) rfl
                · intro a W hI hun haft hi
                  have f1 : a.eval (.tmp 57) = .bool true := haft ⟨1, .data⟩ (by simp) rfl _ _ rfl rfl
                  exact b_same hi hI rfl _ (run_move_op rfl f1) rfl
                · intro a W hI hun haft hi
                  have fg : a.eval (.tmp 58) = .bool true := haft ⟨2, .guard⟩ (by simp) rfl _ _ rfl rfl
                  have e10 : a.eval (.tmp 10) = .int .i64 0 := hun 10 (by kernel_rfl)
                  exact b_same hi hI (guard_ok rfl rfl rfl fg) _ (run_move_op rfl e10) rfl
                · intro a W hI hun haft hi
                  have fg : a.eval (.tmp 58) = .bool true := haft ⟨2, .guard⟩ (by simp) rfl _ _ rfl rfl
                  have f3 : a.eval (.tmp 59) = .int .i64 0 := haft ⟨3, .data⟩ (by simp) rfl _ _ rfl rfl
                  exact b_same hi hI (guard_ok rfl rfl rfl fg) (.bool true) (run_bin_op rfl f3 rfl (by kernel_rfl) (by kernel_rfl)) rfl
                · intro a W hI hun haft hi
                  have f2 : a.eval (.tmp 58) = .bool true := haft ⟨2, .data⟩ (by simp) rfl _ _ rfl rfl
                  have f4 : a.eval (.tmp 60) = .bool true := haft ⟨4, .data⟩ (by simp) rfl _ _ rfl rfl
                  exact b_same hi hI rfl _ (run_pick_op (b := true) rfl f2 f4 rfl) rfl
                · intro a W hI hun haft hi
                  have f5 : a.eval (.tmp 61) = .bool true := haft ⟨5, .data⟩ (by simp) rfl _ _ rfl rfl
                  exact b_same hi hI rfl _ (run_move_op rfl f5) rfl
                · intro a W hI hun haft hi
                  have fg : a.eval (.tmp 62) = .bool true := haft ⟨6, .guard⟩ (by simp) rfl _ _ rfl rfl
                  have e7 : a.eval (.tmp 7) = .pointer (some ⟨q, 0, none⟩) := hun 7 (by kernel_rfl)
                  exact b_same hi hI (guard_ok rfl rfl rfl fg) _ (run_load_op rfl e7 (Blk.below Q13.out hI (Blk.lt Q13.out)) Try.underlying26 rfl (sizeM _ _)) rfl
                · intro a W hI hun haft hi
                  have fg : a.eval (.tmp 62) = .bool true := haft ⟨6, .guard⟩ (by simp) rfl _ _ rfl rfl
                  have e2 : a.eval (.tmp 2) = .pointer (some ⟨p, 0, none⟩) := hun 2 (by kernel_rfl)
                  exact b_same hi hI (guard_ok rfl rfl rfl fg) _ (run_load_op rfl e2 (Blk.below K13.out hI (Blk.lt K13.out)) Try.underlying26 rfl (sizeM _ _)) rfl
                · intro a W hI hun haft hi
                  have fg : a.eval (.tmp 62) = .bool true := haft ⟨6, .guard⟩ (by simp) rfl _ _ rfl rfl
                  have f7 : a.eval (.tmp 63) = .agg (mC m (.slice Px N cx)) := haft ⟨7, .data⟩ (by simp) rfl _ _ rfl rfl
                  have f8 : a.eval (.tmp 64) = .agg (mC m (.slice A N c)) := haft ⟨8, .data⟩ (by simp) rfl _ _ rfl rfl
                  refine b_call hi hI (guard_ok rfl rfl rfl fg) _ _ (run_call_op (args := #[.agg (mC m (.slice Px N cx)), .agg (mC m (.slice A N c))]) rfl (by simp [f7, f8]) (by kernel_rfl)) ?_
                  exact (msame_is m m l l true (sameM_self m l) Px A N N cx c W (Sx13.out.below hI) (Sl13.out.below hI) HN.out HN.out (by have := H30.out; omega)).mono fun e w' H => ⟨_, H.1, rfl, H.2⟩
                · intro a W hI hun haft hi
                  have f6 : a.eval (.tmp 62) = .bool true := haft ⟨6, .data⟩ (by simp) rfl _ _ rfl rfl
                  have f9 : a.eval (.tmp 65) = .bool true := haft ⟨9, .data⟩ (by simp) rfl _ _ rfl rfl
                  exact b_same hi hI rfl _ (run_pick_op (b := true) rfl f6 f9 rfl) rfl
                · intro a W hI hun haft hi
                  have f10 : a.eval (.tmp 66) = .bool true := haft ⟨10, .data⟩ (by simp) rfl _ _ rfl rfl
                  exact b_same hi hI rfl _ (run_move_op rfl f10) rfl
                · intro a W hI hun haft hi
                  have fg : a.eval (.tmp 67) = .bool true := haft ⟨11, .guard⟩ (by simp) rfl _ _ rfl rfl
                  have e9 : a.eval (.tmp 9) = .pointer (some ⟨s, 0, none⟩) := hun 9 (by kernel_rfl)
                  exact b_same hi hI (guard_ok rfl rfl rfl fg) _ (run_load_op rfl e9 (Blk.below R13.out hI (Blk.lt R13.out)) Try.underlying26 rfl (sizeM _ _)) rfl
                · intro a W hI hun haft hi
                  have fg : a.eval (.tmp 67) = .bool true := haft ⟨11, .guard⟩ (by simp) rfl _ _ rfl rfl
                  have e3 : a.eval (.tmp 3) = .pointer (some ⟨p + 1, 0, none⟩) := hun 3 (by kernel_rfl)
                  exact b_same hi hI (guard_ok rfl rfl rfl fg) _ (run_load_op rfl e3 (Blk.below J13.out hI (Blk.lt J13.out)) Try.underlying26 rfl (sizeM _ _)) rfl
                · intro a W hI hun haft hi
                  have fg : a.eval (.tmp 67) = .bool true := haft ⟨11, .guard⟩ (by simp) rfl _ _ rfl rfl
                  have f12 : a.eval (.tmp 68) = .agg (mC n (.slice Py N' cy)) := haft ⟨12, .data⟩ (by simp) rfl _ _ rfl rfl
                  have f13 : a.eval (.tmp 69) = .agg (mC n (.slice A' N' c')) := haft ⟨13, .data⟩ (by simp) rfl _ _ rfl rfl
                  refine b_call hi hI (guard_ok rfl rfl rfl fg) _ _ (run_call_op (args := #[.agg (mC n (.slice Py N' cy)), .agg (mC n (.slice A' N' c'))]) rfl (by simp [f12, f13]) (by kernel_rfl)) ?_
                  exact (msame_is n n r r true (sameM_self n r) Py A' N' N' cy c' W (Sy13.out.below hI) (Sr13.out.below hI) HR.out HR.out (by have := H31.out; omega)).mono fun e w' H => ⟨_, H.1, rfl, H.2⟩
                · intro a W hI hun haft hi
                  have f11 : a.eval (.tmp 67) = .bool true := haft ⟨11, .data⟩ (by simp) rfl _ _ rfl rfl
                  have f14 : a.eval (.tmp 70) = .bool true := haft ⟨14, .data⟩ (by simp) rfl _ _ rfl rfl
                  exact b_same hi hI rfl _ (run_pick_op (b := true) rfl f11 f14 rfl) rfl
                · intro a W hI hun haft hi
                  have f15 : a.eval (.tmp 71) = .bool true := haft ⟨15, .data⟩ (by simp) rfl _ _ rfl rfl
                  exact b_same hi hI rfl _ (run_move_op rfl f15) rfl
                · intro a W hI hun haft hi
                  have fg : a.eval (.tmp 72) = .bool true := haft ⟨16, .guard⟩ (by simp) rfl _ _ rfl rfl
                  have e12 : a.eval (.tmp 12) = .int .i64 2 := hun 12 (by kernel_rfl)
                  exact b_same hi hI (guard_ok rfl rfl rfl fg) _ (run_move_op rfl e12) rfl
                · intro a W hI hun haft hi
                  have fg : a.eval (.tmp 72) = .bool true := haft ⟨16, .guard⟩ (by simp) rfl _ _ rfl rfl
                  have f17 : a.eval (.tmp 73) = .int .i64 2 := haft ⟨17, .data⟩ (by simp) rfl _ _ rfl rfl
                  exact b_same hi hI (guard_ok rfl rfl rfl fg) (.bool true) (run_bin_op rfl f17 rfl (by kernel_rfl) (by kernel_rfl)) rfl
                · intro a W hI hun haft hi
                  have f16 : a.eval (.tmp 72) = .bool true := haft ⟨16, .data⟩ (by simp) rfl _ _ rfl rfl
                  have f18 : a.eval (.tmp 74) = .bool true := haft ⟨18, .data⟩ (by simp) rfl _ _ rfl rfl
                  exact b_same hi hI rfl _ (run_pick_op (b := true) rfl f16 f18 rfl) rfl
                · intro a W hI hun haft hi
                  have f19 : a.eval (.tmp 75) = .bool true := haft ⟨19, .data⟩ (by simp) rfl _ _ rfl rfl
                  exact b_same hi hI rfl _ (run_move_op rfl f19) rfl
                · intro a W hI hun haft hi
                  have fg : a.eval (.tmp 76) = .bool true := haft ⟨20, .guard⟩ (by simp) rfl _ _ rfl rfl
                  have e2 : a.eval (.tmp 2) = .pointer (some ⟨p, 0, none⟩) := hun 2 (by kernel_rfl)
                  exact b_same hi hI (guard_ok rfl rfl rfl fg) _ (run_load_op rfl e2 (Blk.below K13.out hI (Blk.lt K13.out)) Try.underlying26 rfl (sizeM _ _)) rfl
                · intro a W hI hun haft hi
                  have fg : a.eval (.tmp 76) = .bool true := haft ⟨20, .guard⟩ (by simp) rfl _ _ rfl rfl
                  have e3 : a.eval (.tmp 3) = .pointer (some ⟨p + 1, 0, none⟩) := hun 3 (by kernel_rfl)
                  exact b_same hi hI (guard_ok rfl rfl rfl fg) _ (run_load_op rfl e3 (Blk.below J13.out hI (Blk.lt J13.out)) Try.underlying26 rfl (sizeM _ _)) rfl
                · intro a W hI hun haft hi
                  have fg : a.eval (.tmp 76) = .bool true := haft ⟨20, .guard⟩ (by simp) rfl _ _ rfl rfl
                  have f21 : a.eval (.tmp 77) = .agg (mC m (.slice A N c)) := haft ⟨21, .data⟩ (by simp) rfl _ _ rfl rfl
                  have f22 : a.eval (.tmp 78) = .agg (mC n (.slice A' N' c')) := haft ⟨22, .data⟩ (by simp) rfl _ _ rfl rfl
                  refine b_call hi hI (guard_ok rfl rfl rfl fg) _ _ (run_call_op (args := #[.agg (mC m (.slice A N c)), .agg (mC n (.slice A' N' c'))]) rfl (by simp [f21, f22]) (by kernel_rfl)) ?_
                  exact (msame_is m n l r true HSm.out A A' N N' c c' W (Sl13.out.below hI) (Sr13.out.below hI) HN.out HR.out (by have := H30.out; omega)).mono fun e w' H => ⟨_, H.1, rfl, H.2⟩
                · intro a W hI hun haft hi
                  have fg : a.eval (.tmp 76) = .bool true := haft ⟨20, .guard⟩ (by simp) rfl _ _ rfl rfl
                  have e2 : a.eval (.tmp 2) = .pointer (some ⟨p, 0, none⟩) := hun 2 (by kernel_rfl)
                  exact b_same hi hI (guard_ok rfl rfl rfl fg) _ (run_load_op rfl e2 (Blk.below K13.out hI (Blk.lt K13.out)) Try.underlying26 rfl (sizeM _ _)) rfl
                · intro a W hI hun haft hi
                  have fg : a.eval (.tmp 76) = .bool true := haft ⟨20, .guard⟩ (by simp) rfl _ _ rfl rfl
                  have e3 : a.eval (.tmp 3) = .pointer (some ⟨p + 1, 0, none⟩) := hun 3 (by kernel_rfl)
                  exact b_same hi hI (guard_ok rfl rfl rfl fg) _ (run_load_op rfl e3 (Blk.below J13.out hI (Blk.lt J13.out)) Try.underlying26 rfl (sizeM _ _)) rfl
                · intro a W hI hun haft hi
                  have fg : a.eval (.tmp 76) = .bool true := haft ⟨20, .guard⟩ (by simp) rfl _ _ rfl rfl
                  have f24 : a.eval (.tmp 80) = .agg (mC m (.slice A N c)) := haft ⟨24, .data⟩ (by simp) rfl _ _ rfl rfl
                  have f25 : a.eval (.tmp 81) = .agg (mC n (.slice A' N' c')) := haft ⟨25, .data⟩ (by simp) rfl _ _ rfl rfl
                  refine b_call hi hI (guard_ok rfl rfl rfl fg) _ _ (run_call_op (args := #[.agg (mC m (.slice A N c)), .agg (mC n (.slice A' N' c'))]) rfl (by simp [f24, f25]) (by kernel_rfl)) ?_
                  exact (refsame_is m n l r true HSm.out A A' N N' c c' W (Sl13.out.below hI) (Sr13.out.below hI) HN.out HR.out (by have := H30.out; omega)).mono fun e w' H => ⟨_, H.1, rfl, H.2⟩
                · intro a W hI hun haft hi
                  have fg : a.eval (.tmp 76) = .bool true := haft ⟨20, .guard⟩ (by simp) rfl _ _ rfl rfl
                  have f23 : a.eval (.tmp 79) = .bool true := haft ⟨23, .data⟩ (by simp) rfl _ _ rfl rfl
                  have f26 : a.eval (.tmp 82) = .bool true := haft ⟨26, .data⟩ (by simp) rfl _ _ rfl rfl
                  exact b_same hi hI (guard_ok rfl rfl rfl fg) (.bool true) (run_bin_op rfl f23 f26 (by kernel_rfl) (by kernel_rfl)) rfl
                · intro a W hI hun haft hi
                  have f20 : a.eval (.tmp 76) = .bool true := haft ⟨20, .data⟩ (by simp) rfl _ _ rfl rfl
                  have f27 : a.eval (.tmp 83) = .bool true := haft ⟨27, .data⟩ (by simp) rfl _ _ rfl rfl
                  exact b_same hi hI rfl _ (run_pick_op (b := true) rfl f20 f27 rfl) rfl
                · intro a W hI hun haft hi
                  have f28 : a.eval (.tmp 84) = .bool true := haft ⟨28, .data⟩ (by simp) rfl _ _ rfl rfl
                  exact b_same hi hI rfl _ (run_move_op rfl f28) rfl
                · intro a W hI hun haft hi
                  have fg : a.eval (.tmp 85) = .bool true := haft ⟨29, .guard⟩ (by simp) rfl _ _ rfl rfl
                  have e5 : a.eval (.tmp 5) = .slice P5 nA c5 := hun 5 (by kernel_rfl)
                  exact b_same hi hI (guard_ok rfl rfl rfl fg) _ (run_move_op rfl e5) rfl
                · intro a W hI hun haft hi
                  have fg : a.eval (.tmp 85) = .bool true := haft ⟨29, .guard⟩ (by simp) rfl _ _ rfl rfl
                  have f30 : a.eval (.tmp 86) = .slice P5 nA c5 := haft ⟨30, .data⟩ (by simp) rfl _ _ rfl rfl
                  exact b_same hi hI (guard_ok rfl rfl rfl fg) _ (run_convert_op rfl f30 (run_string_sl (P := Try.prog) W 29 9 5 Try.underlying29 Try.underlying5 Try.underlying9 _ _ (Sl.below SA13.out hI))) rfl
                · intro a W hI hun haft hi
                  have fg : a.eval (.tmp 85) = .bool true := haft ⟨29, .guard⟩ (by simp) rfl _ _ rfl rfl
                  have e6 : a.eval (.tmp 6) = .slice P6 nB c6 := hun 6 (by kernel_rfl)
                  exact b_same hi hI (guard_ok rfl rfl rfl fg) _ (run_move_op rfl e6) rfl
                · intro a W hI hun haft hi
                  have fg : a.eval (.tmp 85) = .bool true := haft ⟨29, .guard⟩ (by simp) rfl _ _ rfl rfl
                  have f32 : a.eval (.tmp 88) = .slice P6 nB c6 := haft ⟨32, .data⟩ (by simp) rfl _ _ rfl rfl
                  exact b_same hi hI (guard_ok rfl rfl rfl fg) _ (run_convert_op rfl f32 (run_string_sl (P := Try.prog) W 29 9 5 Try.underlying29 Try.underlying5 Try.underlying9 _ _ (Sl.below SB13.out hI))) rfl
                · intro a W hI hun haft hi
                  have fg : a.eval (.tmp 85) = .bool true := haft ⟨29, .guard⟩ (by simp) rfl _ _ rfl rfl
                  have f31 : a.eval (.tmp 87) = .string ⟨LA.toArray⟩ := haft ⟨31, .data⟩ (by simp) rfl _ _ rfl rfl
                  have f33 : a.eval (.tmp 89) = .string ⟨LB.toArray⟩ := haft ⟨33, .data⟩ (by simp) rfl _ _ rfl rfl
                  exact b_same hi hI (guard_ok rfl rfl rfl fg) (.bool true) (run_bin_op rfl f31 f33 (by simp [eqGuard]) (eql_two _ _ _ HTx.out _)) rfl
                · intro a W hI hun haft hi
                  have fg : a.eval (.tmp 85) = .bool true := haft ⟨29, .guard⟩ (by simp) rfl _ _ rfl rfl
                  have e2 : a.eval (.tmp 2) = .pointer (some ⟨p, 0, none⟩) := hun 2 (by kernel_rfl)
                  exact b_same hi hI (guard_ok rfl rfl rfl fg) _ (run_load_op rfl e2 (Blk.below K13.out hI (Blk.lt K13.out)) Try.underlying26 rfl (sizeM _ _)) rfl
                · intro a W hI hun haft hi
                  have fg : a.eval (.tmp 85) = .bool true := haft ⟨29, .guard⟩ (by simp) rfl _ _ rfl rfl
                  have e3 : a.eval (.tmp 3) = .pointer (some ⟨p + 1, 0, none⟩) := hun 3 (by kernel_rfl)
                  exact b_same hi hI (guard_ok rfl rfl rfl fg) _ (run_load_op rfl e3 (Blk.below J13.out hI (Blk.lt J13.out)) Try.underlying26 rfl (sizeM _ _)) rfl
                · intro a W hI hun haft hi
                  have fg : a.eval (.tmp 85) = .bool true := haft ⟨29, .guard⟩ (by simp) rfl _ _ rfl rfl
                  have f35 : a.eval (.tmp 91) = .agg (mC m (.slice A N c)) := haft ⟨35, .data⟩ (by simp) rfl _ _ rfl rfl
                  have f36 : a.eval (.tmp 92) = .agg (mC n (.slice A' N' c')) := haft ⟨36, .data⟩ (by simp) rfl _ _ rfl rfl
                  refine b_call hi hI (guard_ok rfl rfl rfl fg) _ _ (run_call_op (args := #[.agg (mC m (.slice A N c)), .agg (mC n (.slice A' N' c'))]) rfl (by simp [f35, f36]) (by kernel_rfl)) ?_
                  exact (refsame_is m n l r true HSm.out A A' N N' c c' W (Sl13.out.below hI) (Sr13.out.below hI) HN.out HR.out (by have := H30.out; omega)).mono fun e w' H => ⟨_, H.1, rfl, H.2⟩
                · intro a W hI hun haft hi
                  have fg : a.eval (.tmp 85) = .bool true := haft ⟨29, .guard⟩ (by simp) rfl _ _ rfl rfl
                  have f34 : a.eval (.tmp 90) = .bool true := haft ⟨34, .data⟩ (by simp) rfl _ _ rfl rfl
                  have f37 : a.eval (.tmp 93) = .bool true := haft ⟨37, .data⟩ (by simp) rfl _ _ rfl rfl
                  exact b_same hi hI (guard_ok rfl rfl rfl fg) (.bool true) (run_bin_op rfl f34 f37 (by kernel_rfl) (by kernel_rfl)) rfl
                · intro a W hI hun haft hi
                  have f29 : a.eval (.tmp 85) = .bool true := haft ⟨29, .data⟩ (by simp) rfl _ _ rfl rfl
                  have f38 : a.eval (.tmp 94) = .bool true := haft ⟨38, .data⟩ (by simp) rfl _ _ rfl rfl
                  exact b_same hi hI rfl _ (run_pick_op (b := true) rfl f29 f38 rfl) rfl
                · intro a W hI hun haft hi
                  have f39 : a.eval (.tmp 95) = .bool true := haft ⟨39, .data⟩ (by simp) rfl _ _ rfl rfl
                  exact b_same hi hI rfl _ (run_assign_op rfl f39) rfl
              · intro vals W hI hp
                have hl40 : vals 40 = .bool true := hp 40 (by decide)
                have HI := Lib.hid hI
                clear hp hI
                simp only [layN, List.size_toArray, List.length_cons, List.length_nil, List.range, List.range.loop, if_true, List.getElem?_toArray, List.getElem?_cons_zero, List.getElem?_cons_succ, Act.put, List.setIfInBounds_toArray, List.set_cons_zero, List.set_cons_succ, Nat.zero_add, Nat.reduceAdd, hl40]
                clear hl40
                go_wp2_with fail
                go_ret
                exact ⟨rfl, Y13.out.trans (HI.out.mono Y13.out.size)⟩

end Go.Proofs.Ytalaidlnhoonfaa
