/-
  hedgerowlaw12.SnapBytes answers true for all arguments, and leaves all memory as it was. Conditions: none.
-/
import Derived.Test.YtejljikikhecnaaGreatSnLaw
import Derived.Test.YtejljikikhecnaaGreatSnRb
import Derived.Test.YtejljikikhecnaaGreatSnCutM
import Derived.Test.YtejljikikhecnaaGreatArgsSn
import Derived.Test.YtejljikikhecnaaGreatArgsB
namespace Go.Proofs.YtejljikikhecnaaGreat
open Go.RowKit Go.MapKept Go.Sort

theorem few12_is (f : Nat → Int) (I : List (El × List (Dt × Va))) (E : List Ev) (A A2 : Option Addr) (N c N2 c2 : Nat) (b : Bool) (hb : fewS I E = b) (w : World) (hi : ItsIs w (.slice A N c) I) (hN : I.length = N) (hx : ∀ q ∈ I, ItCan q) (he : SlK encE 27 w (.slice A2 N2 c2) E) (hM : E.length = N2) (hF : ∀ e ∈ E, Fit e) :
    Calls Tryz.prog 7 #[sV f (.slice A N c) (.slice A2 N2 c2)] w (Gives w (.bool b)) := by subst hb; exact few12_any f I E A A2 N c N2 c2 w hi hN hx he hM hF
theorem eql_strS (l : List UInt8) (w : World) : (binOp .eql 9 (.string ⟨l.toArray⟩) (.string ⟨l.toArray⟩)).run Tryz.prog w = .ok (.bool true) w := by
  rw [binOp_string_eql]
  simp [Sem.run_pure]
theorem RIts_form {R : Nat} {w : World} {u : Value} {I : List (El × List (Dt × Va))} (h : Ot.RIts R w u I) : ∃ A c, u = .slice A I.length c := by
  obtain ⟨L, h1, h2, _⟩ := h
  obtain ⟨A, c, hv⟩ := OwnK.form h1
  exact ⟨A, c, by rw [hv, h2]⟩
theorem item_tiny {q : El × List (Dt × Va)} (h : itemF q = true) : TinyI q := by
  obtain ⟨h1, h2, h3⟩ := itemF_parts h
  exact ⟨by omega, by omega, by omega, by omega, by omega, fun r hr => by have := h3 r hr; omega⟩
theorem lright_is (f : Nat → Int) (I : List (El × List (Dt × Va))) (E : List Ev) (A A2 : Option Addr) (N c N2 c2 : Nat) (b : Bool) (hb : rightS f I E = b) (hf : fewS I E = true) (hN : I.length = N) (hM : E.length = N2) (w : World) (hi : ItsIs w (.slice A N c) I) (he : SlK encE 27 w (.slice A2 N2 c2) E) :
    Calls Tryz.prog 9 #[sV f (.slice A N c) (.slice A2 N2 c2)] w (Gives w (.bool b)) := by
  subst hb
  obtain ⟨h1, h2, h3, h4⟩ := fewS_parts hf
  exact lright_any f I E A A2 N c N2 c2 w hi hN (by omega) (fun q hq => item_tiny (h3 q hq)) he hM (by omega) (fun e he => short_tiny e (h4 e he))
theorem sright_few (f : Nat → Int) (I : List (El × List (Dt × Va))) (E : List Ev) (A A2 : Option Addr) (N c N2 c2 : Nat) (b : Bool) (hb : rightS f I E = b) (hf : fewS I E = true) (hN : I.length = N) (hM : E.length = N2) (w : World) (hi : ItsIs w (.slice A N c) I) (he : SlK encE 27 w (.slice A2 N2 c2) E) (hw : CutOk w) :
    Calls Tryz.prog 10 #[sV f (.slice A N c) (.slice A2 N2 c2)] w (Gives w (.int .i64 (codeI b))) := by
  obtain ⟨h1, h2, h3, h4⟩ := fewS_parts hf
  exact sright_is f I E A A2 N N2 c c2 b hb w hi hN (by omega) (fun q hq => few_fits (h3 q hq)) he hM (by omega) (fun e he => short_lens e (h4 e he)) hw
theorem P2_le (f : Nat → Int) (I : List (El × List (Dt × Va))) (E : List Ev) (k : Nat) : (Ot.P2 f I k).length ≤ (bytesS f I E).length := by
  have h := congrArg (fun l => (l.map fun q : El × List (Dt × Va) => bytesI q.1 q.2).flatten.length) (List.take_append_drop k I)
  simp only [List.map_append, List.flatten_append, List.length_append] at h
  unfold Ot.P2 Ot.P1 bytesS rowIB rowEB
  simp only [List.length_append]
  omega
theorem P4_le (f : Nat → Int) (I : List (El × List (Dt × Va))) (E : List Ev) (k : Nat) : (Ot.P4 f I E k).length ≤ (bytesS f I E).length := by
  have h := congrArg (fun l => (l.map bytesE).flatten.length) (List.take_append_drop k E)
  simp only [List.map_append, List.flatten_append, List.length_append] at h
  unfold Ot.P4 Ot.P3 Ot.P2 Ot.P1 bytesS rowIB rowEB
  rw [List.take_length]
  simp only [List.length_append]
  omega
theorem refb_few (f : Nat → Int) (I : List (El × List (Dt × Va))) (E : List Ev) (A2 : Option Addr) (N2 c2 : Nat) (hf : fewS I E = true) (hM : E.length = N2) (L : List UInt8) (hL : bytesS f I E = L) (R : Nat) (AI : Option Addr) (cI : Nat) (w : World) (hi : Ot.RIts R w (.slice AI I.length cI) I) (he : SlK encE 27 w (.slice A2 N2 c2) E) :
    Calls Tryz.prog 12 #[.agg (vA f), .slice AI I.length cI, .slice A2 N2 c2] w fun e w' => ∃ v, e = .returned v ∧ Sl bv w' v L ∧ Below w.heap.size w w' := by
  subst hM hL
  obtain ⟨h1, h2, h3, h4⟩ := fewS_parts hf
  have hlen := few_len f hf
  exact (Ot.refb12_any f I E AI A2 cI c2 w hi he (fun k => by have := P2_le f I E k; omega) (fun k => by have := P4_le f I E k; omega) (fun e he => short_lens e (h4 e he)) ⟨by omega, by omega⟩ (fun q hq => (few_fits (h3 q hq)).2.1)).mono fun e w' h => h
theorem items_few (I : List (El × List (Dt × Va))) (A : Option Addr) (N c : Nat) (E : List Ev) (hf : fewS I E = true) (hN : I.length = N) (w : World) (hi : ItsIs w (.slice A N c) I) :
    Calls Tryz.prog 13 #[.slice A N c] w fun r w' => ∃ u, r = .returned u ∧ Ot.RIts w.heap.size w' u I ∧ Below w.heap.size w w' := by
  obtain ⟨h1, h2, h3, h4⟩ := fewS_parts hf
  exact Ot.items_any I A N c w hi hN (by omega) (fun q hq => (few_fits (h3 q hq)).2.1)
theorem sparse_back (f : Nat → Int) (I : List (El × List (Dt × Va))) (E : List Ev) (N N' : Nat) (hN : I.length = N) (hM : E.length = N') (h : rightS f I E = true) (hf : fewS I E = true) (hc : CanonV f) (hl : ∀ e ∈ E, CanonV e.p) (L : List UInt8) (hL : bytesS f I E = L) (v : Value) (w : World) (hv : Sl bv w v L) (hw : CutOk w) :
    Calls Tryz.prog 11 #[v] w fun e w' => ∃ A c B d, e = .returned (.tuple #[sV f (.slice A N c) (.slice B N' d), .int .i64 0]) ∧ ItsIs w' (.slice A N c) I ∧ SlK encE 27 w' (.slice B N' d) E ∧ Below w.heap.size w w' := by
  obtain ⟨h1, h2, h3, h4⟩ := fewS_parts hf
  have hlen := few_len f hf
  obtain ⟨r0, r1, r2, r3, r4⟩ := snap_read h hc (by omega) (fun q hq => few_fits (h3 q hq)) (by omega) (fun e he => ⟨short_lens e (h4 e he), hl e he⟩)
  rw [hL] at r0 r1 r2 r3 hlen
  refine (sparse_is L 0 r0 (by omega) (fun _ => by rw [r2, r3]; exact ⟨by omega, fun q hq => few_fits (h3 q hq), by omega, fun e he => short_lens e (h4 e he)⟩) v w hv hw).mono ?_
  rintro e w' ⟨f9, A, a, c, B, b, d, rfl, hres, hb⟩
  obtain ⟨e1, e2, e3, e4, e5⟩ := hres rfl
  rw [r1] at e1
  rw [r2] at e2 e4
  rw [r3] at e3 e5
  rw [hN] at e2
  rw [hM] at e3
  subst e1 e2 e3
  exact ⟨A, c, B, d, rfl, e4, e5, hb⟩

set_option maxRecDepth 100000 in
set_option maxHeartbeats 8000000 in
theorem snbytes_walk (f : Nat → Int) (I : List (El × List (Dt × Va))) (E : List Ev) (A A' : Option Addr) (N c N' c' : Nat) (w : World) (hi : ItsIs w (.slice A N c) I) (hN : I.length = N) (hx : ∀ q ∈ I, ItCan q) (he : SlK encE 27 w (.slice A' N' c') E) (hM : E.length = N') (hF : ∀ e ∈ E, Fit e) (hcf : CanonV f) (hce : ∀ e ∈ E, CanonV e.p) (hw : CutOk w) :
    Calls Tryz.prog 3 #[sV f (.slice A N c) (.slice A' N' c')] w (Gives w (.bool true)) := by
  obtain ⟨p, hp⟩ : ∃ p, w.heap.size = p := ⟨_, rfl⟩
  obtain ⟨X, hX⟩ : ∃ X, X = w.alloc (.cells (sC f (.slice A N c) (.slice A' N' c')) 27) := ⟨_, rfl⟩
  have hbX : Below w.heap.size w X := by rw [hX]; exact (Below.refl _ _).alloc (Nat.le_refl _) _
  have hmb : SB X p f (.slice A N c) (.slice A' N' c') := by rw [hX, ← hp]; exact SB.new_ w f _ _
  have K0 := Lib.hid hmb
  have I0 := Lib.hid (hi.below hbX)
  have E0 := Lib.hid (he.below hbX)
  have HX := Lib.hid hX
  have HP := Lib.hid hp
  have Y0 := Lib.hid hbX
  have W0 := Lib.hid (hw.below hbX)
  have HN := Lib.hid hN
  have HM := Lib.hid hM
  have HFw := Lib.hid (fun b hb W h1 h2 => few12_is f I E A A' N c N' c' b hb W h1 hN hx h2 hM hF)
  have HCf := Lib.hid hcf
  have HCe := Lib.hid hce
  clear hX hbX hmb hp hi hN hx he hM hF hcf hce hw
  unfold sV
  go_enter Tryz.func3, Tryz.ntmps3
  go_upto_region 1 with fail
  rw [← HX.out, HP.out]
  go_wp2_with fail
  refine (sfixed_any _ W0.out).mono ?_
  rintro x1 A1 ⟨rfl, hb⟩
  have K1 := Lib.hid (SB.keep K0.out hb)
  have I1 := Lib.hid (I0.out.below hb)
  have E1 := Lib.hid (E0.out.below hb)
  have Y1 := Lib.hid (Y0.out.trans (hb.mono Y0.out.size))
  have W1 := Lib.hid (CutOk.below W0.out hb)
  clear hb Y0 K0 I0 E0 W0
  cases hq : fewS I E
  · have HQ := Lib.hid (HFw.out false hq)
    clear hq
    go_wp2_with (refine wpList_load_if rfl 27 (.tmp 1) rfl p rfl _ _ _ _ K1.out Tryz.underlying27 rfl (sizeSn _ _ _) ?_)
    refine (HQ.out A1 I1.out E1.out).mono ?_
    rintro x2 A2 ⟨rfl, hb⟩
    have Y2 := Lib.hid (Y1.out.trans (hb.mono Y1.out.size))
    clear hb
    go_wp2
    go_ret
    exact ⟨rfl, Y2.out⟩
  · have HQ := Lib.hid (HFw.out true hq)
    have HFew := Lib.hid hq
    clear hq
    go_wp2_with (refine wpList_load_if rfl 27 (.tmp 1) rfl p rfl _ _ _ _ K1.out Tryz.underlying27 rfl (sizeSn _ _ _) ?_)
    refine (HQ.out A1 I1.out E1.out).mono ?_
    rintro x2 A2 ⟨rfl, hb⟩
    have K2 := Lib.hid (SB.keep K1.out hb)
    have I2 := Lib.hid (I1.out.below hb)
    have E2 := Lib.hid (E1.out.below hb)
    have Y2 := Lib.hid (Y1.out.trans (hb.mono Y1.out.size))
    have W2 := Lib.hid (CutOk.below W1.out hb)
    clear hb Y1 K1 I1 E1 W1 HQ HFw
    cases hr : rightS f I E
    · have HBn := Lib.hid (fun W h1 h2 h3 => sbytes_no f I E A A' N N' c c' W h1 HN.out h2 HM.out HFew.out h3 hr)
      have HRr := Lib.hid (fun W hs h2 => lright_is f I E A A' N c N' c' false hr HFew.out HN.out HM.out W hs h2)
      have HMr := Lib.hid (fun W hs h2 hw => sright_few f I E A A' N c N' c' false hr HFew.out HN.out HM.out W hs h2 hw)
      clear hr
      go_wp2_with (refine wpList_load_if rfl 27 (.tmp 1) rfl p rfl _ _ _ _ K2.out Tryz.underlying27 rfl (sizeSn _ _ _) ?_)
      refine (HBn.out A2 I2.out E2.out W2.out).mono ?_
      rintro x3 A3 ⟨P3, c3, rfl, hb⟩
      have K3 := Lib.hid (SB.keep K2.out hb)
      have I3 := Lib.hid (I2.out.below hb)
      have E3 := Lib.hid (E2.out.below hb)
      have Y3 := Lib.hid (Y2.out.trans (hb.mono Y2.out.size))
      have W3 := Lib.hid (CutOk.below W2.out hb)
      clear hb K2 I2 E2 Y2 W2
      go_wp2_with (refine wpList_load_if rfl 27 (.tmp 1) rfl p rfl _ _ _ _ K3.out Tryz.underlying27 rfl (sizeSn _ _ _) ?_)
      refine (HRr.out A3 I3.out E3.out).mono ?_
      rintro x4 A4 ⟨rfl, hb⟩
      have K4 := Lib.hid (SB.keep K3.out hb)
      have I4 := Lib.hid (I3.out.below hb)
      have E4 := Lib.hid (E3.out.below hb)
      have Y4 := Lib.hid (Y3.out.trans (hb.mono Y3.out.size))
      have W4 := Lib.hid (CutOk.below W3.out hb)
      clear hb K3 I3 E3 Y3 W3
      go_wp2_with (refine wpList_load_if rfl 27 (.tmp 1) rfl p rfl _ _ _ _ K4.out Tryz.underlying27 rfl (sizeSn _ _ _) ?_)
      refine (HMr.out A4 I4.out E4.out W4.out).mono ?_
      rintro x5 A5 ⟨rfl, hb⟩
      have Y5 := Lib.hid (Y4.out.trans (hb.mono Y4.out.size))
      clear hb K4 I4 E4 Y4 W4
      go_wp2
      go_ret
      exact ⟨rfl, Y5.out⟩
    · obtain ⟨LL, hLL⟩ : ∃ LL, bytesS f I E = LL := ⟨_, rfl⟩
      have HBy := Lib.hid (fun W h1 h2 h3 => sbytes_yes f I E A A' N N' c c' W h1 HN.out h2 HM.out HFew.out h3 hr LL hLL)
      have HRr := Lib.hid (fun W hs h2 => lright_is f I E A A' N c N' c' true hr HFew.out HN.out HM.out W hs h2)
      have HMr := Lib.hid (fun W hs h2 hw => sright_few f I E A A' N c N' c' true hr HFew.out HN.out HM.out W hs h2 hw)
      have HPb := Lib.hid (sparse_back f I E N N' HN.out HM.out hr HFew.out HCf.out HCe.out LL hLL)
      have HRb := Lib.hid (refb_few f I E A' N' c' HFew.out HM.out LL hLL)
      have HIt := Lib.hid (fun W hs => items_few I A N c E HFew.out HN.out W hs)
      unfold sV at *
      clear hr hLL
      obtain ⟨n3, hn3⟩ : ∃ n3, LL.length = n3 := ⟨_, rfl⟩
      have HN3 := Lib.hid hn3
      clear hn3
      go_wp2_with (refine wpList_load_if rfl 27 (.tmp 1) rfl p rfl _ _ _ _ K2.out Tryz.underlying27 rfl (sizeSn _ _ _) ?_)
      refine (HBy.out A2 I2.out E2.out W2.out).mono ?_
      rintro x3 A3 ⟨v3, rfl, ho, hb⟩
      have hs3 := own_slS ho rfl
      obtain ⟨P3, c3, rfl⟩ := hs3.form
      rw [HN3.out] at hs3 ⊢
      have S3 := Lib.hid hs3
      have K3 := Lib.hid (SB.keep K2.out hb)
      have I3 := Lib.hid (I2.out.below hb)
      have E3 := Lib.hid (E2.out.below hb)
      have Y3 := Lib.hid (Y2.out.trans (hb.mono Y2.out.size))
      have W3 := Lib.hid (CutOk.below W2.out hb)
      clear hb hs3 ho K2 I2 E2 Y2 W2 HBy
      go_wp2_with (refine wpList_load_if rfl 27 (.tmp 1) rfl p rfl _ _ _ _ K3.out Tryz.underlying27 rfl (sizeSn _ _ _) ?_)
      refine (HRr.out A3 I3.out E3.out).mono ?_
      rintro x4 A4 ⟨rfl, hb⟩
      have S4 := Lib.hid (Sl.below S3.out hb)
      have K4 := Lib.hid (SB.keep K3.out hb)
      have I4 := Lib.hid (I3.out.below hb)
      have E4 := Lib.hid (E3.out.below hb)
      have Y4 := Lib.hid (Y3.out.trans (hb.mono Y3.out.size))
      have W4 := Lib.hid (CutOk.below W3.out hb)
      clear hb K3 I3 E3 Y3 W3 HRr S3
      go_wp2_with fail
      refine (HPb.out _ A4 S4.out W4.out).mono ?_
      rintro x5 A5 ⟨P9, p9, Q9, q9, rfl, hi5, he5, hb⟩
      have J5 := Lib.hid hi5
      have G5 := Lib.hid he5
      have S5 := Lib.hid (Sl.below S4.out hb)
      have K5 := Lib.hid (SB.keep K4.out hb)
      have I5 := Lib.hid (I4.out.below hb)
      have E5 := Lib.hid (E4.out.below hb)
      have Y5 := Lib.hid (Y4.out.trans (hb.mono Y4.out.size))
      have W5 := Lib.hid (CutOk.below W4.out hb)
      clear hb hi5 he5 K4 I4 E4 Y4 W4 HPb S4
      have hz := (zero_of_info zeroSn).1
      have NN := Lib.hid (SB.new_ A5 (fun _ => 0) (.slice none 0 0) (.slice none 0 0))
      go_upto_region 9 with (refine wpList_store_row rfl 27 (.tmp 5) (.tmp 35) rfl A5.heap.size (sC f (.slice P9 N p9) (.slice Q9 N' q9)) rfl rfl _ _ NN.out (sizeSn _ _ _) rfl (sC_one _ _ _ _ _ _ _) ?_)
      clear hz
      have hbb : Below A5.heap.size A5 ((A5.alloc (.cells (sC (fun _ => 0) (.slice none 0 0) (.slice none 0 0)) 27)).setRow A5.heap.size (sC f (.slice P9 N p9) (.slice Q9 N' q9))) := ((Below.refl _ _).alloc (Nat.le_refl _) _).trans (setRow_below _ _ _ _ (Nat.le_refl _))
      have hq : SB ((A5.alloc (.cells (sC (fun _ => 0) (.slice none 0 0) (.slice none 0 0)) 27)).setRow A5.heap.size (sC f (.slice P9 N p9) (.slice Q9 N' q9))) A5.heap.size f (.slice P9 N p9) (.slice Q9 N' q9) := setRow_blk _ _ _ _ _ NN.out
      generalize (A5.alloc (.cells (sC (fun _ => 0) (.slice none 0 0) (.slice none 0 0)) 27)).setRow A5.heap.size (sC f (.slice P9 N p9) (.slice Q9 N' q9)) = A8 at *
      obtain ⟨q, hqq⟩ : ∃ q, A5.heap.size = q := ⟨_, rfl⟩
      rw [hqq] at hq ⊢
      have Q8 := Lib.hid hq
      have J8 := Lib.hid (J5.out.below hbb)
      have G8 := Lib.hid (G5.out.below hbb)
      have S8 := Lib.hid (Sl.below S5.out hbb)
      have K8 := Lib.hid (SB.keep K5.out hbb)
      have I8 := Lib.hid (I5.out.below hbb)
      have E8 := Lib.hid (E5.out.below hbb)
      have Y8 := Lib.hid (Y5.out.trans (hbb.mono Y5.out.size))
      have W8 := Lib.hid (CutOk.below W5.out hbb)
      clear hq hbb NN K5 I5 E5 Y5 W5 S5 J5 G5 hqq
      try simp only [Act.put]
      have HSa := Lib.hid (fun W h1 h2 h3 h4 => ssame_true f I E A P9 A' Q9 N N' c p9 c' q9 W h1 h2 h3 h4 HN.out (by rw [← HN.out]; have := (fewS_parts HFew.out).1; omega) HM.out (by rw [← HM.out]; have := (fewS_parts HFew.out).2.1; omega) (fun q hq => (few_fits ((fewS_parts HFew.out).2.2.1 q hq)).2.1))
      unfold sV at HSa
      refine wp_region_any (by kernel_rfl) ?_
      refine wpAny_below (Ot.pN [some (.int .i64 0), some (.bool true), some (.bool true), some (.agg (sC f (.slice A N c) (.slice A' N' c'))), some (.int .i64 0), some (.bool true), some (.bool true), some (.bool true), some (.slice P3 n3 c3), some (.string ⟨LL.toArray⟩), some (.pointer (some ⟨p, 0, none⟩)), some (.agg (vA f)), some (.pointer (some ⟨p, 16, none⟩)), some (.slice A N c), none, some (.pointer (some ⟨p, 17, none⟩)), some (.slice A' N' c'), none, some (.string ⟨LL.toArray⟩), some (.bool true), some (.bool true), some (.bool true), some (.int .i64 0), some (.bool true), some (.bool true), some (.bool true), some (.agg (sC f (.slice A N c) (.slice A' N' c'))), some (.agg (sC f (.slice P9 N p9) (.slice Q9 N' q9))), some (.bool true), some (.bool true), some (.bool true)] (fun i v W => match i with | 14 => ∃ R, Ot.RIts R W v I | 17 => Sl bv W v LL | _ => True)) _ A8 (by kernel_rfl) (by kernel_rfl) (by kernel_rfl) (fun i v w w' hb h => Ot.pN_keep (fun i v w w' hb h => by
        try dsimp only at h ⊢
        split at h
        · exact ⟨h.choose, h.choose_spec.keep hb⟩
        · exact Sl.below h hb
        · trivial) i v w w' hb h) ?_ ?_
      · refine ⟨?_, ?_, ?_, ?_, ?_, ?_, ?_, ?_, ?_, ?_, ?_, ?_, ?_, ?_, ?_, ?_, ?_, ?_, ?_, ?_, ?_, ?_, ?_, ?_, ?_, ?_, ?_, ?_, ?_, ?_, ?_, trivial⟩
        · intro a W hI hun haft hi
          have e4 : a.eval (.tmp 4) = .int .i64 0 := hun 4 (by kernel_rfl)
          exact b_same hi hI rfl _ (run_move_op rfl e4) rfl
        · intro a W hI hun haft hi
          have f0 : a.eval (.tmp 37) = .int .i64 0 := haft ⟨0, .data⟩ (by simp) rfl _ _ rfl rfl
          exact b_same hi hI rfl _ (run_bin_op rfl f0 rfl (by kernel_rfl) (by kernel_rfl)) rfl
        · intro a W hI hun haft hi
          have f1 : a.eval (.tmp 38) = .bool true := haft ⟨1, .data⟩ (by simp) rfl _ _ rfl rfl
          exact b_same hi hI rfl _ (run_move_op rfl f1) rfl
        · intro a W hI hun haft hi
          have fg : a.eval (.tmp 39) = .bool true := haft ⟨2, .guard⟩ (by simp) rfl _ _ rfl rfl
          have e1 : a.eval (.tmp 1) = .pointer (some ⟨p, 0, none⟩) := hun 1 (by kernel_rfl)
          exact b_same hi hI (guard_ok rfl rfl rfl fg) _ (run_load_op rfl e1 (Blk.below K8.out hI (Blk.lt K8.out)) Tryz.underlying27 rfl (sizeSn _ _ _)) rfl
        · intro a W hI hun haft hi
          have fg : a.eval (.tmp 39) = .bool true := haft ⟨2, .guard⟩ (by simp) rfl _ _ rfl rfl
          have f3 : a.eval (.tmp 40) = .agg (sC f (.slice A N c) (.slice A' N' c')) := haft ⟨3, .data⟩ (by simp) rfl _ _ rfl rfl
          refine b_call hi hI (guard_ok rfl rfl rfl fg) _ _ (run_call_op (args := #[.agg (sC f (.slice A N c) (.slice A' N' c'))]) rfl (by simp [f3]) (by kernel_rfl)) ?_
          exact (HMr.out W (I8.out.below hI) (E8.out.below hI) (W8.out.below hI)).mono fun e w' H => ⟨_, H.1, rfl, H.2⟩
        · intro a W hI hun haft hi
          have fg : a.eval (.tmp 39) = .bool true := haft ⟨2, .guard⟩ (by simp) rfl _ _ rfl rfl
          have f4 : a.eval (.tmp 41) = .int .i64 0 := haft ⟨4, .data⟩ (by simp) rfl _ _ rfl rfl
          exact b_same hi hI (guard_ok rfl rfl rfl fg) _ (run_bin_op rfl f4 rfl (by kernel_rfl) (by kernel_rfl)) rfl
        · intro a W hI hun haft hi
          have f2 : a.eval (.tmp 39) = .bool true := haft ⟨2, .data⟩ (by simp) rfl _ _ rfl rfl
          have f5 : a.eval (.tmp 42) = .bool true := haft ⟨5, .data⟩ (by simp) rfl _ _ rfl rfl
          exact b_same hi hI rfl _ (run_pick_op (b := true) rfl f2 f5 rfl) rfl
        · intro a W hI hun haft hi
          have f6 : a.eval (.tmp 43) = .bool true := haft ⟨6, .data⟩ (by simp) rfl _ _ rfl rfl
          exact b_same hi hI rfl _ (run_move_op rfl f6) rfl
        · intro a W hI hun haft hi
          have fg : a.eval (.tmp 44) = .bool true := haft ⟨7, .guard⟩ (by simp) rfl _ _ rfl rfl
          have e3 : a.eval (.tmp 3) = .slice P3 n3 c3 := hun 3 (by kernel_rfl)
          exact b_same hi hI (guard_ok rfl rfl rfl fg) _ (run_move_op rfl e3) rfl
        · intro a W hI hun haft hi
          have fg : a.eval (.tmp 44) = .bool true := haft ⟨7, .guard⟩ (by simp) rfl _ _ rfl rfl
          have f8 : a.eval (.tmp 45) = .slice P3 n3 c3 := haft ⟨8, .data⟩ (by simp) rfl _ _ rfl rfl
          exact b_same hi hI (guard_ok rfl rfl rfl fg) _ (run_convert_op rfl f8 (run_string_sl (P := Tryz.prog) W 30 9 5 Tryz.underlying30 Tryz.underlying5 Tryz.underlying9 _ _ (Sl.below S8.out hI))) rfl
        · intro a W hI hun haft hi
          have fg : a.eval (.tmp 44) = .bool true := haft ⟨7, .guard⟩ (by simp) rfl _ _ rfl rfl
          have e1 : a.eval (.tmp 1) = .pointer (some ⟨p, 0, none⟩) := hun 1 (by kernel_rfl)
          exact b_same hi hI (guard_ok rfl rfl rfl fg) _ (run_fieldAddr_any rfl e1 (at_snS0 _ W)) rfl
        · intro a W hI hun haft hi
          have fg : a.eval (.tmp 44) = .bool true := haft ⟨7, .guard⟩ (by simp) rfl _ _ rfl rfl
          have f10 : a.eval (.tmp 47) = .pointer (some ⟨p, 0, none⟩) := haft ⟨10, .data⟩ (by simp) rfl _ _ rfl rfl
          exact b_same hi hI (guard_ok rfl rfl rfl fg) _ (Ot.run_loadmid_op (cs := (vA f).toList) rfl f10 (SB.vec (SB.keep K8.out hI)) Tryz.underlying23 rfl (by kernel_rfl)) rfl
        · intro a W hI hun haft hi
          have fg : a.eval (.tmp 44) = .bool true := haft ⟨7, .guard⟩ (by simp) rfl _ _ rfl rfl
          have e1 : a.eval (.tmp 1) = .pointer (some ⟨p, 0, none⟩) := hun 1 (by kernel_rfl)
          exact b_same hi hI (guard_ok rfl rfl rfl fg) _ (run_fieldAddr_any rfl e1 (at_snS1 _ W)) rfl
        · intro a W hI hun haft hi
          have fg : a.eval (.tmp 44) = .bool true := haft ⟨7, .guard⟩ (by simp) rfl _ _ rfl rfl
          have f12 : a.eval (.tmp 49) = .pointer (some ⟨p, 16, none⟩) := haft ⟨12, .data⟩ (by simp) rfl _ _ rfl rfl
          exact b_same hi hI (guard_ok rfl rfl rfl fg) _ (run_loadsl_op rfl f12 Tryz.underlying24 (SB.its (SB.keep K8.out hI))) rfl
        · intro a W hI hun haft hi
          have fg : a.eval (.tmp 44) = .bool true := haft ⟨7, .guard⟩ (by simp) rfl _ _ rfl rfl
          have f13 : a.eval (.tmp 50) = .slice A N c := haft ⟨13, .data⟩ (by simp) rfl _ _ rfl rfl
          refine b_call hi hI (guard_ok rfl rfl rfl fg) _ _ (run_call_op (args := #[.slice A N c]) rfl (by simp [f13]) (by kernel_rfl)) ?_
          exact (HIt.out W (I8.out.below hI)).mono fun e' w' H => by
            obtain ⟨u, he, hr, hb⟩ := H
            exact ⟨u, he, ⟨_, hr⟩, hb⟩
        · intro a W hI hun haft hi
          have fg : a.eval (.tmp 44) = .bool true := haft ⟨7, .guard⟩ (by simp) rfl _ _ rfl rfl
          have e1 : a.eval (.tmp 1) = .pointer (some ⟨p, 0, none⟩) := hun 1 (by kernel_rfl)
          exact b_same hi hI (guard_ok rfl rfl rfl fg) _ (run_fieldAddr_any rfl e1 (at_snS2 _ W)) rfl
        · intro a W hI hun haft hi
          have fg : a.eval (.tmp 44) = .bool true := haft ⟨7, .guard⟩ (by simp) rfl _ _ rfl rfl
          have f15 : a.eval (.tmp 52) = .pointer (some ⟨p, 17, none⟩) := haft ⟨15, .data⟩ (by simp) rfl _ _ rfl rfl
          exact b_same hi hI (guard_ok rfl rfl rfl fg) _ (run_loadsl_op rfl f15 Tryz.underlying25 (SB.evs (SB.keep K8.out hI))) rfl
        · intro a W hI hun haft hi
          have fg : a.eval (.tmp 44) = .bool true := haft ⟨7, .guard⟩ (by simp) rfl _ _ rfl rfl
          have f11 : a.eval (.tmp 48) = .agg (vA f) := haft ⟨11, .data⟩ (by simp) rfl _ _ rfl rfl
          have f14 : ∃ R, Ot.RIts R W (a.eval (.tmp 51)) I := haft ⟨14, .data⟩ (by simp) rfl _ _ rfl rfl
          have f16 : a.eval (.tmp 53) = .slice A' N' c' := haft ⟨16, .data⟩ (by simp) rfl _ _ rfl rfl
          obtain ⟨R, hR⟩ := f14
          obtain ⟨AI, cI, hv⟩ := RIts_form hR
          rw [hv] at hR
          refine b_call hi hI (guard_ok rfl rfl rfl fg) _ _ (run_call_op (args := #[.agg (vA f), .slice AI I.length cI, .slice A' N' c']) rfl (by simp [f11, hv, f16]) (by kernel_rfl)) ?_
          exact (HRb.out R AI cI W hR (E8.out.below hI)).mono fun e' w' H => by
            obtain ⟨v', he, ho, hb⟩ := H
            exact ⟨v', he, ho, hb⟩
        · intro a W hI hun haft hi
          have fg : a.eval (.tmp 44) = .bool true := haft ⟨7, .guard⟩ (by simp) rfl _ _ rfl rfl
          have f17 : Sl bv W (a.eval (.tmp 54)) LL := haft ⟨17, .data⟩ (by simp) rfl _ _ rfl rfl
          exact b_same hi hI (guard_ok rfl rfl rfl fg) _ (run_convert_op rfl rfl (run_string_sl (P := Tryz.prog) W 30 9 5 Tryz.underlying30 Tryz.underlying5 Tryz.underlying9 _ _ f17)) rfl
        · intro a W hI hun haft hi
          have fg : a.eval (.tmp 44) = .bool true := haft ⟨7, .guard⟩ (by simp) rfl _ _ rfl rfl
          have f9 : a.eval (.tmp 46) = .string ⟨LL.toArray⟩ := haft ⟨9, .data⟩ (by simp) rfl _ _ rfl rfl
          have f18 : a.eval (.tmp 55) = .string ⟨LL.toArray⟩ := haft ⟨18, .data⟩ (by simp) rfl _ _ rfl rfl
          exact b_same hi hI (guard_ok rfl rfl rfl fg) _ (run_bin_op rfl f9 f18 (by simp [eqGuard]) (eql_strS _ _)) rfl
        · intro a W hI hun haft hi
          have f7 : a.eval (.tmp 44) = .bool true := haft ⟨7, .data⟩ (by simp) rfl _ _ rfl rfl
          have f19 : a.eval (.tmp 56) = .bool true := haft ⟨19, .data⟩ (by simp) rfl _ _ rfl rfl
          exact b_same hi hI rfl _ (run_pick_op (b := true) rfl f7 f19 rfl) rfl
        · intro a W hI hun haft hi
          have f20 : a.eval (.tmp 57) = .bool true := haft ⟨20, .data⟩ (by simp) rfl _ _ rfl rfl
          exact b_same hi hI rfl _ (run_move_op rfl f20) rfl
        · intro a W hI hun haft hi
          have fg : a.eval (.tmp 58) = .bool true := haft ⟨21, .guard⟩ (by simp) rfl _ _ rfl rfl
          have e6 : a.eval (.tmp 6) = .int .i64 0 := hun 6 (by kernel_rfl)
          exact b_same hi hI (guard_ok rfl rfl rfl fg) _ (run_move_op rfl e6) rfl
        · intro a W hI hun haft hi
          have fg : a.eval (.tmp 58) = .bool true := haft ⟨21, .guard⟩ (by simp) rfl _ _ rfl rfl
          have f22 : a.eval (.tmp 59) = .int .i64 0 := haft ⟨22, .data⟩ (by simp) rfl _ _ rfl rfl
          exact b_same hi hI (guard_ok rfl rfl rfl fg) _ (run_bin_op rfl f22 rfl (by kernel_rfl) (by kernel_rfl)) rfl
        · intro a W hI hun haft hi
          have f21 : a.eval (.tmp 58) = .bool true := haft ⟨21, .data⟩ (by simp) rfl _ _ rfl rfl
          have f23 : a.eval (.tmp 60) = .bool true := haft ⟨23, .data⟩ (by simp) rfl _ _ rfl rfl
          exact b_same hi hI rfl _ (run_pick_op (b := true) rfl f21 f23 rfl) rfl
        · intro a W hI hun haft hi
          have f24 : a.eval (.tmp 61) = .bool true := haft ⟨24, .data⟩ (by simp) rfl _ _ rfl rfl
          exact b_same hi hI rfl _ (run_move_op rfl f24) rfl
        · intro a W hI hun haft hi
          have fg : a.eval (.tmp 62) = .bool true := haft ⟨25, .guard⟩ (by simp) rfl _ _ rfl rfl
          have e1 : a.eval (.tmp 1) = .pointer (some ⟨p, 0, none⟩) := hun 1 (by kernel_rfl)
          exact b_same hi hI (guard_ok rfl rfl rfl fg) _ (run_load_op rfl e1 (Blk.below K8.out hI (Blk.lt K8.out)) Tryz.underlying27 rfl (sizeSn _ _ _)) rfl
        · intro a W hI hun haft hi
          have fg : a.eval (.tmp 62) = .bool true := haft ⟨25, .guard⟩ (by simp) rfl _ _ rfl rfl
          have e5 : a.eval (.tmp 5) = .pointer (some ⟨q, 0, none⟩) := hun 5 (by kernel_rfl)
          exact b_same hi hI (guard_ok rfl rfl rfl fg) _ (run_load_op rfl e5 (Blk.below Q8.out hI (Blk.lt Q8.out)) Tryz.underlying27 rfl (sizeSn _ _ _)) rfl
        · intro a W hI hun haft hi
          have fg : a.eval (.tmp 62) = .bool true := haft ⟨25, .guard⟩ (by simp) rfl _ _ rfl rfl
          have f26 : a.eval (.tmp 63) = .agg (sC f (.slice A N c) (.slice A' N' c')) := haft ⟨26, .data⟩ (by simp) rfl _ _ rfl rfl
          have f27 : a.eval (.tmp 64) = .agg (sC f (.slice P9 N p9) (.slice Q9 N' q9)) := haft ⟨27, .data⟩ (by simp) rfl _ _ rfl rfl
          refine b_call hi hI (guard_ok rfl rfl rfl fg) _ _ (run_call_op (args := #[.agg (sC f (.slice A N c) (.slice A' N' c')), .agg (sC f (.slice P9 N p9) (.slice Q9 N' q9))]) rfl (by simp [f26, f27]) (by kernel_rfl)) ?_
          exact (HSa.out W (I8.out.below hI) (J8.out.below hI) (E8.out.below hI) (G8.out.below hI)).mono fun e w' H => ⟨_, H.1, rfl, H.2⟩
        · intro a W hI hun haft hi
          have f25 : a.eval (.tmp 62) = .bool true := haft ⟨25, .data⟩ (by simp) rfl _ _ rfl rfl
          have f28 : a.eval (.tmp 65) = .bool true := haft ⟨28, .data⟩ (by simp) rfl _ _ rfl rfl
          exact b_same hi hI rfl _ (run_pick_op (b := true) rfl f25 f28 rfl) rfl
        · intro a W hI hun haft hi
          have f29 : a.eval (.tmp 66) = .bool true := haft ⟨29, .data⟩ (by simp) rfl _ _ rfl rfl
          exact b_same hi hI rfl _ (run_assign_op rfl f29) rfl
      · intro vals W hI hp
        have hl30 : vals 30 = .bool true := hp 30 (by decide)
        have HI := Lib.hid hI
        clear hp hI
        simp only [layN, List.size_toArray, List.length_cons, List.length_nil, List.range, List.range.loop, if_true, List.getElem?_toArray, List.getElem?_cons_zero, List.getElem?_cons_succ, Act.put, List.setIfInBounds_toArray, List.set_cons_zero, List.set_cons_succ, Nat.zero_add, Nat.reduceAdd, hl30]
        clear hl30
        go_wp2_with fail
        go_ret
        exact ⟨rfl, Y8.out.trans (HI.out.mono Y8.out.size)⟩

end Go.Proofs.YtejljikikhecnaaGreat

namespace Go.Proofs.YtejljikikhecnaaGreat
open Go.ChangeShapes Go.WideShapes Go.ChangeAt Go.RowKit
open Go.ChangeMaps (open_string)

set_option maxRecDepth 100000 in
theorem snbytes_lifted (os : Os) (started : os.Started) (H : Type) (enc : TypeId × Value → H) :
    ReturnsInHanded {} Tryz.checked os 3 .any (Rows.snapBytesSpec.pre6 enc Tryz.prog Tryz.f3 Rows.snapBytesRow.domain false) (Rows.snapBytesSpec.post enc Tryz.prog Tryz.f3 false true false false) := by
  refine returnsInHanded_of_change_shaped (C := Tryz.checked) Tryz.own started (by kernel_rfl) Tryz.func3
    (ChangeSpec.witness6 (enc := enc) (C := Tryz.checked) false ⟨#[], #[.agg #[.int .i64 0, .int .i64 0, .int .i64 0, .int .i64 0, .int .i64 0, .int .i64 0, .int .i64 0, .int .i64 0, .int .i64 0, .int .i64 0, .int .i64 0, .int .i64 0, .int .i64 0, .int .i64 0, .int .i64 0, .int .i64 0, .slice none 0 0, .slice none 0 0]], []⟩ 8 (by kernel_rfl) (by kernel_rfl) (by kernel_rfl) (by kernel_rfl)) ?_
  intro W base args ds gs before hval0 hW _ hsz0 hsh _
  have hsz : (DataW.weightsEach Tryz.prog (Tryz.f3.params.toList ++ Rows.snapBytesSpec.plain.varTypes Tryz.prog) (ds ++ gs)).all (· ≤ reachBytes) = true := hsz0
  clear hsz0
  have hval : ∀ (j : Nat) t v, Tryz.f3.params[j]? = some t → args[j]? = some v → Value.okWide Tryz.prog W .any base t v := hval0
  have hW' := hW
  obtain ⟨p, q, hA0, hV, rfl, _, _⟩ := hW
  have hA : DataW.TrodAll enc Tryz.prog W 0 (fun _ => true) true Tryz.f3.params.toList args.toList ds p := hA0
  rw [Tryz.params3] at hA hval hsz
  obtain ⟨v0, d0, rfl, rfl, h0⟩ := trodAll_one hA
  obtain ⟨rfl, rfl⟩ := trodVars_none hV
  clear hA0 hval0
  obtain ⟨f0, I0, a0, A0, B0, N0, c0, M0, d0', rfl, hi0, hN0, hx0, he0, hM0, hF0, hc0, hce0⟩ := snap_in hsz (j := 0) rfl rfl (hval 0 27 v0 rfl rfl) h0
  have hw := snbytes_walk f0 I0 a0 A0 B0 N0 c0 M0 d0' W hi0 hN0 hx0 he0 hM0 hF0 hc0 hce0 (cut_of hsh)
  refine hw.mono fun e W' ⟨he, hb⟩ => ?_
  subst he
  exact ⟨_, rfl, law_post Tryz.laidOut hW' rfl (of_decide_eq_true (by kernel_rfl)) (by kernel_rfl) Tryz.underlying4 rfl rfl rfl hb⟩

theorem snbytes_holds : Rows.SnapBytesSaid :=
  OpenClaim.holds_of_wide 3 Tryz.f3 rfl rfl rfl rfl rfl rfl rfl ⟨rfl, rfl, rfl, rfl, rfl⟩ rfl rfl rfl rfl rfl (by kernel_rfl) Tryz.func3 (by kernel_rfl)
    (of_decide_eq_true (by kernel_rfl)) (by unfold Func.isWrapper; first | (rw [if_pos (by decide +kernel)]; kernel_rfl) | (rw [if_neg (by decide +kernel)]; exact ⟨rfl, rfl⟩))
    (fun os started H enc _ => snbytes_lifted os started H enc)

end Go.Proofs.YtejljikikhecnaaGreat
