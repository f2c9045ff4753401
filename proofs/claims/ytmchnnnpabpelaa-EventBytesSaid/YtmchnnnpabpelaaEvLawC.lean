/-
  hedgerowlaw06.EventCuts: the walk: for all events, cuts and bytes the call returns true, and nothing that was there has turned. Conditions: CutOk, lengths.
-/
import Derived.Test.YtmchnnnpabpelaaEvLawR
import Derived.Test.YtmchnnnpabpelaaEvMath
import Derived.Lib.AppendZeros
namespace Go.Proofs.Ytmchnnnpabpelaa
open Go.RowKit

theorem ebytes_no (e : Ev) (h : okB e = false) (hl : Lens e) (w : World) (hw : CutOk w) : Calls Try.prog 17 #[evV e] w fun x w' => ∃ v, x = .returned (.tuple #[v, .int .i64 1]) ∧ w'.ownsRow w.heap.size 5 1 v 0 [] ∧ Below w.heap.size w w' := by
  have := ebytes_any e w hl hw
  unfold bytL at this
  rw [h] at this
  exact this
theorem ebytes_yes (e : Ev) (h : okB e = true) (hl : Lens e) (w : World) (hw : CutOk w) : Calls Try.prog 17 #[evV e] w fun x w' => ∃ v, x = .returned (.tuple #[v, .int .i64 0]) ∧ w'.ownsRow w.heap.size 5 1 v (bytesE e).length (bs (bytesE e)) ∧ Below w.heap.size w w' := by
  have := ebytes_any e w hl hw
  unfold bytL at this
  rw [h] at this
  exact this
theorem bytesE_small (e : Ev) (hl : Tiny e) : (bytesE e).length ≤ 10000000 := by
  obtain ⟨l1, l2, l3, l4, l5⟩ := hl
  have h1 := putB_len e.r; have h2 := putB_len e.c; have h3 := pastB_len e.p 16; have h4 := putB_len e.op; have h5 := putB_len e.ek; have h6 := txtB_len e.a; have h7 := txtB_len e.b; have h8 := txtB_len e.cc; have h9 := txtB_len e.d; have h10 := putB_len e.vk; have h11 := sigB_len e.vn; have h12 := txtB_len e.t
  simp only [bytesE, b11, b10, b9, b8, b7, b6, b5, b4, b3, b2, b1, List.length_append, List.length_nil]
  omega
theorem bytesE_pos (e : Ev) (h : okB e = true) (hl : Lens e) : 0 < (bytesE e).length := by
  rcases Nat.eq_zero_or_pos (bytesE e).length with h0 | h0
  · exfalso
    have h1 : bytesE e = [] := List.eq_nil_of_length_eq_zero h0
    have h2 := (parse_back e h hl).1
    rw [h1] at h2
    exact absurd h2 (by decide +kernel)
  · exact h0
theorem parse_is (v : Value) (l : List UInt8) (w : World) (hv : Sl bv w v l) (hl : l.length ≤ 4294967280) (hw : CutOk w) (c : Int) (hc : parsC l = c) : Calls Try.prog 18 #[v] w (Gives w (.tuple #[evV (parsE l), .int .i64 c])) := by
  have := eparse_any v l w hv hl hw; rwa [hc] at this

set_option maxRecDepth 100000 in
set_option maxHeartbeats 1500000 in
theorem eventcuts_walk (e : Ev) (z : Int) (v2 : Value) (m : List UInt8) (w : World) (hf : Fit e) (hw : CutOk w) (hz0 : 0 ≤ z ∧ z ≤ 65535) (hm : Sl bv w v2 m) (hlm : m.length ≤ 140737488355328) :
    Calls Try.prog 5 #[evV e, .int .u16 z, v2] w (Gives w (.bool true)) := by
  obtain ⟨zn, rfl⟩ := Int.eq_ofNat_of_zero_le hz0.1
  have HSh := Lib.hid (short_is e hf)
  obtain ⟨X, hX⟩ : ∃ X, X = w.alloc (.cells (evC e) 31) := ⟨_, rfl⟩
  have hk : EB X w.heap.size e := by rw [hX]; exact EB.new_ w e
  have hy : Below w.heap.size w X := by rw [hX]; exact (Below.refl _ _).alloc (Nat.le_refl _) _
  have HX := Lib.hid hX
  have K0 := Lib.hid hk
  have Y0 := Lib.hid hy
  have W0 := Lib.hid (hw.below hy)
  have M0 := Lib.hid (hm.below hy)
  obtain ⟨Am, cm, rfl⟩ := hm.form
  clear hX hk hy hf hw hm
  unfold evV at *
  go_enter Try.func5, Try.ntmps5
  go_upto_region 1 with fail
  rw [← HX.out]
  go_wp2_with fail
  refine (efixed_any _ W0.out).mono ?_
  rintro x1 A1 ⟨rfl, hb⟩
  have K1 := Lib.hid (EB.keep K0.out hb)
  have Y1 := Lib.hid (Y0.out.trans (hb.mono Y0.out.size))
  have W1 := Lib.hid (CutOk.below W0.out hb)
  have M1 := Lib.hid (M0.out.below hb)
  clear hb K0 Y0 W0 M0
  cases hs : shortB e
  · have HS := Lib.hid (HSh.out _ hs)
    clear HSh hs
    go_wp2_with (refine wpList_load_if rfl 31 (.tmp 3) rfl w.heap.size rfl _ _ _ _ K1.out Try.underlying31 rfl (sizeE _) ?_)
    refine (HS.out _).mono ?_
    rintro x2 A2 ⟨rfl, hb⟩
    have Y2 := Lib.hid (Y1.out.trans (hb.mono Y1.out.size))
    clear hb
    go_wp2
    go_ret
    exact ⟨rfl, Y2.out⟩
  · have HS := Lib.hid (HSh.out _ hs)
    have HL := Lib.hid (short_lens e hs)
    have HT := Lib.hid (short_tiny e hs)
    clear HSh hs
    by_cases h100 : 100 < m.length
    · have hd : decide ((100 : Int) < (m.length : Nat)) = true := decide_eq_true (by omega)
      go_wp2_with (refine wpList_load_if rfl 31 (.tmp 3) rfl w.heap.size rfl _ _ _ _ K1.out Try.underlying31 rfl (sizeE _) ?_)
      refine (HS.out _).mono ?_
      rintro x2 A2 ⟨rfl, hb⟩
      have Y2 := Lib.hid (Y1.out.trans (hb.mono Y1.out.size))
      clear hb
      go_wp2
      go_ret
      exact ⟨rfl, Y2.out⟩
    · have hd : decide ((100 : Int) < (m.length : Nat)) = false := decide_eq_false (by omega)
      go_wp2_with (refine wpList_load_if rfl 31 (.tmp 3) rfl w.heap.size rfl _ _ _ _ K1.out Try.underlying31 rfl (sizeE _) ?_)
      refine (HS.out _).mono ?_
      rintro x2 A2 ⟨rfl, hb⟩
      have K2 := Lib.hid (EB.keep K1.out hb)
      have Y2 := Lib.hid (Y1.out.trans (hb.mono Y1.out.size))
      have W2 := Lib.hid (CutOk.below W1.out hb)
      have M2 := Lib.hid (M1.out.below hb)
      clear hb K1 Y1 W1 M1 HS
      cases ho : okB e
      · have HB := Lib.hid (ebytes_no e ho HL.out)
        clear ho
        go_wp2_with (refine wpList_load_if rfl 31 (.tmp 3) rfl w.heap.size rfl _ _ _ _ K2.out Try.underlying31 rfl (sizeE _) ?_)
        refine (HB.out _ W2.out).mono ?_
        rintro x3 A3 ⟨v, rfl, hown, hb⟩
        have Y3 := Lib.hid (Y2.out.trans (hb.mono Y2.out.size))
        obtain ⟨P, c, rfl⟩ := own_form hown
        clear hb hown
        go_wp2
        go_ret
        exact ⟨rfl, Y3.out⟩
      · have HB := Lib.hid (ebytes_yes e ho HL.out)
        have hpos := bytesE_pos e ho HL.out
        have hsm := bytesE_small e HT.out
        have hcut := parse_cut e ho HL.out
        have hmore := parse_more e ho HL.out
        have hback := parse_back e ho HL.out
        have HCut := Lib.hid hcut
        have HMore := Lib.hid hmore
        have HBack := Lib.hid hback
        clear ho hcut hmore hback
        generalize bytesE e = L at *
        obtain ⟨n, hn⟩ : ∃ n, L.length = n := ⟨_, rfl⟩
        have HN := Lib.hid hn
        rw [hn] at hpos hsm
        clear hn
        obtain ⟨k, hk⟩ : ∃ k, zn % n = k := ⟨_, rfl⟩
        have hkn : k < n := by rw [← hk]; exact Nat.mod_lt _ hpos
        have hm1 : (zn : Int) % (n : Int) = (k : Nat) := by rw [← hk]; omega
        have hm2 : Int.tmod (zn : Int) (n : Int) = (k : Nat) := by rw [Int.tmod_eq_emod_of_nonneg (by omega)]; exact hm1
        clear hk
        have HM1 := Lib.hid hm1
        have HM2 := Lib.hid hm2
        clear hm1 hm2
        go_wp2_with (refine wpList_load_if rfl 31 (.tmp 3) rfl w.heap.size rfl _ _ _ _ K2.out Try.underlying31 rfl (sizeE _) ?_)
        refine (HB.out _ W2.out).mono ?_
        rintro x3 A3 ⟨v, rfl, hown, hb⟩
        have K3 := Lib.hid (EB.keep K2.out hb)
        have Y3 := Lib.hid (Y2.out.trans (hb.mono Y2.out.size))
        have W3 := Lib.hid (CutOk.below W2.out hb)
        have M3 := Lib.hid (M2.out.below hb)
        have S3 := Lib.hid (Sl.of_own hown)
        rw [HN.out] at hown
        obtain ⟨P, c, rfl⟩ := own_form hown
        have hc := S3.out.len.2
        rw [HN.out] at hc
        clear hb hown K2 Y2 W2 M2 HB
        have hm1 := HM1.out
        have hm2 := HM2.out
        have LC := Lib.hid (show (L.take k).length ≤ 4294967280 by rw [List.length_take, HN.out]; omega)
        have SC := Lib.hid (S3.out.hi k (by omega))
        have PC := Lib.hid (HCut.out k (by rw [HN.out]; exact hkn))
        generalize L.take k = LT at *
        go_wp2_with (refine wpList_slice_hi (o := ⟨some 40, _, _, _, _, _⟩) rfl 43 5 _ _ rfl Try.underlying43 (by kernel_rfl) P n c k rfl rfl (by omega) ?_)
        clear hm1 hm2
        refine (parse_is _ LT _ SC.out LC.out W3.out 2 PC.out).mono ?_
        rintro x4 A4 ⟨rfl, hb⟩
        generalize parsE LT = EX
        have K4 := Lib.hid (EB.keep K3.out hb)
        have Y4 := Lib.hid (Y3.out.trans (hb.mono Y3.out.size))
        have W4 := Lib.hid (CutOk.below W3.out hb)
        have M4 := Lib.hid (M3.out.below hb)
        have S4 := Lib.hid (S3.out.below hb)
        clear hb K3 Y3 W3 M3 S3 SC LC PC HM1 HM2 HCut
        have hz := (zero_of_info zeroE).1
        have NN := Lib.hid (EB.new_ A4 ev0)
        unfold evV
        go_upto_region 9 with (refine wpList_store_row rfl 31 (.tmp 9) (.tmp 42) rfl A4.heap.size (evC EX) rfl rfl _ _ NN.out (sizeE _) rfl (evC_one _) ?_)
        have HZ := Lib.hid hz
        clear hz
        have hbb : Below A4.heap.size A4 ((A4.alloc (.cells (evC ev0) 31)).setRow A4.heap.size (evC EX)) := ((Below.refl _ _).alloc (Nat.le_refl _) _).trans (setRow_below _ _ _ _ (Nat.le_refl _))
        generalize (A4.alloc (.cells (evC ev0) 31)).setRow A4.heap.size (evC EX) = A5 at *
        have K5 := Lib.hid (EB.keep K4.out hbb)
        have Y5 := Lib.hid (Y4.out.trans (hbb.mono Y4.out.size))
        have W5 := Lib.hid (CutOk.below W4.out hbb)
        have M5 := Lib.hid (M4.out.below hbb)
        have S5 := Lib.hid (S4.out.below hbb)
        clear hbb K4 Y4 W4 M4 S4 NN
        obtain ⟨i0, hi, hz0', hz1, hz2⟩ := info_parts infoB
        have hw1 : (A5.alloc (.cells #[] 5)).ownsRow A5.heap.size 5 1 (.slice (some ⟨A5.heap.size, 0, none⟩) 0 0) 0 [] := World.ownsRow_made A5 #[] 0 (Nat.le_refl _) (by unfold maxLen; omega) rfl
        have hba : Below A5.heap.size A5 (A5.alloc (.cells #[] 5)) := (Below.refl _ _).alloc (Nat.le_refl _) _
        obtain ⟨va, B1, hr1, ho1, hg1⟩ := run_append_sl (P := Try.prog) (A5.alloc (.cells #[] 5)) A5.heap.size 43 43 5 i0 (.int .u8 0) 1 Try.underlying43 hi hz0' hz1 hz2 rfl _ _ _ hw1 _ L (S5.out.below hba) (fun _ => rfl) (by rw [HN.out]; omega) (by rw [HN.out]; omega) hba.size
        have hb1 : Below A5.heap.size A5 B1 := hba.grown hg1 hba.size (fun q hq => (hw1.lt q hq).1)
        rw [Nat.zero_add, List.nil_append] at ho1
        obtain ⟨vb, B2, hr2, ho2, hg2⟩ := run_append_sl (P := Try.prog) B1 A5.heap.size 43 43 5 i0 (.int .u8 0) 1 Try.underlying43 hi hz0' hz1 hz2 rfl _ _ _ ho1 _ m (M5.out.below hb1) (fun _ => rfl) (by rw [HN.out]; omega) (by rw [HN.out]; omega) hb1.size
        have hb2 : Below A5.heap.size A5 B2 := hb1.grown hg2 hb1.size (fun q hq => (ho1.lt q hq).1)
        have hb3 : B2.ownsRow A5.heap.size 5 1 vb (L ++ m).length (bs (L ++ m)) := by rw [List.length_append, bs_append]; exact ho2
        have SB := Lib.hid (Sl.of_own hb3)
        rw [HN.out] at ho1
        obtain ⟨PA, ca, rfl⟩ := own_form ho1
        obtain ⟨q, hq⟩ : ∃ q, (L ++ m).length = q := ⟨_, rfl⟩
        rw [hq] at hb3
        obtain ⟨PB, cb, rfl⟩ := own_form hb3
        have HQ := Lib.hid hq
        clear hq
        have HR1 := Lib.hid hr1
        have HR2 := Lib.hid hr2
        have K6 := Lib.hid (EB.keep K5.out hb2)
        have Y6 := Lib.hid (Y5.out.trans (hb2.mono Y5.out.size))
        have W6 := Lib.hid (CutOk.below W5.out hb2)
        have LB := Lib.hid (show (L ++ m).length ≤ 4294967280 by rw [List.length_append, HN.out]; omega)
        clear hr1 ho1 hr2 ho2 hg1 hg2 hb1 hb2 hb3 hw1 hba hi hz0' hz1 hz2 K5 Y5 W5 M5 S5
        go_wp2_with (first
          | (refine Lib.wpList_append_run (o := ⟨some 47, _, _, _, _, _⟩) _ rfl _ _ _ _ rfl _ _ rfl rfl _ _ HR1.out ?_)
          | (refine Lib.wpList_append_run (o := ⟨some 49, _, _, _, _, _⟩) _ rfl _ _ _ _ rfl _ _ rfl rfl _ _ HR2.out ?_))
        cases m with
        | nil =>
          refine (parse_is _ _ _ SB.out LB.out W6.out 0 (by rw [List.append_nil]; exact HBack.out.1)).mono ?_
          rintro x7 A7 ⟨rfl, hb⟩
          have HSame := Lib.hid (same_evC HBack.out.2)
          rw [List.append_nil]
          generalize parsE L = EY at *
          have K7 := Lib.hid (EB.keep K6.out hb)
          have Y7 := Lib.hid (Y6.out.trans (hb.mono Y6.out.size))
          clear hb K6 Y6 W6 SB LB
          have hz := HZ.out
          have NN := Lib.hid (EB.new_ A7 ev0)
          unfold evV
          go_upto_region 10 with (refine wpList_store_row rfl 31 (.tmp 11) (.tmp 51) rfl A7.heap.size (evC EY) rfl rfl _ _ NN.out (sizeE _) rfl (evC_one _) ?_)
          clear hz
          have hbb : Below A7.heap.size A7 ((A7.alloc (.cells (evC ev0) 31)).setRow A7.heap.size (evC EY)) := ((Below.refl _ _).alloc (Nat.le_refl _) _).trans (setRow_below _ _ _ _ (Nat.le_refl _))
          have hq : EB ((A7.alloc (.cells (evC ev0) 31)).setRow A7.heap.size (evC EY)) A7.heap.size EY := setRow_blk _ _ _ _ _ NN.out
          generalize (A7.alloc (.cells (evC ev0) 31)).setRow A7.heap.size (evC EY) = A8 at *
          have Q8 := Lib.hid hq
          have K8 := Lib.hid (EB.keep K7.out hbb)
          have Y8 := Lib.hid (Y7.out.trans (hbb.mono Y7.out.size))
          clear hq hbb K7 Y7 NN
          have heq := fun w => eq_same HSame.out w
          unfold evV at heq
          have hgd := fun (x y : Operand) (a b : Array Value) (w : World) => guard_agg 31 (by kernel_rfl) x y a b w
          go_wp2_with (first
            | (refine wpList_load_if rfl 31 (.tmp 11) rfl A7.heap.size rfl _ _ _ _ Q8.out Try.underlying31 rfl (sizeE _) ?_)
            | (refine wpList_load_if rfl 31 (.tmp 3) rfl w.heap.size rfl _ _ _ _ K8.out Try.underlying31 rfl (sizeE _) ?_))
          go_ret
          exact ⟨rfl, Y8.out⟩
        | cons xm tm =>
          refine (parse_is _ _ _ SB.out LB.out W6.out 2 (HMore.out _ (by simp))).mono ?_
          rintro x7 A7 ⟨rfl, hb⟩
          generalize parsE (L ++ xm :: tm) = EY
          have K7 := Lib.hid (EB.keep K6.out hb)
          have Y7 := Lib.hid (Y6.out.trans (hb.mono Y6.out.size))
          clear hb K6 Y6 W6 SB LB
          have hz := HZ.out
          have NN := Lib.hid (EB.new_ A7 ev0)
          unfold evV
          go_upto_region 10 with (refine wpList_store_row rfl 31 (.tmp 11) (.tmp 51) rfl A7.heap.size (evC EY) rfl rfl _ _ NN.out (sizeE _) rfl (evC_one _) ?_)
          clear hz
          have hbb : Below A7.heap.size A7 ((A7.alloc (.cells (evC ev0) 31)).setRow A7.heap.size (evC EY)) := ((Below.refl _ _).alloc (Nat.le_refl _) _).trans (setRow_below _ _ _ _ (Nat.le_refl _))
          have hq : EB ((A7.alloc (.cells (evC ev0) 31)).setRow A7.heap.size (evC EY)) A7.heap.size EY := setRow_blk _ _ _ _ _ NN.out
          generalize (A7.alloc (.cells (evC ev0) 31)).setRow A7.heap.size (evC EY) = A8 at *
          have Q8 := Lib.hid hq
          have K8 := Lib.hid (EB.keep K7.out hbb)
          have Y8 := Lib.hid (Y7.out.trans (hbb.mono Y7.out.size))
          clear hq hbb K7 Y7 NN
          have hl0 : ((((xm :: tm).length : Nat) : Int) == 0) = false := by rw [beq_eq_false_iff_ne]; simp; omega
          go_wp2
          go_ret
          exact ⟨rfl, Y8.out⟩

end Go.Proofs.Ytmchnnnpabpelaa
