/-
  hedgerowlaw14.fixed: the contract, by a walk. Conditions: CutOk.
-/
import Derived.Test.YtalaidlnhoonfaaQMg
import Derived.Test.YtalaidlnhoonfaaQMf
import Derived.Test.YtalaidlnhoonfaaMgRefParse
namespace Go.Proofs.Ytalaidlnhoonfaa
open Go.RowKit

theorem msgM_len (l : List UInt8) : (msgM l).2.length ≤ 10000 := by
  unfold msgM
  split
  · simp
  · unfold msgR readM
    cases hr : rdE (stM ((Fr.wholeF l).1, false)) (cntM ((Fr.wholeF l).1, false)) with
    | none => simp
    | some q =>
      obtain ⟨es, t⟩ := q
      have h1 := (rdE_le hr).1
      have h2 := cntM_le ((Fr.wholeF l).1, false)
      dsimp only
      cases rDone t
      · simp
      · simp only [if_true]
        split
        · show es.length ≤ _; omega
        · simp
theorem mbytes_one (w : World) (hw : CutOk w) : Calls Try.prog 9 #[mV mg1 (.slice none 0 0)] w fun e w' => ∃ A c, e = .returned (.tuple #[.slice A 28 c, .int .i64 0]) ∧ Sl bv w' (.slice A 28 c) (bytesM mg1 []) ∧ Below w.heap.size w w' := by
  refine (mbytes_any mg1 [] none 0 0 w (SlK.nil_ _ _ _) rfl (by decide) (fun e he => by cases he) hw (by decide)).mono ?_
  rintro e w' ⟨v, rfl, ho, hb⟩
  rw [right_one, if_pos rfl] at ho
  have hs : Sl bv w' v (bytesM mg1 []) := Sl.of_own ho
  obtain ⟨A, c, rfl⟩ := hs.form
  rw [len_one] at hs ⊢
  exact ⟨A, c, by rw [right_one]; rfl, hs, hb⟩
theorem mparse_one (v : Value) (w : World) (hv : Sl bv w v (bytesM mg1 [])) (hw : CutOk w) : Calls Try.prog 12 #[v] w fun e w' => ∃ A c, e = .returned (.tuple #[mV mg1 (.slice A 0 c), .int .i64 0]) ∧ Below w.heap.size w w' := by
  refine (mparse_any v _ w hv (by rw [len_one]; decide) hw).mono ?_
  rintro e w' ⟨A, c, rfl, ho, hb⟩
  rw [msg_one.1, msg_one.2]
  exact ⟨A, c, rfl, hb⟩
theorem mparse_cut (v : Value) (w : World) (hv : Sl bv w v ((bytesM mg1 []).drop 1)) (hw : CutOk w) : Calls Try.prog 12 #[v] w fun e w' => ∃ m A n c x, e = .returned (.tuple #[mV m (.slice A n c), .int .i64 ((x : Nat) : Int)]) ∧ x ≠ 0 ∧ Below w.heap.size w w' := by
  refine (mparse_any v _ w hv (by rw [List.length_drop, len_one]; decide) hw).mono ?_
  rintro e w' ⟨A, c, rfl, ho, hb⟩
  exact ⟨_, A, _, c, _, rfl, msg_cut, hb⟩
theorem mright_none (w : World) (hw : CutOk w) : Calls Try.prog 11 #[mV m0 (.slice none 0 0)] w (Gives w (.int .i64 1)) :=
  mright_is m0 [] none 0 0 false right_none w (SlK.nil_ _ _ _) rfl (by decide) (fun e he => by cases he) hw

set_option maxRecDepth 100000 in
set_option maxHeartbeats 4000000 in
theorem mfixed_any (w : World) (hw : CutOk w) : Calls Try.prog 7 #[] w (Gives w (.bool true)) := by
  have hz := (zero_of_info zeroM).1
  have HZ := Lib.hid hz
  have NN := Lib.hid (MB.new_ w m0 (.slice none 0 0))
  have HWC := Lib.hid hw
  clear hw
  unfold mV at *
  go_enter Try.func7, Try.ntmps7
  go_upto_region 2 with (first
    | (refine wpList_val (o := ⟨some 8, _, _, _, _, _⟩) rfl (.agg (mC mg1 (.slice none 0 0))) w (by kernel_rfl) ?_)
    | (refine wpList_store_row rfl 26 (.tmp 1) (.tmp 8) rfl w.heap.size (mC mg1 (.slice none 0 0)) rfl rfl _ _ NN.out (sizeM _ _) rfl (mC_one _ _ _ _) ?_)
    | fail)
  clear hz
  have hbb : Below w.heap.size w ((w.alloc (.cells (mC m0 (.slice none 0 0)) 26)).setRow w.heap.size (mC mg1 (.slice none 0 0))) := ((Below.refl _ _).alloc (Nat.le_refl _) _).trans (setRow_below _ _ _ _ (Nat.le_refl _))
  have hq : MB ((w.alloc (.cells (mC m0 (.slice none 0 0)) 26)).setRow w.heap.size (mC mg1 (.slice none 0 0))) w.heap.size mg1 (.slice none 0 0) := setRow_blk _ _ _ _ _ NN.out
  generalize (w.alloc (.cells (mC m0 (.slice none 0 0)) 26)).setRow w.heap.size (mC mg1 (.slice none 0 0)) = A1 at *
  have F1 := Lib.hid hq
  have Y1 := Lib.hid hbb
  have C1 := Lib.hid (HWC.out.below hbb)
  clear hbb hq NN
  try simp only [Act.put]
  go_wp2_with (first
    | (refine wpList_load_if rfl 26 (.tmp 1) rfl w.heap.size rfl _ _ _ _ F1.out Try.underlying26 rfl (sizeM _ _) ?_)
    | fail)
  refine (mbytes_one A1 C1.out).mono ?_
  rintro e1 A2 ⟨P, c, rfl, hs, hb⟩
  have S2 := Lib.hid hs
  have F2 := Lib.hid (MB.keep F1.out hb)
  have Y2 := Lib.hid (Y1.out.trans (hb.mono Y1.out.size))
  have C2 := Lib.hid (C1.out.below hb)
  clear hs hb F1 Y1 C1
  go_wp2_with fail
  refine (mparse_one _ A2 S2.out C2.out).mono ?_
  rintro e2 A3 ⟨P3, c3, rfl, hb⟩
  have S3 := Lib.hid (S2.out.below hb)
  have F3 := Lib.hid (MB.keep F2.out hb)
  have Y3 := Lib.hid (Y2.out.trans (hb.mono Y2.out.size))
  have C3 := Lib.hid (C2.out.below hb)
  clear hb F2 Y2 C2 S2
  have hz := HZ.out
  have NN := Lib.hid (MB.new_ A3 m0 (.slice none 0 0))
  unfold mV
  go_upto_region 6 with (refine wpList_store_row rfl 26 (.tmp 4) (.tmp 20) rfl A3.heap.size (mC mg1 (.slice P3 0 c3)) rfl rfl _ _ NN.out (sizeM _ _) rfl (mC_one _ _ _ _) ?_)
  clear hz
  have hbb : Below A3.heap.size A3 ((A3.alloc (.cells (mC m0 (.slice none 0 0)) 26)).setRow A3.heap.size (mC mg1 (.slice P3 0 c3))) := ((Below.refl _ _).alloc (Nat.le_refl _) _).trans (setRow_below _ _ _ _ (Nat.le_refl _))
  have hq : MB ((A3.alloc (.cells (mC m0 (.slice none 0 0)) 26)).setRow A3.heap.size (mC mg1 (.slice P3 0 c3))) A3.heap.size mg1 (.slice P3 0 c3) := setRow_blk _ _ _ _ _ NN.out
  generalize (A3.alloc (.cells (mC m0 (.slice none 0 0)) 26)).setRow A3.heap.size (mC mg1 (.slice P3 0 c3)) = A4 at *
  have G4 := Lib.hid hq
  have S4 := Lib.hid (S3.out.below hbb)
  have F4 := Lib.hid (MB.keep F3.out hbb)
  have Y4 := Lib.hid (Y3.out.trans (hbb.mono Y3.out.size))
  have C4 := Lib.hid (C3.out.below hbb)
  clear hbb hq F3 Y3 C3 NN S3
  go_wp2_with (refine wpList_slice_lo (o := ⟨some 24, _, _, _, _, _⟩) rfl 29 5 _ _ rfl Try.underlying29 (by kernel_rfl) P 28 c 1 rfl rfl (by decide) ?_)
  refine (mparse_cut _ A4 (S4.out.lo 1 (by decide)) C4.out).mono ?_
  rintro e3 A5 ⟨m5, P5, n5, c5, x5, rfl, hx, hb⟩
  have HX5 := Lib.hid hx
  have G5 := Lib.hid (MB.keep G4.out hb)
  have F5 := Lib.hid (MB.keep F4.out hb)
  have Y5 := Lib.hid (Y4.out.trans (hb.mono Y4.out.size))
  have C5 := Lib.hid (C4.out.below hb)
  clear hx hb F4 Y4 C4 S4 G4
  have hz := HZ.out
  have NN := Lib.hid (MB.new_ A5 m0 (.slice none 0 0))
  unfold mV
  go_upto_region 7 with (refine wpList_store_row rfl 26 (.tmp 6) (.tmp 26) rfl A5.heap.size (mC m5 (.slice P5 n5 c5)) rfl rfl _ _ NN.out (sizeM _ _) rfl (mC_one _ _ _ _) ?_)
  clear hz
  have hbb : Below A5.heap.size A5 ((A5.alloc (.cells (mC m0 (.slice none 0 0)) 26)).setRow A5.heap.size (mC m5 (.slice P5 n5 c5))) := ((Below.refl _ _).alloc (Nat.le_refl _) _).trans (setRow_below _ _ _ _ (Nat.le_refl _))
  generalize (A5.alloc (.cells (mC m0 (.slice none 0 0)) 26)).setRow A5.heap.size (mC m5 (.slice P5 n5 c5)) = A6 at *
  have G6 := Lib.hid (MB.keep G5.out hbb)
  have F6 := Lib.hid (MB.keep F5.out hbb)
  have Y6 := Lib.hid (Y5.out.trans (hbb.mono Y5.out.size))
  have C6 := Lib.hid (C5.out.below hbb)
  have x1 : ((x5 : Int) == 0) = false := by have := HX5.out; rw [beq_eq_false_iff_ne]; omega
  have x2 : ((x5 : Int) != 0) = true := by rw [bne, x1]; rfl
  clear hbb F5 Y5 C5 NN G5
  try simp only [Act.put]
  go_wp2_with (first
    | (refine wpList_load_if rfl 26 (.tmp 1) rfl w.heap.size rfl _ _ _ _ F6.out Try.underlying26 rfl (sizeM _ _) ?_)
    | (refine wpList_load_if rfl 26 (.tmp 4) rfl A3.heap.size rfl _ _ _ _ G6.out Try.underlying26 rfl (sizeM _ _) ?_)
    | fail)
  refine (msame_one none P3 0 c3 A6).mono ?_
  rintro e4 A7 ⟨rfl, hb⟩
  have F7 := Lib.hid (MB.keep F6.out hb)
  have Y7 := Lib.hid (Y6.out.trans (hb.mono Y6.out.size))
  have C7 := Lib.hid (C6.out.below hb)
  clear hb F6 Y6 C6 G6
  go_wp2_with (first
    | (refine wpList_val (o := ⟨some 49, _, _, _, _, _⟩) rfl (.agg (mC m0 (.slice none 0 0))) A7 (by kernel_rfl) ?_)
    | fail)
  refine (mright_none A7 C7.out).mono ?_
  rintro e5 A8 ⟨rfl, hb⟩
  have F8 := Lib.hid (MB.keep F7.out hb)
  have Y8 := Lib.hid (Y7.out.trans (hb.mono Y7.out.size))
  clear hb F7 Y7 C7
  go_wp2_with (first
    | (refine wpList_load_if rfl 26 (.tmp 1) rfl w.heap.size rfl _ _ _ _ F8.out Try.underlying26 rfl (sizeM _ _) ?_)
    | (refine wpList_val (o := ⟨some 55, _, _, _, _, _⟩) rfl (.agg (mC m0 (.slice none 0 0))) A8 (by kernel_rfl) ?_)
    | fail)
  refine (msame_none none none 0 0 A8).mono ?_
  rintro e6 A9 ⟨rfl, hb⟩
  have Y9 := Lib.hid (Y8.out.trans (hb.mono Y8.out.size))
  clear hb F8 Y8
  go_wp2
  go_ret
  exact ⟨rfl, Y9.out⟩

set_option maxRecDepth 100000 in
set_option maxHeartbeats 4000000 in
theorem mparses_walk (v : Value) (l : List UInt8) (w : World) (hv : Sl bv w v l) (hw : CutOk w) : Calls Try.prog 4 #[v] w (Gives w (.bool true)) := by
  have hz := (zero_of_info zeroM).1
  have HZ := Lib.hid hz
  have HV := Lib.hid hv
  have HW := Lib.hid hw
  obtain ⟨A, c, rfl⟩ := hv.form
  obtain ⟨n, hn⟩ : ∃ n, l.length = n := ⟨_, rfl⟩
  have HN := Lib.hid hn
  rw [hn] at HV ⊢
  clear hv hw hz hn
  go_enter Try.func4, Try.ntmps4
  go_wp2_with fail
  refine (mfixed_any w HW.out).mono ?_
  rintro e1 w1 ⟨rfl, hb⟩
  have V1 := Lib.hid (HV.out.below hb)
  have C1 := Lib.hid (HW.out.below hb)
  have B1 := Lib.hid hb
  clear hb
  by_cases hg : 600 < n
  · have d1 : decide ((600 : Int) < (n : Int)) = true := decide_eq_true (by omega)
    go_wp2
    go_ret
    exact ⟨rfl, B1.out⟩
  · have d1 : decide ((600 : Int) < (n : Int)) = false := decide_eq_false (by omega)
    have HL := Lib.hid (show l.length ≤ 600 by rw [HN.out]; omega)
    go_wp2_with fail
    refine (mparse_any _ l w1 V1.out (by have := HL.out; omega) C1.out).mono ?_
    rintro e2 w2 ⟨A2, c2, rfl, ho2, hb⟩
    obtain ⟨ms, hms⟩ : ∃ ms, msgM l = ms := ⟨_, rfl⟩
    obtain ⟨m, es⟩ := ms
    obtain ⟨x, hx⟩ : ∃ x, msgC l = x := ⟨_, rfl⟩
    rw [hms] at ho2 ⊢
    rw [hx]
    dsimp only at ho2 ⊢
    obtain ⟨N, hN⟩ : ∃ N, es.length = N := ⟨_, rfl⟩
    rw [hN] at ho2 ⊢
    have V2 := Lib.hid (V1.out.below hb)
    have B2 := Lib.hid (B1.out.trans (hb.mono B1.out.size))
    have O2 := Lib.hid ho2
    have HMs := Lib.hid hms
    have HXx := Lib.hid hx
    have HNN := Lib.hid hN
    clear hb ho2 hms hx hN hg d1
    have hz := HZ.out
    have NN := Lib.hid (MB.new_ w2 m0 (.slice none 0 0))
    unfold mV
    go_upto_region 6 with (refine wpList_store_row rfl 26 (.tmp 3) (.tmp 15) rfl w2.heap.size (mC m (.slice A2 N c2)) rfl rfl _ _ NN.out (sizeM _ _) rfl (mC_one _ _ _ _) ?_)
    clear hz
    have hbb : Below w2.heap.size w2 ((w2.alloc (.cells (mC m0 (.slice none 0 0)) 26)).setRow w2.heap.size (mC m (.slice A2 N c2))) := ((Below.refl _ _).alloc (Nat.le_refl _) _).trans (setRow_below _ _ _ _ (Nat.le_refl _))
    have hq : MB ((w2.alloc (.cells (mC m0 (.slice none 0 0)) 26)).setRow w2.heap.size (mC m (.slice A2 N c2))) w2.heap.size m (.slice A2 N c2) := setRow_blk _ _ _ _ _ NN.out
    generalize (w2.alloc (.cells (mC m0 (.slice none 0 0)) 26)).setRow w2.heap.size (mC m (.slice A2 N c2)) = w3 at *
    have G3 := Lib.hid hq
    have V3 := Lib.hid (V2.out.below hbb)
    have O3 := Lib.hid (OwnK.keep O2.out hbb)
    have B3 := Lib.hid (B2.out.trans (hbb.mono B2.out.size))
    clear hbb hq NN V2 O2
    try simp only [Act.put]
    go_wp2_with fail
    refine (Rf.refparse_any _ l w3 V3.out (by have := HL.out; omega)).mono ?_
    rintro e4 w4 ⟨A4, c4, rfl, ho4, hb⟩
    rw [refM_is l (by have := HL.out; omega), refC_is l (by have := HL.out; omega), HMs.out, HXx.out]
    rw [refM_is l (by have := HL.out; omega), HMs.out] at ho4
    dsimp only at ho4 ⊢
    rw [HNN.out] at ho4 ⊢
    have G4 := Lib.hid (MB.keep G3.out hb)
    have O4 := Lib.hid (OwnK.keep O3.out hb)
    have P4 := Lib.hid ho4
    have B4 := Lib.hid (B3.out.trans (hb.mono B3.out.size))
    clear hb ho4 G3 O3
    have hz := HZ.out
    have NN := Lib.hid (MB.new_ w4 m0 (.slice none 0 0))
    unfold mV
    go_upto_region 7 with (refine wpList_store_row rfl 26 (.tmp 5) (.tmp 20) rfl w4.heap.size (mC m (.slice A4 N c4)) rfl rfl _ _ NN.out (sizeM _ _) rfl (mC_one _ _ _ _) ?_)
    clear hz
    have hbb : Below w4.heap.size w4 ((w4.alloc (.cells (mC m0 (.slice none 0 0)) 26)).setRow w4.heap.size (mC m (.slice A4 N c4))) := ((Below.refl _ _).alloc (Nat.le_refl _) _).trans (setRow_below _ _ _ _ (Nat.le_refl _))
    have hq : MB ((w4.alloc (.cells (mC m0 (.slice none 0 0)) 26)).setRow w4.heap.size (mC m (.slice A4 N c4))) w4.heap.size m (.slice A4 N c4) := setRow_blk _ _ _ _ _ NN.out
    generalize (w4.alloc (.cells (mC m0 (.slice none 0 0)) 26)).setRow w4.heap.size (mC m (.slice A4 N c4)) = w5 at *
    have H5 := Lib.hid hq
    have G5 := Lib.hid (MB.keep G4.out hbb)
    have O5 := Lib.hid (OwnK.keep O4.out hbb)
    have P5 := Lib.hid (OwnK.keep P4.out hbb)
    have B5 := Lib.hid (B4.out.trans (hbb.mono B4.out.size))
    have x1 : ((x : Int) == (x : Int)) = true := beq_self_eq_true _
    clear hbb hq NN G4 O4 P4
    try simp only [Act.put]
    have HS := Lib.hid (refsame_true m es A2 A4 N c2 c4 w5 (O5.out.read encE_len) (P5.out.read encE_len) HNN.out (by
      have h1 := msgM_len l
      rw [HMs.out] at h1
      dsimp only at h1
      have := HNN.out
      omega))
    unfold mV at HS
    go_wp2_with (first
      | (refine wpList_load_if rfl 26 (.tmp 3) rfl w2.heap.size rfl _ _ _ _ G5.out Try.underlying26 rfl (sizeM _ _) ?_)
      | (refine wpList_load_if rfl 26 (.tmp 5) rfl w4.heap.size rfl _ _ _ _ H5.out Try.underlying26 rfl (sizeM _ _) ?_)
      | fail)
    refine HS.out.mono ?_
    rintro e6 w6 ⟨rfl, hb⟩
    have B6 := Lib.hid (B5.out.trans (hb.mono B5.out.size))
    clear hb
    go_wp2
    go_ret
    exact ⟨rfl, B6.out⟩

end Go.Proofs.Ytalaidlnhoonfaa
