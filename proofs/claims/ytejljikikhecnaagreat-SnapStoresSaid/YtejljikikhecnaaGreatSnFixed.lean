/-
  hedgerowlaw12.fixed: the contract, by a walk. Conditions: CutOk.
-/
import Derived.Test.YtejljikikhecnaaGreatSnOne
namespace Go.Proofs.YtejljikikhecnaaGreat
open Go.RowKit Go.MapKept Go.Sort

theorem sbytes_zero (w : World) (hw : CutOk w) : Calls Tryz.prog 8 #[sV fz (.slice none 0 0) (.slice none 0 0)] w fun e w' => ∃ A c, e = .returned (.tuple #[.slice A 18 c, .int .i64 0]) ∧ Sl bv w' (.slice A 18 c) (bytesS fz [] []) ∧ Below w.heap.size w w' := by
  refine (sbytes_any fz [] [] none none 0 0 0 0 w (itsNil w) rfl (by decide) (fun q hq => by cases hq) (SlK.nil_ _ _ _) rfl (by decide) (fun e he => by cases he) hw (by rw [bytesS_zero]; decide)).mono ?_
  rintro e w' ⟨v, rfl, ho, hb⟩
  rw [rightS_zero, if_pos rfl] at ho
  have hs : Sl bv w' v (bytesS fz [] []) := Sl.of_own ho
  obtain ⟨A, c, rfl⟩ := hs.form
  rw [bytesS_zero] at hs ⊢
  exact ⟨A, c, by rw [rightS_zero]; rfl, hs, hb⟩
theorem sparse_zero (v : Value) (w : World) (hv : Sl bv w v (bytesS fz [] [])) (hw : CutOk w) : Calls Tryz.prog 11 #[v] w fun e w' => ∃ A c B d, e = .returned (.tuple #[sV fz (.slice A 0 c) (.slice B 0 d), .int .i64 0]) ∧ ItsIs w' (.slice A 0 c) [] ∧ SlK encE 27 w' (.slice B 0 d) [] ∧ Below w.heap.size w w' := by
  obtain ⟨r1, r2, r3, r4, r5⟩ := read_zero
  refine (sparse_any v _ w hv (by rw [bytesS_zero]; decide) hw (fun _ => by rw [r3, r4]; exact ⟨by decide, (fun q hq => by cases hq), by decide, (fun e he => by cases he)⟩)).mono ?_
  rintro e w' ⟨f, A, a, c, B, b, d, rfl, h1, _, hb⟩
  obtain ⟨rfl, rfl, rfl, hi, he⟩ := h1 r1
  rw [r3] at hi
  rw [r4] at he
  rw [r1, r2, r3, r4]
  exact ⟨A, c, B, d, rfl, hi, he, hb⟩
theorem sparse_one (v : Value) (w : World) (hv : Sl bv w v [1]) (hw : CutOk w) : Calls Tryz.prog 11 #[v] w fun e w' => ∃ A c B d, e = .returned (.tuple #[sV fz (.slice A 0 c) (.slice B 0 d), .int .i64 2]) ∧ Below w.heap.size w w' := by
  have hn : ¬ rDone (sE [1]).2 = true := by
    intro h
    have := snC_one
    unfold snC at this
    rw [h, if_pos rfl] at this
    split at this <;> omega
  refine (sparse_any v _ w hv (by decide) hw (fun h => absurd h hn)).mono ?_
  rintro e w' ⟨f, A, a, c, B, b, d, rfl, _, h2, hb⟩
  obtain ⟨rfl, rfl, rfl⟩ := h2 (by rw [snC_one]; decide)
  rw [snC_one]
  exact ⟨A, c, B, d, rfl, hb⟩
theorem sright_bad (v : Value) (w : World) (hv : SlK encE 27 w v [ev0]) (A : Option Addr) (c : Nat) (hA : v = .slice A 1 c) (hw : CutOk w) : Calls Tryz.prog 10 #[sV fz (.slice none 0 0) v] w (Gives w (.int .i64 1)) := by
  subst hA
  have := sright_any fz [] [ev0] none A 0 1 0 c w (itsNil w) rfl (by decide) (fun q hq => by cases hq) hv rfl (by decide) (fun e he => by
    have h : e = ev0 := by simpa using he
    rw [h]; exact lensZ) hw
  rw [rightS_bad] at this
  exact this
theorem bs1S (W : World) : (Instr.buildSlice 30 1 #[(0, .int .u8 1)]).run Tryz.prog W = .ok (.slice (some ⟨W.heap.size, 0, none⟩) 1 1) (W.alloc (.cells #[bv 1] 5)) := by unfold bv; go_simp
theorem sl_byte (W : World) : Sl bv (W.alloc (.cells #[bv 1] 5)) (.slice (some ⟨W.heap.size, 0, none⟩) 1 1) [1] := ⟨some ⟨W.heap.size, 0, none⟩, 1, rfl, by decide, fun _ => ⟨W.heap.size, 0, rfl, by simp, fun k x hk => by
  have hk0 : k = 0 := by have := (List.getElem?_eq_some_iff.1 hk).1; simp at this; exact this
  subst hk0
  have hx : x = 1 := by simpa using hk.symm
  subst hx
  exact (Blk.cell (Blk.new W _ _) 0).trans rfl⟩⟩

set_option maxRecDepth 100000 in
set_option maxHeartbeats 4000000 in
theorem sfixed_any (w : World) (hw : CutOk w) : Calls Tryz.prog 6 #[] w (Gives w (.bool true)) := by
  have HZ := Lib.hid (zero_of_info zeroSn).1
  have HWC := Lib.hid hw
  clear hw
  go_enter Tryz.func6, Tryz.ntmps6
  go_wp2_with (first
    | (refine wpList_val (o := ⟨some 9, _, _, _, _, _⟩) rfl (sV fz (.slice none 0 0) (.slice none 0 0)) w (by kernel_rfl) ?_)
    | fail)
  refine (sbytes_zero w HWC.out).mono ?_
  rintro e1 A1 ⟨P, c, rfl, hs, hb⟩
  have S1 := Lib.hid hs
  have Y1 := Lib.hid hb
  have C1 := Lib.hid (HWC.out.below hb)
  clear hs hb
  go_wp2_with fail
  refine (sparse_zero _ A1 S1.out C1.out).mono ?_
  rintro e2 A2 ⟨QA, qa, QB, qb, rfl, hi, he, hb⟩
  have I2 := Lib.hid hi
  have E2 := Lib.hid he
  have Y2 := Lib.hid (Y1.out.trans (hb.mono Y1.out.size))
  have C2 := Lib.hid (C1.out.below hb)
  clear hi he hb Y1 C1 S1
  have hz := HZ.out
  have NN := Lib.hid (SB.new_ A2 (fun _ => 0) (.slice none 0 0) (.slice none 0 0))
  unfold sV
  go_upto_region 3 with (refine wpList_store_row rfl 27 (.tmp 3) (.tmp 16) rfl A2.heap.size (sC fz (.slice QA 0 qa) (.slice QB 0 qb)) rfl rfl _ _ NN.out (sizeSn _ _ _) rfl (sC_one _ _ _ _ _ _ _) ?_)
  clear hz
  have hbb : Below A2.heap.size A2 ((A2.alloc (.cells (sC (fun _ => 0) (.slice none 0 0) (.slice none 0 0)) 27)).setRow A2.heap.size (sC fz (.slice QA 0 qa) (.slice QB 0 qb))) := ((Below.refl _ _).alloc (Nat.le_refl _) _).trans (setRow_below _ _ _ _ (Nat.le_refl _))
  have hq : SB ((A2.alloc (.cells (sC (fun _ => 0) (.slice none 0 0) (.slice none 0 0)) 27)).setRow A2.heap.size (sC fz (.slice QA 0 qa) (.slice QB 0 qb))) A2.heap.size fz (.slice QA 0 qa) (.slice QB 0 qb) := setRow_blk _ _ _ _ _ NN.out
  generalize (A2.alloc (.cells (sC (fun _ => 0) (.slice none 0 0) (.slice none 0 0)) 27)).setRow A2.heap.size (sC fz (.slice QA 0 qa) (.slice QB 0 qb)) = A3 at *
  obtain ⟨b3, hb3⟩ : ∃ b3, A2.heap.size = b3 := ⟨_, rfl⟩
  rw [hb3] at hq ⊢
  have F3 := Lib.hid hq
  have I3 := Lib.hid (I2.out.below hbb)
  have E3 := Lib.hid (E2.out.below hbb)
  have Y3 := Lib.hid (Y2.out.trans (hbb.mono Y2.out.size))
  have C3 := Lib.hid (C2.out.below hbb)
  clear hbb hq NN Y2 C2 I2 E2 hb3
  try simp only [Act.put]
  obtain ⟨A4, hA4⟩ : ∃ A4, A4 = A3.alloc (.cells #[bv 1] 5) := ⟨_, rfl⟩
  have hbb : Below A3.heap.size A3 A4 := by rw [hA4]; exact (Below.refl _ _).alloc (Nat.le_refl _) _
  have S4 := Lib.hid (show Sl bv A4 (.slice (some ⟨A3.heap.size, 0, none⟩) 1 1) [1] by rw [hA4]; exact sl_byte A3)
  have HA4 := Lib.hid hA4
  have F4 := Lib.hid (SB.keep F3.out hbb)
  have I4 := Lib.hid (I3.out.below hbb)
  have E4 := Lib.hid (E3.out.below hbb)
  have Y4 := Lib.hid (Y3.out.trans (hbb.mono Y3.out.size))
  have C4 := Lib.hid (C3.out.below hbb)
  clear hbb hA4 Y3 C3 I3 E3 F3
  go_wp2_with (first
    | (refine wpList_val (o := ⟨some 19, _, _, _, _, _⟩) rfl (.slice (some ⟨A3.heap.size, 0, none⟩) 1 1) A4 (by rw [HA4.out]; exact run_buildSlice_op (vs := #[(0, .int .u8 1)]) rfl (by simp only [List.map_toArray, List.map_cons, List.map_nil]; rfl) (bs1S A3)) ?_)
    | fail)
  refine (sparse_one _ A4 S4.out C4.out).mono ?_
  rintro e3 A5 ⟨P5, p5, Q5, q5, rfl, hb⟩
  have F5 := Lib.hid (SB.keep F4.out hb)
  have I5 := Lib.hid (I4.out.below hb)
  have E5 := Lib.hid (E4.out.below hb)
  have Y5 := Lib.hid (Y4.out.trans (hb.mono Y4.out.size))
  have C5 := Lib.hid (C4.out.below hb)
  clear hb Y4 C4 I4 E4 F4 S4
  have hz := HZ.out
  have NN := Lib.hid (SB.new_ A5 (fun _ => 0) (.slice none 0 0) (.slice none 0 0))
  unfold sV
  go_upto_region 4 with (refine wpList_store_row rfl 27 (.tmp 5) (.tmp 21) rfl A5.heap.size (sC fz (.slice P5 0 p5) (.slice Q5 0 q5)) rfl rfl _ _ NN.out (sizeSn _ _ _) rfl (sC_one _ _ _ _ _ _ _) ?_)
  clear hz
  have hbb : Below A5.heap.size A5 ((A5.alloc (.cells (sC (fun _ => 0) (.slice none 0 0) (.slice none 0 0)) 27)).setRow A5.heap.size (sC fz (.slice P5 0 p5) (.slice Q5 0 q5))) := ((Below.refl _ _).alloc (Nat.le_refl _) _).trans (setRow_below _ _ _ _ (Nat.le_refl _))
  generalize (A5.alloc (.cells (sC (fun _ => 0) (.slice none 0 0) (.slice none 0 0)) 27)).setRow A5.heap.size (sC fz (.slice P5 0 p5) (.slice Q5 0 q5)) = A6 at *
  have F6 := Lib.hid (SB.keep F5.out hbb)
  have I6 := Lib.hid (I5.out.below hbb)
  have E6 := Lib.hid (E5.out.below hbb)
  have Y6 := Lib.hid (Y5.out.trans (hbb.mono Y5.out.size))
  have C6 := Lib.hid (C5.out.below hbb)
  clear hbb NN Y5 C5 I5 E5 F5
  try simp only [Act.put]
  obtain ⟨A7, hA7⟩ : ∃ A7, A7 = A6.alloc (.cells (evC ev0) 49) := ⟨_, rfl⟩
  have hbb : Below A6.heap.size A6 A7 := by rw [hA7]; exact (Below.refl _ _).alloc (Nat.le_refl _) _
  have S7 := Lib.hid (show SlK encE 27 A7 (.slice (some ⟨A6.heap.size, 0, none⟩) 1 1) [ev0] by rw [hA7]; exact sl_one ev0 A6)
  have HA7 := Lib.hid hA7
  have F7 := Lib.hid (SB.keep F6.out hbb)
  have I7 := Lib.hid (I6.out.below hbb)
  have E7 := Lib.hid (E6.out.below hbb)
  have Y7 := Lib.hid (Y6.out.trans (hbb.mono Y6.out.size))
  have C7 := Lib.hid (C6.out.below hbb)
  clear hbb hA7 Y6 C6 I6 E6 F6
  obtain ⟨b7, hb7⟩ : ∃ b7, A6.heap.size = b7 := ⟨_, rfl⟩
  have S7' := Lib.hid (show SlK encE 27 A7 (.slice (some ⟨b7, 0, none⟩) 1 1) [ev0] by rw [← hb7]; exact S7.out)
  have HB7 := Lib.hid hb7
  clear hb7 S7
  have hz := HZ.out
  have NN := Lib.hid (SB.new_ A7 (fun _ => 0) (.slice none 0 0) (.slice none 0 0))
  go_upto_region 5 with (first
    | (refine wpList_val (o := ⟨some 23, _, _, _, _, _⟩) rfl (.agg (evC ev0)) A6 (by kernel_rfl) ?_)
    | (refine wpList_val (o := ⟨some 24, _, _, _, _, _⟩) rfl (.slice (some ⟨b7, 0, none⟩) 1 1) A7 (by rw [HA7.out, ← HB7.out]; exact run_buildSlice_op (vs := #[(0, .agg (evC ev0))]) rfl (by simp only [List.map_toArray, List.map_cons, List.map_nil]; rfl) (bsEv ev0 A6)) ?_)
    | (refine wpList_val (o := ⟨some 25, _, _, _, _, _⟩) rfl (.agg (sC fz (.slice none 0 0) (.slice (some ⟨b7, 0, none⟩) 1 1))) A7 (by kernel_rfl) ?_)
    | (refine wpList_store_row rfl 27 (.tmp 7) (.tmp 25) rfl A7.heap.size (sC fz (.slice none 0 0) (.slice (some ⟨b7, 0, none⟩) 1 1)) rfl rfl _ _ NN.out (sizeSn _ _ _) rfl (sC_one _ _ _ _ _ _ _) ?_)
    | fail)
  clear hz
  have hbb : Below A7.heap.size A7 ((A7.alloc (.cells (sC (fun _ => 0) (.slice none 0 0) (.slice none 0 0)) 27)).setRow A7.heap.size (sC fz (.slice none 0 0) (.slice (some ⟨b7, 0, none⟩) 1 1))) := ((Below.refl _ _).alloc (Nat.le_refl _) _).trans (setRow_below _ _ _ _ (Nat.le_refl _))
  have hq : SB ((A7.alloc (.cells (sC (fun _ => 0) (.slice none 0 0) (.slice none 0 0)) 27)).setRow A7.heap.size (sC fz (.slice none 0 0) (.slice (some ⟨b7, 0, none⟩) 1 1))) A7.heap.size fz (.slice none 0 0) (.slice (some ⟨b7, 0, none⟩) 1 1) := setRow_blk _ _ _ _ _ NN.out
  generalize (A7.alloc (.cells (sC (fun _ => 0) (.slice none 0 0) (.slice none 0 0)) 27)).setRow A7.heap.size (sC fz (.slice none 0 0) (.slice (some ⟨b7, 0, none⟩) 1 1)) = A8 at *
  obtain ⟨b8, hb8⟩ : ∃ b8, A7.heap.size = b8 := ⟨_, rfl⟩
  rw [hb8] at hq ⊢
  have G8 := Lib.hid hq
  have S8 := Lib.hid (S7'.out.below hbb)
  have F8 := Lib.hid (SB.keep F7.out hbb)
  have I8 := Lib.hid (I7.out.below hbb)
  have E8 := Lib.hid (E7.out.below hbb)
  have Y8 := Lib.hid (Y7.out.trans (hbb.mono Y7.out.size))
  have C8 := Lib.hid (C7.out.below hbb)
  clear hbb hq NN Y7 C7 I7 E7 F7 S7' hb8
  try simp only [Act.put]
  go_wp2_with (first
    | (refine wpList_load_if rfl 27 (.tmp 3) rfl b3 rfl _ _ _ _ F8.out Tryz.underlying27 rfl (sizeSn _ _ _) ?_)
    | (refine wpList_val (o := ⟨some 39, _, _, _, _, _⟩) rfl (.agg (sC fz (.slice none 0 0) (.slice none 0 0))) A8 (by kernel_rfl) ?_)
    | fail)
  refine (ssame_true fz [] [] QA none QB none 0 0 qa 0 qb 0 A8 I8.out (itsNil A8) E8.out (SlK.nil_ _ _ _) rfl (by decide) rfl (by decide) (fun q hq => by cases hq)).mono ?_
  rintro e4 A9 ⟨rfl, hb⟩
  have G9 := Lib.hid (SB.keep G8.out hb)
  have S9 := Lib.hid (S8.out.below hb)
  have F9 := Lib.hid (SB.keep F8.out hb)
  have I9 := Lib.hid (I8.out.below hb)
  have Y9 := Lib.hid (Y8.out.trans (hb.mono Y8.out.size))
  have C9 := Lib.hid (C8.out.below hb)
  clear hb Y8 C8 I8 E8 F8 S8 G8
  go_wp2_with (first
    | (refine wpList_load_if rfl 27 (.tmp 7) rfl b8 rfl _ _ _ _ G9.out Tryz.underlying27 rfl (sizeSn _ _ _) ?_)
    | fail)
  refine (sright_bad _ A9 S9.out _ _ rfl C9.out).mono ?_
  rintro e5 A10 ⟨rfl, hb⟩
  have G10 := Lib.hid (SB.keep G9.out hb)
  have F10 := Lib.hid (SB.keep F9.out hb)
  have I10 := Lib.hid (I9.out.below hb)
  have Y10 := Lib.hid (Y9.out.trans (hb.mono Y9.out.size))
  clear hb Y9 C9 I9 F9 S9 G9
  go_wp2_with (first
    | (refine wpList_load_if rfl 27 (.tmp 7) rfl b8 rfl _ _ _ _ G10.out Tryz.underlying27 rfl (sizeSn _ _ _) ?_)
    | (refine wpList_load_if rfl 27 (.tmp 3) rfl b3 rfl _ _ _ _ F10.out Tryz.underlying27 rfl (sizeSn _ _ _) ?_)
    | fail)
  refine (ssame_diff fz none QA (some ⟨b7, 0, none⟩) QB 1 0 0 qa 1 qb A10 (itsNil A10) I10.out (by decide)).mono ?_
  rintro e6 A11 ⟨rfl, hb⟩
  have Y11 := Lib.hid (Y10.out.trans (hb.mono Y10.out.size))
  clear hb Y10 G10 F10 I10
  go_wp2
  go_ret
  exact ⟨rfl, Y11.out⟩

end Go.Proofs.YtejljikikhecnaaGreat
