/-
  hedgerowlaw01.fixed: the fixed facts hold in every world that holds the library's tables (WOk). Its last region draws its order: a rule for each operation (XOrder). Conditions: WOk.
-/
import Derived.Test.YtaehkgdfciomjaaDoorValConst
import Derived.Deep.DeepCutAuto
namespace Go.Proofs.YtaehkgdfciomjaaDoor
open Go.RowKit

theorem enterString (args : Array Value) (w : World) : (callFunc 7 args).run Tryd.prog w = .ok (.enter 7 args) w := by kernel_rfl
theorem enterCompare (args : Array Value) (w : World) : (callFunc 12 args).run Tryd.prog w = .ok (.enter 12 args) w := by kernel_rfl
theorem enterName (args : Array Value) (w : World) : (callFunc 15 args).run Tryd.prog w = .ok (.enter 15 args) w := by kernel_rfl
theorem enterElem (args : Array Value) (w : World) : (callFunc 16 args).run Tryd.prog w = .ok (.enter 16 args) w := by kernel_rfl
theorem enterOfLink (args : Array Value) (w : World) : (callFunc 17 args).run Tryd.prog w = .ok (.enter 17 args) w := by kernel_rfl

theorem string_its (w : World) (hw : WOk w) : Calls Tryd.prog 7 #[valV 3 0 sIts] w (Gives w (.string ⟨#[39, 105, 116, 92, 39, 115, 39]⟩)) := by
  have h := string_any 3 0 sIts w (by decide) hw
  rwa [show textB 3 0 sIts.data.toList = [39, 105, 116, 92, 39, 115, 39] from text_its] at h
theorem compare_7 (w : World) : Calls Tryd.prog 12 #[valV 2 (-7) ⟨#[]⟩, valV 5 0 sAKB] w (Gives w (.int .i64 (-1))) := by
  have h := compare_any 2 (-7) ⟨#[]⟩ 5 0 sAKB w
  rwa [show cmpB 2 (-7) (ByteArray.mk #[]).data.toList 5 0 sAKB.data.toList = -1 from cmp_7] at h
theorem name_yes (w : World) : Calls Tryd.prog 15 #[.string ⟨#[97, 95, 49]⟩] w (Gives w (.bool true)) := by
  have h := name_any ⟨#[97, 95, 49]⟩ w (by decide)
  rwa [show nameB (ByteArray.mk #[97, 95, 49]).data.toList = true from name_a1] at h
theorem name_no (w : World) : Calls Tryd.prog 15 #[.string ⟨#[49, 97]⟩] w (Gives w (.bool false)) := by
  have h := name_any ⟨#[49, 97]⟩ w (by decide)
  rwa [show nameB (ByteArray.mk #[49, 97]).data.toList = false from name_1a] at h
theorem link_akb (w : World) (hw : WOk w) : Calls Tryd.prog 14 #[valV 5 0 sAKB] w (Gives w (.tuple #[lkV [97] [98] [75], .bool true])) := by
  have h := link_any 5 0 sAKB w (by decide) hw.cut
  rwa [show linkR 5 0 sAKB.data.toList = .tuple #[lkV [97] [98] [75], .bool true] by
    show linkR 5 0 [97, 62, 75, 62, 98] = _
    unfold linkR nmV; rw [if_pos ⟨rfl, rfl⟩, nm_akb, nmA_akb, nmK_akb, nmT_akb]; rfl] at h
theorem ofLink_akb (w : World) : Calls Tryd.prog 17 #[lkV [97] [98] [75]] w (Gives w (valV 5 0 sAKB)) := by
  have h := ofLink_any ⟨#[97]⟩ ⟨#[98]⟩ ⟨#[75]⟩ w (by decide)
  rwa [show (⟨#[97]⟩ ++ ⟨#[62]⟩ ++ ⟨#[75]⟩ ++ ⟨#[62]⟩ ++ ⟨#[98]⟩ : ByteArray) = sAKB by kernel_rfl] at h

/-- What each operation of the last region yields. -/
def fixT : List Value := [valV 3 0 sIts, .string ⟨#[39, 105, 116, 92, 39, 115, 39]⟩, .bool true, .bool true, .bool true, .bool true, .bool true, valV 2 (-7) ⟨#[]⟩, valV 2 (-7) ⟨#[]⟩, .bool true, .bool true, .bool true, .bool true, .bool true, .bool true, .bool true, .bool true, .bool true, lkV [97] [98] [75], lkV [97] [98] [75], .bool true, .bool true, .bool true, .bool false, .bool true, .bool true, .bool true, valV 2 (-7) ⟨#[]⟩, valV 5 0 sAKB, .int .i64 (-1), .bool true, .bool true, .bool true, .bool true, .bool true, .bool true, .bool false, .bool true, .bool true, .bool true, elemV 1 ⟨#[97]⟩ ⟨#[]⟩ ⟨#[]⟩ ⟨#[]⟩, .bool true, .bool true, .bool true, lkV [97] [98] [75], valV 5 0 sAKB, valV 5 0 sAKB, .bool true, .bool true, .bool true]

set_option maxHeartbeats 4000000 in
set_option maxRecDepth 100000 in
theorem fixed_any (w : World) (hw : WOk w) : Calls Tryd.prog 6 #[] w (Gives w (.bool true)) := by
  have hwa := fun o => hw.alloc o
  go_enter Tryd.func6, Tryd.ntmps6
  go_wp2_with fail
  refine (parse_m7 _ (hwa _)).mono ?_
  rintro e w1 ⟨rfl, hb1⟩
  unfold valV
  have k1 := In1.of hb1
  have W1 : WOk w1 := hw.below k1.below
  have Ba := k1.blk
  have hc1 := k1.below
  clear hb1 k1 hw hwa
  have hwa := fun o => W1.alloc o
  go_wp2_with fail
  refine (parse_edge _ (hwa _)).mono ?_
  rintro e w2 ⟨rfl, hb2⟩
  unfold valV
  have k2 := In1.of hb2
  have W2 : WOk w2 := W1.below k2.below
  have Bb := k2.blk
  have Ba := Ba.below k2.below Ba.lt
  have hc2 := hc1.trans (k2.below.mono hc1.size)
  clear hb2 k2 hc1 W1 hwa
  have hwa := fun o => W2.alloc o
  go_wp2_with fail
  refine (link_akb _ (hwa _)).mono ?_
  rintro e w3 ⟨rfl, hb3⟩
  simp only [lkV, sv]
  have k3 := In1.of hb3
  have W3 : WOk w3 := W2.below k3.below
  have Bc := k3.blk
  have Bb := Bb.below k3.below Bb.lt
  have Ba := Ba.below k3.below Ba.lt
  have hc3 := hc2.trans (k3.below.mono hc2.size)
  clear hb3 k3 hc2 W2 hwa
  have hwa := fun o => W3.alloc o
  go_wp2_with fail
  refine (parse_07 _ (hwa _)).mono ?_
  rintro e w4 ⟨rfl, hb4⟩
  unfold noneV valV
  have k4 := In1.of hb4
  have W4 : WOk w4 := W3.below k4.below
  have Bd := k4.blk
  have Bc := Bc.below k4.below Bc.lt
  have Bb := Bb.below k4.below Bb.lt
  have Ba := Ba.below k4.below Ba.lt
  have hc4 := hc3.trans (k4.below.mono hc3.size)
  clear hb4 k4 hc3 W3 hwa
  go_upto_region 6 with fail
  have B1 := Ba.alloc (.cells #[.int .i64 0, .int .i64 0, .string ⟨#[]⟩] 23)
  have B2 := Bb.alloc (.cells #[.int .i64 0, .int .i64 0, .string ⟨#[]⟩] 23)
  have B4 := Bc.alloc (.cells #[.int .i64 0, .int .i64 0, .string ⟨#[]⟩] 23)
  have B6 := Bd.alloc (.cells #[.int .i64 0, .int .i64 0, .string ⟨#[]⟩] 23)
  have HW0 : Hid (WOk (w4.alloc (.cells #[.int .i64 0, .int .i64 0, .string ⟨#[]⟩] 23))) := Lib.hid (W4.alloc _)
  have hc := hc4.alloc hc4.size (.cells #[.int .i64 0, .int .i64 0, .string ⟨#[]⟩] 23)
  clear Ba Bb Bc Bd W4 hc4
  generalize hX : w4.alloc (.cells #[.int .i64 0, .int .i64 0, .string ⟨#[]⟩] 23) = X at *
  clear hX
  go_cut [0] (fun x wx => x = .bool true ∧ Below X.heap.size X wx)
  case first =>
    refine wp_region_any (by kernel_rfl) ?_
    refine wpAny_below (fun i v _ => v = fixT.getD i undef) _ X (by kernel_rfl) (by kernel_rfl) (by kernel_rfl) (fun i v w w' _ h => h) ?_ ?_
    · refine ⟨?_, ?_, ?_, ?_, ?_, ?_, ?_, ?_, ?_, ?_, ?_, ?_, ?_, ?_, ?_, ?_, ?_, ?_, ?_, ?_, ?_, ?_, ?_, ?_, ?_, ?_, ?_, ?_, ?_, ?_, ?_, ?_, ?_, ?_, ?_, ?_, ?_, ?_, ?_, ?_, ?_, ?_, ?_, ?_, ?_, ?_, ?_, ?_, ?_, ?_, trivial⟩
      · intro a W hI hun haft hi
        exact b_same hi hI rfl _ (run_load_op rfl (hun 1 (by kernel_rfl)) (B1.below hI B1.lt) Tryd.underlying23 rfl (by kernel_rfl)) rfl
      · intro a W hI hun haft hi
        have f0 : a.eval (.tmp 28) = valV 3 0 sIts := haft ⟨0, .data⟩ (by simp) rfl _ _ rfl rfl
        refine b_call hi hI rfl _ _ (run_call_op (args := #[valV 3 0 sIts]) rfl (by simp [f0]) (enterString _ _)) ?_
        exact (string_its W (HW0.out.below hI)).mono fun e w' H => ⟨_, H.1, rfl, H.2⟩
      · intro a W hI hun haft hi
        have f1 : a.eval (.tmp 29) = .string ⟨#[39, 105, 116, 92, 39, 115, 39]⟩ := haft ⟨1, .data⟩ (by simp) rfl _ _ rfl rfl
        exact b_same hi hI rfl (.bool true) (run_bin_op rfl f1 rfl (by kernel_rfl) (by kernel_rfl)) rfl
      · intro a W hI hun haft hi
        have f2 : a.eval (.tmp 30) = .bool true := haft ⟨2, .data⟩ (by simp) rfl _ _ rfl rfl
        exact b_same hi hI rfl _ (run_move_op rfl f2) rfl
      · intro a W hI hun haft hi
        have fg : a.eval (.tmp 31) = .bool true := haft ⟨3, .guard⟩ (by simp) rfl _ _ rfl rfl
        exact b_same hi hI (guard_ok rfl rfl rfl fg) _ (run_move_op rfl (hun 3 (by kernel_rfl))) rfl
      · intro a W hI hun haft hi
        have f3 : a.eval (.tmp 31) = .bool true := haft ⟨3, .data⟩ (by simp) rfl _ _ rfl rfl
        have f4 : a.eval (.tmp 32) = .bool true := haft ⟨4, .data⟩ (by simp) rfl _ _ rfl rfl
        exact b_same hi hI rfl _ (run_pick_op (b := true) rfl f3 f4 rfl) rfl
      · intro a W hI hun haft hi
        have f5 : a.eval (.tmp 33) = .bool true := haft ⟨5, .data⟩ (by simp) rfl _ _ rfl rfl
        exact b_same hi hI rfl _ (run_move_op rfl f5) rfl
      · intro a W hI hun haft hi
        have fg : a.eval (.tmp 34) = .bool true := haft ⟨6, .guard⟩ (by simp) rfl _ _ rfl rfl
        exact b_same hi hI (guard_ok rfl rfl rfl fg) _ (run_load_op rfl (hun 2 (by kernel_rfl)) (B2.below hI B2.lt) Tryd.underlying23 rfl (by kernel_rfl)) rfl
      · intro a W hI hun haft hi
        have fg : a.eval (.tmp 34) = .bool true := haft ⟨6, .guard⟩ (by simp) rfl _ _ rfl rfl
        exact b_same hi hI (guard_ok rfl rfl rfl fg) (valV 2 (-7) ⟨#[]⟩) (by kernel_rfl) rfl
      · intro a W hI hun haft hi
        have fg : a.eval (.tmp 34) = .bool true := haft ⟨6, .guard⟩ (by simp) rfl _ _ rfl rfl
        have f7 : a.eval (.tmp 35) = valV 2 (-7) ⟨#[]⟩ := haft ⟨7, .data⟩ (by simp) rfl _ _ rfl rfl
        have f8 : a.eval (.tmp 36) = valV 2 (-7) ⟨#[]⟩ := haft ⟨8, .data⟩ (by simp) rfl _ _ rfl rfl
        exact b_same hi hI (guard_ok rfl rfl rfl fg) (.bool true) (run_bin_op rfl f7 f8 (by kernel_rfl) (by kernel_rfl)) rfl
      · intro a W hI hun haft hi
        have f6 : a.eval (.tmp 34) = .bool true := haft ⟨6, .data⟩ (by simp) rfl _ _ rfl rfl
        have f9 : a.eval (.tmp 37) = .bool true := haft ⟨9, .data⟩ (by simp) rfl _ _ rfl rfl
        exact b_same hi hI rfl _ (run_pick_op (b := true) rfl f6 f9 rfl) rfl
      · intro a W hI hun haft hi
        have f10 : a.eval (.tmp 38) = .bool true := haft ⟨10, .data⟩ (by simp) rfl _ _ rfl rfl
        exact b_same hi hI rfl _ (run_move_op rfl f10) rfl
      · intro a W hI hun haft hi
        have fg : a.eval (.tmp 39) = .bool true := haft ⟨11, .guard⟩ (by simp) rfl _ _ rfl rfl
        exact b_same hi hI (guard_ok rfl rfl rfl fg) _ (run_move_op rfl (hun 5 (by kernel_rfl))) rfl
      · intro a W hI hun haft hi
        have f11 : a.eval (.tmp 39) = .bool true := haft ⟨11, .data⟩ (by simp) rfl _ _ rfl rfl
        have f12 : a.eval (.tmp 40) = .bool true := haft ⟨12, .data⟩ (by simp) rfl _ _ rfl rfl
        exact b_same hi hI rfl _ (run_pick_op (b := true) rfl f11 f12 rfl) rfl
      · intro a W hI hun haft hi
        have f13 : a.eval (.tmp 41) = .bool true := haft ⟨13, .data⟩ (by simp) rfl _ _ rfl rfl
        exact b_same hi hI rfl _ (run_move_op rfl f13) rfl
      · intro a W hI hun haft hi
        have fg : a.eval (.tmp 42) = .bool true := haft ⟨14, .guard⟩ (by simp) rfl _ _ rfl rfl
        exact b_same hi hI (guard_ok rfl rfl rfl fg) _ (run_move_op rfl (hun 7 (by kernel_rfl))) rfl
      · intro a W hI hun haft hi
        have f14 : a.eval (.tmp 42) = .bool true := haft ⟨14, .data⟩ (by simp) rfl _ _ rfl rfl
        have f15 : a.eval (.tmp 43) = .bool true := haft ⟨15, .data⟩ (by simp) rfl _ _ rfl rfl
        exact b_same hi hI rfl _ (run_pick_op (b := true) rfl f14 f15 rfl) rfl
      · intro a W hI hun haft hi
        have f16 : a.eval (.tmp 44) = .bool true := haft ⟨16, .data⟩ (by simp) rfl _ _ rfl rfl
        exact b_same hi hI rfl _ (run_move_op rfl f16) rfl
      · intro a W hI hun haft hi
        have fg : a.eval (.tmp 45) = .bool true := haft ⟨17, .guard⟩ (by simp) rfl _ _ rfl rfl
        exact b_same hi hI (guard_ok rfl rfl rfl fg) _ (run_load_op rfl (hun 6 (by kernel_rfl)) (B6.below hI B6.lt) Tryd.underlying33 rfl (by kernel_rfl)) rfl
      · intro a W hI hun haft hi
        have fg : a.eval (.tmp 45) = .bool true := haft ⟨17, .guard⟩ (by simp) rfl _ _ rfl rfl
        exact b_same hi hI (guard_ok rfl rfl rfl fg) (lkV [97] [98] [75]) (by kernel_rfl) rfl
      · intro a W hI hun haft hi
        have fg : a.eval (.tmp 45) = .bool true := haft ⟨17, .guard⟩ (by simp) rfl _ _ rfl rfl
        have f18 : a.eval (.tmp 46) = lkV [97] [98] [75] := haft ⟨18, .data⟩ (by simp) rfl _ _ rfl rfl
        have f19 : a.eval (.tmp 47) = lkV [97] [98] [75] := haft ⟨19, .data⟩ (by simp) rfl _ _ rfl rfl
        exact b_same hi hI (guard_ok rfl rfl rfl fg) (.bool true) (run_bin_op rfl f18 f19 (by kernel_rfl) (by kernel_rfl)) rfl
      · intro a W hI hun haft hi
        have f17 : a.eval (.tmp 45) = .bool true := haft ⟨17, .data⟩ (by simp) rfl _ _ rfl rfl
        have f20 : a.eval (.tmp 48) = .bool true := haft ⟨20, .data⟩ (by simp) rfl _ _ rfl rfl
        exact b_same hi hI rfl _ (run_pick_op (b := true) rfl f17 f20 rfl) rfl
      · intro a W hI hun haft hi
        have f21 : a.eval (.tmp 49) = .bool true := haft ⟨21, .data⟩ (by simp) rfl _ _ rfl rfl
        exact b_same hi hI rfl _ (run_move_op rfl f21) rfl
      · intro a W hI hun haft hi
        have fg : a.eval (.tmp 50) = .bool true := haft ⟨22, .guard⟩ (by simp) rfl _ _ rfl rfl
        exact b_same hi hI (guard_ok rfl rfl rfl fg) _ (run_move_op rfl (hun 9 (by kernel_rfl))) rfl
      · intro a W hI hun haft hi
        have fg : a.eval (.tmp 50) = .bool true := haft ⟨22, .guard⟩ (by simp) rfl _ _ rfl rfl
        have f23 : a.eval (.tmp 51) = .bool false := haft ⟨23, .data⟩ (by simp) rfl _ _ rfl rfl
        exact b_same hi hI (guard_ok rfl rfl rfl fg) _ (run_not_op rfl f23) rfl
      · intro a W hI hun haft hi
        have f22 : a.eval (.tmp 50) = .bool true := haft ⟨22, .data⟩ (by simp) rfl _ _ rfl rfl
        have f24 : a.eval (.tmp 52) = .bool true := haft ⟨24, .data⟩ (by simp) rfl _ _ rfl rfl
        exact b_same hi hI rfl _ (run_pick_op (b := true) rfl f22 f24 rfl) rfl
      · intro a W hI hun haft hi
        have f25 : a.eval (.tmp 53) = .bool true := haft ⟨25, .data⟩ (by simp) rfl _ _ rfl rfl
        exact b_same hi hI rfl _ (run_move_op rfl f25) rfl
      · intro a W hI hun haft hi
        have fg : a.eval (.tmp 54) = .bool true := haft ⟨26, .guard⟩ (by simp) rfl _ _ rfl rfl
        exact b_same hi hI (guard_ok rfl rfl rfl fg) _ (run_load_op rfl (hun 2 (by kernel_rfl)) (B2.below hI B2.lt) Tryd.underlying23 rfl (by kernel_rfl)) rfl
      · intro a W hI hun haft hi
        have fg : a.eval (.tmp 54) = .bool true := haft ⟨26, .guard⟩ (by simp) rfl _ _ rfl rfl
        exact b_same hi hI (guard_ok rfl rfl rfl fg) _ (run_load_op rfl (hun 4 (by kernel_rfl)) (B4.below hI B4.lt) Tryd.underlying23 rfl (by kernel_rfl)) rfl
      · intro a W hI hun haft hi
        have fg : a.eval (.tmp 54) = .bool true := haft ⟨26, .guard⟩ (by simp) rfl _ _ rfl rfl
        have f27 : a.eval (.tmp 55) = valV 2 (-7) ⟨#[]⟩ := haft ⟨27, .data⟩ (by simp) rfl _ _ rfl rfl
        have f28 : a.eval (.tmp 56) = valV 5 0 sAKB := haft ⟨28, .data⟩ (by simp) rfl _ _ rfl rfl
        refine b_call hi hI (guard_ok rfl rfl rfl fg) _ _ (run_call_op (args := #[valV 2 (-7) ⟨#[]⟩, valV 5 0 sAKB]) rfl (by simp [f27, f28]) (enterCompare _ _)) ?_
        exact (compare_7 W).mono fun e w' H => ⟨_, H.1, rfl, H.2⟩
      · intro a W hI hun haft hi
        have fg : a.eval (.tmp 54) = .bool true := haft ⟨26, .guard⟩ (by simp) rfl _ _ rfl rfl
        have f29 : a.eval (.tmp 57) = .int .i64 (-1) := haft ⟨29, .data⟩ (by simp) rfl _ _ rfl rfl
        exact b_same hi hI (guard_ok rfl rfl rfl fg) (.bool true) (run_bin_op rfl f29 rfl (by kernel_rfl) (by kernel_rfl)) rfl
      · intro a W hI hun haft hi
        have f26 : a.eval (.tmp 54) = .bool true := haft ⟨26, .data⟩ (by simp) rfl _ _ rfl rfl
        have f30 : a.eval (.tmp 58) = .bool true := haft ⟨30, .data⟩ (by simp) rfl _ _ rfl rfl
        exact b_same hi hI rfl _ (run_pick_op (b := true) rfl f26 f30 rfl) rfl
      · intro a W hI hun haft hi
        have f31 : a.eval (.tmp 59) = .bool true := haft ⟨31, .data⟩ (by simp) rfl _ _ rfl rfl
        exact b_same hi hI rfl _ (run_move_op rfl f31) rfl
      · intro a W hI hun haft hi
        have fg : a.eval (.tmp 60) = .bool true := haft ⟨32, .guard⟩ (by simp) rfl _ _ rfl rfl
        refine b_call hi hI (guard_ok rfl rfl rfl fg) _ _ (run_call_op (args := #[.string ⟨#[97, 95, 49]⟩]) rfl (by simp [Act.eval]) (enterName _ _)) ?_
        exact (name_yes W).mono fun e w' H => ⟨_, H.1, rfl, H.2⟩
      · intro a W hI hun haft hi
        have f32 : a.eval (.tmp 60) = .bool true := haft ⟨32, .data⟩ (by simp) rfl _ _ rfl rfl
        have f33 : a.eval (.tmp 61) = .bool true := haft ⟨33, .data⟩ (by simp) rfl _ _ rfl rfl
        exact b_same hi hI rfl _ (run_pick_op (b := true) rfl f32 f33 rfl) rfl
      · intro a W hI hun haft hi
        have f34 : a.eval (.tmp 62) = .bool true := haft ⟨34, .data⟩ (by simp) rfl _ _ rfl rfl
        exact b_same hi hI rfl _ (run_move_op rfl f34) rfl
      · intro a W hI hun haft hi
        have fg : a.eval (.tmp 63) = .bool true := haft ⟨35, .guard⟩ (by simp) rfl _ _ rfl rfl
        refine b_call hi hI (guard_ok rfl rfl rfl fg) _ _ (run_call_op (args := #[.string ⟨#[49, 97]⟩]) rfl (by simp [Act.eval]) (enterName _ _)) ?_
        exact (name_no W).mono fun e w' H => ⟨_, H.1, rfl, H.2⟩
      · intro a W hI hun haft hi
        have fg : a.eval (.tmp 63) = .bool true := haft ⟨35, .guard⟩ (by simp) rfl _ _ rfl rfl
        have f36 : a.eval (.tmp 64) = .bool false := haft ⟨36, .data⟩ (by simp) rfl _ _ rfl rfl
        exact b_same hi hI (guard_ok rfl rfl rfl fg) _ (run_not_op rfl f36) rfl
      · intro a W hI hun haft hi
        have f35 : a.eval (.tmp 63) = .bool true := haft ⟨35, .data⟩ (by simp) rfl _ _ rfl rfl
        have f37 : a.eval (.tmp 65) = .bool true := haft ⟨37, .data⟩ (by simp) rfl _ _ rfl rfl
        exact b_same hi hI rfl _ (run_pick_op (b := true) rfl f35 f37 rfl) rfl
      · intro a W hI hun haft hi
        have f38 : a.eval (.tmp 66) = .bool true := haft ⟨38, .data⟩ (by simp) rfl _ _ rfl rfl
        exact b_same hi hI rfl _ (run_move_op rfl f38) rfl
      · intro a W hI hun haft hi
        have fg : a.eval (.tmp 67) = .bool true := haft ⟨39, .guard⟩ (by simp) rfl _ _ rfl rfl
        exact b_same hi hI (guard_ok rfl rfl rfl fg) (elemV 1 ⟨#[97]⟩ ⟨#[]⟩ ⟨#[]⟩ ⟨#[]⟩) (by kernel_rfl) rfl
      · intro a W hI hun haft hi
        have fg : a.eval (.tmp 67) = .bool true := haft ⟨39, .guard⟩ (by simp) rfl _ _ rfl rfl
        have f40 : a.eval (.tmp 68) = elemV 1 ⟨#[97]⟩ ⟨#[]⟩ ⟨#[]⟩ ⟨#[]⟩ := haft ⟨40, .data⟩ (by simp) rfl _ _ rfl rfl
        refine b_call hi hI (guard_ok rfl rfl rfl fg) _ _ (run_call_op (args := #[elemV 1 ⟨#[97]⟩ ⟨#[]⟩ ⟨#[]⟩ ⟨#[]⟩]) rfl (by simp [f40]) (enterElem _ _)) ?_
        exact (elem_node W).mono fun e w' H => ⟨_, H.1, rfl, H.2⟩
      · intro a W hI hun haft hi
        have f39 : a.eval (.tmp 67) = .bool true := haft ⟨39, .data⟩ (by simp) rfl _ _ rfl rfl
        have f41 : a.eval (.tmp 69) = .bool true := haft ⟨41, .data⟩ (by simp) rfl _ _ rfl rfl
        exact b_same hi hI rfl _ (run_pick_op (b := true) rfl f39 f41 rfl) rfl
      · intro a W hI hun haft hi
        have f42 : a.eval (.tmp 70) = .bool true := haft ⟨42, .data⟩ (by simp) rfl _ _ rfl rfl
        exact b_same hi hI rfl _ (run_move_op rfl f42) rfl
      · intro a W hI hun haft hi
        have fg : a.eval (.tmp 71) = .bool true := haft ⟨43, .guard⟩ (by simp) rfl _ _ rfl rfl
        exact b_same hi hI (guard_ok rfl rfl rfl fg) _ (run_load_op rfl (hun 6 (by kernel_rfl)) (B6.below hI B6.lt) Tryd.underlying33 rfl (by kernel_rfl)) rfl
      · intro a W hI hun haft hi
        have fg : a.eval (.tmp 71) = .bool true := haft ⟨43, .guard⟩ (by simp) rfl _ _ rfl rfl
        have f44 : a.eval (.tmp 72) = lkV [97] [98] [75] := haft ⟨44, .data⟩ (by simp) rfl _ _ rfl rfl
        refine b_call hi hI (guard_ok rfl rfl rfl fg) _ _ (run_call_op (args := #[lkV [97] [98] [75]]) rfl (by simp [f44]) (enterOfLink _ _)) ?_
        exact (ofLink_akb W).mono fun e w' H => ⟨_, H.1, rfl, H.2⟩
      · intro a W hI hun haft hi
        have fg : a.eval (.tmp 71) = .bool true := haft ⟨43, .guard⟩ (by simp) rfl _ _ rfl rfl
        exact b_same hi hI (guard_ok rfl rfl rfl fg) _ (run_load_op rfl (hun 4 (by kernel_rfl)) (B4.below hI B4.lt) Tryd.underlying23 rfl (by kernel_rfl)) rfl
      · intro a W hI hun haft hi
        have fg : a.eval (.tmp 71) = .bool true := haft ⟨43, .guard⟩ (by simp) rfl _ _ rfl rfl
        have f45 : a.eval (.tmp 73) = valV 5 0 sAKB := haft ⟨45, .data⟩ (by simp) rfl _ _ rfl rfl
        have f46 : a.eval (.tmp 74) = valV 5 0 sAKB := haft ⟨46, .data⟩ (by simp) rfl _ _ rfl rfl
        exact b_same hi hI (guard_ok rfl rfl rfl fg) (.bool true) (run_bin_op rfl f45 f46 (by kernel_rfl) (by kernel_rfl)) rfl
      · intro a W hI hun haft hi
        have f43 : a.eval (.tmp 71) = .bool true := haft ⟨43, .data⟩ (by simp) rfl _ _ rfl rfl
        have f47 : a.eval (.tmp 75) = .bool true := haft ⟨47, .data⟩ (by simp) rfl _ _ rfl rfl
        exact b_same hi hI rfl _ (run_pick_op (b := true) rfl f43 f47 rfl) rfl
      · intro a W hI hun haft hi
        have f48 : a.eval (.tmp 76) = .bool true := haft ⟨48, .data⟩ (by simp) rfl _ _ rfl rfl
        exact b_same hi hI rfl _ (run_assign_op rfl f48) rfl
    · intro vals W hI hp
      have hl : vals 49 = .bool true := hp 49 (by decide)
      have HL := Lib.hid hl
      clear hp hl
      simp only [layN, List.size_toArray, List.length_cons, List.length_nil, List.range, List.range.loop, if_true, List.getElem?_toArray, List.getElem?_cons_zero, List.getElem?_cons_succ, Act.put, List.setIfInBounds_toArray, List.set_cons_zero, List.set_cons_succ, Nat.zero_add, Nat.reduceAdd]
      go_wp2_with fail
      go_meet
      exact ⟨HL.out, hI⟩
  case rest =>
    obtain ⟨rfl, hbc⟩ := hcut
    have hb := hc.trans (hbc.mono hc.size)
    go_wp2
    go_ret
    exact ⟨rfl, hb⟩

end Go.Proofs.YtaehkgdfciomjaaDoor
