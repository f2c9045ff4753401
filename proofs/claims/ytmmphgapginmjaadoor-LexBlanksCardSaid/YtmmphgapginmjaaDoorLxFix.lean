/-
  hedgerowlaw18.fixed answers true: by a walk. Conditions: the world holds the library's tables (WOk).
-/
import Derived.Test.YtmmphgapginmjaaDoorLxJoin
namespace Go.Proofs.YtmmphgapginmjaaDoor
open Go.RowKit

def fxS : List UInt8 := [97, 46, 98, 62, 61, 51, 32, 79, 82, 32, 39, 105, 116, 92, 39, 115, 39]
def fxT : List Lx.Tk := [(1, 0, [97]), (5, 0, [46]), (1, 0, [98]), (5, 0, [62, 61]), (3, 3, []), (2, 0, [79, 82]), (4, 0, [105, 116, 39, 115])]
set_option maxRecDepth 100000 in
theorem fx_toks : Lx.toksL fxS = some fxT := by kernel_rfl
set_option maxRecDepth 100000 in
theorem fx_03 : Lx.toksL [48, 51] = none := by kernel_rfl
set_option maxRecDepth 100000 in
theorem fx_right : fxT.all Lx.rightT = true := by kernel_rfl
set_option maxRecDepth 100000 in
theorem fx_join : Lib.join (fxT.map Lx.speltL) [32] = [97, 32, 46, 32, 98, 32, 62, 61, 32, 51, 32, 79, 82, 32, 39, 105, 116, 92, 39, 115, 39] := by kernel_rfl
set_option maxRecDepth 100000 in
theorem fx_or : Lx.rightT (2, 0, [79, 82]) = true := by kernel_rfl

set_option maxRecDepth 100000 in
set_option maxHeartbeats 1000000 in
theorem is_or (w : World) (hw : WOk w) : Calls Tryd.prog 9 #[.agg #[.int .i64 2, .int .i64 0, .string ⟨#[79, 82]⟩], .string ⟨#[79, 82]⟩] w (Gives w (.bool true)) := by
  have HR := Lib.hid (fun W hW => lright_any (2, 0, [79, 82]) W hW (by decide))
  rw [fx_or] at HR
  have HW := Lib.hid hw
  clear hw
  unfold tkV at HR
  go_enter Tryd.func9, Tryd.ntmps9
  go_wp2_with fail
  refine (HR.out _ (HW.out.alloc _)).mono ?_
  rintro e w1 ⟨rfl, hb1⟩
  have HB := Lib.hid (alloc_then hb1)
  clear hb1
  go_wp2_with fail
  go_ret
  exact ⟨rfl, HB.out⟩
theorem toks_is (S : List UInt8) (L : List Lx.Tk) (h : Lx.toksL S = some L) (hl : S.length ≤ 2000) (w : World) (hw : WOk w) :
    Calls Tryd.prog 6 #[.string ⟨S.toArray⟩] w fun e w' => ∃ v, e = .returned (.tuple #[v, .int .i64 0]) ∧ OwnK encT w.heap.size 30 3 w' v L ∧ Below w.heap.size w w' := by
  refine (ltokens_any ⟨S.toArray⟩ w hw (by rw [size_mk]; omega)).mono fun e w' h1 => ?_
  rw [show (ByteArray.mk S.toArray).data.toList = S by simp] at h1
  obtain ⟨v, h2, h3, h4⟩ := h1
  have hE : errT S = 0 := by unfold errT; rw [if_neg (by omega), h]
  have hO : outT S = L := by unfold outT; rw [if_neg (by omega), h]
  rw [hE] at h2
  rw [hO] at h3
  exact ⟨v, h2, h3, h4⟩
theorem toks_no (S : List UInt8) (h : Lx.toksL S = none) (hl : S.length ≤ 2000) (w : World) (hw : WOk w) :
    Calls Tryd.prog 6 #[.string ⟨S.toArray⟩] w fun e w' => ∃ v, e = .returned (.tuple #[v, .int .i64 10]) ∧ OwnK encT w.heap.size 30 3 w' v [] ∧ Below w.heap.size w w' := by
  refine (ltokens_any ⟨S.toArray⟩ w hw (by rw [size_mk]; omega)).mono fun e w' h1 => ?_
  rw [show (ByteArray.mk S.toArray).data.toList = S by simp] at h1
  obtain ⟨v, h2, h3, h4⟩ := h1
  have hE : errT S = 10 := by unfold errT; rw [if_neg (by omega), h]
  have hO : outT S = [] := by unfold outT; rw [if_neg (by omega), h]
  rw [hE] at h2
  rw [hO] at h3
  exact ⟨v, h2, h3, h4⟩

set_option maxRecDepth 100000 in
set_option maxHeartbeats 4000000 in
theorem lfixed_any (w : World) (hw : WOk w) : Calls Tryd.prog 5 #[] w (Gives w (.bool true)) := by
  have HW := Lib.hid hw
  have HT := Lib.hid (fun W hW => toks_is fxS fxT fx_toks (by decide) W hW)
  have HN := Lib.hid (fun W hW => toks_no [48, 51] fx_03 (by decide) W hW)
  clear hw
  go_enter Tryd.func5, Tryd.ntmps5
  go_wp2_with fail
  refine (HT.out _ HW.out).mono ?_
  rintro e w1 ⟨v, rfl, ho1, hb1⟩
  obtain ⟨g, cap, cur, rfl, hB, hg, _⟩ := ho1.block (by decide)
  have HS1 := Lib.hid (ho1.read encT_len)
  have HB1 := Lib.hid hb1
  clear ho1 hb1 hg hB
  rw [show fxT.length = 7 from rfl] at HS1 ⊢
  go_wp2_with fail
  refine (lalltext_any fxT _ 7 _ w1 HS1.out rfl (by decide) (by decide) (HW.out.below HB1.out)).mono ?_
  rintro e w2 ⟨rfl, hb2⟩
  have HB2 := Lib.hid hb2
  clear hb2
  rw [show textV fxT = .tuple #[.string ⟨#[97, 32, 46, 32, 98, 32, 62, 61, 32, 51, 32, 79, 82, 32, 39, 105, 116, 92, 39, 115, 39]⟩, .bool true] by unfold textV; rw [if_pos fx_right, fx_join]]
  go_wp2_with fail
  refine (HN.out _ (HW.out.below (HB1.out.trans (HB2.out.mono HB1.out.size)))).mono ?_
  rintro e w3 ⟨v3, rfl, ho3, hb3⟩
  obtain ⟨A3, c3, rfl⟩ := ownk_form ho3
  have HB3 := Lib.hid (HB2.out.trans (hb3.mono HB2.out.size))
  have HB := Lib.hid (HB1.out.trans (HB3.out.mono HB1.out.size))
  have HS3 := Lib.hid (HS1.out.below HB3.out)
  clear hb3 ho3
  obtain ⟨g', o', hA, hg3, hc3⟩ := HS3.out.tk (j := 3) (t := (5, 0, [62, 61])) rfl
  injection hA with hA
  injection hA with e1 e2
  subst e1
  subst e2
  obtain ⟨_, _, hA, _, hc4⟩ := HS3.out.tk (j := 4) (t := (3, 3, [])) rfl
  injection hA with hA
  injection hA with e1 e2
  subst e1
  subst e2
  obtain ⟨_, _, hA, _, hc5⟩ := HS3.out.tk (j := 5) (t := (2, 0, [79, 82])) rfl
  injection hA with hA
  injection hA with e1 e2
  subst e1
  subst e2
  have a0 : w3.cell? ⟨g, 9, none⟩ = some (.int .i64 5) := hc3 0 _ rfl
  have a1 : w3.cell? ⟨g, 10, none⟩ = some (.int .i64 0) := hc3 1 _ rfl
  have a2 : w3.cell? ⟨g, 11, none⟩ = some (.string ⟨#[62, 61]⟩) := hc3 2 _ rfl
  have b0 : w3.cell? ⟨g, 12, none⟩ = some (.int .i64 3) := hc4 0 _ rfl
  have b1 : w3.cell? ⟨g, 13, none⟩ = some (.int .i64 3) := hc4 1 _ rfl
  have b2 : w3.cell? ⟨g, 14, none⟩ = some (.string ⟨#[]⟩) := hc4 2 _ rfl
  have d0 : w3.cell? ⟨g, 15, none⟩ = some (.int .i64 2) := hc5 0 _ rfl
  have d1 : w3.cell? ⟨g, 16, none⟩ = some (.int .i64 0) := hc5 1 _ rfl
  have d2 : w3.cell? ⟨g, 17, none⟩ = some (.string ⟨#[79, 82]⟩) := hc5 2 _ rfl
  clear hc3 hc4 hc5 hg3
  go_wp2_with fail
  refine (is_or _ (HW.out.below HB.out)).mono ?_
  rintro e w4 ⟨rfl, hb4⟩
  have HB4 := Lib.hid (HB.out.trans (hb4.mono HB.out.size))
  obtain ⟨_, _, hA, _, hc6⟩ := (HS3.out.below hb4).tk (j := 6) (t := (4, 0, [105, 116, 39, 115])) rfl
  injection hA with hA
  injection hA with e1 e2
  subst e1
  subst e2
  have f2 : w4.cell? ⟨g, 20, none⟩ = some (.string ⟨#[105, 116, 39, 115]⟩) := hc6 2 _ rfl
  clear hb4 hc6 a0 a1 a2 b0 b1 b2 d0 d1 d2
  go_wp2_with fail
  refine (words_any _).mono ?_
  rintro e w5 ⟨rfl, rfl⟩
  go_wp2_with fail
  refine (signs_any _).mono ?_
  rintro e w6 ⟨rfl, rfl⟩
  go_wp2_with fail
  go_ret
  exact ⟨rfl, (HB4.out.alloc HB4.out.size _).alloc (Nat.le_trans HB4.out.size (by simp)) _⟩

end Go.Proofs.YtmmphgapginmjaaDoor
