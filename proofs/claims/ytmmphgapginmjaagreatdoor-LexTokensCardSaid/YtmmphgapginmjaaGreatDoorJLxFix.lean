/-
  hedgerowlaw18.fixed answers true: by a walk. hedgerowlaw18.same of like tokens: the contract, by a walk (written by genlx.py). Conditions: lengths.
-/
import Derived.Test.YtmmphgapginmjaaGreatDoorLxJoin
namespace Go.Proofs.YtmmphgapginmjaaGreatDoor
open Go.RowKit

def fxS : List UInt8 := [97, 46, 98, 62, 61, 51, 32, 79, 82, 32, 39, 105, 116, 92, 39, 115, 39]
def fxT : List Lx.Tk := [(1, 0, [97]), (5, 0, [46]), (1, 0, [98]), (5, 0, [62, 61]), (3, 3, []), (2, 0, [79, 82]), (4, 0, [105, 116, 39, 115])]
set_option maxRecDepth 100000 in
theorem fx_toks : Lx.toksL fxS = some fxT := by kernel_rfl
set_option maxRecDepth 100000 in
theorem fx_03 : Lx.toksL [48, 51] = none := by kernel_rfl
set_option maxRecDepth 100000 in
theorem fx_right : fxT.all Lx.rightT = true := by kernel_rfl
set_option maxRecDepth 100000 in
theorem fx_join : Lib.join (fxT.map Lx.speltL) [32] = [97, 32, 46, 32, 98, 32, 62, 61, 32, 51, 32, 79, 82, 32, 39, 105, 116, 92, 39, 115, 39] := by kernel_rfl
set_option maxRecDepth 100000 in
theorem fx_or : Lx.rightT (2, 0, [79, 82]) = true := by kernel_rfl

set_option maxRecDepth 100000 in
set_option maxHeartbeats 1000000 in
theorem is_or (w : World) (hw : WOk w) : Calls Tryz.prog 9 #[.agg #[.int .i64 2, .int .i64 0, .string ⟨#[79, 82]⟩], .string ⟨#[79, 82]⟩] w (Gives w (.bool true)) := by
  have HR := Lib.hid (fun W hW => lright_any (2, 0, [79, 82]) W hW (by decide))
  rw [fx_or] at HR
  have HW := Lib.hid hw
  clear hw
  unfold tkV at HR
  go_enter Tryz.func9, Tryz.ntmps9
  go_wp2_with fail
  refine (HR.out _ (HW.out.alloc _)).mono ?_
  rintro e w1 ⟨rfl, hb1⟩
  have HB := Lib.hid (alloc_then hb1)
  clear hb1
  go_wp2_with fail
  go_ret
  exact ⟨rfl, HB.out⟩
theorem toks_is (S : List UInt8) (L : List Lx.Tk) (h : Lx.toksL S = some L) (hl : S.length ≤ 2000) (w : World) (hw : WOk w) :
    Calls Tryz.prog 5 #[.string ⟨S.toArray⟩] w fun e w' => ∃ v, e = .returned (.tuple #[v, .int .i64 0]) ∧ OwnK encT w.heap.size 32 3 w' v L ∧ Below w.heap.size w w' := by
  refine (ltokens_any ⟨S.toArray⟩ w hw (by rw [size_mk]; omega)).mono fun e w' h1 => ?_
  rw [show (ByteArray.mk S.toArray).data.toList = S by simp] at h1
  obtain ⟨v, h2, h3, h4⟩ := h1
  have hE : errT S = 0 := by unfold errT; rw [if_neg (by omega), h]
  have hO : outT S = L := by unfold outT; rw [if_neg (by omega), h]
  rw [hE] at h2
  rw [hO] at h3
  exact ⟨v, h2, h3, h4⟩
theorem toks_no (S : List UInt8) (h : Lx.toksL S = none) (hl : S.length ≤ 2000) (w : World) (hw : WOk w) :
    Calls Tryz.prog 5 #[.string ⟨S.toArray⟩] w fun e w' => ∃ v, e = .returned (.tuple #[v, .int .i64 10]) ∧ OwnK encT w.heap.size 32 3 w' v [] ∧ Below w.heap.size w w' := by
  refine (ltokens_any ⟨S.toArray⟩ w hw (by rw [size_mk]; omega)).mono fun e w' h1 => ?_
  rw [show (ByteArray.mk S.toArray).data.toList = S by simp] at h1
  obtain ⟨v, h2, h3, h4⟩ := h1
  have hE : errT S = 10 := by unfold errT; rw [if_neg (by omega), h]
  have hO : outT S = [] := by unfold outT; rw [if_neg (by omega), h]
  rw [hE] at h2
  rw [hO] at h3
  exact ⟨v, h2, h3, h4⟩

set_option maxRecDepth 100000 in
set_option maxHeartbeats 4000000 in
theorem lfixed_any (w : World) (hw : WOk w) : Calls Tryz.prog 4 #[] w (Gives w (.bool true)) := by
  have HW := Lib.hid hw
  have HT := Lib.hid (fun W hW => toks_is fxS fxT fx_toks (by decide) W hW)
  have HN := Lib.hid (fun W hW => toks_no [48, 51] fx_03 (by decide) W hW)
  clear hw
  go_enter Tryz.func4, Tryz.ntmps4
  go_wp2_with fail
  refine (HT.out _ HW.out).mono ?_
  rintro e w1 ⟨v, rfl, ho1, hb1⟩
  obtain ⟨g, cap, cur, rfl, hB, hg, _⟩ := ho1.block (by decide)
  have HS1 := Lib.hid (ho1.read encT_len)
  have HB1 := Lib.hid hb1
  clear ho1 hb1 hg hB
  rw [show fxT.length = 7 from rfl] at HS1 ⊢
  go_wp2_with fail
  refine (lalltext_any fxT _ 7 _ w1 HS1.out rfl (by decide) (by decide) (HW.out.below HB1.out)).mono ?_
  rintro e w2 ⟨rfl, hb2⟩
  have HB2 := Lib.hid hb2
  clear hb2
  rw [show textV fxT = .tuple #[.string ⟨#[97, 32, 46, 32, 98, 32, 62, 61, 32, 51, 32, 79, 82, 32, 39, 105, 116, 92, 39, 115, 39]⟩, .bool true] by unfold textV; rw [if_pos fx_right, fx_join]]
  go_wp2_with fail
  refine (HN.out _ (HW.out.below (HB1.out.trans (HB2.out.mono HB1.out.size)))).mono ?_
  rintro e w3 ⟨v3, rfl, ho3, hb3⟩
  obtain ⟨A3, c3, rfl⟩ := ownk_form ho3
  have HB3 := Lib.hid (HB2.out.trans (hb3.mono HB2.out.size))
  have HB := Lib.hid (HB1.out.trans (HB3.out.mono HB1.out.size))
  have HS3 := Lib.hid (HS1.out.below HB3.out)
  clear hb3 ho3
  obtain ⟨g', o', hA, hg3, hc3⟩ := HS3.out.tk (j := 3) (t := (5, 0, [62, 61])) rfl
  injection hA with hA
  injection hA with e1 e2
  subst e1
  subst e2
  obtain ⟨_, _, hA, _, hc4⟩ := HS3.out.tk (j := 4) (t := (3, 3, [])) rfl
  injection hA with hA
  injection hA with e1 e2
  subst e1
  subst e2
  obtain ⟨_, _, hA, _, hc5⟩ := HS3.out.tk (j := 5) (t := (2, 0, [79, 82])) rfl
  injection hA with hA
  injection hA with e1 e2
  subst e1
  subst e2
  have a0 : w3.cell? ⟨g, 9, none⟩ = some (.int .i64 5) := hc3 0 _ rfl
  have a1 : w3.cell? ⟨g, 10, none⟩ = some (.int .i64 0) := hc3 1 _ rfl
  have a2 : w3.cell? ⟨g, 11, none⟩ = some (.string ⟨#[62, 61]⟩) := hc3 2 _ rfl
  have b0 : w3.cell? ⟨g, 12, none⟩ = some (.int .i64 3) := hc4 0 _ rfl
  have b1 : w3.cell? ⟨g, 13, none⟩ = some (.int .i64 3) := hc4 1 _ rfl
  have b2 : w3.cell? ⟨g, 14, none⟩ = some (.string ⟨#[]⟩) := hc4 2 _ rfl
  have d0 : w3.cell? ⟨g, 15, none⟩ = some (.int .i64 2) := hc5 0 _ rfl
  have d1 : w3.cell? ⟨g, 16, none⟩ = some (.int .i64 0) := hc5 1 _ rfl
  have d2 : w3.cell? ⟨g, 17, none⟩ = some (.string ⟨#[79, 82]⟩) := hc5 2 _ rfl
  clear hc3 hc4 hc5 hg3
  go_wp2_with fail
  refine (is_or _ (HW.out.below HB.out)).mono ?_
  rintro e w4 ⟨rfl, hb4⟩
  have HB4 := Lib.hid (HB.out.trans (hb4.mono HB.out.size))
  obtain ⟨_, _, hA, _, hc6⟩ := (HS3.out.below hb4).tk (j := 6) (t := (4, 0, [105, 116, 39, 115])) rfl
  injection hA with hA
  injection hA with e1 e2
  subst e1
  subst e2
  have f2 : w4.cell? ⟨g, 20, none⟩ = some (.string ⟨#[105, 116, 39, 115]⟩) := hc6 2 _ rfl
  clear hb4 hc6 a0 a1 a2 b0 b1 b2 d0 d1 d2
  go_wp2_with fail
  refine (words_any _).mono ?_
  rintro e w5 ⟨rfl, rfl⟩
  go_wp2_with fail
  refine (signs_any _).mono ?_
  rintro e w6 ⟨rfl, rfl⟩
  go_wp2_with fail
  go_ret
  exact ⟨rfl, (HB4.out.alloc HB4.out.size _).alloc (Nat.le_trans HB4.out.size (by simp)) _⟩

end Go.Proofs.YtmmphgapginmjaaGreatDoor

namespace Go.Proofs.YtmmphgapginmjaaGreatDoor
open Go.RowKit

theorem run_loadmidT_op {P : Program} {o : Oper} {ρ : Operand → Value} {w : World} {ty : TypeId} {x : Operand} {b q : Nat} {cs : List Value} {d : TypeDesc} (ho : o.op = .load ty x) (hx : ρ x = .pointer (some ⟨b, q, none⟩)) (hc : w.rangeAt b q cs)
    (hu : P.underlying ty = some d) (hd : d.isRow = true) (hi : (P.info? ty).map (·.size) = some cs.length) : (execOp ρ o).run P w = .ok (.value (.agg cs.toArray)) w := by
  unfold execOp
  simp only [ho, hx, Instr.loadAt, Instr.sureAddr, Sem.run_bind, Sem.run_pure, Result.andThen_ok, run_loadVar_mid w b q ty cs d hc hu hd hi]
theorem run_neq_tk (t : Lx.Tk) (w : World) : (binOp .neq 32 (.agg (encT t).toArray) (.agg (encT t).toArray)).run Tryz.prog w = .ok (.bool false) w := by
  obtain ⟨a, b, c⟩ := t
  unfold encT
  dsimp only
  go_simp
  try simp
theorem gd_nq (x y : Operand) (u t : Lx.Tk) (w : World) : (eqGuard .neq 32 x y (.agg (encT u).toArray) (.agg (encT t).toArray)).run Tryz.prog w = .ok () w := by
  unfold encT; kernel_rfl
theorem range_keepT {w W : World} {g o : Nat} {cs : List Value} (h : w.rangeAt g o cs) (hg : g < w.heap.size) (hb : Below w.heap.size w W) : W.rangeAt g o cs := fun k v hk => (World.cell?_of_block (hb.block g hg)).trans (h k v hk)

set_option maxRecDepth 100000 in
set_option maxHeartbeats 2000000 in
theorem same_any (L : List Lx.Tk) (A A2 : Option Addr) (N c c2 : Nat) (w : World) (hs : SlK encT 3 w (.slice A N c) L) (hs2 : SlK encT 3 w (.slice A2 N c2) L) (hN : L.length = N) (hN2 : N ≤ 1000000) :
    Calls Tryz.prog 7 #[.slice A N c, .slice A2 N c2] w (Gives w (.bool true)) := by
  have HS := Lib.hid hs
  have HS2 := Lib.hid hs2
  have HN := Lib.hid (And.intro hN hN2)
  have hnn : ((N : Int) != (N : Int)) = false := by simp
  clear hs hs2 hN hN2
  go_enter Tryz.func7, Tryz.ntmps7
  go_wp2_with fail
  clear hnn
  go_loopw [13] (fun v13 wr => ∃ k : Nat, v13 = .int .i64 (k : Nat) ∧ k ≤ N ∧ Below w.heap.size w wr) (fun v13 _ => N - (intOf v13).toNat)
  case atStart => exact ⟨0, rfl, Nat.zero_le _, Below.refl _ _⟩
  case round =>
    obtain ⟨k, rfl, hk, hbr⟩ := hrel
    obtain ⟨wk, rfl⟩ : ∃ wk, wk = wr := ⟨_, rfl⟩
    have HBr := Lib.hid hbr
    clear hbr
    by_cases hlt : k < N
    · have hkl : k < L.length := by rw [HN.out.1]; exact hlt
      obtain ⟨t, ht⟩ : ∃ t, L[k]? = some t := ⟨L[k]'hkl, List.getElem?_eq_getElem hkl⟩
      obtain ⟨g, o, hA, hgl, hc⟩ := (HS.out.below HBr.out).tk ht
      obtain ⟨g2, o2, hA2, hgl2, hc2⟩ := (HS2.out.below HBr.out).tk ht
      have HAt := Lib.hid (show ∀ W, (Instr.indexAt 23 (.slice A N c) (.int .i64 ((k : Nat) : Int))).run Tryz.prog W = .ok (.pointer (some ⟨g, o + k * 3, none⟩)) W from fun W => by rw [hA]; exact at_Tk g o c N k hlt W)
      have HAt2 := Lib.hid (show ∀ W, (Instr.indexAt 23 (.slice A2 N c2) (.int .i64 ((k : Nat) : Int))).run Tryz.prog W = .ok (.pointer (some ⟨g2, o2 + k * 3, none⟩)) W from fun W => by rw [hA2]; exact at_Tk g2 o2 c2 N k hlt W)
      have HC1 := Lib.hid (show ∀ W, Below wk.heap.size wk W → W.rangeAt g (o + k * 3) (encT t) from fun W hW => range_keepT hc hgl hW)
      have HC2 := Lib.hid (show ∀ W, Below wk.heap.size wk W → W.rangeAt g2 (o2 + k * 3) (encT t) from fun W hW => range_keepT hc2 hgl2 hW)
      obtain ⟨k1, hk1⟩ : ∃ k1, k + 1 = k1 := ⟨_, rfl⟩
      have HK := Lib.hid (And.intro hk1 hlt)
      have hw1 : wrap64 ((k : Int) + 1) = (k1 : Int) := by have := HN.out; rw [IntWalk.wrap64_in _ ⟨by omega, by omega⟩]; omega
      have hkN : (k : Int) < (N : Int) := by omega
      clear ht hA hA2 hc hc2 hkl hk1 hk hgl hgl2
      go_upto_region 6 with fail
      clear hkN hlt
      refine wp_region_any (by kernel_rfl) ?_
      refine wpAny_below (fun iq uq _ => uq = ([(.slice A N c : Value), .int .i64 ((k : Nat) : Int), .pointer (some ⟨g, o + k * 3, none⟩), .agg (encT t).toArray, .slice A2 N c2, .int .i64 ((k : Nat) : Int), .pointer (some ⟨g2, o2 + k * 3, none⟩), .agg (encT t).toArray, .bool false] : List Value).getD iq undef) _ wk (by kernel_rfl) (by kernel_rfl) (by kernel_rfl) (fun i v w w' _ h => h) ?_ ?_
      · refine ⟨?_, ?_, ?_, ?_, ?_, ?_, ?_, ?_, ?_, trivial⟩
        · intro ac W hI hun haft hi
          have e0 : ac.eval (.tmp 0) = .slice A N c := hun 0 (by kernel_rfl)
          exact b_same hi hI rfl _ (run_move_op rfl e0) rfl
        · intro ac W hI hun haft hi
          have e5 : ac.eval (.tmp 5) = .int .i64 ((k : Nat) : Int) := hun 5 (by kernel_rfl)
          exact b_same hi hI rfl _ (run_move_op rfl e5) rfl
        · intro ac W hI hun haft hi
          have f0 : ac.eval (.tmp 16) = .slice A N c := haft ⟨0, .data⟩ (by simp) rfl _ _ rfl rfl
          have f1 : ac.eval (.tmp 17) = .int .i64 ((k : Nat) : Int) := haft ⟨1, .data⟩ (by simp) rfl _ _ rfl rfl
          exact b_same hi hI rfl _ (run_indexAddr_op rfl f0 f1 (HAt.out W)) rfl
        · intro ac W hI hun haft hi
          have f2 : ac.eval (.tmp 18) = .pointer (some ⟨g, o + k * 3, none⟩) := haft ⟨2, .data⟩ (by simp) rfl _ _ rfl rfl
          exact b_same hi hI rfl _ (run_loadmidT_op rfl f2 (HC1.out W hI) Tryz.underlying32 rfl infoTk) rfl
        · intro ac W hI hun haft hi
          have e1 : ac.eval (.tmp 1) = .slice A2 N c2 := hun 1 (by kernel_rfl)
          exact b_same hi hI rfl _ (run_move_op rfl e1) rfl
        · intro ac W hI hun haft hi
          have e5 : ac.eval (.tmp 5) = .int .i64 ((k : Nat) : Int) := hun 5 (by kernel_rfl)
          exact b_same hi hI rfl _ (run_move_op rfl e5) rfl
        · intro ac W hI hun haft hi
          have f4 : ac.eval (.tmp 20) = .slice A2 N c2 := haft ⟨4, .data⟩ (by simp) rfl _ _ rfl rfl
          have f5 : ac.eval (.tmp 21) = .int .i64 ((k : Nat) : Int) := haft ⟨5, .data⟩ (by simp) rfl _ _ rfl rfl
          exact b_same hi hI rfl _ (run_indexAddr_op rfl f4 f5 (HAt2.out W)) rfl
        · intro ac W hI hun haft hi
          have f6 : ac.eval (.tmp 22) = .pointer (some ⟨g2, o2 + k * 3, none⟩) := haft ⟨6, .data⟩ (by simp) rfl _ _ rfl rfl
          exact b_same hi hI rfl _ (run_loadmidT_op rfl f6 (HC2.out W hI) Tryz.underlying32 rfl infoTk) rfl
        · intro ac W hI hun haft hi
          have f3 : ac.eval (.tmp 19) = .agg (encT t).toArray := haft ⟨3, .data⟩ (by simp) rfl _ _ rfl rfl
          have f7 : ac.eval (.tmp 23) = .agg (encT t).toArray := haft ⟨7, .data⟩ (by simp) rfl _ _ rfl rfl
          exact b_same hi hI rfl _ (run_bin_op rfl f3 f7 (gd_nq _ _ t t W) (run_neq_tk t W)) rfl
      intro vals W hI hp
      have h8 : vals 8 = .bool false := hp 8 (by decide)
      have HB2 := Lib.hid (HBr.out.trans (hI.mono HBr.out.size))
      clear hp hI
      simp only [layN, List.size_toArray, List.length_cons, List.length_nil, List.range, List.range.loop, if_true, List.getElem?_toArray, List.getElem?_cons_zero, List.getElem?_cons_succ, Act.put, List.setIfInBounds_toArray, List.set_cons_zero, List.set_cons_succ, Nat.zero_add, Nat.reduceAdd, h8]
      clear h8
      go_wp2_with fail
      go_roundw
      case rel => exact ⟨k1, by first | rfl | rw [hw1], by have := HK.out; omega, HB2.out⟩
      case measure =>
        have := HK.out
        (try rw [hw1])
        show N - (intOf (.int .i64 _)).toNat < N - (intOf (.int .i64 _)).toNat
        simp only [intOf, Int.toNat_natCast]
        omega
    · have hkk : ¬ (k : Int) < (N : Int) := by omega
      go_wp2_with fail
      go_ret
      exact ⟨rfl, HBr.out⟩

end Go.Proofs.YtmmphgapginmjaaGreatDoor
