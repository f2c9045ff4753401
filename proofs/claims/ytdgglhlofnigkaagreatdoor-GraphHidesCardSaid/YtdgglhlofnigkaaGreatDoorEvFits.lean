/-
  event.settable, fits, Change: the contracts, by walks. Conditions: CutOk.
-/
import Derived.Test.YtdgglhlofnigkaaGreatDoorJValRefLink
namespace Go.Proofs.YtdgglhlofnigkaaGreatDoor
open Lib (hid)
open Go.RowKit
theorem right_is (k n : Int) (s : ByteArray) (hs : s.size ≤ 9223372036854775807) (h5 : k ≠ 5) (b : Bool) (h : rightB k n s.data.toList = b) (w : World) (hw : CutOk w) : Calls Tryz.prog 85 #[valV k n s] w (Gives w (.bool b)) := by
 have := right_wide k n s w hs (fun e => absurd e h5) hw; rwa [h] at this
set_option maxRecDepth 100000 in
set_option maxHeartbeats 1000000 in
theorem settable_any (k n : Int) (s : ByteArray) (w : World) (hs : s.size ≤ 9223372036854775807) (hw : CutOk w) : Calls Tryz.prog 127 #[valV k n s] w (Gives w (.bool (setB k n s.data.toList))) := by
 have HR := hid (fun h5 b h w => right_is k n s hs h5 b h w)
 have HE : Hid (setB k n s.data.toList = (decide (1 ≤ k ∧ k ≤ 3) && rightB k n s.data.toList)) := hid rfl
 have HW := hid (hw.alloc (.cells #[.int .i64 k, .int .i64 n, .string s] 43))
 have HY := hid ((Below.refl w.heap.size w).alloc (Nat.le_refl _) (.cells #[.int .i64 k, .int .i64 n, .string s] 43))
 clear hs hw
 unfold valV at *
 by_cases hk : 1 ≤ k ∧ k ≤ 3
 ·rw [decide_eq_true hk, Bool.true_and] at HE
  have h3 : k = 1 ∨ k = 2 ∨ k = 3 := by omega
  clear hk
  rcases h3 with rfl | rfl | rfl
  all_goals
   go_enter Tryz.func127, Tryz.ntmps127
   go_wp2_with fail
   refine (HR.out (by decide) _ rfl _ HW.out).mono ?_
   rintro e w1 ⟨rfl, hb⟩
   have HZ := hid (HY.out.trans (hb.mono HY.out.size))
   clear hb
   go_wp2
   go_ret
   exact ⟨by rw [HE.out]; rfl, HZ.out⟩
 ·have g1 : (k == 1) = false := beq_eq_false_iff_ne.2 (by omega)
  have g2 : (k == 2) = false := beq_eq_false_iff_ne.2 (by omega)
  have g3 : (k == 3) = false := beq_eq_false_iff_ne.2 (by omega)
  rw [decide_eq_false hk, Bool.false_and] at HE
  clear hk HR
  go_enter Tryz.func127, Tryz.ntmps127
  go_wp2
  go_ret
  exact ⟨by rw [HE.out]; rfl, HY.out⟩
theorem settable_is (k n : Int) (s : ByteArray) (hs : s.size ≤ 9223372036854775807) (b : Bool) (h : setB k n s.data.toList = b) (w : World) (hw : CutOk w) : Calls Tryz.prog 127 #[valV k n s] w (Gives w (.bool b)) := by
 have := settable_any k n s w hs hw; rwa [h] at this
set_option maxRecDepth 100000 in
set_option maxHeartbeats 4000000 in
theorem fits_any (e : Ev) (w : World) (hs : e.t.size ≤ 9223372036854775807) (hw : CutOk w) : Calls Tryz.prog 93 #[chV e] w (Gives w (.bool (fitsB e.op e.ek e.vk e.vn e.t.data.toList))) := by
 obtain ⟨r, c, p, op, ek, a, b, cc, d, vk, vn, t⟩ := e
 show Calls Tryz.prog 93 #[.agg #[.int .i64 op, .int .i64 ek, .string a, .string b, .string cc, .string d, .int .i64 vk, .int .i64 vn, .string t]] w (Gives w (.bool (fitsB op ek vk vn t.data.toList)))
 dsimp only at hs
 have HS := hid (fun b h w => settable_is vk vn t hs b h w)
 have hq := fun w => eq_none vk vn t w
 have HW := hid (hw.alloc (.cells #[.int .i64 op, .int .i64 ek, .string a, .string b, .string cc, .string d, .int .i64 vk, .int .i64 vn, .string t] 106))
 have HY := hid ((Below.refl w.heap.size w).alloc (Nat.le_refl _) (.cells #[.int .i64 op, .int .i64 ek, .string a, .string b, .string cc, .string d, .int .i64 vk, .int .i64 vn, .string t] 106))
 have HE : Hid (fitsB op ek vk vn t.data.toList = if op = 1 ∨ op = 2 then !valdB ek && noneB vk vn t.data.toList else if op = 3 then valdB ek && setB vk vn t.data.toList else if op = 4 then valdB ek && noneB vk vn t.data.toList else false) := hid rfl
 have HV : Hid (valdB ek = (ek == 4 || ek == 5)) := hid rfl
 clear hs hw
 unfold valV at *
 generalize noneB vk vn t.data.toList = nb at *
 have hgd := fun (x y : Operand) (a b : Array Value) (w : World) => guard_agg 43 (by kernel_rfl) x y a b w
 cases g4 : (ek == 4)
 all_goals cases g5 : (ek == 5)
 all_goals
  rw [g4, g5] at HV
  by_cases o1 : op = 1
  ·subst o1
   rw [if_pos (Or.inl rfl), HV.out] at HE
   clear HS
   go_enter Tryz.func93, Tryz.ntmps93
   go_wp2
   go_ret
   exact ⟨by rw [HE.out]; rfl, HY.out⟩
  ·by_cases o2 : op = 2
   ·subst o2
    rw [if_pos (Or.inr rfl), HV.out] at HE
    clear HS o1
    go_enter Tryz.func93, Tryz.ntmps93
    go_wp2
    go_ret
    exact ⟨by rw [HE.out]; rfl, HY.out⟩
   ·by_cases o3 : op = 3
    ·subst o3
     rw [if_neg (by omega), if_pos rfl, HV.out] at HE
     clear o1 o2
     first
      | (go_enter Tryz.func93, Tryz.ntmps93
         go_wp2_with fail
         refine (HS.out _ rfl _ HW.out).mono ?_
         rintro e w1 ⟨rfl, hb⟩
         have HZ := hid (HY.out.trans (hb.mono HY.out.size))
         clear hb
         go_wp2
         go_ret
         exact ⟨by rw [HE.out]; rfl, HZ.out⟩)
      | (go_enter Tryz.func93, Tryz.ntmps93
         go_wp2
         go_ret
         exact ⟨by rw [HE.out]; rfl, HY.out⟩)
    ·by_cases o4 : op = 4
     ·subst o4
      rw [if_neg (by omega), if_neg (by omega), if_pos rfl, HV.out] at HE
      clear HS o1 o2 o3
      go_enter Tryz.func93, Tryz.ntmps93
      go_wp2
      go_ret
      exact ⟨by rw [HE.out]; rfl, HY.out⟩
     ·rw [if_neg (by omega), if_neg o3, if_neg o4] at HE
      have b1 : (op == 1) = false := beq_eq_false_iff_ne.2 o1
      have b2 : (op == 2) = false := beq_eq_false_iff_ne.2 o2
      have b3 : (op == 3) = false := beq_eq_false_iff_ne.2 o3
      have b4 : (op == 4) = false := beq_eq_false_iff_ne.2 o4
      clear HS o1 o2 o3 o4
      go_enter Tryz.func93, Tryz.ntmps93
      go_wp2
      go_ret
      exact ⟨by rw [HE.out]; rfl, HY.out⟩
theorem fits_is (e : Ev) (hs : e.t.size ≤ 9223372036854775807) (b : Bool) (h : fitsB e.op e.ek e.vk e.vn e.t.data.toList = b) (w : World) (hw : CutOk w) : Calls Tryz.prog 93 #[chV e] w (Gives w (.bool b)) := by
 have := fits_any e w hs hw; rwa [h] at this
theorem elem_is (k : Int) (a b c d : ByteArray) (ha : a.size ≤ 9223372036854775807) (hb : b.size ≤ 9223372036854775807) (hc : c.size ≤ 9223372036854775807) (hd : d.size ≤ 9223372036854775807) (q : Bool) (h : elemB k a.data.toList b.data.toList c.data.toList d.data.toList = q) (w : World) :
  Calls Tryz.prog 92 #[elV k a b c d] w (Gives w (.bool q)) := by
 have := elem_any k a b c d w ha hb hc hd; rwa [h] at this
def Lens (e : Ev) : Prop := e.a.size ≤ 4294967280 ∧ e.b.size ≤ 4294967280 ∧ e.cc.size ≤ 4294967280 ∧ e.d.size ≤ 4294967280 ∧ e.t.size ≤ 4294967280
set_option maxRecDepth 100000 in
set_option maxHeartbeats 2000000 in
theorem change_wide (e : Ev) (w : World) (l1 : e.a.size ≤ 4294967280) (l2 : e.b.size ≤ 4294967280) (l3 : e.cc.size ≤ 4294967280) (l4 : e.d.size ≤ 4294967280) (l5 : e.t.size ≤ 9223372036854775807) (hw : CutOk w) : Calls Tryz.prog 67 #[chV e] w (Gives w (.int .i64 (codeI (changeB e)))) := by
 have HEl := hid (elem_is e.ek e.a e.b e.cc e.d (by omega) (by omega) (by omega) (by omega))
 have HFi := hid (fits_is e (by omega))
 have HW := hid (hw.alloc (.cells (chC e) 106))
 have HX := hid (Blk.new w 106 (chC e))
 have HY := hid ((Below.refl w.heap.size w).alloc (Nat.le_refl _) (.cells (chC e) 106))
 have HC : Hid (changeB e = (elemB e.ek e.a.data.toList e.b.data.toList e.cc.data.toList e.d.data.toList && fitsB e.op e.ek e.vk e.vn e.t.data.toList)) := hid rfl
 clear l1 l2 l3 l4 l5 hw
 unfold chV at *
 cases h1 : elemB e.ek e.a.data.toList e.b.data.toList e.cc.data.toList e.d.data.toList
 ·rw [h1] at HC
  have HEl' := hid (HEl.out _ h1)
  clear HEl h1 HFi
  unfold chC at *
  unfold elV at *
  go_enter Tryz.func67, Tryz.ntmps67
  go_wp2_with fail
  refine (HEl'.out _).mono ?_
  rintro e w1 ⟨rfl, hb⟩
  have HZ := hid (HY.out.trans (hb.mono HY.out.size))
  clear hb
  go_wp2
  go_ret
  exact ⟨by rw [HC.out]; rfl, HZ.out⟩
 ·rw [h1] at HC
  have HEl' := hid (HEl.out _ h1)
  clear HEl h1
  cases h2 : fitsB e.op e.ek e.vk e.vn e.t.data.toList
  all_goals
   rw [h2] at HC
   have HFi' := hid (HFi.out _ h2)
   clear HFi h2
   unfold chC at *
   unfold elV at *
   go_enter Tryz.func67, Tryz.ntmps67
   go_wp2_with fail
   refine (HEl'.out _).mono ?_
   rintro e w1 ⟨rfl, hb⟩
   have HZ := hid (HY.out.trans (hb.mono HY.out.size))
   have HX1 := hid (Blk.below HX.out hb (Blk.lt HX.out))
   have HW1 := hid (HW.out.below hb)
   clear hb
   go_wp2_with (refine wpList_load_if rfl 106 (.tmp 1) rfl w.heap.size rfl _ _ _ _ HX1.out Tryz.underlying106 rfl (by kernel_rfl) ?_)
   refine (HFi'.out _ HW1.out).mono ?_
   rintro e w2 ⟨rfl, hb⟩
   have HZ2 := hid (HZ.out.trans (hb.mono HZ.out.size))
   clear hb
   go_wp2
   go_ret
   exact ⟨by rw [HC.out]; rfl, HZ2.out⟩
theorem change_any (e : Ev) (w : World) (hl : Lens e) (hw : CutOk w) : Calls Tryz.prog 67 #[chV e] w (Gives w (.int .i64 (codeI (changeB e)))) := change_wide e w hl.1 hl.2.1 hl.2.2.1 hl.2.2.2.1 (by have := hl.2.2.2.2; omega) hw
end Go.Proofs.YtdgglhlofnigkaaGreatDoor
