/- hedgerowref06.Change. -/import Derived.Test.YtdgglhlofnigkaaGreatDoorJOrderInv
import Derived.Test.YtdgglhlofnigkaaGreatDoorJStGG
namespace Go.Proofs.YtdgglhlofnigkaaGreatDoor
open Lib (hid)
open Go.RowKit
def Tiny (e : Ev) : Prop := e.a.size ≤ 1000000 ∧ e.b.size ≤ 1000000 ∧ e.cc.size ≤ 1000000 ∧ e.d.size ≤ 1000000 ∧ e.t.size ≤ 1000000
theorem short_tiny (e : Ev) (h : shortB e = true) : Tiny e := by
 unfold shortB at h
 rw [decide_eq_true_eq] at h
 exact ⟨by omega, by omega, by omega, by omega, by omega⟩
theorem elemB_kind (k : Int) (a b c d : List UInt8) (h : elemB k a b c d = true) : 1 ≤ k ∧ k ≤ 5 := by
 unfold elemB at h
 rw [Bool.and_eq_true, decide_eq_true_eq] at h
 exact h.1
theorem vald_ge (k : Int) (h : 1 ≤ k ∧ k ≤ 5) : decide (4 ≤ k) = valdB k := by
 have : k = 1 ∨ k = 2 ∨ k = 3 ∨ k = 4 ∨ k = 5 := by omega
 rcases this with rfl | rfl | rfl | rfl | rfl <;> rfl
theorem refright_is (k n : Int) (s : ByteArray) (hs : s.size ≤ 1000000) (b : Bool) (h : rightB k n s.data.toList = b) (w : World) : Calls Tryz.prog 81 #[valV k n s] w (Gives w (.bool b)) := by
 have := refright_any k n s w hs; rwa [h] at this
set_option maxRecDepth 100000 in
set_option maxHeartbeats 4000000 in
theorem refchange_any (e : Ev) (w : World) (hl : Tiny e) : Calls Tryz.prog 59 #[chV e] w (Gives w (.bool (changeB e))) := by
 obtain ⟨l1, l2, l3, l4, l5⟩ := hl
 have HEl := hid (fun w => refelem_any e.ek e.a e.b e.cc e.d w (by omega) (by omega) (by omega) (by omega))
 have HRt := hid (fun b h w => refright_is e.vk e.vn e.t (by omega) b h w)
 have hq := fun w => eq_none e.vk e.vn e.t w
 have hgd := fun (x y : Operand) (a b : Array Value) (w : World) => guard_agg 43 (by kernel_rfl) x y a b w
 have HC : Hid (changeB e = (elemB e.ek e.a.data.toList e.b.data.toList e.cc.data.toList e.d.data.toList && fitsB e.op e.ek e.vk e.vn e.t.data.toList)) := hid rfl
 have HF : Hid (fitsB e.op e.ek e.vk e.vn e.t.data.toList = if e.op = 1 ∨ e.op = 2 then !valdB e.ek && noneB e.vk e.vn e.t.data.toList else if e.op = 3 then valdB e.ek && (decide (1 ≤ e.vk ∧ e.vk ≤ 3) && rightB e.vk e.vn e.t.data.toList) else if e.op = 4 then valdB e.ek && noneB e.vk e.vn e.t.data.toList else false) := hid rfl
 have HKK := hid (elemB_kind e.ek e.a.data.toList e.b.data.toList e.cc.data.toList e.d.data.toList)
 have HX := hid (Blk.new w 106 (chC e))
 have HY := hid ((Below.refl w.heap.size w).alloc (Nat.le_refl _) (.cells (chC e) 106))
 clear l1 l2 l3 l4 l5
 unfold chV elV valV at *
 obtain ⟨r, c, p, op, ek, a, b, cc, d, vk, vn, t⟩ := e
 unfold chC at *
 dsimp only at *
 generalize elemB ek a.data.toList b.data.toList cc.data.toList d.data.toList = el at *
 generalize noneB vk vn t.data.toList = nb at *
 cases el
 ·clear HRt hq hgd
  go_enter Tryz.func59, Tryz.ntmps59
  go_wp2_with fail
  refine (HEl.out _).mono ?_
  rintro e1 w1 ⟨rfl, b1⟩
  have Y1 := hid (HY.out.trans (b1.mono HY.out.size))
  clear b1
  go_wp2
  go_ret
  exact ⟨by rw [HC.out]; rfl, Y1.out⟩
 ·have hk := HKK.out rfl
  have hv := vald_ge ek hk
  rw [Bool.true_and] at HC
  clear HKK hk
  generalize valdB ek = vb at *
  have PRE : True := trivial
  clear PRE
  by_cases o1 : op = 1
  ·subst o1
   rw [if_pos (Or.inl rfl)] at HF
   clear HRt
   cases vb
   all_goals
    go_enter Tryz.func59, Tryz.ntmps59
    go_wp2_with fail
    refine (HEl.out _).mono ?_
    rintro e1 w1 ⟨rfl, b1⟩
    have Y1 := hid (HY.out.trans (b1.mono HY.out.size))
    have X1 := Blk.below HX.out b1 (Blk.lt HX.out)
    have c0 := Blk.cell X1 0
    have c1 := Blk.cell X1 1
    have c6 := Blk.cell X1 6
    have c7 := Blk.cell X1 7
    have c8 := Blk.cell X1 8
    simp at c0 c1 c6 c7 c8
    have HX1 := hid X1
    clear b1 X1
    go_wp2
    go_ret
    exact ⟨by rw [HC.out, HF.out]; rfl, Y1.out⟩
  by_cases o2 : op = 2
  ·subst o2
   rw [if_pos (Or.inr rfl)] at HF
   clear HRt o1
   cases vb
   all_goals
    go_enter Tryz.func59, Tryz.ntmps59
    go_wp2_with fail
    refine (HEl.out _).mono ?_
    rintro e1 w1 ⟨rfl, b1⟩
    have Y1 := hid (HY.out.trans (b1.mono HY.out.size))
    have X1 := Blk.below HX.out b1 (Blk.lt HX.out)
    have c0 := Blk.cell X1 0
    have c1 := Blk.cell X1 1
    have c6 := Blk.cell X1 6
    have c7 := Blk.cell X1 7
    have c8 := Blk.cell X1 8
    simp at c0 c1 c6 c7 c8
    have HX1 := hid X1
    clear b1 X1
    go_wp2
    go_ret
    exact ⟨by rw [HC.out, HF.out]; rfl, Y1.out⟩
  by_cases o3 : op = 3
  ·subst o3
   rw [if_neg (by omega), if_pos rfl] at HF
   clear o1 o2
   cases vb
   ·clear HRt
    go_enter Tryz.func59, Tryz.ntmps59
    go_wp2_with fail
    refine (HEl.out _).mono ?_
    rintro e1 w1 ⟨rfl, b1⟩
    have Y1 := hid (HY.out.trans (b1.mono HY.out.size))
    have X1 := Blk.below HX.out b1 (Blk.lt HX.out)
    have c0 := Blk.cell X1 0
    have c1 := Blk.cell X1 1
    have c6 := Blk.cell X1 6
    have c7 := Blk.cell X1 7
    have c8 := Blk.cell X1 8
    simp at c0 c1 c6 c7 c8
    have HX1 := hid X1
    clear b1 X1
    go_wp2
    go_ret
    exact ⟨by rw [HC.out, HF.out]; rfl, Y1.out⟩
   ·by_cases v1 : 1 ≤ vk
    ·by_cases v2 : vk ≤ 3
     ·rw [decide_eq_true (show 1 ≤ vk ∧ vk ≤ 3 from ⟨v1, v2⟩), Bool.true_and, Bool.true_and] at HF
      generalize rightB vk vn t.data.toList = rb at *
      have d1 : decide (1 ≤ vk) = true := decide_eq_true v1
      have d2 : decide (vk ≤ 3) = true := decide_eq_true v2
      go_enter Tryz.func59, Tryz.ntmps59
      go_wp2_with fail
      refine (HEl.out _).mono ?_
      rintro e1 w1 ⟨rfl, b1⟩
      have Y1 := hid (HY.out.trans (b1.mono HY.out.size))
      have X1 := Blk.below HX.out b1 (Blk.lt HX.out)
      have c0 := Blk.cell X1 0
      have c1 := Blk.cell X1 1
      have c6 := Blk.cell X1 6
      have c7 := Blk.cell X1 7
      have c8 := Blk.cell X1 8
      simp at c0 c1 c6 c7 c8
      have HX1 := hid X1
      clear b1 X1
      go_wp2_with fail
      refine (HRt.out _ rfl _).mono ?_
      rintro e2 w2 ⟨rfl, b2⟩
      have Y2 := hid (Y1.out.trans (b2.mono Y1.out.size))
      clear b2
      go_wp2
      go_ret
      exact ⟨by rw [HC.out, HF.out]; rfl, Y2.out⟩
     ·rw [decide_eq_false (show ¬ (1 ≤ vk ∧ vk ≤ 3) from fun h => v2 h.2), Bool.false_and, Bool.and_false] at HF
      have d1 : decide (1 ≤ vk) = true := decide_eq_true v1
      have d2 : decide (vk ≤ 3) = false := decide_eq_false v2
      clear HRt
      go_enter Tryz.func59, Tryz.ntmps59
      go_wp2_with fail
      refine (HEl.out _).mono ?_
      rintro e1 w1 ⟨rfl, b1⟩
      have Y1 := hid (HY.out.trans (b1.mono HY.out.size))
      have X1 := Blk.below HX.out b1 (Blk.lt HX.out)
      have c0 := Blk.cell X1 0
      have c1 := Blk.cell X1 1
      have c6 := Blk.cell X1 6
      have c7 := Blk.cell X1 7
      have c8 := Blk.cell X1 8
      simp at c0 c1 c6 c7 c8
      have HX1 := hid X1
      clear b1 X1
      go_wp2
      go_ret
      exact ⟨by rw [HC.out, HF.out]; rfl, Y1.out⟩
    ·rw [decide_eq_false (show ¬ (1 ≤ vk ∧ vk ≤ 3) from fun h => v1 h.1), Bool.false_and, Bool.and_false] at HF
     have d1 : decide (1 ≤ vk) = false := decide_eq_false v1
     clear HRt
     go_enter Tryz.func59, Tryz.ntmps59
     go_wp2_with fail
     refine (HEl.out _).mono ?_
     rintro e1 w1 ⟨rfl, b1⟩
     have Y1 := hid (HY.out.trans (b1.mono HY.out.size))
     have X1 := Blk.below HX.out b1 (Blk.lt HX.out)
     have c0 := Blk.cell X1 0
     have c1 := Blk.cell X1 1
     have c6 := Blk.cell X1 6
     have c7 := Blk.cell X1 7
     have c8 := Blk.cell X1 8
     simp at c0 c1 c6 c7 c8
     have HX1 := hid X1
     clear b1 X1
     go_wp2
     go_ret
     exact ⟨by rw [HC.out, HF.out]; rfl, Y1.out⟩
  by_cases o4 : op = 4
  ·subst o4
   rw [if_neg (by omega), if_neg (by omega), if_pos rfl] at HF
   clear HRt o1 o2 o3
   cases vb
   all_goals
    go_enter Tryz.func59, Tryz.ntmps59
    go_wp2_with fail
    refine (HEl.out _).mono ?_
    rintro e1 w1 ⟨rfl, b1⟩
    have Y1 := hid (HY.out.trans (b1.mono HY.out.size))
    have X1 := Blk.below HX.out b1 (Blk.lt HX.out)
    have c0 := Blk.cell X1 0
    have c1 := Blk.cell X1 1
    have c6 := Blk.cell X1 6
    have c7 := Blk.cell X1 7
    have c8 := Blk.cell X1 8
    simp at c0 c1 c6 c7 c8
    have HX1 := hid X1
    clear b1 X1
    go_wp2
    go_ret
    exact ⟨by rw [HC.out, HF.out]; rfl, Y1.out⟩
  rw [if_neg (by omega), if_neg o3, if_neg o4] at HF
  have b1' : (op == 1) = false := beq_eq_false_iff_ne.2 o1
  have b2' : (op == 2) = false := beq_eq_false_iff_ne.2 o2
  have b3' : (op == 3) = false := beq_eq_false_iff_ne.2 o3
  have b4' : (op == 4) = false := beq_eq_false_iff_ne.2 o4
  clear HRt o1 o2 o3 o4
  go_enter Tryz.func59, Tryz.ntmps59
  go_wp2_with fail
  refine (HEl.out _).mono ?_
  rintro e1 w1 ⟨rfl, b1⟩
  have Y1 := hid (HY.out.trans (b1.mono HY.out.size))
  have X1 := Blk.below HX.out b1 (Blk.lt HX.out)
  have c0 := Blk.cell X1 0
  have c1 := Blk.cell X1 1
  have c6 := Blk.cell X1 6
  have c7 := Blk.cell X1 7
  have c8 := Blk.cell X1 8
  simp at c0 c1 c6 c7 c8
  have HX1 := hid X1
  clear b1 X1
  go_wp2
  go_ret
  exact ⟨by rw [HC.out, HF.out]; rfl, Y1.out⟩
end Go.Proofs.YtdgglhlofnigkaaGreatDoor
