/-
  hedgerowref01.Elem: the contract, by a walk. Conditions: lengths.
-/
import Derived.Test.YtdgglhlofnigkaaGreatDoorEvFits
namespace Go.Proofs.YtdgglhlofnigkaaGreatDoor
open Lib (hid)
open Go.RowKit
def elemN (k : Int) (na nb nc nd eb ec ed : Bool) : Bool := decide (1 ≤ k ∧ k ≤ 5) && (na && (if edgeB k then nb else eb) && (if edgeB k then nc else ec) && (if moreB k then nd else ed))
theorem elemB_N (k : Int) (a b c d : ByteArray) : elemB k a.data.toList b.data.toList c.data.toList d.data.toList = elemN k (nameB a.data.toList) (nameB b.data.toList) (nameB c.data.toList) (nameB d.data.toList) b.toList.isEmpty c.toList.isEmpty d.toList.isEmpty := by
 rw [Lib.toList_data b, Lib.toList_data c, Lib.toList_data d]; rfl
theorem run_loadstr_op {P : Program} {o : Oper} {ρ : Operand → Value} {w : World} {ty : TypeId} {x : Operand} {ad : Addr} {n : ByteArray} (ho : o.op = .load ty x) (hx : ρ x = .pointer (some ad)) (hu : P.underlying ty = some .string) (hc : w.cell? ad = some (.string n)) :
  (execOp ρ o).run P w = .ok (.value (.string n)) w := by
 unfold execOp
 have ha : (isAgg ty).run P w = .ok false w := by unfold isAgg; rw [Sem.run_bind, run_underlying hu w]; simp
 simp [ho, hx, Instr.loadAt, Instr.sureAddr, loadVar, ha, hc, go_sem]
theorem run_fieldAddr_any {P : Program} {o : Oper} {ρ : Operand → Value} {w : World} {ty : TypeId} {x : Operand} {ad : Addr} {k : Nat} {v : Value} (ho : o.op = .fieldAddr ty x k) (hx : ρ x = .pointer (some ad))
  (hr : (Instr.fieldAt ty (.pointer (some ad)) k).run P w = .ok v w) : (execOp ρ o).run P w = .ok (.value v) w := by
 unfold execOp
 simp [ho, hx, hr]
theorem refname_is (s : ByteArray) (hs : s.size ≤ 9223372036854775806) (w : World) : Calls Tryz.prog 112 #[.string s] w (Gives w (.bool (nameB s.data.toList))) :=
 (refname_any s w hs).mono fun _ _ ⟨h, hw⟩ => ⟨h, hw ▸ Below.refl _ _⟩
set_option maxRecDepth 100000 in
set_option maxHeartbeats 2000000 in
theorem refelem_any (k : Int) (sa sb sc sd : ByteArray) (w : World) (ha : sa.size ≤ 9223372036854775806) (hb : sb.size ≤ 9223372036854775806) (hc : sc.size ≤ 9223372036854775806) (hd : sd.size ≤ 9223372036854775806) :
  Calls Tryz.prog 80 #[elV k sa sb sc sd] w (Gives w (.bool (elemB k sa.data.toList sb.data.toList sc.data.toList sd.data.toList))) := by
 rw [elemB_N]
 obtain ⟨X, hX⟩ : ∃ X, X = w.alloc (.cells #[.int .i64 k, .string sa, .string sb, .string sc, .string sd] 38) := ⟨_, rfl⟩
 have hk : Blk X w.heap.size 38 #[.int .i64 k, .string sa, .string sb, .string sc, .string sd] := by rw [hX]; exact Blk.new _ _ _
 have hy : Below w.heap.size w X := by rw [hX]; exact (Below.refl _ _).alloc (Nat.le_refl _) _
 have HX := hid hX
 have K := hid hk
 have HY := hid hy
 have NA := hid (refname_is sa ha)
 have NB := hid (refname_is sb hb)
 have NC := hid (refname_is sc hc)
 have ND := hid (refname_is sd hd)
 clear hX hk hy ha hb hc hd
 generalize nameB sa.data.toList = na at *
 generalize nameB sb.data.toList = nb at *
 generalize nameB sc.data.toList = nc at *
 generalize nameB sd.data.toList = nd at *
 unfold elV
 go_enter Tryz.func80, Tryz.ntmps80
 go_upto_region 1 with fail
 rw [← HX.out]
 go_cut [3, 4, 5, 6] (fun x y z u W => x = .bool na ∧ y = .bool nb ∧ z = .bool nc ∧ u = .bool nd ∧ Below X.heap.size X W)
 case first =>
  refine wp_region_any (by kernel_rfl) ?_
  refine wpAny_below (fun i v _ => v = ([.pointer (some ⟨w.heap.size, 1, none⟩), .string sa, .bool na, .pointer (some ⟨w.heap.size, 2, none⟩), .string sb, .bool nb, .pointer (some ⟨w.heap.size, 3, none⟩), .string sc, .bool nc, .pointer (some ⟨w.heap.size, 4, none⟩), .string sd, .bool nd, .bool na, .bool nb, .bool nc, .bool nd] : List Value).getD i undef) _ X (by kernel_rfl) (by kernel_rfl) (by kernel_rfl) (fun i v w w' _ h => h) ?_ ?_
  ·refine ⟨?_, ?_, ?_, ?_, ?_, ?_, ?_, ?_, ?_, ?_, ?_, ?_, ?_, ?_, ?_, ?_, trivial⟩
   ·intro a W hI hun haft hi
    have e1 : a.eval (.tmp 1) = .pointer (some ⟨w.heap.size, 0, none⟩) := hun 1 (by kernel_rfl)
    exact b_same hi hI rfl _ (run_fieldAddr_any rfl e1 (by go_simp)) rfl
   ·intro a W hI hun haft hi
    have f0 : a.eval (.tmp 7) = .pointer (some ⟨w.heap.size, 1, none⟩) := haft ⟨0, .data⟩ (by simp) rfl _ _ rfl rfl
    exact b_same hi hI rfl _ (run_loadstr_op rfl f0 Tryz.underlying9 ((Blk.cell (Blk.below K.out hI (Blk.lt K.out)) 1).trans rfl)) rfl
   ·intro a W hI hun haft hi
    have f1 : a.eval (.tmp 8) = .string sa := haft ⟨1, .data⟩ (by simp) rfl _ _ rfl rfl
    refine b_call hi hI rfl _ _ (run_call_op (args := #[.string sa]) rfl (by simp [f1]) (by kernel_rfl)) ?_
    exact (NA.out W).mono fun e w' H => ⟨_, H.1, rfl, H.2⟩
   ·intro a W hI hun haft hi
    have e1 : a.eval (.tmp 1) = .pointer (some ⟨w.heap.size, 0, none⟩) := hun 1 (by kernel_rfl)
    exact b_same hi hI rfl _ (run_fieldAddr_any rfl e1 (by go_simp)) rfl
   ·intro a W hI hun haft hi
    have f3 : a.eval (.tmp 10) = .pointer (some ⟨w.heap.size, 2, none⟩) := haft ⟨3, .data⟩ (by simp) rfl _ _ rfl rfl
    exact b_same hi hI rfl _ (run_loadstr_op rfl f3 Tryz.underlying9 ((Blk.cell (Blk.below K.out hI (Blk.lt K.out)) 2).trans rfl)) rfl
   ·intro a W hI hun haft hi
    have f4 : a.eval (.tmp 11) = .string sb := haft ⟨4, .data⟩ (by simp) rfl _ _ rfl rfl
    refine b_call hi hI rfl _ _ (run_call_op (args := #[.string sb]) rfl (by simp [f4]) (by kernel_rfl)) ?_
    exact (NB.out W).mono fun e w' H => ⟨_, H.1, rfl, H.2⟩
   ·intro a W hI hun haft hi
    have e1 : a.eval (.tmp 1) = .pointer (some ⟨w.heap.size, 0, none⟩) := hun 1 (by kernel_rfl)
    exact b_same hi hI rfl _ (run_fieldAddr_any rfl e1 (by go_simp)) rfl
   ·intro a W hI hun haft hi
    have f6 : a.eval (.tmp 13) = .pointer (some ⟨w.heap.size, 3, none⟩) := haft ⟨6, .data⟩ (by simp) rfl _ _ rfl rfl
    exact b_same hi hI rfl _ (run_loadstr_op rfl f6 Tryz.underlying9 ((Blk.cell (Blk.below K.out hI (Blk.lt K.out)) 3).trans rfl)) rfl
   ·intro a W hI hun haft hi
    have f7 : a.eval (.tmp 14) = .string sc := haft ⟨7, .data⟩ (by simp) rfl _ _ rfl rfl
    refine b_call hi hI rfl _ _ (run_call_op (args := #[.string sc]) rfl (by simp [f7]) (by kernel_rfl)) ?_
    exact (NC.out W).mono fun e w' H => ⟨_, H.1, rfl, H.2⟩
   ·intro a W hI hun haft hi
    have e1 : a.eval (.tmp 1) = .pointer (some ⟨w.heap.size, 0, none⟩) := hun 1 (by kernel_rfl)
    exact b_same hi hI rfl _ (run_fieldAddr_any rfl e1 (by go_simp)) rfl
   ·intro a W hI hun haft hi
    have f9 : a.eval (.tmp 16) = .pointer (some ⟨w.heap.size, 4, none⟩) := haft ⟨9, .data⟩ (by simp) rfl _ _ rfl rfl
    exact b_same hi hI rfl _ (run_loadstr_op rfl f9 Tryz.underlying9 ((Blk.cell (Blk.below K.out hI (Blk.lt K.out)) 4).trans rfl)) rfl
   ·intro a W hI hun haft hi
    have f10 : a.eval (.tmp 17) = .string sd := haft ⟨10, .data⟩ (by simp) rfl _ _ rfl rfl
    refine b_call hi hI rfl _ _ (run_call_op (args := #[.string sd]) rfl (by simp [f10]) (by kernel_rfl)) ?_
    exact (ND.out W).mono fun e w' H => ⟨_, H.1, rfl, H.2⟩
   ·intro a W hI hun haft hi
    have f2 : a.eval (.tmp 9) = .bool na := haft ⟨2, .data⟩ (by simp) rfl _ _ rfl rfl
    exact b_same hi hI rfl _ (run_assign_op rfl f2) rfl
   ·intro a W hI hun haft hi
    have f5 : a.eval (.tmp 12) = .bool nb := haft ⟨5, .data⟩ (by simp) rfl _ _ rfl rfl
    exact b_same hi hI rfl _ (run_assign_op rfl f5) rfl
   ·intro a W hI hun haft hi
    have f8 : a.eval (.tmp 15) = .bool nc := haft ⟨8, .data⟩ (by simp) rfl _ _ rfl rfl
    exact b_same hi hI rfl _ (run_assign_op rfl f8) rfl
   ·intro a W hI hun haft hi
    have f11 : a.eval (.tmp 18) = .bool nd := haft ⟨11, .data⟩ (by simp) rfl _ _ rfl rfl
    exact b_same hi hI rfl _ (run_assign_op rfl f11) rfl
  ·intro vals W hI hp
   have hl12 : vals 12 = .bool na := hp 12 (by decide)
   have hl13 : vals 13 = .bool nb := hp 13 (by decide)
   have hl14 : vals 14 = .bool nc := hp 14 (by decide)
   have hl15 : vals 15 = .bool nd := hp 15 (by decide)
   have HI := hid hI
   clear hp hI
   simp only [layN, layS, List.range, List.range.loop, if_true, Act.put, Nat.zero_add, Nat.reduceAdd, hl12, hl13, hl14, hl15]
   clear hl12 hl13 hl14 hl15
   go_wp2_with fail
   go_meet
   exact ⟨rfl, rfl, rfl, rfl, HI.out⟩
 case rest =>
  obtain ⟨rfl, rfl, rfl, rfl, hb⟩ := hcut
  have K2 := hid (Blk.below K.out hb (Blk.lt K.out))
  have Y2 := hid (HY.out.trans (hb.mono HY.out.size))
  clear hb K HY HX NA NB NC ND
  have c0 := Blk.cell K2.out 0
  have c2 := Blk.cell K2.out 2
  have c3 := Blk.cell K2.out 3
  have c4 := Blk.cell K2.out 4
  simp at c0 c2 c3 c4
  obtain ⟨eb, hb⟩ : ∃ q, sb.toList.isEmpty = q := ⟨_, rfl⟩
  obtain ⟨ec, hc⟩ : ∃ q, sc.toList.isEmpty = q := ⟨_, rfl⟩
  obtain ⟨ed, hd⟩ : ∃ q, sd.toList.isEmpty = q := ⟨_, rfl⟩
  have HE : Hid (elemN k na nb nc nd sb.toList.isEmpty sc.toList.isEmpty sd.toList.isEmpty = elemN k na nb nc nd eb ec ed) := hid (by rw [hb, hc, hd])
  by_cases hk : 1 ≤ k ∧ k ≤ 5
  ·have hk5 : k = 1 ∨ k = 2 ∨ k = 3 ∨ k = 4 ∨ k = 5 := by omega
   clear hk
   rcases hk5 with rfl | rfl | rfl | rfl | rfl
   ·cases na
    ·go_wp2
     go_ret
     exact ⟨by rw [HE.out]; first | rfl | (cases ed <;> rfl) | (cases nd <;> rfl), Y2.out⟩
    ·cases eb
     ·go_wp2
      go_ret
      exact ⟨by rw [HE.out]; first | rfl | (cases ed <;> rfl) | (cases nd <;> rfl), Y2.out⟩
     ·cases ec
      ·go_wp2
       go_ret
       exact ⟨by rw [HE.out]; first | rfl | (cases ed <;> rfl) | (cases nd <;> rfl), Y2.out⟩
      ·go_wp2
       go_ret
       exact ⟨by rw [HE.out]; first | rfl | (cases ed <;> rfl) | (cases nd <;> rfl), Y2.out⟩
   ·cases na
    ·go_wp2
     go_ret
     exact ⟨by rw [HE.out]; first | rfl | (cases ed <;> rfl) | (cases nd <;> rfl), Y2.out⟩
    ·cases eb
     ·go_wp2
      go_ret
      exact ⟨by rw [HE.out]; first | rfl | (cases ed <;> rfl) | (cases nd <;> rfl), Y2.out⟩
     ·cases ec
      ·go_wp2
       go_ret
       exact ⟨by rw [HE.out]; first | rfl | (cases ed <;> rfl) | (cases nd <;> rfl), Y2.out⟩
      ·go_wp2
       go_ret
       exact ⟨by rw [HE.out]; first | rfl | (cases ed <;> rfl) | (cases nd <;> rfl), Y2.out⟩
   ·cases na
    ·go_wp2
     go_ret
     exact ⟨by rw [HE.out]; first | rfl | (cases ed <;> rfl) | (cases nd <;> rfl), Y2.out⟩
    ·cases nb
     ·go_wp2
      go_ret
      exact ⟨by rw [HE.out]; first | rfl | (cases ed <;> rfl) | (cases nd <;> rfl), Y2.out⟩
     ·cases nc
      ·go_wp2
       go_ret
       exact ⟨by rw [HE.out]; first | rfl | (cases ed <;> rfl) | (cases nd <;> rfl), Y2.out⟩
      ·go_wp2
       go_ret
       exact ⟨by rw [HE.out]; first | rfl | (cases ed <;> rfl) | (cases nd <;> rfl), Y2.out⟩
   ·cases na
    ·go_wp2
     go_ret
     exact ⟨by rw [HE.out]; first | rfl | (cases ed <;> rfl) | (cases nd <;> rfl), Y2.out⟩
    ·cases eb
     ·go_wp2
      go_ret
      exact ⟨by rw [HE.out]; first | rfl | (cases ed <;> rfl) | (cases nd <;> rfl), Y2.out⟩
     ·cases ec
      ·go_wp2
       go_ret
       exact ⟨by rw [HE.out]; first | rfl | (cases ed <;> rfl) | (cases nd <;> rfl), Y2.out⟩
      ·go_wp2
       go_ret
       exact ⟨by rw [HE.out]; first | rfl | (cases ed <;> rfl) | (cases nd <;> rfl), Y2.out⟩
   ·cases na
    ·go_wp2
     go_ret
     exact ⟨by rw [HE.out]; first | rfl | (cases ed <;> rfl) | (cases nd <;> rfl), Y2.out⟩
    ·cases nb
     ·go_wp2
      go_ret
      exact ⟨by rw [HE.out]; first | rfl | (cases ed <;> rfl) | (cases nd <;> rfl), Y2.out⟩
     ·cases nc
      ·go_wp2
       go_ret
       exact ⟨by rw [HE.out]; first | rfl | (cases ed <;> rfl) | (cases nd <;> rfl), Y2.out⟩
      ·go_wp2
       go_ret
       exact ⟨by rw [HE.out]; first | rfl | (cases ed <;> rfl) | (cases nd <;> rfl), Y2.out⟩
  ·have g1 : (k == 1) = false := beq_eq_false_iff_ne.2 (by omega)
   have g2 : (k == 2) = false := beq_eq_false_iff_ne.2 (by omega)
   have g3 : (k == 3) = false := beq_eq_false_iff_ne.2 (by omega)
   have g4 : (k == 4) = false := beq_eq_false_iff_ne.2 (by omega)
   have g5 : (k == 5) = false := beq_eq_false_iff_ne.2 (by omega)
   have HF : Hid (elemN k na nb nc nd eb ec ed = false) := hid (by unfold elemN; rw [decide_eq_false hk]; rfl)
   clear hk
   go_wp2
   go_ret
   exact ⟨by rw [HE.out, HF.out]; rfl, Y2.out⟩
end Go.Proofs.YtdgglhlofnigkaaGreatDoor
