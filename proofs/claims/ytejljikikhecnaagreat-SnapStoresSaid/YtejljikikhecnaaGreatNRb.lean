/-
  hedgerowref01.Elem: the contract, by a walk. hedgerowref06.Change: the contract, by a walk. hedgerowref06.Right: the contract, by a walk. Conditions: lengths.
-/
import Derived.Test.YtejljikikhecnaaGreatNRa
import Derived.Test.YtejljikikhecnaaGreatNEv
import Derived.Test.YtejljikikhecnaaGreatSnShort
import Derived.Test.YtejljikikhecnaaGreatSnRd
namespace Go.Proofs.YtejljikikhecnaaGreat
open Go.RowKit

def elemN (k : Int) (na nb nc nd eb ec ed : Bool) : Bool := decide (1 ≤ k ∧ k ≤ 5) && (na && (if edgeB k then nb else eb) && (if edgeB k then nc else ec) && (if moreB k then nd else ed))
theorem elemB_N (k : Int) (a b c d : ByteArray) : elemB k a.data.toList b.data.toList c.data.toList d.data.toList = elemN k (nameB a.data.toList) (nameB b.data.toList) (nameB c.data.toList) (nameB d.data.toList) b.toList.isEmpty c.toList.isEmpty d.toList.isEmpty := by
  rw [Lib.toList_data b, Lib.toList_data c, Lib.toList_data d]; rfl
theorem refname_is (s : ByteArray) (hs : s.size ≤ 9223372036854775806) (w : World) : Calls Tryz.prog 94 #[.string s] w (Gives w (.bool (nameB s.data.toList))) :=
  (refname_any s w hs).mono fun _ _ ⟨h, hw⟩ => ⟨h, hw ▸ Below.refl _ _⟩

set_option maxRecDepth 100000 in
set_option maxHeartbeats 2000000 in
theorem refelem_any (k : Int) (sa sb sc sd : ByteArray) (w : World) (ha : sa.size ≤ 9223372036854775806) (hb : sb.size ≤ 9223372036854775806) (hc : sc.size ≤ 9223372036854775806) (hd : sd.size ≤ 9223372036854775806) :
    Calls Tryz.prog 62 #[elV k sa sb sc sd] w (Gives w (.bool (elemB k sa.data.toList sb.data.toList sc.data.toList sd.data.toList))) := by
  rw [elemB_N]
  obtain ⟨X, hX⟩ : ∃ X, X = w.alloc (.cells #[.int .i64 k, .string sa, .string sb, .string sc, .string sd] 45) := ⟨_, rfl⟩
  have hk : Blk X w.heap.size 45 #[.int .i64 k, .string sa, .string sb, .string sc, .string sd] := by rw [hX]; exact Blk.new _ _ _
  have hy : Below w.heap.size w X := by rw [hX]; exact (Below.refl _ _).alloc (Nat.le_refl _) _
  have HX := Lib.hid hX
  have K := Lib.hid hk
  have HY := Lib.hid hy
  have NA := Lib.hid (refname_is sa ha)
  have NB := Lib.hid (refname_is sb hb)
  have NC := Lib.hid (refname_is sc hc)
  have ND := Lib.hid (refname_is sd hd)
  clear hX hk hy ha hb hc hd
  generalize nameB sa.data.toList = na at *
  generalize nameB sb.data.toList = nb at *
  generalize nameB sc.data.toList = nc at *
  generalize nameB sd.data.toList = nd at *
  unfold elV
  go_enter Tryz.func62, Tryz.ntmps62
  go_upto_region 1 with fail
  rw [← HX.out]
  go_cut [3, 4, 5, 6] (fun x y z u W => x = .bool na ∧ y = .bool nb ∧ z = .bool nc ∧ u = .bool nd ∧ Below X.heap.size X W)
  case first =>
    refine wp_region_any (by kernel_rfl) ?_
    refine wpAny_below (fun i v _ => v = ([.pointer (some ⟨w.heap.size, 1, none⟩), .string sa, .bool na, .pointer (some ⟨w.heap.size, 2, none⟩), .string sb, .bool nb, .pointer (some ⟨w.heap.size, 3, none⟩), .string sc, .bool nc, .pointer (some ⟨w.heap.size, 4, none⟩), .string sd, .bool nd, .bool na, .bool nb, .bool nc, .bool nd] : List Value).getD i undef) _ X (by kernel_rfl) (by kernel_rfl) (by kernel_rfl) (fun i v w w' _ h => h) ?_ ?_
    · refine ⟨?_, ?_, ?_, ?_, ?_, ?_, ?_, ?_, ?_, ?_, ?_, ?_, ?_, ?_, ?_, ?_, trivial⟩
      · intro a W hI hun haft hi
        have e1 : a.eval (.tmp 1) = .pointer (some ⟨w.heap.size, 0, none⟩) := hun 1 (by kernel_rfl)
        exact b_same hi hI rfl _ (run_fieldAddr_any rfl e1 (by go_simp)) rfl
      · intro a W hI hun haft hi
        have f0 : a.eval (.tmp 7) = .pointer (some ⟨w.heap.size, 1, none⟩) := haft ⟨0, .data⟩ (by simp) rfl _ _ rfl rfl
        exact b_same hi hI rfl _ (run_loadstr_op rfl f0 Tryz.underlying9 ((Blk.cell (Blk.below K.out hI (Blk.lt K.out)) 1).trans rfl)) rfl
      · intro a W hI hun haft hi
        have f1 : a.eval (.tmp 8) = .string sa := haft ⟨1, .data⟩ (by simp) rfl _ _ rfl rfl
        refine b_call hi hI rfl _ _ (run_call_op (args := #[.string sa]) rfl (by simp [f1]) (by kernel_rfl)) ?_
        exact (NA.out W).mono fun e w' H => ⟨_, H.1, rfl, H.2⟩
      · intro a W hI hun haft hi
        have e1 : a.eval (.tmp 1) = .pointer (some ⟨w.heap.size, 0, none⟩) := hun 1 (by kernel_rfl)
        exact b_same hi hI rfl _ (run_fieldAddr_any rfl e1 (by go_simp)) rfl
      · intro a W hI hun haft hi
        have f3 : a.eval (.tmp 10) = .pointer (some ⟨w.heap.size, 2, none⟩) := haft ⟨3, .data⟩ (by simp) rfl _ _ rfl rfl
        exact b_same hi hI rfl _ (run_loadstr_op rfl f3 Tryz.underlying9 ((Blk.cell (Blk.below K.out hI (Blk.lt K.out)) 2).trans rfl)) rfl
      · intro a W hI hun haft hi
        have f4 : a.eval (.tmp 11) = .string sb := haft ⟨4, .data⟩ (by simp) rfl _ _ rfl rfl
        refine b_call hi hI rfl _ _ (run_call_op (args := #[.string sb]) rfl (by simp [f4]) (by kernel_rfl)) ?_
        exact (NB.out W).mono fun e w' H => ⟨_, H.1, rfl, H.2⟩
      · intro a W hI hun haft hi
        have e1 : a.eval (.tmp 1) = .pointer (some ⟨w.heap.size, 0, none⟩) := hun 1 (by kernel_rfl)
        exact b_same hi hI rfl _ (run_fieldAddr_any rfl e1 (by go_simp)) rfl
      · intro a W hI hun haft hi
        have f6 : a.eval (.tmp 13) = .pointer (some ⟨w.heap.size, 3, none⟩) := haft ⟨6, .data⟩ (by simp) rfl _ _ rfl rfl
        exact b_same hi hI rfl _ (run_loadstr_op rfl f6 Tryz.underlying9 ((Blk.cell (Blk.below K.out hI (Blk.lt K.out)) 3).trans rfl)) rfl
      · intro a W hI hun haft hi
        have f7 : a.eval (.tmp 14) = .string sc := haft ⟨7, .data⟩ (by simp) rfl _ _ rfl rfl
        refine b_call hi hI rfl _ _ (run_call_op (args := #[.string sc]) rfl (by simp [f7]) (by kernel_rfl)) ?_
        exact (NC.out W).mono fun e w' H => ⟨_, H.1, rfl, H.2⟩
      · intro a W hI hun haft hi
        have e1 : a.eval (.tmp 1) = .pointer (some ⟨w.heap.size, 0, none⟩) := hun 1 (by kernel_rfl)
        exact b_same hi hI rfl _ (run_fieldAddr_any rfl e1 (by go_simp)) rfl
      · intro a W hI hun haft hi
        have f9 : a.eval (.tmp 16) = .pointer (some ⟨w.heap.size, 4, none⟩) := haft ⟨9, .data⟩ (by simp) rfl _ _ rfl rfl
        exact b_same hi hI rfl _ (run_loadstr_op rfl f9 Tryz.underlying9 ((Blk.cell (Blk.below K.out hI (Blk.lt K.out)) 4).trans rfl)) rfl
      · intro a W hI hun haft hi
        have f10 : a.eval (.tmp 17) = .string sd := haft ⟨10, .data⟩ (by simp) rfl _ _ rfl rfl
        refine b_call hi hI rfl _ _ (run_call_op (args := #[.string sd]) rfl (by simp [f10]) (by kernel_rfl)) ?_
        exact (ND.out W).mono fun e w' H => ⟨_, H.1, rfl, H.2⟩
      · intro a W hI hun haft hi
        have f2 : a.eval (.tmp 9) = .bool na := haft ⟨2, .data⟩ (by simp) rfl _ _ rfl rfl
        exact b_same hi hI rfl _ (run_assign_op rfl f2) rfl
      · intro a W hI hun haft hi
        have f5 : a.eval (.tmp 12) = .bool nb := haft ⟨5, .data⟩ (by simp) rfl _ _ rfl rfl
        exact b_same hi hI rfl _ (run_assign_op rfl f5) rfl
      · intro a W hI hun haft hi
        have f8 : a.eval (.tmp 15) = .bool nc := haft ⟨8, .data⟩ (by simp) rfl _ _ rfl rfl
        exact b_same hi hI rfl _ (run_assign_op rfl f8) rfl
      · intro a W hI hun haft hi
        have f11 : a.eval (.tmp 18) = .bool nd := haft ⟨11, .data⟩ (by simp) rfl _ _ rfl rfl
        exact b_same hi hI rfl _ (run_assign_op rfl f11) rfl
    · intro vals W hI hp
      have hl12 : vals 12 = .bool na := hp 12 (by decide)
      have hl13 : vals 13 = .bool nb := hp 13 (by decide)
      have hl14 : vals 14 = .bool nc := hp 14 (by decide)
      have hl15 : vals 15 = .bool nd := hp 15 (by decide)
      have HI := Lib.hid hI
      clear hp hI
      simp only [layN, List.size_toArray, List.length_cons, List.length_nil, List.range, List.range.loop, if_true, List.getElem?_toArray, List.getElem?_cons_zero, List.getElem?_cons_succ, Act.put, List.setIfInBounds_toArray, List.set_cons_zero, List.set_cons_succ, Nat.zero_add, Nat.reduceAdd, hl12, hl13, hl14, hl15]
      clear hl12 hl13 hl14 hl15
      go_wp2_with fail
      go_meet
      exact ⟨rfl, rfl, rfl, rfl, HI.out⟩
  case rest =>
    obtain ⟨rfl, rfl, rfl, rfl, hb⟩ := hcut
    have K2 := Lib.hid (Blk.below K.out hb (Blk.lt K.out))
    have Y2 := Lib.hid (HY.out.trans (hb.mono HY.out.size))
    clear hb K HY HX NA NB NC ND
    have c0 := Blk.cell K2.out 0
    have c2 := Blk.cell K2.out 2
    have c3 := Blk.cell K2.out 3
    have c4 := Blk.cell K2.out 4
    simp at c0 c2 c3 c4
    obtain ⟨eb, hb⟩ : ∃ q, sb.toList.isEmpty = q := ⟨_, rfl⟩
    obtain ⟨ec, hc⟩ : ∃ q, sc.toList.isEmpty = q := ⟨_, rfl⟩
    obtain ⟨ed, hd⟩ : ∃ q, sd.toList.isEmpty = q := ⟨_, rfl⟩
    have HE : Hid (elemN k na nb nc nd sb.toList.isEmpty sc.toList.isEmpty sd.toList.isEmpty = elemN k na nb nc nd eb ec ed) := Lib.hid (by rw [hb, hc, hd])
    by_cases hk : 1 ≤ k ∧ k ≤ 5
    · have hk5 : k = 1 ∨ k = 2 ∨ k = 3 ∨ k = 4 ∨ k = 5 := by omega
      clear hk
      rcases hk5 with rfl | rfl | rfl | rfl | rfl
      · cases na
        · go_wp2
          go_ret
          exact ⟨by rw [HE.out]; first | rfl | (cases ed <;> rfl) | (cases nd <;> rfl), Y2.out⟩
        · cases eb
          · go_wp2
            go_ret
            exact ⟨by rw [HE.out]; first | rfl | (cases ed <;> rfl) | (cases nd <;> rfl), Y2.out⟩
          · cases ec
            · go_wp2
              go_ret
              exact ⟨by rw [HE.out]; first | rfl | (cases ed <;> rfl) | (cases nd <;> rfl), Y2.out⟩
            · go_wp2
              go_ret
              exact ⟨by rw [HE.out]; first | rfl | (cases ed <;> rfl) | (cases nd <;> rfl), Y2.out⟩
      · cases na
        · go_wp2
          go_ret
          exact ⟨by rw [HE.out]; first | rfl | (cases ed <;> rfl) | (cases nd <;> rfl), Y2.out⟩
        · cases eb
          · go_wp2
            go_ret
            exact ⟨by rw [HE.out]; first | rfl | (cases ed <;> rfl) | (cases nd <;> rfl), Y2.out⟩
          · cases ec
            · go_wp2
              go_ret
              exact ⟨by rw [HE.out]; first | rfl | (cases ed <;> rfl) | (cases nd <;> rfl), Y2.out⟩
            · go_wp2
              go_ret
              exact ⟨by rw [HE.out]; first | rfl | (cases ed <;> rfl) | (cases nd <;> rfl), Y2.out⟩
      · cases na
        · go_wp2
          go_ret
          exact ⟨by rw [HE.out]; first | rfl | (cases ed <;> rfl) | (cases nd <;> rfl), Y2.out⟩
        · cases nb
          · go_wp2
            go_ret
            exact ⟨by rw [HE.out]; first | rfl | (cases ed <;> rfl) | (cases nd <;> rfl), Y2.out⟩
          · cases nc
            · go_wp2
              go_ret
              exact ⟨by rw [HE.out]; first | rfl | (cases ed <;> rfl) | (cases nd <;> rfl), Y2.out⟩
            · go_wp2
              go_ret
              exact ⟨by rw [HE.out]; first | rfl | (cases ed <;> rfl) | (cases nd <;> rfl), Y2.out⟩
      · cases na
        · go_wp2
          go_ret
          exact ⟨by rw [HE.out]; first | rfl | (cases ed <;> rfl) | (cases nd <;> rfl), Y2.out⟩
        · cases eb
          · go_wp2
            go_ret
            exact ⟨by rw [HE.out]; first | rfl | (cases ed <;> rfl) | (cases nd <;> rfl), Y2.out⟩
          · cases ec
            · go_wp2
              go_ret
              exact ⟨by rw [HE.out]; first | rfl | (cases ed <;> rfl) | (cases nd <;> rfl), Y2.out⟩
            · go_wp2
              go_ret
              exact ⟨by rw [HE.out]; first | rfl | (cases ed <;> rfl) | (cases nd <;> rfl), Y2.out⟩
      · cases na
        · go_wp2
          go_ret
          exact ⟨by rw [HE.out]; first | rfl | (cases ed <;> rfl) | (cases nd <;> rfl), Y2.out⟩
        · cases nb
          · go_wp2
            go_ret
            exact ⟨by rw [HE.out]; first | rfl | (cases ed <;> rfl) | (cases nd <;> rfl), Y2.out⟩
          · cases nc
            · go_wp2
              go_ret
              exact ⟨by rw [HE.out]; first | rfl | (cases ed <;> rfl) | (cases nd <;> rfl), Y2.out⟩
            · go_wp2
              go_ret
              exact ⟨by rw [HE.out]; first | rfl | (cases ed <;> rfl) | (cases nd <;> rfl), Y2.out⟩
    · have g1 : (k == 1) = false := beq_eq_false_iff_ne.2 (by omega)
      have g2 : (k == 2) = false := beq_eq_false_iff_ne.2 (by omega)
      have g3 : (k == 3) = false := beq_eq_false_iff_ne.2 (by omega)
      have g4 : (k == 4) = false := beq_eq_false_iff_ne.2 (by omega)
      have g5 : (k == 5) = false := beq_eq_false_iff_ne.2 (by omega)
      have HF : Hid (elemN k na nb nc nd eb ec ed = false) := Lib.hid (by unfold elemN; rw [decide_eq_false hk]; rfl)
      clear hk
      go_wp2
      go_ret
      exact ⟨by rw [HE.out, HF.out]; rfl, Y2.out⟩

end Go.Proofs.YtejljikikhecnaaGreat

namespace Go.Proofs.YtejljikikhecnaaGreat
open Go.RowKit

/-- Texts that are short. -/
def Tiny (e : Ev) : Prop := e.a.size ≤ 1000000 ∧ e.b.size ≤ 1000000 ∧ e.cc.size ≤ 1000000 ∧ e.d.size ≤ 1000000 ∧ e.t.size ≤ 1000000
theorem short_tiny (e : Ev) (h : shortB e = true) : Tiny e := by
  unfold shortB at h
  rw [decide_eq_true_eq] at h
  exact ⟨by omega, by omega, by omega, by omega, by omega⟩
theorem elemB_kind (k : Int) (a b c d : List UInt8) (h : elemB k a b c d = true) : 1 ≤ k ∧ k ≤ 5 := by
  unfold elemB at h
  rw [Bool.and_eq_true, decide_eq_true_eq] at h
  exact h.1
theorem vald_ge (k : Int) (h : 1 ≤ k ∧ k ≤ 5) : decide (4 ≤ k) = valdB k := by
  have : k = 1 ∨ k = 2 ∨ k = 3 ∨ k = 4 ∨ k = 5 := by omega
  rcases this with rfl | rfl | rfl | rfl | rfl <;> rfl
theorem refright_is (k n : Int) (s : ByteArray) (hs : s.size ≤ 1000000) (b : Bool) (h : rightB k n s.data.toList = b) (w : World) : Calls Tryz.prog 63 #[valV k n s] w (Gives w (.bool b)) := by
  have := refright_any k n s w hs; rwa [h] at this

set_option maxRecDepth 100000 in
set_option maxHeartbeats 4000000 in
theorem refchange_any (e : Ev) (w : World) (hl : Tiny e) : Calls Tryz.prog 28 #[chV e] w (Gives w (.bool (changeB e))) := by
  obtain ⟨l1, l2, l3, l4, l5⟩ := hl
  have HEl := Lib.hid (fun w => refelem_any e.ek e.a e.b e.cc e.d w (by omega) (by omega) (by omega) (by omega))
  have HRt := Lib.hid (fun b h w => refright_is e.vk e.vn e.t (by omega) b h w)
  have hq := fun w => eq_none e.vk e.vn e.t w
  have hgd := fun (x y : Operand) (a b : Array Value) (w : World) => guard_agg 47 (by kernel_rfl) x y a b w
  have HC : Hid (changeB e = (elemB e.ek e.a.data.toList e.b.data.toList e.cc.data.toList e.d.data.toList && fitsB e.op e.ek e.vk e.vn e.t.data.toList)) := Lib.hid rfl
  have HF : Hid (fitsB e.op e.ek e.vk e.vn e.t.data.toList = if e.op = 1 ∨ e.op = 2 then !valdB e.ek && noneB e.vk e.vn e.t.data.toList else if e.op = 3 then valdB e.ek && (decide (1 ≤ e.vk ∧ e.vk ≤ 3) && rightB e.vk e.vn e.t.data.toList) else if e.op = 4 then valdB e.ek && noneB e.vk e.vn e.t.data.toList else false) := Lib.hid rfl
  have HKK := Lib.hid (elemB_kind e.ek e.a.data.toList e.b.data.toList e.cc.data.toList e.d.data.toList)
  have HX := Lib.hid (Blk.new w 73 (chC e))
  have HY := Lib.hid ((Below.refl w.heap.size w).alloc (Nat.le_refl _) (.cells (chC e) 73))
  clear l1 l2 l3 l4 l5
  unfold chV elV valV at *
  obtain ⟨r, c, p, op, ek, a, b, cc, d, vk, vn, t⟩ := e
  unfold chC at *
  dsimp only at *
  generalize elemB ek a.data.toList b.data.toList cc.data.toList d.data.toList = el at *
  generalize noneB vk vn t.data.toList = nb at *
  cases el
  · clear HRt hq hgd
    go_enter Tryz.func28, Tryz.ntmps28
    go_wp2_with fail
    refine (HEl.out _).mono ?_
    rintro e1 w1 ⟨rfl, b1⟩
    have Y1 := Lib.hid (HY.out.trans (b1.mono HY.out.size))
    clear b1
    go_wp2
    go_ret
    exact ⟨by rw [HC.out]; rfl, Y1.out⟩
  · have hk := HKK.out rfl
    have hv := vald_ge ek hk
    rw [Bool.true_and] at HC
    clear HKK hk
    generalize valdB ek = vb at *
    have PRE : True := trivial
    clear PRE
    by_cases o1 : op = 1
    · subst o1
      rw [if_pos (Or.inl rfl)] at HF
      clear HRt
      cases vb
      all_goals
        go_enter Tryz.func28, Tryz.ntmps28
        go_wp2_with fail
        refine (HEl.out _).mono ?_
        rintro e1 w1 ⟨rfl, b1⟩
        have Y1 := Lib.hid (HY.out.trans (b1.mono HY.out.size))
        have X1 := Blk.below HX.out b1 (Blk.lt HX.out)
        have c0 := Blk.cell X1 0
        have c1 := Blk.cell X1 1
        have c6 := Blk.cell X1 6
        have c7 := Blk.cell X1 7
        have c8 := Blk.cell X1 8
        simp at c0 c1 c6 c7 c8
        have HX1 := Lib.hid X1
        clear b1 X1
        go_wp2
        go_ret
        exact ⟨by rw [HC.out, HF.out]; rfl, Y1.out⟩
    by_cases o2 : op = 2
    · subst o2
      rw [if_pos (Or.inr rfl)] at HF
      clear HRt o1
      cases vb
      all_goals
        go_enter Tryz.func28, Tryz.ntmps28
        go_wp2_with fail
        refine (HEl.out _).mono ?_
        rintro e1 w1 ⟨rfl, b1⟩
        have Y1 := Lib.hid (HY.out.trans (b1.mono HY.out.size))
        have X1 := Blk.below HX.out b1 (Blk.lt HX.out)
        have c0 := Blk.cell X1 0
        have c1 := Blk.cell X1 1
        have c6 := Blk.cell X1 6
        have c7 := Blk.cell X1 7
        have c8 := Blk.cell X1 8
        simp at c0 c1 c6 c7 c8
        have HX1 := Lib.hid X1
        clear b1 X1
        go_wp2
        go_ret
        exact ⟨by rw [HC.out, HF.out]; rfl, Y1.out⟩
    by_cases o3 : op = 3
    · subst o3
      rw [if_neg (by omega), if_pos rfl] at HF
      clear o1 o2
      cases vb
      · clear HRt
        go_enter Tryz.func28, Tryz.ntmps28
        go_wp2_with fail
        refine (HEl.out _).mono ?_
        rintro e1 w1 ⟨rfl, b1⟩
        have Y1 := Lib.hid (HY.out.trans (b1.mono HY.out.size))
        have X1 := Blk.below HX.out b1 (Blk.lt HX.out)
        have c0 := Blk.cell X1 0
        have c1 := Blk.cell X1 1
        have c6 := Blk.cell X1 6
        have c7 := Blk.cell X1 7
        have c8 := Blk.cell X1 8
        simp at c0 c1 c6 c7 c8
        have HX1 := Lib.hid X1
        clear b1 X1
        go_wp2
        go_ret
        exact ⟨by rw [HC.out, HF.out]; rfl, Y1.out⟩
      · by_cases v1 : 1 ≤ vk
        · by_cases v2 : vk ≤ 3
          · rw [decide_eq_true (show 1 ≤ vk ∧ vk ≤ 3 from ⟨v1, v2⟩), Bool.true_and, Bool.true_and] at HF
            generalize rightB vk vn t.data.toList = rb at *
            have d1 : decide (1 ≤ vk) = true := decide_eq_true v1
            have d2 : decide (vk ≤ 3) = true := decide_eq_true v2
            go_enter Tryz.func28, Tryz.ntmps28
            go_wp2_with fail
            refine (HEl.out _).mono ?_
            rintro e1 w1 ⟨rfl, b1⟩
            have Y1 := Lib.hid (HY.out.trans (b1.mono HY.out.size))
            have X1 := Blk.below HX.out b1 (Blk.lt HX.out)
            have c0 := Blk.cell X1 0
            have c1 := Blk.cell X1 1
            have c6 := Blk.cell X1 6
            have c7 := Blk.cell X1 7
            have c8 := Blk.cell X1 8
            simp at c0 c1 c6 c7 c8
            have HX1 := Lib.hid X1
            clear b1 X1
            go_wp2_with fail
            refine (HRt.out _ rfl _).mono ?_
            rintro e2 w2 ⟨rfl, b2⟩
            have Y2 := Lib.hid (Y1.out.trans (b2.mono Y1.out.size))
            clear b2
            go_wp2
            go_ret
            exact ⟨by rw [HC.out, HF.out]; rfl, Y2.out⟩
          · rw [decide_eq_false (show ¬ (1 ≤ vk ∧ vk ≤ 3) from fun h => v2 h.2), Bool.false_and, Bool.and_false] at HF
            have d1 : decide (1 ≤ vk) = true := decide_eq_true v1
            have d2 : decide (vk ≤ 3) = false := decide_eq_false v2
            clear HRt
            go_enter Tryz.func28, Tryz.ntmps28
            go_wp2_with fail
            refine (HEl.out _).mono ?_
            rintro e1 w1 ⟨rfl, b1⟩
            have Y1 := Lib.hid (HY.out.trans (b1.mono HY.out.size))
            have X1 := Blk.below HX.out b1 (Blk.lt HX.out)
            have c0 := Blk.cell X1 0
            have c1 := Blk.cell X1 1
            have c6 := Blk.cell X1 6
            have c7 := Blk.cell X1 7
            have c8 := Blk.cell X1 8
            simp at c0 c1 c6 c7 c8
            have HX1 := Lib.hid X1
            clear b1 X1
            go_wp2
            go_ret
            exact ⟨by rw [HC.out, HF.out]; rfl, Y1.out⟩
        · rw [decide_eq_false (show ¬ (1 ≤ vk ∧ vk ≤ 3) from fun h => v1 h.1), Bool.false_and, Bool.and_false] at HF
          have d1 : decide (1 ≤ vk) = false := decide_eq_false v1
          clear HRt
          go_enter Tryz.func28, Tryz.ntmps28
          go_wp2_with fail
          refine (HEl.out _).mono ?_
          rintro e1 w1 ⟨rfl, b1⟩
          have Y1 := Lib.hid (HY.out.trans (b1.mono HY.out.size))
          have X1 := Blk.below HX.out b1 (Blk.lt HX.out)
          have c0 := Blk.cell X1 0
          have c1 := Blk.cell X1 1
          have c6 := Blk.cell X1 6
          have c7 := Blk.cell X1 7
          have c8 := Blk.cell X1 8
          simp at c0 c1 c6 c7 c8
          have HX1 := Lib.hid X1
          clear b1 X1
          go_wp2
          go_ret
          exact ⟨by rw [HC.out, HF.out]; rfl, Y1.out⟩
    by_cases o4 : op = 4
    · subst o4
      rw [if_neg (by omega), if_neg (by omega), if_pos rfl] at HF
      clear HRt o1 o2 o3
      cases vb
      all_goals
        go_enter Tryz.func28, Tryz.ntmps28
        go_wp2_with fail
        refine (HEl.out _).mono ?_
        rintro e1 w1 ⟨rfl, b1⟩
        have Y1 := Lib.hid (HY.out.trans (b1.mono HY.out.size))
        have X1 := Blk.below HX.out b1 (Blk.lt HX.out)
        have c0 := Blk.cell X1 0
        have c1 := Blk.cell X1 1
        have c6 := Blk.cell X1 6
        have c7 := Blk.cell X1 7
        have c8 := Blk.cell X1 8
        simp at c0 c1 c6 c7 c8
        have HX1 := Lib.hid X1
        clear b1 X1
        go_wp2
        go_ret
        exact ⟨by rw [HC.out, HF.out]; rfl, Y1.out⟩
    rw [if_neg (by omega), if_neg o3, if_neg o4] at HF
    have b1' : (op == 1) = false := beq_eq_false_iff_ne.2 o1
    have b2' : (op == 2) = false := beq_eq_false_iff_ne.2 o2
    have b3' : (op == 3) = false := beq_eq_false_iff_ne.2 o3
    have b4' : (op == 4) = false := beq_eq_false_iff_ne.2 o4
    clear HRt o1 o2 o3 o4
    go_enter Tryz.func28, Tryz.ntmps28
    go_wp2_with fail
    refine (HEl.out _).mono ?_
    rintro e1 w1 ⟨rfl, b1⟩
    have Y1 := Lib.hid (HY.out.trans (b1.mono HY.out.size))
    have X1 := Blk.below HX.out b1 (Blk.lt HX.out)
    have c0 := Blk.cell X1 0
    have c1 := Blk.cell X1 1
    have c6 := Blk.cell X1 6
    have c7 := Blk.cell X1 7
    have c8 := Blk.cell X1 8
    simp at c0 c1 c6 c7 c8
    have HX1 := Lib.hid X1
    clear b1 X1
    go_wp2
    go_ret
    exact ⟨by rw [HC.out, HF.out]; rfl, Y1.out⟩

end Go.Proofs.YtejljikikhecnaaGreat

namespace Go.Proofs.YtejljikikhecnaaGreat
open Go.RowKit

theorem refchange_is (e : Ev) (hl : Tiny e) (w : World) : Calls Tryz.prog 28 #[chV e] w (Gives w (.bool (changeB e))) := refchange_any e w hl
theorem run_build_rt {P : Program} {o : Oper} {ρ : Operand → Value} {w : World} {ty : TypeId} {xs : Array (Nat × Operand)} {vs : Array (Nat × Value)} {v : Value} (ho : o.op = .build ty xs) (hx : xs.map (fun (i, x) => (i, ρ x)) = vs) (hr : (Instr.build ty vs).run P w = .ok v w) : (execOp ρ o).run P w = .ok (.value v) w := by
  unfold execOp
  simp only [ho]
  rw [show (xs.map fun x => match x with | (i, x) => (i, ρ x)) = vs from hx]
  simp [hr]
theorem at_dot0 (g : Nat) (w : World) : (Instr.fieldAt 43 (.pointer (some ⟨g, 0, none⟩)) 0).run Tryz.prog w = .ok (.pointer (some ⟨g, 0, none⟩)) w := by go_simp
theorem at_ev1 (g : Nat) (w : World) : (Instr.fieldAt 49 (.pointer (some ⟨g, 0, none⟩)) 1).run Tryz.prog w = .ok (.pointer (some ⟨g, 2, none⟩)) w := by go_simp
theorem at_ev2 (g : Nat) (w : World) : (Instr.fieldAt 49 (.pointer (some ⟨g, 0, none⟩)) 2).run Tryz.prog w = .ok (.pointer (some ⟨g, 18, none⟩)) w := by go_simp
theorem at_ev3 (g : Nat) (w : World) : (Instr.fieldAt 49 (.pointer (some ⟨g, 0, none⟩)) 3).run Tryz.prog w = .ok (.pointer (some ⟨g, 19, none⟩)) w := by go_simp
theorem at_ev4 (g : Nat) (w : World) : (Instr.fieldAt 49 (.pointer (some ⟨g, 0, none⟩)) 4).run Tryz.prog w = .ok (.pointer (some ⟨g, 24, none⟩)) w := by go_simp
theorem at_past (g n : Nat) (h : n < 16) (w : World) : (Instr.indexAt 23 (.pointer (some ⟨g, 2, none⟩)) (.int .i64 n)).run Tryz.prog w = .ok (.pointer (some ⟨g, 2 + n, none⟩)) w := by
  have h2 : (n : Int) < 16 := by omega
  go_simp
theorem run_sub1 (c : Int) (h : 1 ≤ c ∧ c ≤ 1048576) (w : World) : (binOp .sub 3 (.int .i64 c) (.int .i64 1)).run Tryz.prog w = .ok (.int .i64 (c - 1)) w := by
  have hw := IntWalk.i64_in (c - 1) (by omega)
  go_simp
theorem guardI (x y : Operand) (a b : Int) (w : World) (op : BinOp) (t : TypeId) : (eqGuard op t x y (.int .i64 a) (.int .i64 b)).run Tryz.prog w = .ok () w := by cases op <;> go_simp
theorem run_eqi {a b : Int} {q : Bool} (h : (a == b) = q) (w : World) : (binOp .eql 3 (.int .i64 a) (.int .i64 b)).run Tryz.prog w = .ok (.bool q) w := by subst h; go_simp
theorem right_iff (f : Nat → Int) : rightV f = true ↔ ∀ i, i < 16 → 0 ≤ f i ∧ f i ≤ 1048576 := by
  unfold rightV
  rw [eqV_iff]
  refine forall_congr' fun i => forall_congr' fun _ => ?_
  unfold clampV; omega

set_option maxRecDepth 100000 in
set_option maxHeartbeats 4000000 in
theorem refright6_any (e : Ev) (w : World) (hl : Tiny e) : Calls Tryz.prog 30 #[evV e] w (Gives w (.bool (okB e))) := by
  have HCh := Lib.hid (refchange_is e hl)
  have HO : Hid (okB e = (nextB e.p e.r e.c && rightV e.p && changeB e)) := Lib.hid rfl
  obtain ⟨X, hX⟩ : ∃ X, X = w.alloc (.cells (evC e) 49) := ⟨_, rfl⟩
  have hk : EB X w.heap.size e := by rw [hX]; exact EB.new_ w e
  have hy : Below w.heap.size w X := by rw [hX]; exact (Below.refl _ _).alloc (Nat.le_refl _) _
  have hs : X.heap.size = w.heap.size + 1 := by rw [hX]; simp
  have HX := Lib.hid hX
  have HS := Lib.hid hs
  have K0 := Lib.hid hk
  obtain ⟨Y, hY⟩ : ∃ Y, Y = X.alloc (.cells #[.int .i64 e.r, .int .i64 e.c] 43) := ⟨_, rfl⟩
  have hd : Blk Y X.heap.size 43 #[.int .i64 e.r, .int .i64 e.c] := by rw [hY]; exact Blk.new _ _ _
  have hky : EB Y w.heap.size e := by rw [hY]; exact hk.keep ((Below.refl _ _).alloc (Nat.le_refl _) _)
  have hby : Below w.heap.size w Y := by rw [hY]; exact hy.alloc hy.size _
  have HYY := Lib.hid hY
  have KD := Lib.hid hd
  have K := Lib.hid hky
  have BY := Lib.hid hby
  clear hX hk hy hs hY hd hky hby hl
  obtain ⟨r, hr⟩ : ∃ r, e.r = r := ⟨_, rfl⟩
  obtain ⟨c, hc⟩ : ∃ c, e.c = c := ⟨_, rfl⟩
  rw [hr, hc] at KD HO HYY
  have HRR := Lib.hid hr
  have HCC := Lib.hid hc
  clear hr hc
  unfold evV
  have k0 := Blk.cell KD.out 0
  have k1 := Blk.cell KD.out 1
  simp at k0 k1
  by_cases c1 : 0 ≤ r
  · by_cases c2 : r ≤ 15
    · by_cases c3 : 1 ≤ c
      · by_cases c4 : c ≤ 1048576
        · obtain ⟨n, rfl⟩ := Int.eq_ofNat_of_zero_le c1
          have hn : n < 16 := by omega
          have hdot : dotB (n : Int) c = true := (dotB_iff _ _).2 ⟨n, rfl, hn, c3, c4⟩
          have HNB : Hid (nextB e.p (n : Int) c = (e.p n == c - 1)) := Lib.hid (by unfold nextB; rw [hdot]; simp)
          rw [HNB.out] at HO
          have hd1 : decide ((15 : Int) < (n : Nat)) = false := decide_eq_false (by omega)
          have hd2 : decide (c < 1) = false := decide_eq_false (by omega)
          have hd3 : decide ((1048576 : Int) < c) = false := decide_eq_false (by omega)
          clear hdot
          go_enter Tryz.func30, Tryz.ntmps30
          go_upto_region 1 with fail
          rw [← HX.out]
          go_upto_region 2 with (refine wpList_load_midif rfl 43 (.tmp 6) rfl w.heap.size 0 rfl _ _ K0.out.dot Tryz.underlying43 rfl (by kernel_rfl) ?_)
          rw [HRR.out, HCC.out, ← HYY.out]
          go_wp2_with (refine wpList_load_midif rfl 23 (.tmp 26) rfl w.heap.size 2 rfl _ _ K.out.past Tryz.underlying23 rfl (by kernel_rfl) ?_)
          go_loop [5, 28] (fun _ i => ∃ k : Nat, k ≤ 16 ∧ i = .int .i64 k ∧ ∀ j, j < k → 0 ≤ e.p j ∧ e.p j ≤ 1048576) (fun _ i => 16 - (intOf i).toNat)
          case atStart => exact ⟨0, by omega, rfl, fun j hj => by omega⟩
          case round =>
            obtain ⟨k, hk, rfl, hall⟩ := hrel
            have HA := Lib.hid hall
            clear hall
            by_cases hlt : k < 16
            · have hix := index_V e.p k hlt Y
              by_cases d1 : e.p k < 0
              · have HF : Hid (rightV e.p = false) := Lib.hid (by
                  cases hq : rightV e.p with
                  | false => rfl
                  | true => exfalso; have := (right_iff _).1 hq k hlt; omega)
                generalize e.p k = x at *
                go_wp2
                go_ret
                exact ⟨by rw [HO.out, HF.out, Bool.and_false, Bool.false_and]; rfl, BY.out⟩
              · by_cases d2 : 1048576 < e.p k
                · have HF : Hid (rightV e.p = false) := Lib.hid (by
                    cases hq : rightV e.p with
                    | false => rfl
                    | true => exfalso; have := (right_iff _).1 hq k hlt; omega)
                  generalize e.p k = x at *
                  go_wp2
                  go_ret
                  exact ⟨by rw [HO.out, HF.out, Bool.and_false, Bool.false_and]; rfl, BY.out⟩
                · have HA2 := Lib.hid (fun (j : Nat) (hj : j < k + 1) => show 0 ≤ e.p j ∧ e.p j ≤ 1048576 by
                    by_cases ej : j = k
                    · subst ej; omega
                    · exact HA.out j (by omega))
                  generalize e.p k = x at *
                  go_wp2
                  go_round
                  case rel => exact ⟨k + 1, by omega, by go_num, HA2.out⟩
                  case measure => simp [intOf]; omega
            · have hkk : k = 16 := by omega
              subst hkk
              have HRT : Hid (rightV e.p = true) := Lib.hid ((right_iff _).2 HA.out)
              rw [HRT.out, Bool.and_true] at HO
              clear HA
              go_upto_region 10 with fail
              cases hq : (e.p n == c - 1)
              · rw [hq] at HO
                refine wp_region_any (by kernel_rfl) ?_
                refine wpAny_below (fun i v _ => v = ([.pointer (some ⟨X.heap.size, 0, none⟩), .int .i64 n, .pointer (some ⟨w.heap.size, 2, none⟩), .pointer (some ⟨w.heap.size, 2 + n, none⟩), .int .i64 (e.p n), .pointer (some ⟨X.heap.size, 1, none⟩), .int .i64 c, .int .i64 (c - 1), .bool false, .bool false, undef, undef, undef, undef, undef, undef, undef, undef, .bool false, .bool false] : List Value).getD i undef) _ Y (by kernel_rfl) (by kernel_rfl) (by kernel_rfl) (fun i v w w' _ h => h) ?_ ?_
                · refine ⟨?_, ?_, ?_, ?_, ?_, ?_, ?_, ?_, ?_, ?_, ?_, ?_, ?_, ?_, ?_, ?_, ?_, ?_, ?_, ?_, trivial⟩
                  · intro a W hI hun haft hi
                    have e3 : a.eval (.tmp 3) = .pointer (some ⟨X.heap.size, 0, none⟩) := hun 3 (by kernel_rfl)
                    exact b_same hi hI rfl _ (run_fieldAddr_any rfl e3 (at_dot0 _ _)) rfl
                  · intro a W hI hun haft hi
                    have f0 : a.eval (.tmp 38) = .pointer (some ⟨X.heap.size, 0, none⟩) := haft ⟨0, .data⟩ (by simp) rfl _ _ rfl rfl
                    exact b_same hi hI rfl _ (run_loadint_op rfl f0 Tryz.underlying3 ((Blk.cell (Blk.below KD.out hI (Blk.lt KD.out)) 0).trans rfl)) rfl
                  · intro a W hI hun haft hi
                    have e1 : a.eval (.tmp 1) = .pointer (some ⟨w.heap.size, 0, none⟩) := hun 1 (by kernel_rfl)
                    exact b_same hi hI rfl _ (run_fieldAddr_any rfl e1 (at_ev1 _ _)) rfl
                  · intro a W hI hun haft hi
                    have f2 : a.eval (.tmp 40) = .pointer (some ⟨w.heap.size, 2, none⟩) := haft ⟨2, .data⟩ (by simp) rfl _ _ rfl rfl
                    have f1 : a.eval (.tmp 39) = .int .i64 n := haft ⟨1, .data⟩ (by simp) rfl _ _ rfl rfl
                    exact b_same hi hI rfl _ (run_indexAddr_op rfl f2 f1 (at_past _ n hn _)) rfl
                  · intro a W hI hun haft hi
                    have f3 : a.eval (.tmp 41) = .pointer (some ⟨w.heap.size, 2 + n, none⟩) := haft ⟨3, .data⟩ (by simp) rfl _ _ rfl rfl
                    exact b_same hi hI rfl _ (run_loadint_op rfl f3 Tryz.underlying3 ((Blk.cell (EB.keep K.out hI) (2 + n)).trans (past_at e n hn))) rfl
                  · intro a W hI hun haft hi
                    have e3 : a.eval (.tmp 3) = .pointer (some ⟨X.heap.size, 0, none⟩) := hun 3 (by kernel_rfl)
                    exact b_same hi hI rfl _ (run_fieldAddr_any rfl e3 (field1 _ _)) rfl
                  · intro a W hI hun haft hi
                    have f5 : a.eval (.tmp 43) = .pointer (some ⟨X.heap.size, 1, none⟩) := haft ⟨5, .data⟩ (by simp) rfl _ _ rfl rfl
                    exact b_same hi hI rfl _ (run_loadint_op rfl f5 Tryz.underlying3 ((Blk.cell (Blk.below KD.out hI (Blk.lt KD.out)) 1).trans rfl)) rfl
                  · intro a W hI hun haft hi
                    have f6 : a.eval (.tmp 44) = .int .i64 c := haft ⟨6, .data⟩ (by simp) rfl _ _ rfl rfl
                    exact b_same hi hI rfl (.int .i64 (c - 1)) (run_bin_op rfl f6 rfl (guardI _ _ _ _ _ _ _) (run_sub1 c ⟨c3, c4⟩ _)) rfl
                  · intro a W hI hun haft hi
                    have f4 : a.eval (.tmp 42) = .int .i64 (e.p n) := haft ⟨4, .data⟩ (by simp) rfl _ _ rfl rfl
                    have f7 : a.eval (.tmp 45) = .int .i64 (c - 1) := haft ⟨7, .data⟩ (by simp) rfl _ _ rfl rfl
                    exact b_same hi hI rfl (.bool false) (run_bin_op rfl f4 f7 (guardI _ _ _ _ _ _ _) (run_eqi hq _)) rfl
                  · intro a W hI hun haft hi
                    have f8 : a.eval (.tmp 46) = .bool false := haft ⟨8, .data⟩ (by simp) rfl _ _ rfl rfl
                    exact b_same hi hI rfl _ (run_move_op rfl f8) rfl
                  · intro a W hI hun haft hi
                    have fg : a.eval (.tmp 47) = .bool false := haft ⟨9, .guard⟩ (by simp) rfl _ _ rfl rfl
                    exact b_skip hi hI (guard_no rfl rfl rfl (.inl fg)) rfl
                  · intro a W hI hun haft hi
                    have fg : a.eval (.tmp 47) = .bool false := haft ⟨9, .guard⟩ (by simp) rfl _ _ rfl rfl
                    exact b_skip hi hI (guard_no rfl rfl rfl (.inl fg)) rfl
                  · intro a W hI hun haft hi
                    have fg : a.eval (.tmp 47) = .bool false := haft ⟨9, .guard⟩ (by simp) rfl _ _ rfl rfl
                    exact b_skip hi hI (guard_no rfl rfl rfl (.inl fg)) rfl
                  · intro a W hI hun haft hi
                    have fg : a.eval (.tmp 47) = .bool false := haft ⟨9, .guard⟩ (by simp) rfl _ _ rfl rfl
                    exact b_skip hi hI (guard_no rfl rfl rfl (.inl fg)) rfl
                  · intro a W hI hun haft hi
                    have fg : a.eval (.tmp 47) = .bool false := haft ⟨9, .guard⟩ (by simp) rfl _ _ rfl rfl
                    exact b_skip hi hI (guard_no rfl rfl rfl (.inl fg)) rfl
                  · intro a W hI hun haft hi
                    have fg : a.eval (.tmp 47) = .bool false := haft ⟨9, .guard⟩ (by simp) rfl _ _ rfl rfl
                    exact b_skip hi hI (guard_no rfl rfl rfl (.inl fg)) rfl
                  · intro a W hI hun haft hi
                    have fg : a.eval (.tmp 47) = .bool false := haft ⟨9, .guard⟩ (by simp) rfl _ _ rfl rfl
                    exact b_skip hi hI (guard_no rfl rfl rfl (.inl fg)) rfl
                  · intro a W hI hun haft hi
                    have fg : a.eval (.tmp 47) = .bool false := haft ⟨9, .guard⟩ (by simp) rfl _ _ rfl rfl
                    exact b_skip hi hI (guard_no rfl rfl rfl (.inl fg)) rfl
                  · intro a W hI hun haft hi
                    have f9 : a.eval (.tmp 47) = .bool false := haft ⟨9, .data⟩ (by simp) rfl _ _ rfl rfl
                    have f17 : a.eval (.tmp 55) = undef := haft ⟨17, .data⟩ (by simp) rfl _ _ rfl rfl
                    exact b_same hi hI rfl _ (run_pick_op (b := false) rfl f9 f17 rfl) rfl
                  · intro a W hI hun haft hi
                    have f18 : a.eval (.tmp 56) = .bool false := haft ⟨18, .data⟩ (by simp) rfl _ _ rfl rfl
                    exact b_same hi hI rfl _ (run_assign_op rfl f18) rfl
                · intro vals W hI hp
                  have hl19 : vals 19 = .bool false := hp 19 (by decide)
                  have HI := Lib.hid hI
                  clear hp hI
                  simp only [layN, List.size_toArray, List.length_cons, List.length_nil, List.range, List.range.loop, if_true, List.getElem?_toArray, List.getElem?_cons_zero, List.getElem?_cons_succ, Act.put, List.setIfInBounds_toArray, List.set_cons_zero, List.set_cons_succ, Nat.zero_add, Nat.reduceAdd, hl19]
                  clear hl19
                  go_wp2
                  go_ret
                  exact ⟨by rw [HO.out]; first | rfl | (rw [Bool.true_and]; rfl), BY.out.trans (HI.out.mono BY.out.size)⟩
              · rw [hq] at HO
                refine wp_region_any (by kernel_rfl) ?_
                refine wpAny_below (fun i v _ => v = ([.pointer (some ⟨X.heap.size, 0, none⟩), .int .i64 n, .pointer (some ⟨w.heap.size, 2, none⟩), .pointer (some ⟨w.heap.size, 2 + n, none⟩), .int .i64 (e.p n), .pointer (some ⟨X.heap.size, 1, none⟩), .int .i64 c, .int .i64 (c - 1), .bool true, .bool true, .pointer (some ⟨w.heap.size, 18, none⟩), .int .i64 e.op, .pointer (some ⟨w.heap.size, 19, none⟩), .agg #[.int .i64 e.ek, .string e.a, .string e.b, .string e.cc, .string e.d], .pointer (some ⟨w.heap.size, 24, none⟩), .agg #[.int .i64 e.vk, .int .i64 e.vn, .string e.t], chV e, .bool (changeB e), .bool (changeB e), .bool (changeB e)] : List Value).getD i undef) _ Y (by kernel_rfl) (by kernel_rfl) (by kernel_rfl) (fun i v w w' _ h => h) ?_ ?_
                · refine ⟨?_, ?_, ?_, ?_, ?_, ?_, ?_, ?_, ?_, ?_, ?_, ?_, ?_, ?_, ?_, ?_, ?_, ?_, ?_, ?_, trivial⟩
                  · intro a W hI hun haft hi
                    have e3 : a.eval (.tmp 3) = .pointer (some ⟨X.heap.size, 0, none⟩) := hun 3 (by kernel_rfl)
                    exact b_same hi hI rfl _ (run_fieldAddr_any rfl e3 (at_dot0 _ _)) rfl
                  · intro a W hI hun haft hi
                    have f0 : a.eval (.tmp 38) = .pointer (some ⟨X.heap.size, 0, none⟩) := haft ⟨0, .data⟩ (by simp) rfl _ _ rfl rfl
                    exact b_same hi hI rfl _ (run_loadint_op rfl f0 Tryz.underlying3 ((Blk.cell (Blk.below KD.out hI (Blk.lt KD.out)) 0).trans rfl)) rfl
                  · intro a W hI hun haft hi
                    have e1 : a.eval (.tmp 1) = .pointer (some ⟨w.heap.size, 0, none⟩) := hun 1 (by kernel_rfl)
                    exact b_same hi hI rfl _ (run_fieldAddr_any rfl e1 (at_ev1 _ _)) rfl
                  · intro a W hI hun haft hi
                    have f2 : a.eval (.tmp 40) = .pointer (some ⟨w.heap.size, 2, none⟩) := haft ⟨2, .data⟩ (by simp) rfl _ _ rfl rfl
                    have f1 : a.eval (.tmp 39) = .int .i64 n := haft ⟨1, .data⟩ (by simp) rfl _ _ rfl rfl
                    exact b_same hi hI rfl _ (run_indexAddr_op rfl f2 f1 (at_past _ n hn _)) rfl
                  · intro a W hI hun haft hi
                    have f3 : a.eval (.tmp 41) = .pointer (some ⟨w.heap.size, 2 + n, none⟩) := haft ⟨3, .data⟩ (by simp) rfl _ _ rfl rfl
                    exact b_same hi hI rfl _ (run_loadint_op rfl f3 Tryz.underlying3 ((Blk.cell (EB.keep K.out hI) (2 + n)).trans (past_at e n hn))) rfl
                  · intro a W hI hun haft hi
                    have e3 : a.eval (.tmp 3) = .pointer (some ⟨X.heap.size, 0, none⟩) := hun 3 (by kernel_rfl)
                    exact b_same hi hI rfl _ (run_fieldAddr_any rfl e3 (field1 _ _)) rfl
                  · intro a W hI hun haft hi
                    have f5 : a.eval (.tmp 43) = .pointer (some ⟨X.heap.size, 1, none⟩) := haft ⟨5, .data⟩ (by simp) rfl _ _ rfl rfl
                    exact b_same hi hI rfl _ (run_loadint_op rfl f5 Tryz.underlying3 ((Blk.cell (Blk.below KD.out hI (Blk.lt KD.out)) 1).trans rfl)) rfl
                  · intro a W hI hun haft hi
                    have f6 : a.eval (.tmp 44) = .int .i64 c := haft ⟨6, .data⟩ (by simp) rfl _ _ rfl rfl
                    exact b_same hi hI rfl (.int .i64 (c - 1)) (run_bin_op rfl f6 rfl (guardI _ _ _ _ _ _ _) (run_sub1 c ⟨c3, c4⟩ _)) rfl
                  · intro a W hI hun haft hi
                    have f4 : a.eval (.tmp 42) = .int .i64 (e.p n) := haft ⟨4, .data⟩ (by simp) rfl _ _ rfl rfl
                    have f7 : a.eval (.tmp 45) = .int .i64 (c - 1) := haft ⟨7, .data⟩ (by simp) rfl _ _ rfl rfl
                    exact b_same hi hI rfl (.bool true) (run_bin_op rfl f4 f7 (guardI _ _ _ _ _ _ _) (run_eqi hq _)) rfl
                  · intro a W hI hun haft hi
                    have f8 : a.eval (.tmp 46) = .bool true := haft ⟨8, .data⟩ (by simp) rfl _ _ rfl rfl
                    exact b_same hi hI rfl _ (run_move_op rfl f8) rfl
                  · intro a W hI hun haft hi
                    have fg : a.eval (.tmp 47) = .bool true := haft ⟨9, .guard⟩ (by simp) rfl _ _ rfl rfl
                    have e1 : a.eval (.tmp 1) = .pointer (some ⟨w.heap.size, 0, none⟩) := hun 1 (by kernel_rfl)
                    exact b_same hi hI (guard_ok rfl rfl rfl fg) _ (run_fieldAddr_any rfl e1 (at_ev2 _ _)) rfl
                  · intro a W hI hun haft hi
                    have fg : a.eval (.tmp 47) = .bool true := haft ⟨9, .guard⟩ (by simp) rfl _ _ rfl rfl
                    have f10 : a.eval (.tmp 48) = .pointer (some ⟨w.heap.size, 18, none⟩) := haft ⟨10, .data⟩ (by simp) rfl _ _ rfl rfl
                    exact b_same hi hI (guard_ok rfl rfl rfl fg) _ (run_loadint_op rfl f10 Tryz.underlying3 (EB.opc (EB.keep K.out hI))) rfl
                  · intro a W hI hun haft hi
                    have fg : a.eval (.tmp 47) = .bool true := haft ⟨9, .guard⟩ (by simp) rfl _ _ rfl rfl
                    have e1 : a.eval (.tmp 1) = .pointer (some ⟨w.heap.size, 0, none⟩) := hun 1 (by kernel_rfl)
                    exact b_same hi hI (guard_ok rfl rfl rfl fg) _ (run_fieldAddr_any rfl e1 (at_ev3 _ _)) rfl
                  · intro a W hI hun haft hi
                    have fg : a.eval (.tmp 47) = .bool true := haft ⟨9, .guard⟩ (by simp) rfl _ _ rfl rfl
                    have f12 : a.eval (.tmp 50) = .pointer (some ⟨w.heap.size, 19, none⟩) := haft ⟨12, .data⟩ (by simp) rfl _ _ rfl rfl
                    exact b_same hi hI (guard_ok rfl rfl rfl fg) _ (run_loadmid_op rfl f12 (EB.elem (EB.keep K.out hI)) Tryz.underlying45 rfl (by kernel_rfl)) rfl
                  · intro a W hI hun haft hi
                    have fg : a.eval (.tmp 47) = .bool true := haft ⟨9, .guard⟩ (by simp) rfl _ _ rfl rfl
                    have e1 : a.eval (.tmp 1) = .pointer (some ⟨w.heap.size, 0, none⟩) := hun 1 (by kernel_rfl)
                    exact b_same hi hI (guard_ok rfl rfl rfl fg) _ (run_fieldAddr_any rfl e1 (at_ev4 _ _)) rfl
                  · intro a W hI hun haft hi
                    have fg : a.eval (.tmp 47) = .bool true := haft ⟨9, .guard⟩ (by simp) rfl _ _ rfl rfl
                    have f14 : a.eval (.tmp 52) = .pointer (some ⟨w.heap.size, 24, none⟩) := haft ⟨14, .data⟩ (by simp) rfl _ _ rfl rfl
                    exact b_same hi hI (guard_ok rfl rfl rfl fg) _ (run_loadmid_op rfl f14 (EB.value (EB.keep K.out hI)) Tryz.underlying47 rfl (by kernel_rfl)) rfl
                  · intro a W hI hun haft hi
                    have fg : a.eval (.tmp 47) = .bool true := haft ⟨9, .guard⟩ (by simp) rfl _ _ rfl rfl
                    have f11 : a.eval (.tmp 49) = .int .i64 e.op := haft ⟨11, .data⟩ (by simp) rfl _ _ rfl rfl
                    have f13 : a.eval (.tmp 51) = .agg #[.int .i64 e.ek, .string e.a, .string e.b, .string e.cc, .string e.d] := haft ⟨13, .data⟩ (by simp) rfl _ _ rfl rfl
                    have f15 : a.eval (.tmp 53) = .agg #[.int .i64 e.vk, .int .i64 e.vn, .string e.t] := haft ⟨15, .data⟩ (by simp) rfl _ _ rfl rfl
                    exact b_same hi hI (guard_ok rfl rfl rfl fg) (chV e) (run_build_rt (vs := #[(0, .int .i64 e.op), (1, .agg #[.int .i64 e.ek, .string e.a, .string e.b, .string e.cc, .string e.d]), (2, .agg #[.int .i64 e.vk, .int .i64 e.vn, .string e.t])]) rfl (by simp only [List.map_toArray, List.map_cons, List.map_nil, f11, f13, f15] <;> rfl) (by kernel_rfl)) rfl
                  · intro a W hI hun haft hi
                    have fg : a.eval (.tmp 47) = .bool true := haft ⟨9, .guard⟩ (by simp) rfl _ _ rfl rfl
                    have f16 : a.eval (.tmp 54) = chV e := haft ⟨16, .data⟩ (by simp) rfl _ _ rfl rfl
                    refine b_call hi hI (guard_ok rfl rfl rfl fg) _ _ (run_call_op (args := #[chV e]) rfl (by simp [f16]) (by kernel_rfl)) ?_
                    exact (HCh.out W).mono fun e w' H => ⟨_, H.1, rfl, H.2⟩
                  · intro a W hI hun haft hi
                    have f9 : a.eval (.tmp 47) = .bool true := haft ⟨9, .data⟩ (by simp) rfl _ _ rfl rfl
                    have f17 : a.eval (.tmp 55) = .bool (changeB e) := haft ⟨17, .data⟩ (by simp) rfl _ _ rfl rfl
                    exact b_same hi hI rfl _ (run_pick_op (b := true) rfl f9 f17 rfl) rfl
                  · intro a W hI hun haft hi
                    have f18 : a.eval (.tmp 56) = .bool (changeB e) := haft ⟨18, .data⟩ (by simp) rfl _ _ rfl rfl
                    exact b_same hi hI rfl _ (run_assign_op rfl f18) rfl
                · intro vals W hI hp
                  have hl19 : vals 19 = .bool (changeB e) := hp 19 (by decide)
                  have HI := Lib.hid hI
                  clear hp hI
                  simp only [layN, List.size_toArray, List.length_cons, List.length_nil, List.range, List.range.loop, if_true, List.getElem?_toArray, List.getElem?_cons_zero, List.getElem?_cons_succ, Act.put, List.setIfInBounds_toArray, List.set_cons_zero, List.set_cons_succ, Nat.zero_add, Nat.reduceAdd, hl19]
                  clear hl19
                  go_wp2
                  go_ret
                  exact ⟨by rw [HO.out]; first | rfl | (rw [Bool.true_and]; rfl), BY.out.trans (HI.out.mono BY.out.size)⟩
        · have HNB : Hid (nextB e.p r c = false) := Lib.hid (by unfold nextB dotB; rw [decide_eq_false (by omega)]; rfl)
          have hdd : decide ((1048576 : Int) < c) = true := decide_eq_true (by omega)
          go_enter Tryz.func30, Tryz.ntmps30
          go_upto_region 1 with fail
          rw [← HX.out]
          go_upto_region 2 with (refine wpList_load_midif rfl 43 (.tmp 6) rfl w.heap.size 0 rfl _ _ K0.out.dot Tryz.underlying43 rfl (by kernel_rfl) ?_)
          rw [HRR.out, HCC.out, ← HYY.out]
          go_wp2
          go_ret
          exact ⟨by rw [HO.out, HNB.out]; rfl, BY.out⟩
      · have HNB : Hid (nextB e.p r c = false) := Lib.hid (by unfold nextB dotB; rw [decide_eq_false (by omega)]; rfl)
        have hdd : decide (c < 1) = true := decide_eq_true (by omega)
        go_enter Tryz.func30, Tryz.ntmps30
        go_upto_region 1 with fail
        rw [← HX.out]
        go_upto_region 2 with (refine wpList_load_midif rfl 43 (.tmp 6) rfl w.heap.size 0 rfl _ _ K0.out.dot Tryz.underlying43 rfl (by kernel_rfl) ?_)
        rw [HRR.out, HCC.out, ← HYY.out]
        go_wp2
        go_ret
        exact ⟨by rw [HO.out, HNB.out]; rfl, BY.out⟩
    · have HNB : Hid (nextB e.p r c = false) := Lib.hid (by unfold nextB dotB; rw [decide_eq_false (by omega)]; rfl)
      have hdd : decide ((15 : Int) < r) = true := decide_eq_true (by omega)
      go_enter Tryz.func30, Tryz.ntmps30
      go_upto_region 1 with fail
      rw [← HX.out]
      go_upto_region 2 with (refine wpList_load_midif rfl 43 (.tmp 6) rfl w.heap.size 0 rfl _ _ K0.out.dot Tryz.underlying43 rfl (by kernel_rfl) ?_)
      rw [HRR.out, HCC.out, ← HYY.out]
      go_wp2
      go_ret
      exact ⟨by rw [HO.out, HNB.out]; rfl, BY.out⟩
  · have HNB : Hid (nextB e.p r c = false) := Lib.hid (by unfold nextB dotB; rw [decide_eq_false (by omega)]; rfl)
    have hdd : decide (r < 0) = true := decide_eq_true (by omega)
    go_enter Tryz.func30, Tryz.ntmps30
    go_upto_region 1 with fail
    rw [← HX.out]
    go_upto_region 2 with (refine wpList_load_midif rfl 43 (.tmp 6) rfl w.heap.size 0 rfl _ _ K0.out.dot Tryz.underlying43 rfl (by kernel_rfl) ?_)
    rw [HRR.out, HCC.out, ← HYY.out]
    go_wp2
    go_ret
    exact ⟨by rw [HO.out, HNB.out]; rfl, BY.out⟩

end Go.Proofs.YtejljikikhecnaaGreat
