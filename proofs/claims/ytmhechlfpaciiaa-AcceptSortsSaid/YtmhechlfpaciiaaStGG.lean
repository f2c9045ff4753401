/-
  store.fits: the contract, by a walk. store.right: the contract, by a walk. Conditions: lengths.
-/
import Derived.Test.YtmhechlfpaciiaaStAll
namespace Go.Proofs.Ytmhechlfpaciiaa
open Go.RowKit Go.MapKept Go.Sort

/-- The change that could have brought a value to an element. -/
def evX (x : El) (v : Va) : Ev := ⟨0, 0, fun _ => 0, if valdB x.k then 3 else 1, x.k, x.a, x.b, x.c, x.d, v.k, v.n, v.t⟩
def fit7B (x : El) (v : Va) : Bool := changeB (evX x v)
def LenE (x : El) : Prop := x.a.size ≤ 4294967280 ∧ x.b.size ≤ 4294967280 ∧ x.c.size ≤ 4294967280 ∧ x.d.size ≤ 4294967280
theorem lens_evX {x : El} {v : Va} (h : LenE x) (hv : v.t.size ≤ 4294967280) : Lens (evX x v) := ⟨h.1, h.2.1, h.2.2.1, h.2.2.2, hv⟩
theorem mkX (op : Int) (x : El) (v : Va) (w : World) : (Instr.build 59 #[(0, .int .i64 op), (1, .agg #[.int .i64 x.k, .string x.a, .string x.b, .string x.c, .string x.d]), (2, .agg #[.int .i64 v.k, .int .i64 v.n, .string v.t])]).run Try.prog w = .ok (.agg #[.int .i64 op, .int .i64 x.k, .string x.a, .string x.b, .string x.c, .string x.d, .int .i64 v.k, .int .i64 v.n, .string v.t]) w := by
  kernel_rfl
theorem codeI_eq (b : Bool) : (codeI b == 0) = b := by cases b <;> rfl

set_option maxRecDepth 100000 in
set_option maxHeartbeats 6000000 in
theorem fits7_any (x : El) (v : Va) (w : World) (hx : LenE x) (hv : v.t.size ≤ 140737488355328) (hw : CutOk w) : Calls Try.prog 80 #[eE x, eV v] w (Gives w (.bool (fit7B x v))) := by
  obtain ⟨b, hb⟩ : ∃ b, fit7B x v = b := ⟨_, rfl⟩
  rw [hb]
  obtain ⟨Y, hY⟩ : ∃ Y, Y = (w.alloc (.cells #[.int .i64 x.k, .string x.a, .string x.b, .string x.c, .string x.d] 35)).alloc (.cells #[.int .i64 v.k, .int .i64 v.n, .string v.t] 37) := ⟨_, rfl⟩
  have hbY : Below w.heap.size w Y := by rw [hY]; exact ((Below.refl _ _).alloc (Nat.le_refl _) _).alloc (by simp) _
  have hB0 : Blk Y w.heap.size 35 #[.int .i64 x.k, .string x.a, .string x.b, .string x.c, .string x.d] := by rw [hY]; exact (Blk.new _ _ _).alloc _
  have hB1 : Blk Y (w.heap.size + 1) 37 #[.int .i64 v.k, .int .i64 v.n, .string v.t] := by
    rw [hY]
    have := Blk.new (w.alloc (.cells #[.int .i64 x.k, .string x.a, .string x.b, .string x.c, .string x.d] 35)) 37 #[.int .i64 v.k, .int .i64 v.n, .string v.t]
    rwa [World.size_alloc] at this
  have HW := Lib.hid (hw.below hbY)
  have c0 : Y.cell? ⟨w.heap.size, 0, none⟩ = some (.int .i64 x.k) := (Blk.cell hB0 0).trans rfl
  have HY := Lib.hid hY
  have HbY := Lib.hid hbY
  have HB0 := Lib.hid hB0
  have HB1 := Lib.hid hB1
  obtain ⟨op, hop⟩ : ∃ op : Int, (if valdB x.k then (3 : Int) else 1) = op := ⟨_, rfl⟩
  have HC : Hid (∀ W, CutOk W → Calls Try.prog 66 #[.agg #[.int .i64 op, .int .i64 x.k, .string x.a, .string x.b, .string x.c, .string x.d, .int .i64 v.k, .int .i64 v.n, .string v.t]] W (Gives W (.int .i64 (codeI b)))) := Lib.hid fun W hW => by
    have h1 := change_wide (evX x v) W hx.1 hx.2.1 hx.2.2.1 hx.2.2.2 (by show v.t.size ≤ _; omega) hW
    rw [show changeB (evX x v) = b from hb] at h1
    have e : chV (evX x v) = .agg #[.int .i64 op, .int .i64 x.k, .string x.a, .string x.b, .string x.c, .string x.d, .int .i64 v.k, .int .i64 v.n, .string v.t] := by
      rw [← hop]; rfl
    rwa [e] at h1
  have HM := Lib.hid (mkX op x v)
  have HBC := Lib.hid (codeI_eq b)
  clear hY hbY hB0 hB1 hx hv hw hb
  obtain ⟨kk, xa, xb, xc, xd⟩ := x
  obtain ⟨k1, n1, t1⟩ := v
  unfold eE elV eV valV
  simp only at HY HB0 HB1 HC HM c0 hop
  by_cases h4 : kk = 4
  · subst h4
    have : op = 3 := by rw [← hop]; rfl
    subst this
    clear hop
    go_enter Try.func80, Try.ntmps80
    go_upto_region 1 with fail
    rw [← HY.out]
    go_wp2_with (first
      | (refine wpList_load_if rfl 35 (.tmp 2) rfl w.heap.size rfl _ _ _ _ HB0.out Try.underlying35 rfl (by kernel_rfl) ?_)
      | (refine wpList_load_if rfl 37 (.tmp 3) rfl (w.heap.size + 1) rfl _ _ _ _ HB1.out Try.underlying37 rfl (by kernel_rfl) ?_)
      | (refine wpList_val (o := ⟨some 17, _, _, _, _, _⟩) rfl _ Y (run_build_op rfl rfl (HM.out Y)) ?_)
      | fail)
    refine (HC.out Y HW.out).mono ?_
    rintro e w2 ⟨rfl, hb2⟩
    have HZ := Lib.hid (HbY.out.trans (hb2.mono HbY.out.size))
    clear hb2
    go_wp2
    go_ret
    exact ⟨by cases b <;> rfl, HZ.out⟩
  · by_cases h5 : kk = 5
    · subst h5
      have : op = 3 := by rw [← hop]; rfl
      subst this
      clear hop
      go_enter Try.func80, Try.ntmps80
      go_upto_region 1 with fail
      rw [← HY.out]
      go_wp2_with (first
        | (refine wpList_load_if rfl 35 (.tmp 2) rfl w.heap.size rfl _ _ _ _ HB0.out Try.underlying35 rfl (by kernel_rfl) ?_)
        | (refine wpList_load_if rfl 37 (.tmp 3) rfl (w.heap.size + 1) rfl _ _ _ _ HB1.out Try.underlying37 rfl (by kernel_rfl) ?_)
        | (refine wpList_val (o := ⟨some 17, _, _, _, _, _⟩) rfl _ Y (run_build_op rfl rfl (HM.out Y)) ?_)
        | fail)
      refine (HC.out Y HW.out).mono ?_
      rintro e w2 ⟨rfl, hb2⟩
      have HZ := Lib.hid (HbY.out.trans (hb2.mono HbY.out.size))
      clear hb2
      go_wp2
      go_ret
      exact ⟨by cases b <;> rfl, HZ.out⟩
    · have : op = 1 := by rw [← hop]; simp [valdB, h4, h5]
      subst this
      have e4 : (kk == 4) = false := by simp [h4]
      have e5 : (kk == 5) = false := by simp [h5]
      clear hop
      go_enter Try.func80, Try.ntmps80
      go_upto_region 1 with fail
      rw [← HY.out]
      go_wp2_with (first
        | (refine wpList_load_if rfl 35 (.tmp 2) rfl w.heap.size rfl _ _ _ _ HB0.out Try.underlying35 rfl (by kernel_rfl) ?_)
        | (refine wpList_load_if rfl 37 (.tmp 3) rfl (w.heap.size + 1) rfl _ _ _ _ HB1.out Try.underlying37 rfl (by kernel_rfl) ?_)
        | (refine wpList_val (o := ⟨some 17, _, _, _, _, _⟩) rfl _ Y (run_build_op rfl rfl (HM.out Y)) ?_)
        | fail)
      refine (HC.out Y HW.out).mono ?_
      rintro e w2 ⟨rfl, hb2⟩
      have HZ := Lib.hid (HbY.out.trans (hb2.mono HbY.out.size))
      clear hb2
      go_wp2
      go_ret
      exact ⟨by cases b <;> rfl, HZ.out⟩

end Go.Proofs.Ytmhechlfpaciiaa

namespace Go.Proofs.Ytmhechlfpaciiaa
open Go.RowKit Go.MapKept Go.Sort

def elB (x : El) : Bool := elemB x.k x.a.data.toList x.b.data.toList x.c.data.toList x.d.data.toList
/-- May the entry with that number stand there? -/
def okE7 (x : El) (l : List (Dt × Va)) (i : Nat) : Bool :=
  match l[i]? with
  | none => true
  | some q => dotB q.1.r q.1.c && fit7B x q.2 && (match i with
    | 0 => true
    | i' + 1 => (match l[i']? with
      | none => true
      | some p => decide (cfD p.1 q.1 < 0)))
/-- May an item be? -/
def rightI (x : El) (l : List (Dt × Va)) : Bool := elB x && (List.range l.length).all (okE7 x l)
theorem rightI_el {x : El} {l : List (Dt × Va)} (h : elB x = false) : rightI x l = false := by simp [rightI, h]
theorem rightI_no {x : El} {l : List (Dt × Va)} {j : Nat} (hj : j < l.length) (h : okE7 x l j = false) : rightI x l = false := by
  unfold rightI
  rw [Bool.and_eq_false_iff]
  exact .inr (List.all_eq_false.2 ⟨j, List.mem_range.2 hj, by simp [h]⟩)
theorem rightI_yes {x : El} {l : List (Dt × Va)} (h0 : elB x = true) (h : ∀ k, k < l.length → okE7 x l k = true) : rightI x l = true := by
  unfold rightI
  rw [h0, Bool.true_and, List.all_eq_true]
  intro k hk
  exact h k (List.mem_range.1 hk)
theorem rangeAt_below {w w' : World} {g o : Nat} {cs : List Value} (h : w.rangeAt g o cs) (hg : g < w.heap.size) (hb : Below w.heap.size w w') : w'.rangeAt g o cs := rangeAt_same h (hb.block g hg)
section
variable {P : Program}
theorem run_loadsl_op {o : Oper} {ρ : Operand → Value} {w : World} {ty e : TypeId} {x : Operand} {ad : Addr} {A : Option Addr} {n c : Nat} (ho : o.op = .load ty x) (hx : ρ x = .pointer (some ad)) (hu : P.underlying ty = some (.slice e)) (hc : w.cell? ad = some (.slice A n c)) :
    (execOp ρ o).run P w = .ok (.value (.slice A n c)) w := by
  unfold execOp
  have ha : (isAgg ty).run P w = .ok false w := by unfold isAgg; rw [Sem.run_bind, run_underlying hu w]; simp
  simp [ho, hx, Instr.loadAt, Instr.sureAddr, loadVar, ha, hc, go_sem]
end
theorem at_N (g o c n k : Nat) (h : k < n) (w : World) : (Instr.indexAt 44 (.slice (some ⟨g, o, none⟩) n c) (.int .i64 k)).run Try.prog w = .ok (.pointer (some ⟨g, o + k * 5, none⟩)) w := by
  have h2 : (k : Int) < n := by omega
  go_simp
theorem run_gt7 {a b : Int} {p : Bool} (h : decide (b < a) = p) (w : World) : (binOp .gtr 3 (.int .i64 a) (.int .i64 b)).run Try.prog w = .ok (.bool p) w := by
  subst h; go_simp
theorem run_ge7 {a b : Int} {p : Bool} (h : decide (b ≤ a) = p) (w : World) : (binOp .geq 3 (.int .i64 a) (.int .i64 b)).run Try.prog w = .ok (.bool p) w := by
  subst h; go_simp
theorem run_minus7 {k k' : Nat} (h : k = k' + 1) (hk : k ≤ 16777216) (w : World) : (binOp .sub 3 (.int .i64 k) (.int .i64 1)).run Try.prog w = .ok (.int .i64 k') w := by
  have hw := IntWalk.i64_in ((k : Int) - 1) (by omega)
  have e : (k : Int) - 1 = k' := by omega
  rw [e] at hw
  go_simp
theorem dot_is7 (d : Dt) (b : Bool) (h : dotB d.r d.c = b) (w : World) : Calls Try.prog 79 #[.agg #[.int .i64 d.r, .int .i64 d.c]] w fun e w' => e = .returned (.bool b) ∧ Below w.heap.size w w' := by
  have := dot_any d.r d.c w; rwa [h] at this
theorem fits_is7 (x : El) (v : Va) (hx : LenE x) (hv : v.t.size ≤ 140737488355328) (b : Bool) (h : fit7B x v = b) (w : World) (hw : CutOk w) : Calls Try.prog 80 #[.agg #[.int .i64 x.k, .string x.a, .string x.b, .string x.c, .string x.d], .agg #[.int .i64 v.k, .int .i64 v.n, .string v.t]] w (Gives w (.bool b)) := by
  have := fits7_any x v w hx hv hw; rwa [h] at this

set_option maxRecDepth 100000 in
set_option maxHeartbeats 4000000 in
theorem iright_any (x : El) (l : List (Dt × Va)) (A : Option Addr) (N c : Nat) (w : World) (hs : SlK enN 5 w (.slice A N c) l) (hN : l.length = N) (hN2 : N ≤ 1000000) (hx : LenE x) (hv : ∀ q ∈ l, q.2.t.size ≤ 140737488355328) (hw : CutOk w) :
    Calls Try.prog 53 #[.agg #[.int .i64 x.k, .string x.a, .string x.b, .string x.c, .string x.d, .slice A N c]] w (Gives w (.bool (rightI x l))) := by
  obtain ⟨b, hb⟩ : ∃ b, rightI x l = b := ⟨_, rfl⟩
  rw [hb]
  obtain ⟨q0, hq0⟩ : ∃ q0, w.heap.size = q0 := ⟨_, rfl⟩
  obtain ⟨Y, hY⟩ : ∃ Y, Y = w.alloc (.cells #[.int .i64 x.k, .string x.a, .string x.b, .string x.c, .string x.d, .slice A N c] 46) := ⟨_, rfl⟩
  have hbY : Below w.heap.size w Y := by rw [hY]; exact (Below.refl _ _).alloc (Nat.le_refl _) _
  have hB0 : Blk Y q0 46 #[.int .i64 x.k, .string x.a, .string x.b, .string x.c, .string x.d, .slice A N c] := by rw [hY, ← hq0]; exact Blk.new _ _ _
  have HW := Lib.hid (hw.below hbY)
  have HS := Lib.hid (hs.below hbY)
  have HY := Lib.hid hY
  have HbY := Lib.hid hbY
  have HB0 := Lib.hid hB0
  have HQ := Lib.hid hq0
  have HB := Lib.hid hb
  have HN := Lib.hid hN
  have HN2 := Lib.hid hN2
  have HXl := Lib.hid hx
  have HVl := Lib.hid hv
  have HRa : Hid (∀ W, Below Y.heap.size Y W → W.rangeAt q0 0 [.int .i64 x.k, .string x.a, .string x.b, .string x.c, .string x.d]) := Lib.hid fun W h => rangeAt_below (World.rangeAt_of_block (C := #[.int .i64 x.k, .string x.a, .string x.b, .string x.c, .string x.d, .slice A N c]) hB0 0 5) hB0.lt h
  have HRs : Hid (∀ W, Below Y.heap.size Y W → W.cell? ⟨q0, 5, none⟩ = some (.slice A N c)) := Lib.hid fun W h => (Blk.cell (Blk.below hB0 h hB0.lt) 5).trans rfl
  clear hY hbY hB0 hx hv hw hb hN hN2 hs hq0
  cases he : elB x
  · have HE := Lib.hid (elem_is x.k x.a x.b x.c x.d (by have := HXl.out.1; omega) (by have := HXl.out.2.1; omega) (by have := HXl.out.2.2.1; omega) (by have := HXl.out.2.2.2; omega) false he)
    have hbf : b = false := by rw [← HB.out]; exact rightI_el he
    subst hbf
    clear he
    unfold elV at HE
    go_enter Try.func53, Try.ntmps53
    go_upto_region 1 with fail
    rw [← HY.out, HQ.out]
    go_wp2_with (first
      | (refine wpList_load_midif rfl 35 (.tmp 5) rfl q0 0 rfl _ _ (HRa.out Y (Below.refl _ _)) Try.underlying35 rfl (by kernel_rfl) ?_)
      | fail)
    refine (HE.out Y).mono ?_
    rintro e w1 ⟨rfl, hb1⟩
    have HZ := Lib.hid (HbY.out.trans (hb1.mono HbY.out.size))
    clear hb1
    go_wp2
    go_ret
    exact ⟨rfl, HZ.out⟩
  · have HE := Lib.hid (elem_is x.k x.a x.b x.c x.d (by have := HXl.out.1; omega) (by have := HXl.out.2.1; omega) (by have := HXl.out.2.2.1; omega) (by have := HXl.out.2.2.2; omega) true he)
    have HEt := Lib.hid he
    clear he
    unfold elV at HE
    go_enter Try.func53, Try.ntmps53
    go_upto_region 1 with fail
    rw [← HY.out, HQ.out]
    go_wp2_with (first
      | (refine wpList_load_midif rfl 35 (.tmp 5) rfl q0 0 rfl _ _ (HRa.out Y (Below.refl _ _)) Try.underlying35 rfl (by kernel_rfl) ?_)
      | fail)
    refine (HE.out Y).mono ?_
    rintro e w1 ⟨rfl, hb1⟩
    have HZ1 := Lib.hid hb1
    have c5 := HRs.out w1 hb1
    clear hb1
    go_wp2_with fail
    clear c5
    go_loopw [12] (fun v12 wr => ∃ j : Nat, v12 = .int .i64 j ∧ j ≤ N ∧ (∀ k, k < j → okE7 x l k = true) ∧ Below Y.heap.size Y wr) (fun v12 _ => N - (intOf v12).toNat)
    case atStart => exact ⟨0, rfl, Nat.zero_le _, fun k hk => absurd hk (Nat.not_lt_zero _), HZ1.out⟩
    case round =>
      obtain ⟨j, rfl, hj, hok, hbw⟩ := hrel
      have HOk := Lib.hid hok
      have HBw := Lib.hid hbw
      clear hok hbw HZ1
      by_cases hlt : j < N
      · obtain ⟨y, hy⟩ : ∃ y, l[j]? = some y := ⟨l[j]'(by rw [HN.out]; exact hlt), List.getElem?_eq_getElem _⟩
        have hyl := HVl.out y (List.mem_of_getElem? hy)
        obtain ⟨A', c', hv', _, hcells⟩ := (HS.out.below HBw.out)
        obtain ⟨g, o, rfl, hgl, hcell⟩ := hcells (fun e => by rw [e] at hy; cases hy)
        injection hv' with e1 e2 e3
        subst e1 e3
        have HCe := Lib.hid (fun i z hz => hcell i z hz)
        have hat := at_N g o c N j hlt wr
        have HAt := Lib.hid hat
        have HCy := Lib.hid (hcell j y hy)
        have HG := Lib.hid hgl
        have Hyl := Lib.hid hyl
        have Hy := Lib.hid hy
        have hAl := fun c => World.setRow_alloc_new wr #[.int .i64 0, .int .i64 0, .int .i64 0, .int .i64 0, .string ⟨#[]⟩] c 48
        have hZ : Blk (wr.alloc (.cells #[.int .i64 0, .int .i64 0, .int .i64 0, .int .i64 0, .string ⟨#[]⟩] 48)) wr.heap.size 48 #[.int .i64 0, .int .i64 0, .int .i64 0, .int .i64 0, .string ⟨#[]⟩] := Blk.new _ _ _
        obtain ⟨X, hX⟩ : ∃ X, X = wr.alloc (.cells (enN y).toArray 48) := ⟨_, rfl⟩
        have hbX : Below wr.heap.size wr X := by rw [hX]; exact (Below.refl _ _).alloc (Nat.le_refl _) _
        have hBX : Blk X wr.heap.size 48 (enN y).toArray := by rw [hX]; exact Blk.new _ _ _
        have HXe := Lib.hid hX
        have HBX := Lib.hid hBX
        have HbX := Lib.hid (HBw.out.trans (hbX.mono HBw.out.size))
        have HbX' := Lib.hid hbX
        have HRd : Hid (∀ W, Below X.heap.size X W → W.rangeAt wr.heap.size 0 [.int .i64 y.1.r, .int .i64 y.1.c]) := Lib.hid fun W h => rangeAt_below (World.rangeAt_of_block (C := (enN y).toArray) hBX 0 2) hBX.lt h
        have HRv : Hid (∀ W, Below X.heap.size X W → W.rangeAt wr.heap.size 2 [.int .i64 y.2.k, .int .i64 y.2.n, .string y.2.t]) := Lib.hid fun W h => rangeAt_below (World.rangeAt_of_block (C := (enN y).toArray) hBX 2 3) hBX.lt h
        clear hX hbX hBX hat hcell hcells hgl hyl hy e2 HBw
        simp only [enN] at HXe
        cases hd : dotB y.1.r y.1.c
        · have HD := Lib.hid (dot_is7 y.1 false hd)
          have hbf : b = false := by
            rw [← HB.out]
            exact rightI_no (j := j) (by rw [HN.out]; exact hlt) (by unfold okE7; rw [Hy.out]; simp only [hd, Bool.false_and])
          subst hbf
          clear hd
          go_upto_region 6 with (first
            | (refine wpList_val (o := ⟨some 15, _, _, _, _, _⟩) rfl (.pointer (some ⟨g, o + j * 5, none⟩)) wr (run_indexAddr_op rfl rfl rfl HAt.out) ?_)
            | (refine wpList_load_midif rfl 48 (.tmp 15) rfl g (o + j * 5) rfl [.int .i64 y.1.r, .int .i64 y.1.c, .int .i64 y.2.k, .int .i64 y.2.n, .string y.2.t] _ HCy.out Try.underlying48 rfl (by kernel_rfl) ?_)
            | (refine wpList_store_row rfl 48 (.tmp 4) (.tmp 16) rfl wr.heap.size #[.int .i64 y.1.r, .int .i64 y.1.c, .int .i64 y.2.k, .int .i64 y.2.n, .string y.2.t] rfl rfl _ _ hZ (by kernel_rfl) rfl (by kernel_rfl) ?_; rw [hAl, ← HXe.out]))
          clear hZ hAl
          go_wp2_with (first
            | (refine wpList_load_midif rfl 33 (.tmp 17) rfl wr.heap.size 0 rfl _ _ (HRd.out X (Below.refl _ _)) Try.underlying33 rfl (by kernel_rfl) ?_)
            | fail)
          refine (HD.out X).mono ?_
          rintro e w2 ⟨rfl, hb2⟩
          have HZ2 := Lib.hid hb2
          clear hb2
          go_wp2
          go_ret
          exact ⟨rfl, HbY.out.trans ((HbX.out.trans (HZ2.out.mono HbX.out.size)).mono HbY.out.size)⟩
        · have HD := Lib.hid (dot_is7 y.1 true hd)
          have Hd := Lib.hid hd
          clear hd
          cases hf : fit7B x y.2
          · have HF := Lib.hid (fits_is7 x y.2 HXl.out Hyl.out false hf)
            have hbf : b = false := by
              rw [← HB.out]
              exact rightI_no (j := j) (by rw [HN.out]; exact hlt) (by unfold okE7; rw [Hy.out]; simp only [Hd.out, hf, Bool.and_false, Bool.false_and])
            subst hbf
            clear hf
            go_upto_region 6 with (first
              | (refine wpList_val (o := ⟨some 15, _, _, _, _, _⟩) rfl (.pointer (some ⟨g, o + j * 5, none⟩)) wr (run_indexAddr_op rfl rfl rfl HAt.out) ?_)
              | (refine wpList_load_midif rfl 48 (.tmp 15) rfl g (o + j * 5) rfl [.int .i64 y.1.r, .int .i64 y.1.c, .int .i64 y.2.k, .int .i64 y.2.n, .string y.2.t] _ HCy.out Try.underlying48 rfl (by kernel_rfl) ?_)
              | (refine wpList_store_row rfl 48 (.tmp 4) (.tmp 16) rfl wr.heap.size #[.int .i64 y.1.r, .int .i64 y.1.c, .int .i64 y.2.k, .int .i64 y.2.n, .string y.2.t] rfl rfl _ _ hZ (by kernel_rfl) rfl (by kernel_rfl) ?_; rw [hAl, ← HXe.out]))
            clear hZ hAl
            go_wp2_with (first
              | (refine wpList_load_midif rfl 33 (.tmp 17) rfl wr.heap.size 0 rfl _ _ (HRd.out X (Below.refl _ _)) Try.underlying33 rfl (by kernel_rfl) ?_)
              | fail)
            refine (HD.out X).mono ?_
            rintro e w2 ⟨rfl, hb2⟩
            have HZ2 := Lib.hid hb2
            clear hb2
            have HZY := Lib.hid (HbX.out.trans (HZ2.out.mono HbX.out.size))
            go_wp2_with (first
              | (refine wpList_load_midif rfl 35 (.tmp 22) rfl q0 0 rfl _ _ (HRa.out w2 HZY.out) Try.underlying35 rfl (by kernel_rfl) ?_)
              | (refine wpList_load_midif rfl 37 (.tmp 24) rfl wr.heap.size 2 rfl _ _ (HRv.out w2 HZ2.out) Try.underlying37 rfl (by kernel_rfl) ?_)
              | fail)
            refine (HF.out w2 (HW.out.below HZY.out)).mono ?_
            rintro e w3 ⟨rfl, hb3⟩
            have HZ3 := Lib.hid (HZY.out.trans (hb3.mono HZY.out.size))
            have HX3 := Lib.hid (HZ2.out.trans (hb3.mono HZ2.out.size))
            clear hb3
            go_wp2
            go_ret
            exact ⟨rfl, HbY.out.trans ((HZ3.out).mono HbY.out.size)⟩
          · have HF := Lib.hid (fits_is7 x y.2 HXl.out Hyl.out true hf)
            have Hf := Lib.hid hf
            clear hf
            go_upto_region 6 with (first
              | (refine wpList_val (o := ⟨some 15, _, _, _, _, _⟩) rfl (.pointer (some ⟨g, o + j * 5, none⟩)) wr (run_indexAddr_op rfl rfl rfl HAt.out) ?_)
              | (refine wpList_load_midif rfl 48 (.tmp 15) rfl g (o + j * 5) rfl [.int .i64 y.1.r, .int .i64 y.1.c, .int .i64 y.2.k, .int .i64 y.2.n, .string y.2.t] _ HCy.out Try.underlying48 rfl (by kernel_rfl) ?_)
              | (refine wpList_store_row rfl 48 (.tmp 4) (.tmp 16) rfl wr.heap.size #[.int .i64 y.1.r, .int .i64 y.1.c, .int .i64 y.2.k, .int .i64 y.2.n, .string y.2.t] rfl rfl _ _ hZ (by kernel_rfl) rfl (by kernel_rfl) ?_; rw [hAl, ← HXe.out]))
            clear hZ hAl
            go_wp2_with (first
              | (refine wpList_load_midif rfl 33 (.tmp 17) rfl wr.heap.size 0 rfl _ _ (HRd.out X (Below.refl _ _)) Try.underlying33 rfl (by kernel_rfl) ?_)
              | fail)
            refine (HD.out X).mono ?_
            rintro e w2 ⟨rfl, hb2⟩
            have HZ2 := Lib.hid hb2
            clear hb2
            have HZY := Lib.hid (HbX.out.trans (HZ2.out.mono HbX.out.size))
            go_wp2_with (first
              | (refine wpList_load_midif rfl 35 (.tmp 22) rfl q0 0 rfl _ _ (HRa.out w2 HZY.out) Try.underlying35 rfl (by kernel_rfl) ?_)
              | (refine wpList_load_midif rfl 37 (.tmp 24) rfl wr.heap.size 2 rfl _ _ (HRv.out w2 HZ2.out) Try.underlying37 rfl (by kernel_rfl) ?_)
              | fail)
            refine (HF.out w2 (HW.out.below HZY.out)).mono ?_
            rintro e w3 ⟨rfl, hb3⟩
            have HZ3 := Lib.hid (HZY.out.trans (hb3.mono HZY.out.size))
            have HX3 := Lib.hid (HZ2.out.trans (hb3.mono HZ2.out.size))
            clear hb3
            rcases Nat.eq_zero_or_pos j with hj0 | hj0
            · have hoj : Hid (okE7 x l j = true) := Lib.hid (by rw [hj0] at Hy ⊢; unfold okE7; rw [Hy.out]; simp only [Hd.out, Hf.out, Bool.and_self])
              have HJ0 := Lib.hid hj0
              clear hj0
              go_upto_region 8 with fail
              refine wp_region_any (by kernel_rfl) ?_
              refine wpAny_below (fun i uq _ => uq = ([.int .i64 j, .bool false, .bool false, undef, undef, undef, undef, undef, undef, undef, undef, undef, .bool false] : List Value).getD i undef) _ w3 (by kernel_rfl) (by kernel_rfl) (by kernel_rfl) (fun i v w w' _ h => h) ?_ ?_
              · refine ⟨?_, ?_, ?_, ?_, ?_, ?_, ?_, ?_, ?_, ?_, ?_, ?_, ?_, trivial⟩
                · intro a W hI hun haft hi
                  have e3 : a.eval (.tmp 3) = .int .i64 j := hun 3 (by kernel_rfl)
                  exact b_same hi hI rfl _ (run_move_op rfl e3) rfl
                · intro a W hI hun haft hi
                  have f0 : a.eval (.tmp 29) = .int .i64 j := haft ⟨0, .data⟩ (by simp) rfl _ _ rfl rfl
                  exact b_same hi hI rfl (.bool false) (run_bin_op rfl f0 rfl (by kernel_rfl) (run_gt7 (by simp [HJ0.out]) _)) rfl
                · intro a W hI hun haft hi
                  have f1 : a.eval (.tmp 30) = .bool false := haft ⟨1, .data⟩ (by simp) rfl _ _ rfl rfl
                  exact b_same hi hI rfl _ (run_move_op rfl f1) rfl
                · intro a W hI hun haft hi
                  have fg : a.eval (.tmp 31) = .bool false := haft ⟨2, .guard⟩ (by simp) rfl _ _ rfl rfl
                  exact b_skip hi hI (guard_no rfl rfl rfl (.inl fg)) rfl
                · intro a W hI hun haft hi
                  have fg : a.eval (.tmp 31) = .bool false := haft ⟨2, .guard⟩ (by simp) rfl _ _ rfl rfl
                  exact b_skip hi hI (guard_no rfl rfl rfl (.inl fg)) rfl
                · intro a W hI hun haft hi
                  have fg : a.eval (.tmp 31) = .bool false := haft ⟨2, .guard⟩ (by simp) rfl _ _ rfl rfl
                  exact b_skip hi hI (guard_no rfl rfl rfl (.inl fg)) rfl
                · intro a W hI hun haft hi
                  have fg : a.eval (.tmp 31) = .bool false := haft ⟨2, .guard⟩ (by simp) rfl _ _ rfl rfl
                  exact b_skip hi hI (guard_no rfl rfl rfl (.inl fg)) rfl
                · intro a W hI hun haft hi
                  have fg : a.eval (.tmp 31) = .bool false := haft ⟨2, .guard⟩ (by simp) rfl _ _ rfl rfl
                  exact b_skip hi hI (guard_no rfl rfl rfl (.inl fg)) rfl
                · intro a W hI hun haft hi
                  have fg : a.eval (.tmp 31) = .bool false := haft ⟨2, .guard⟩ (by simp) rfl _ _ rfl rfl
                  exact b_skip hi hI (guard_no rfl rfl rfl (.inl fg)) rfl
                · intro a W hI hun haft hi
                  have fg : a.eval (.tmp 31) = .bool false := haft ⟨2, .guard⟩ (by simp) rfl _ _ rfl rfl
                  exact b_skip hi hI (guard_no rfl rfl rfl (.inl fg)) rfl
                · intro a W hI hun haft hi
                  have fg : a.eval (.tmp 31) = .bool false := haft ⟨2, .guard⟩ (by simp) rfl _ _ rfl rfl
                  exact b_skip hi hI (guard_no rfl rfl rfl (.inl fg)) rfl
                · intro a W hI hun haft hi
                  have fg : a.eval (.tmp 31) = .bool false := haft ⟨2, .guard⟩ (by simp) rfl _ _ rfl rfl
                  exact b_skip hi hI (guard_no rfl rfl rfl (.inl fg)) rfl
                · intro a W hI hun haft hi
                  have f2 : a.eval (.tmp 31) = .bool false := haft ⟨2, .data⟩ (by simp) rfl _ _ rfl rfl
                  have f11 : a.eval (.tmp 40) = undef := haft ⟨11, .data⟩ (by simp) rfl _ _ rfl rfl
                  exact b_same hi hI rfl _ (run_pick_op (b := false) rfl f2 f11 rfl) rfl
              · intro vals W hI hp
                have hl0 : vals 0 = .int .i64 j := hp 0 (by decide)
                have hl1 : vals 1 = .bool false := hp 1 (by decide)
                have hl2 : vals 2 = .bool false := hp 2 (by decide)
                have hl3 : vals 3 = undef := hp 3 (by decide)
                have hl4 : vals 4 = undef := hp 4 (by decide)
                have hl5 : vals 5 = undef := hp 5 (by decide)
                have hl6 : vals 6 = undef := hp 6 (by decide)
                have hl7 : vals 7 = undef := hp 7 (by decide)
                have hl8 : vals 8 = undef := hp 8 (by decide)
                have hl9 : vals 9 = undef := hp 9 (by decide)
                have hl10 : vals 10 = undef := hp 10 (by decide)
                have hl11 : vals 11 = undef := hp 11 (by decide)
                have hl12 : vals 12 = .bool false := hp 12 (by decide)
                have HI := Lib.hid hI
                clear hp hI
                simp only [layN, List.size_toArray, List.length_cons, List.length_nil, List.range, List.range.loop, if_true, List.getElem?_toArray, List.getElem?_cons_zero, List.getElem?_cons_succ, Act.put, List.setIfInBounds_toArray, List.set_cons_zero, List.set_cons_succ, Nat.zero_add, Nat.reduceAdd, hl0, hl1, hl2, hl3, hl4, hl5, hl6, hl7, hl8, hl9, hl10, hl11, hl12]
                clear hl0 hl1 hl2 hl3 hl4 hl5 hl6 hl7 hl8 hl9 hl10 hl11 hl12
                have hw := IntWalk.i64_in ((j : Int) + 1) (by have := HN2.out; omega)
                have hjm : ¬ 9223372036854775807 < j + 1 := by have := HN2.out; omega
                go_wp2
                go_roundw
                case rel => exact ⟨j + 1, by go_num, by omega, fun k hk => by
                  rcases Nat.lt_succ_iff_lt_or_eq.1 hk with h | h
                  · exact HOk.out k h
                  · rw [h]; exact hoj.out, HZ3.out.trans (HI.out.mono HZ3.out.size)⟩
                case measure => simp [intOf] <;> omega
            · obtain ⟨j1, hj1⟩ : ∃ j1, j = j1 + 1 := ⟨j - 1, by omega⟩
              obtain ⟨p, hp⟩ : ∃ p, l[j1]? = some p := ⟨l[j1]'(by rw [HN.out]; omega), List.getElem?_eq_getElem _⟩
              have Hp := Lib.hid hp
              have HJ1 := Lib.hid hj1
              clear hp hj0
              cases hc : decide ((0 : Int) ≤ cfD p.1 y.1)
              · have hoj : Hid (okE7 x l j = true) := Lib.hid (by
                  rw [hj1] at Hy ⊢
                  unfold okE7
                  rw [Hy.out]
                  dsimp only
                  rw [Hp.out]
                  simp only [Hd.out, Hf.out, Bool.and_self, Bool.true_and, decide_eq_true_eq]
                  simp only [decide_eq_false_iff_not] at hc
                  omega)
                clear hj1
                go_upto_region 8 with fail
                refine wp_region_any (by kernel_rfl) ?_
                refine wpAny_below (fun i uq _ => uq = ([.int .i64 j, .bool true, .bool true, .pointer (some ⟨q0, 5, none⟩), .slice (some ⟨g, o, none⟩) N c, .int .i64 j, .int .i64 j1, .pointer (some ⟨g, o + j1 * 5, none⟩), enV p.1 p.2, enV y.1 y.2, .int .i64 (cfD p.1 y.1), .bool false, .bool false] : List Value).getD i undef) _ w3 (by kernel_rfl) (by kernel_rfl) (by kernel_rfl) (fun i v w w' _ h => h) ?_ ?_
                · refine ⟨?_, ?_, ?_, ?_, ?_, ?_, ?_, ?_, ?_, ?_, ?_, ?_, ?_, trivial⟩
                  · intro a W hI hun haft hi
                    have e3 : a.eval (.tmp 3) = .int .i64 j := hun 3 (by kernel_rfl)
                    exact b_same hi hI rfl _ (run_move_op rfl e3) rfl
                  · intro a W hI hun haft hi
                    have f0 : a.eval (.tmp 29) = .int .i64 j := haft ⟨0, .data⟩ (by simp) rfl _ _ rfl rfl
                    exact b_same hi hI rfl (.bool true) (run_bin_op rfl f0 rfl (by kernel_rfl) (run_gt7 (by simp [HJ1.out]) _)) rfl
                  · intro a W hI hun haft hi
                    have f1 : a.eval (.tmp 30) = .bool true := haft ⟨1, .data⟩ (by simp) rfl _ _ rfl rfl
                    exact b_same hi hI rfl _ (run_move_op rfl f1) rfl
                  · intro a W hI hun haft hi
                    have fg : a.eval (.tmp 31) = .bool true := haft ⟨2, .guard⟩ (by simp) rfl _ _ rfl rfl
                    have e1 : a.eval (.tmp 1) = .pointer (some ⟨q0, 0, none⟩) := hun 1 (by kernel_rfl)
                    exact b_same hi hI (guard_ok rfl rfl rfl fg) _ (run_fieldAddr_any rfl e1 (at_item1 _ 0 _)) rfl
                  · intro a W hI hun haft hi
                    have fg : a.eval (.tmp 31) = .bool true := haft ⟨2, .guard⟩ (by simp) rfl _ _ rfl rfl
                    have f3 : a.eval (.tmp 32) = .pointer (some ⟨q0, 5, none⟩) := haft ⟨3, .data⟩ (by simp) rfl _ _ rfl rfl
                    exact b_same hi hI (guard_ok rfl rfl rfl fg) _ (run_loadsl_op rfl f3 Try.underlying44 (HRs.out W (HZ3.out.trans (hI.mono HZ3.out.size)))) rfl
                  · intro a W hI hun haft hi
                    have fg : a.eval (.tmp 31) = .bool true := haft ⟨2, .guard⟩ (by simp) rfl _ _ rfl rfl
                    have e3 : a.eval (.tmp 3) = .int .i64 j := hun 3 (by kernel_rfl)
                    exact b_same hi hI (guard_ok rfl rfl rfl fg) _ (run_move_op rfl e3) rfl
                  · intro a W hI hun haft hi
                    have fg : a.eval (.tmp 31) = .bool true := haft ⟨2, .guard⟩ (by simp) rfl _ _ rfl rfl
                    have f5 : a.eval (.tmp 34) = .int .i64 j := haft ⟨5, .data⟩ (by simp) rfl _ _ rfl rfl
                    exact b_same hi hI (guard_ok rfl rfl rfl fg) (.int .i64 j1) (run_bin_op rfl f5 rfl (by kernel_rfl) (run_minus7 HJ1.out (by have := HN2.out; omega) _)) rfl
                  · intro a W hI hun haft hi
                    have fg : a.eval (.tmp 31) = .bool true := haft ⟨2, .guard⟩ (by simp) rfl _ _ rfl rfl
                    have f4 : a.eval (.tmp 33) = .slice (some ⟨g, o, none⟩) N c := haft ⟨4, .data⟩ (by simp) rfl _ _ rfl rfl
                    have f6 : a.eval (.tmp 35) = .int .i64 j1 := haft ⟨6, .data⟩ (by simp) rfl _ _ rfl rfl
                    exact b_same hi hI (guard_ok rfl rfl rfl fg) _ (run_indexAddr_op rfl f4 f6 (at_N g o c N j1 (by have := HJ1.out; omega) _)) rfl
                  · intro a W hI hun haft hi
                    have fg : a.eval (.tmp 31) = .bool true := haft ⟨2, .guard⟩ (by simp) rfl _ _ rfl rfl
                    have f7 : a.eval (.tmp 36) = .pointer (some ⟨g, o + j1 * 5, none⟩) := haft ⟨7, .data⟩ (by simp) rfl _ _ rfl rfl
                    exact b_same hi hI (guard_ok rfl rfl rfl fg) _ (run_loadmid_op rfl f7 (rangeAt_below (rangeAt_below (HCe.out j1 p Hp.out) HG.out HbX'.out) (Nat.lt_of_lt_of_le HG.out HbX'.out.size) (HX3.out.trans (hI.mono HX3.out.size))) Try.underlying48 rfl (by kernel_rfl)) rfl
                  · intro a W hI hun haft hi
                    have fg : a.eval (.tmp 31) = .bool true := haft ⟨2, .guard⟩ (by simp) rfl _ _ rfl rfl
                    have e4 : a.eval (.tmp 4) = .pointer (some ⟨wr.heap.size, 0, none⟩) := hun 4 (by kernel_rfl)
                    exact b_same hi hI (guard_ok rfl rfl rfl fg) _ (run_load_op rfl e4 (Blk.below HBX.out (HX3.out.trans (hI.mono HX3.out.size)) (Blk.lt HBX.out)) Try.underlying48 rfl (by kernel_rfl)) rfl
                  · intro a W hI hun haft hi
                    have fg : a.eval (.tmp 31) = .bool true := haft ⟨2, .guard⟩ (by simp) rfl _ _ rfl rfl
                    have f8 : a.eval (.tmp 37) = enV p.1 p.2 := haft ⟨8, .data⟩ (by simp) rfl _ _ rfl rfl
                    have f9 : a.eval (.tmp 38) = enV y.1 y.2 := haft ⟨9, .data⟩ (by simp) rfl _ _ rfl rfl
                    refine b_call hi hI (guard_ok rfl rfl rfl fg) _ _ (run_call_op (args := #[enV p.1 p.2, enV y.1 y.2]) rfl (by simp [f8, f9]) (by kernel_rfl)) ?_
                    exact ((byDot_any p y _).mono fun e w' ⟨he, hg⟩ => (⟨he, hg.below⟩ : _ ∧ _)).mono fun e w' H => ⟨_, H.1, rfl, H.2⟩
                  · intro a W hI hun haft hi
                    have fg : a.eval (.tmp 31) = .bool true := haft ⟨2, .guard⟩ (by simp) rfl _ _ rfl rfl
                    have f10 : a.eval (.tmp 39) = .int .i64 (cfD p.1 y.1) := haft ⟨10, .data⟩ (by simp) rfl _ _ rfl rfl
                    exact b_same hi hI (guard_ok rfl rfl rfl fg) (.bool false) (run_bin_op rfl f10 rfl (by kernel_rfl) (run_ge7 hc _)) rfl
                  · intro a W hI hun haft hi
                    have f2 : a.eval (.tmp 31) = .bool true := haft ⟨2, .data⟩ (by simp) rfl _ _ rfl rfl
                    have f11 : a.eval (.tmp 40) = .bool false := haft ⟨11, .data⟩ (by simp) rfl _ _ rfl rfl
                    exact b_same hi hI rfl _ (run_pick_op (b := true) rfl f2 f11 rfl) rfl
                · intro vals W hI hp
                  have hl0 : vals 0 = .int .i64 j := hp 0 (by decide)
                  have hl1 : vals 1 = .bool true := hp 1 (by decide)
                  have hl2 : vals 2 = .bool true := hp 2 (by decide)
                  have hl3 : vals 3 = .pointer (some ⟨q0, 5, none⟩) := hp 3 (by decide)
                  have hl4 : vals 4 = .slice (some ⟨g, o, none⟩) N c := hp 4 (by decide)
                  have hl5 : vals 5 = .int .i64 j := hp 5 (by decide)
                  have hl6 : vals 6 = .int .i64 j1 := hp 6 (by decide)
                  have hl7 : vals 7 = .pointer (some ⟨g, o + j1 * 5, none⟩) := hp 7 (by decide)
                  have hl8 : vals 8 = enV p.1 p.2 := hp 8 (by decide)
                  have hl9 : vals 9 = enV y.1 y.2 := hp 9 (by decide)
                  have hl10 : vals 10 = .int .i64 (cfD p.1 y.1) := hp 10 (by decide)
                  have hl11 : vals 11 = .bool false := hp 11 (by decide)
                  have hl12 : vals 12 = .bool false := hp 12 (by decide)
                  have HI := Lib.hid hI
                  clear hp hI
                  simp only [layN, List.size_toArray, List.length_cons, List.length_nil, List.range, List.range.loop, if_true, List.getElem?_toArray, List.getElem?_cons_zero, List.getElem?_cons_succ, Act.put, List.setIfInBounds_toArray, List.set_cons_zero, List.set_cons_succ, Nat.zero_add, Nat.reduceAdd, hl0, hl1, hl2, hl3, hl4, hl5, hl6, hl7, hl8, hl9, hl10, hl11, hl12]
                  clear hl0 hl1 hl2 hl3 hl4 hl5 hl6 hl7 hl8 hl9 hl10 hl11 hl12
                  have hw := IntWalk.i64_in ((j : Int) + 1) (by have := HN2.out; omega)
                  have hjm : ¬ 9223372036854775807 < j + 1 := by have := HN2.out; omega
                  go_wp2
                  go_roundw
                  case rel => exact ⟨j + 1, by go_num, by omega, fun k hk => by
                    rcases Nat.lt_succ_iff_lt_or_eq.1 hk with h | h
                    · exact HOk.out k h
                    · rw [h]; exact hoj.out, HZ3.out.trans (HI.out.mono HZ3.out.size)⟩
                  case measure => simp [intOf] <;> omega
              · have hbf : b = false := by
                  rw [← HB.out]
                  refine rightI_no (j := j) (by rw [HN.out]; exact hlt) ?_
                  rw [hj1] at Hy ⊢
                  unfold okE7
                  rw [Hy.out]
                  dsimp only
                  rw [Hp.out]
                  simp only [Hd.out, Hf.out, Bool.and_self, Bool.true_and, decide_eq_false_iff_not]
                  simp only [decide_eq_true_eq] at hc
                  omega
                subst hbf
                clear hj1
                go_upto_region 8 with fail
                refine wp_region_any (by kernel_rfl) ?_
                refine wpAny_below (fun i uq _ => uq = ([.int .i64 j, .bool true, .bool true, .pointer (some ⟨q0, 5, none⟩), .slice (some ⟨g, o, none⟩) N c, .int .i64 j, .int .i64 j1, .pointer (some ⟨g, o + j1 * 5, none⟩), enV p.1 p.2, enV y.1 y.2, .int .i64 (cfD p.1 y.1), .bool true, .bool true] : List Value).getD i undef) _ w3 (by kernel_rfl) (by kernel_rfl) (by kernel_rfl) (fun i v w w' _ h => h) ?_ ?_
                · refine ⟨?_, ?_, ?_, ?_, ?_, ?_, ?_, ?_, ?_, ?_, ?_, ?_, ?_, trivial⟩
                  · intro a W hI hun haft hi
                    have e3 : a.eval (.tmp 3) = .int .i64 j := hun 3 (by kernel_rfl)
                    exact b_same hi hI rfl _ (run_move_op rfl e3) rfl
                  · intro a W hI hun haft hi
                    have f0 : a.eval (.tmp 29) = .int .i64 j := haft ⟨0, .data⟩ (by simp) rfl _ _ rfl rfl
                    exact b_same hi hI rfl (.bool true) (run_bin_op rfl f0 rfl (by kernel_rfl) (run_gt7 (by simp [HJ1.out]) _)) rfl
                  · intro a W hI hun haft hi
                    have f1 : a.eval (.tmp 30) = .bool true := haft ⟨1, .data⟩ (by simp) rfl _ _ rfl rfl
                    exact b_same hi hI rfl _ (run_move_op rfl f1) rfl
                  · intro a W hI hun haft hi
                    have fg : a.eval (.tmp 31) = .bool true := haft ⟨2, .guard⟩ (by simp) rfl _ _ rfl rfl
                    have e1 : a.eval (.tmp 1) = .pointer (some ⟨q0, 0, none⟩) := hun 1 (by kernel_rfl)
                    exact b_same hi hI (guard_ok rfl rfl rfl fg) _ (run_fieldAddr_any rfl e1 (at_item1 _ 0 _)) rfl
                  · intro a W hI hun haft hi
                    have fg : a.eval (.tmp 31) = .bool true := haft ⟨2, .guard⟩ (by simp) rfl _ _ rfl rfl
                    have f3 : a.eval (.tmp 32) = .pointer (some ⟨q0, 5, none⟩) := haft ⟨3, .data⟩ (by simp) rfl _ _ rfl rfl
                    exact b_same hi hI (guard_ok rfl rfl rfl fg) _ (run_loadsl_op rfl f3 Try.underlying44 (HRs.out W (HZ3.out.trans (hI.mono HZ3.out.size)))) rfl
                  · intro a W hI hun haft hi
                    have fg : a.eval (.tmp 31) = .bool true := haft ⟨2, .guard⟩ (by simp) rfl _ _ rfl rfl
                    have e3 : a.eval (.tmp 3) = .int .i64 j := hun 3 (by kernel_rfl)
                    exact b_same hi hI (guard_ok rfl rfl rfl fg) _ (run_move_op rfl e3) rfl
                  · intro a W hI hun haft hi
                    have fg : a.eval (.tmp 31) = .bool true := haft ⟨2, .guard⟩ (by simp) rfl _ _ rfl rfl
                    have f5 : a.eval (.tmp 34) = .int .i64 j := haft ⟨5, .data⟩ (by simp) rfl _ _ rfl rfl
                    exact b_same hi hI (guard_ok rfl rfl rfl fg) (.int .i64 j1) (run_bin_op rfl f5 rfl (by kernel_rfl) (run_minus7 HJ1.out (by have := HN2.out; omega) _)) rfl
                  · intro a W hI hun haft hi
                    have fg : a.eval (.tmp 31) = .bool true := haft ⟨2, .guard⟩ (by simp) rfl _ _ rfl rfl
                    have f4 : a.eval (.tmp 33) = .slice (some ⟨g, o, none⟩) N c := haft ⟨4, .data⟩ (by simp) rfl _ _ rfl rfl
                    have f6 : a.eval (.tmp 35) = .int .i64 j1 := haft ⟨6, .data⟩ (by simp) rfl _ _ rfl rfl
                    exact b_same hi hI (guard_ok rfl rfl rfl fg) _ (run_indexAddr_op rfl f4 f6 (at_N g o c N j1 (by have := HJ1.out; omega) _)) rfl
                  · intro a W hI hun haft hi
                    have fg : a.eval (.tmp 31) = .bool true := haft ⟨2, .guard⟩ (by simp) rfl _ _ rfl rfl
                    have f7 : a.eval (.tmp 36) = .pointer (some ⟨g, o + j1 * 5, none⟩) := haft ⟨7, .data⟩ (by simp) rfl _ _ rfl rfl
                    exact b_same hi hI (guard_ok rfl rfl rfl fg) _ (run_loadmid_op rfl f7 (rangeAt_below (rangeAt_below (HCe.out j1 p Hp.out) HG.out HbX'.out) (Nat.lt_of_lt_of_le HG.out HbX'.out.size) (HX3.out.trans (hI.mono HX3.out.size))) Try.underlying48 rfl (by kernel_rfl)) rfl
                  · intro a W hI hun haft hi
                    have fg : a.eval (.tmp 31) = .bool true := haft ⟨2, .guard⟩ (by simp) rfl _ _ rfl rfl
                    have e4 : a.eval (.tmp 4) = .pointer (some ⟨wr.heap.size, 0, none⟩) := hun 4 (by kernel_rfl)
                    exact b_same hi hI (guard_ok rfl rfl rfl fg) _ (run_load_op rfl e4 (Blk.below HBX.out (HX3.out.trans (hI.mono HX3.out.size)) (Blk.lt HBX.out)) Try.underlying48 rfl (by kernel_rfl)) rfl
                  · intro a W hI hun haft hi
                    have fg : a.eval (.tmp 31) = .bool true := haft ⟨2, .guard⟩ (by simp) rfl _ _ rfl rfl
                    have f8 : a.eval (.tmp 37) = enV p.1 p.2 := haft ⟨8, .data⟩ (by simp) rfl _ _ rfl rfl
                    have f9 : a.eval (.tmp 38) = enV y.1 y.2 := haft ⟨9, .data⟩ (by simp) rfl _ _ rfl rfl
                    refine b_call hi hI (guard_ok rfl rfl rfl fg) _ _ (run_call_op (args := #[enV p.1 p.2, enV y.1 y.2]) rfl (by simp [f8, f9]) (by kernel_rfl)) ?_
                    exact ((byDot_any p y _).mono fun e w' ⟨he, hg⟩ => (⟨he, hg.below⟩ : _ ∧ _)).mono fun e w' H => ⟨_, H.1, rfl, H.2⟩
                  · intro a W hI hun haft hi
                    have fg : a.eval (.tmp 31) = .bool true := haft ⟨2, .guard⟩ (by simp) rfl _ _ rfl rfl
                    have f10 : a.eval (.tmp 39) = .int .i64 (cfD p.1 y.1) := haft ⟨10, .data⟩ (by simp) rfl _ _ rfl rfl
                    exact b_same hi hI (guard_ok rfl rfl rfl fg) (.bool true) (run_bin_op rfl f10 rfl (by kernel_rfl) (run_ge7 hc _)) rfl
                  · intro a W hI hun haft hi
                    have f2 : a.eval (.tmp 31) = .bool true := haft ⟨2, .data⟩ (by simp) rfl _ _ rfl rfl
                    have f11 : a.eval (.tmp 40) = .bool true := haft ⟨11, .data⟩ (by simp) rfl _ _ rfl rfl
                    exact b_same hi hI rfl _ (run_pick_op (b := true) rfl f2 f11 rfl) rfl
                · intro vals W hI hp
                  have hl0 : vals 0 = .int .i64 j := hp 0 (by decide)
                  have hl1 : vals 1 = .bool true := hp 1 (by decide)
                  have hl2 : vals 2 = .bool true := hp 2 (by decide)
                  have hl3 : vals 3 = .pointer (some ⟨q0, 5, none⟩) := hp 3 (by decide)
                  have hl4 : vals 4 = .slice (some ⟨g, o, none⟩) N c := hp 4 (by decide)
                  have hl5 : vals 5 = .int .i64 j := hp 5 (by decide)
                  have hl6 : vals 6 = .int .i64 j1 := hp 6 (by decide)
                  have hl7 : vals 7 = .pointer (some ⟨g, o + j1 * 5, none⟩) := hp 7 (by decide)
                  have hl8 : vals 8 = enV p.1 p.2 := hp 8 (by decide)
                  have hl9 : vals 9 = enV y.1 y.2 := hp 9 (by decide)
                  have hl10 : vals 10 = .int .i64 (cfD p.1 y.1) := hp 10 (by decide)
                  have hl11 : vals 11 = .bool true := hp 11 (by decide)
                  have hl12 : vals 12 = .bool true := hp 12 (by decide)
                  have HI := Lib.hid hI
                  clear hp hI
                  simp only [layN, List.size_toArray, List.length_cons, List.length_nil, List.range, List.range.loop, if_true, List.getElem?_toArray, List.getElem?_cons_zero, List.getElem?_cons_succ, Act.put, List.setIfInBounds_toArray, List.set_cons_zero, List.set_cons_succ, Nat.zero_add, Nat.reduceAdd, hl0, hl1, hl2, hl3, hl4, hl5, hl6, hl7, hl8, hl9, hl10, hl11, hl12]
                  clear hl0 hl1 hl2 hl3 hl4 hl5 hl6 hl7 hl8 hl9 hl10 hl11 hl12
                  go_wp2
                  go_ret
                  exact ⟨rfl, HbY.out.trans ((HZ3.out.trans (HI.out.mono HZ3.out.size)).mono HbY.out.size)⟩
      · have hjN : j = N := by omega
        subst hjN
        have hbt : b = true := by rw [← HB.out]; exact rightI_yes HEt.out (by rw [HN.out]; exact HOk.out)
        subst hbt
        go_wp2
        go_ret
        exact ⟨rfl, HbY.out.trans (HBw.out.mono HbY.out.size)⟩

end Go.Proofs.Ytmhechlfpaciiaa
