/-
  expr.right, Right, has: the contracts, by walks. Conditions: lengths; the world holds the library's tables (WOk).
-/
import Derived.Test.YtdabanocofimmaaGreatDoorExNm
namespace Go.Proofs.YtdabanocofimmaaGreatDoor
open Go.RowKit

instance : DecidableEq Ex.X := fun a b => decidable_of_iff (a.k = b.k ∧ a.vk = b.vk ∧ a.vn = b.vn ∧ a.vt = b.vt ∧ a.v = b.v ∧ a.p = b.p ∧ a.l = b.l ∧ a.r = b.r) (by
  obtain ⟨a1, a2, a3, a4, a5, a6, a7, a8⟩ := a
  obtain ⟨b1, b2, b3, b4, b5, b6, b7, b8⟩ := b
  simp only [Ex.X.mk.injEq])
theorem eql_x (a b : Ex.X) (w : World) : (binOp .eql 49 (.agg (exC a)) (.agg (exC b))).run Tryz.prog w = .ok (.bool (decide (a = b))) w := by
  by_cases h : a = b
  · subst h
    obtain ⟨a1, a2, a3, a4, a5, a6, a7, a8⟩ := a
    rw [decide_eq_true rfl]
    unfold exC
    dsimp only
    go_simp
  · rw [decide_eq_false h]
    obtain ⟨a1, a2, a3, a4, a5, a6, a7, a8⟩ := a
    obtain ⟨b1, b2, b3, b4, b5, b6, b7, b8⟩ := b
    unfold exC
    dsimp only
    go_simp
    intro e1 e2 e3 e4 e5 e6 e7 e8
    exact h (by rw [e1, e2, e3, e4, e5, e6, e7, e8])
theorem eql_op (a b : Ex.X) (w : World) {o : Oper} {ρ : Operand → Value} {x y : Operand} {t2 : TypeId} (ho : o.op = .binOp .eql 49 x y t2) (hx : ρ x = .agg (exC a)) (hy : ρ y = .agg (exC b)) : (execOp ρ o).run Tryz.prog w = .ok (.value (.bool (decide (a = b)))) w :=
  run_bin_op ho hx hy (run_eqGuard_agg _ _ _ _ _ _ _ (by kernel_rfl)) (eql_x a b w)
/-- What an expression's kind asks of it. -/
def okX (e : Ex.X) : Bool :=
  if e.k = 1 then spokenB e.vk e.vn e.vt && decide (e = ⟨e.k, e.vk, e.vn, e.vt, [], [], 0, 0⟩)
  else if e.k = 2 then idB e.v && decide (e = ⟨e.k, 0, 0, [], e.v, [], 0, 0⟩)
  else if e.k = 3 ∨ e.k = 4 then (idB e.v && idB e.p) && decide (e = ⟨e.k, 0, 0, [], e.v, e.p, 0, 0⟩)
  else if e.k = 5 ∨ e.k = 6 ∨ e.k = 7 then decide (e = ⟨e.k, 0, 0, [], [], [], e.l, 0⟩)
  else twoB e.k && decide (e = ⟨e.k, 0, 0, [], [], [], e.l, e.r⟩)
def sideOk (n : Nat) (s : Int) : Bool := decide (0 ≤ s) && decide (s < n)
/-- May it be, with so many ahead of it? -/
def rightX (n : Nat) (e : Ex.X) : Bool := (sidesL e).all (sideOk n) && okX e
/-- Its texts aren't too long. -/
def XSm (e : Ex.X) : Prop := e.vt.length ≤ 1000000 ∧ e.v.length ≤ 1000000 ∧ e.p.length ≤ 1000000
theorem at_Z (A : Option Addr) (g o c n k : Nat) (hA : A = some ⟨g, o, none⟩) (h : k < n) (w : World) : (Instr.indexAt 57 (.slice A n c) (.int .i64 k)).run Tryz.prog w = .ok (.pointer (some ⟨g, o + k, none⟩)) w := by
  subst hA
  have h2 : (k : Int) < n := by omega
  go_simp
theorem SlK.int_at {w : World} {A : Option Addr} {n c : Nat} {l : List Int} (h : SlK encZ 1 w (.slice A n c) l) {j : Nat} {z : Int} (hj : l[j]? = some z) : ∃ g o, A = some ⟨g, o, none⟩ ∧ g < w.heap.size ∧ w.cell? ⟨g, o + j, none⟩ = some (.int .i64 z) := by
  obtain ⟨A', c', hv, _, hx⟩ := h
  injection hv with h1 h2 h3
  subst h1 h3 h2
  obtain ⟨b, o, hA, hb, hc⟩ := hx (by rintro rfl; cases hj)
  refine ⟨b, o, hA, hb, ?_⟩
  have := hc j z hj 0 (.int .i64 z) rfl
  simpa using this

set_option maxRecDepth 100000 in
set_option maxHeartbeats 2500000 in
theorem xright_any (e : Ex.X) (m : Nat) (w : World) (hw : WOk w) (he : XSm e) : Calls Tryz.prog 30 #[exV e, .int .i64 m] w (Gives w (.bool (rightX m e))) := by
  obtain ⟨p, hp⟩ : ∃ p, w.heap.size = p := ⟨_, rfl⟩
  obtain ⟨X, hX⟩ : ∃ X, X = w.alloc (.cells (exC e) 49) := ⟨_, rfl⟩
  have hbX : Below w.heap.size w X := by rw [hX]; exact (Below.refl _ _).alloc (Nat.le_refl _) _
  have hE : Blk X p 49 (exC e) := by rw [hX, ← hp]; exact Blk.new w _ _
  have HSd := Lib.hid (sides_any e X)
  have HR := Lib.hid (show rightX m e = ((sidesL e).all (sideOk m) && okX e) from rfl)
  have HO := Lib.hid (show okX e = if e.k = 1 then spokenB e.vk e.vn e.vt && decide (e = ⟨e.k, e.vk, e.vn, e.vt, [], [], 0, 0⟩)
    else if e.k = 2 then idB e.v && decide (e = ⟨e.k, 0, 0, [], e.v, [], 0, 0⟩)
    else if e.k = 3 ∨ e.k = 4 then (idB e.v && idB e.p) && decide (e = ⟨e.k, 0, 0, [], e.v, e.p, 0, 0⟩)
    else if e.k = 5 ∨ e.k = 6 ∨ e.k = 7 then decide (e = ⟨e.k, 0, 0, [], [], [], e.l, 0⟩)
    else twoB e.k && decide (e = ⟨e.k, 0, 0, [], [], [], e.l, e.r⟩) from rfl)
  obtain ⟨L, hL⟩ : ∃ L, sidesL e = L := ⟨_, rfl⟩
  obtain ⟨ok, hok⟩ : ∃ ok, okX e = ok := ⟨_, rfl⟩
  obtain ⟨R, hR⟩ : ∃ R, rightX m e = R := ⟨_, rfl⟩
  have HL := Lib.hid hL
  rw [hok] at HR HO
  rw [hL, hR] at HR
  rw [hR]
  have HB := Lib.hid hbX
  have HE := Lib.hid hE
  have HX := Lib.hid hX
  have HP := Lib.hid hp
  have HSp := Lib.hid (fun W (hb : Below X.heap.size X W) => spoken_any e.vk e.vn ⟨e.vt.toArray⟩ W (hw.below (hbX.trans (hb.mono hbX.size))) (by show e.vt.toArray.size ≤ _; simpa using he.1))
  have HI1 := Lib.hid (fun W (hb : Below X.heap.size X W) => isname_any ⟨e.v.toArray⟩ W (hw.below (hbX.trans (hb.mono hbX.size))) (by show e.v.toArray.size ≤ _; simpa using he.2.1))
  have HI2 := Lib.hid (fun W (hb : Below X.heap.size X W) => isname_any ⟨e.p.toArray⟩ W (hw.below (hbX.trans (hb.mono hbX.size))) (by show e.p.toArray.size ≤ _; simpa using he.2.2))
  have HT := Lib.hid (fun W => two_any e.k W)
  obtain ⟨z1, hz1⟩ : ∃ z, decide (e = (⟨e.k, e.vk, e.vn, e.vt, [], [], 0, 0⟩ : Ex.X)) = z := ⟨_, rfl⟩
  have HQ1 := Lib.hid (fun W (o : Oper) (ρ : Operand → Value) (x y : Operand) (t2 : TypeId) (ho : o.op = .binOp .eql 49 x y t2) (hx : ρ x = .agg (exC e)) (hy : ρ y = .agg (exC ⟨e.k, e.vk, e.vn, e.vt, [], [], 0, 0⟩)) => eql_op e ⟨e.k, e.vk, e.vn, e.vt, [], [], 0, 0⟩ W ho hx hy)
  rw [hz1] at HQ1 HO
  obtain ⟨z2, hz2⟩ : ∃ z, decide (e = (⟨e.k, 0, 0, [], e.v, [], 0, 0⟩ : Ex.X)) = z := ⟨_, rfl⟩
  have HQ2 := Lib.hid (fun W (o : Oper) (ρ : Operand → Value) (x y : Operand) (t2 : TypeId) (ho : o.op = .binOp .eql 49 x y t2) (hx : ρ x = .agg (exC e)) (hy : ρ y = .agg (exC ⟨e.k, 0, 0, [], e.v, [], 0, 0⟩)) => eql_op e ⟨e.k, 0, 0, [], e.v, [], 0, 0⟩ W ho hx hy)
  rw [hz2] at HQ2 HO
  obtain ⟨z3, hz3⟩ : ∃ z, decide (e = (⟨e.k, 0, 0, [], e.v, e.p, 0, 0⟩ : Ex.X)) = z := ⟨_, rfl⟩
  have HQ3 := Lib.hid (fun W (o : Oper) (ρ : Operand → Value) (x y : Operand) (t2 : TypeId) (ho : o.op = .binOp .eql 49 x y t2) (hx : ρ x = .agg (exC e)) (hy : ρ y = .agg (exC ⟨e.k, 0, 0, [], e.v, e.p, 0, 0⟩)) => eql_op e ⟨e.k, 0, 0, [], e.v, e.p, 0, 0⟩ W ho hx hy)
  rw [hz3] at HQ3 HO
  obtain ⟨z4, hz4⟩ : ∃ z, decide (e = (⟨e.k, 0, 0, [], [], [], e.l, 0⟩ : Ex.X)) = z := ⟨_, rfl⟩
  have HQ4 := Lib.hid (fun W (o : Oper) (ρ : Operand → Value) (x y : Operand) (t2 : TypeId) (ho : o.op = .binOp .eql 49 x y t2) (hx : ρ x = .agg (exC e)) (hy : ρ y = .agg (exC ⟨e.k, 0, 0, [], [], [], e.l, 0⟩)) => eql_op e ⟨e.k, 0, 0, [], [], [], e.l, 0⟩ W ho hx hy)
  rw [hz4] at HQ4 HO
  obtain ⟨z5, hz5⟩ : ∃ z, decide (e = (⟨e.k, 0, 0, [], [], [], e.l, e.r⟩ : Ex.X)) = z := ⟨_, rfl⟩
  have HQ5 := Lib.hid (fun W (o : Oper) (ρ : Operand → Value) (x y : Operand) (t2 : TypeId) (ho : o.op = .binOp .eql 49 x y t2) (hx : ρ x = .agg (exC e)) (hy : ρ y = .agg (exC ⟨e.k, 0, 0, [], [], [], e.l, e.r⟩)) => eql_op e ⟨e.k, 0, 0, [], [], [], e.l, e.r⟩ W ho hx hy)
  rw [hz5] at HQ5 HO
  obtain ⟨q1, hq1⟩ : ∃ q, spokenB e.vk e.vn e.vt = q := ⟨_, rfl⟩
  obtain ⟨q2, hq2⟩ : ∃ q, idB e.v = q := ⟨_, rfl⟩
  obtain ⟨q3, hq3⟩ : ∃ q, idB e.p = q := ⟨_, rfl⟩
  obtain ⟨q4, hq4⟩ : ∃ q, twoB e.k = q := ⟨_, rfl⟩
  rw [hq1, hq2, hq3, hq4] at HO
  rw [hq4] at HT
  rw [show (⟨e.vt.toArray⟩ : ByteArray).data.toList = e.vt from rfl, hq1] at HSp
  rw [show (⟨e.v.toArray⟩ : ByteArray).data.toList = e.v from rfl, hq2] at HI1
  rw [show (⟨e.p.toArray⟩ : ByteArray).data.toList = e.p from rfl, hq3] at HI2
  unfold exV at HSd ⊢
  unfold exC at HX HE HSd HQ1 HQ2 HQ3 HQ4 HQ5 ⊢
  dsimp only at HQ1 HQ2 HQ3 HQ4 HQ5
  clear hp hX hbX hE hw he hL hok hR hz1 hz2 hz3 hz4 hz5 hq1 hq2 hq3 hq4
  obtain ⟨k, vk, vn, vt, v, pp, l, r⟩ := e
  dsimp only at *
  obtain ⟨S1, hS1⟩ : ∃ S : ByteArray, (⟨vt.toArray⟩ : ByteArray) = S := ⟨_, rfl⟩
  obtain ⟨S2, hS2⟩ : ∃ S : ByteArray, (⟨v.toArray⟩ : ByteArray) = S := ⟨_, rfl⟩
  obtain ⟨S3, hS3⟩ : ∃ S : ByteArray, (⟨pp.toArray⟩ : ByteArray) = S := ⟨_, rfl⟩
  rw [hS1, hS2, hS3] at HX HE HSd HQ1 HQ2 HQ3 HQ4 HQ5
  rw [hS1, hS2, hS3]
  rw [hS1] at HSp
  rw [hS2] at HI1
  rw [hS3] at HI2
  clear hS1 hS2 hS3
  have HC := Lib.hid (fun W (hb : Below X.heap.size X W) => (show Blk W p 49 #[.int .i64 k, .int .i64 vk, .int .i64 vn, .string S1, .string S2, .string S3, .int .i64 l, .int .i64 r] from HE.out.below hb HE.out.lt))
  have c0 : X.cell? ⟨p, 0, none⟩ = some (.int .i64 k) := (Blk.cell HE.out 0).trans rfl
  have c1 : X.cell? ⟨p, 1, none⟩ = some (.int .i64 vk) := (Blk.cell HE.out 1).trans rfl
  have c2 : X.cell? ⟨p, 2, none⟩ = some (.int .i64 vn) := (Blk.cell HE.out 2).trans rfl
  have c3 : X.cell? ⟨p, 3, none⟩ = some (.string S1) := (Blk.cell HE.out 3).trans rfl
  have c4 : X.cell? ⟨p, 4, none⟩ = some (.string S2) := (Blk.cell HE.out 4).trans rfl
  have c5 : X.cell? ⟨p, 5, none⟩ = some (.string S3) := (Blk.cell HE.out 5).trans rfl
  have c6 : X.cell? ⟨p, 6, none⟩ = some (.int .i64 l) := (Blk.cell HE.out 6).trans rfl
  have c7 : X.cell? ⟨p, 7, none⟩ = some (.int .i64 r) := (Blk.cell HE.out 7).trans rfl
  go_enter Tryz.func30, Tryz.ntmps30
  go_upto_region 1 with fail
  rw [← HX.out, HP.out]
  go_wp2_with fail
  refine HSd.out.mono ?_
  rintro _ w1 ⟨v8, rfl, hsl, hb1, _⟩
  rw [HL.out] at hsl
  have HB1 := Lib.hid hb1
  obtain ⟨A, c, rfl, _, _⟩ := id hsl
  have HSl := Lib.hid hsl
  have HBw := Lib.hid (HB.out.trans (hb1.mono HB.out.size))
  obtain ⟨n, hn⟩ : ∃ n, L.length = n := ⟨_, rfl⟩
  have HN := Lib.hid hn
  have HN2 := Lib.hid (show n ≤ 2 by
    rw [← hn, ← HL.out]
    unfold sidesL
    split
    · exact Nat.le_succ _
    · split
      · exact Nat.le_refl _
      · exact Nat.zero_le _)
  rw [hn] at HSl ⊢
  clear hsl hb1 hn c0 c1 c2 c3 c4 c5 c6 c7 HSd HB
  have HFin := Lib.hid (fun (W : World) (hb : Below w1.heap.size w1 W) (z : Bool) (hz : z = R) => (show Gives w (.bool R) (.returned (.bool z)) W from ⟨by rw [hz], HBw.out.trans (hb.mono HBw.out.size)⟩))
  go_wp2_with fail
  go_loopw [10] (fun v10 wr => ∃ i : Nat, v10 = .int .i64 i ∧ i ≤ n ∧ wr = w1 ∧ (L.take i).all (sideOk m) = true) (fun v10 _ => n - (intOf v10).toNat)
  case atStart => exact ⟨0, rfl, Nat.zero_le _, rfl, rfl⟩
  case round =>
    obtain ⟨i, rfl, hi, rfl, hall⟩ := hrel
    have HAll := Lib.hid hall
    have HIn := Lib.hid hi
    clear hall
    by_cases hlt : i < n
    · have hlt2 : (i : Int) < n := by omega
      obtain ⟨z, hz⟩ : ∃ z, L[i]? = some z := ⟨_, List.getElem?_eq_getElem (by rw [HN.out]; exact hlt)⟩
      obtain ⟨g, o, hA, hg, hc⟩ := HSl.out.int_at hz
      have HAt := Lib.hid (at_Z A g o c n i hA hlt wr)
      have HZ := Lib.hid (show (L.take (i + 1)).all (sideOk m) = sideOk m z by
        rw [List.take_add_one, hz, List.all_append, HAll.out]
        simp)
      have HZ2 := Lib.hid (show sideOk m z = false → L.all (sideOk m) = false by
        intro h
        rw [List.all_eq_false]
        exact ⟨z, List.mem_of_getElem? hz, by rw [h]; decide⟩)
      have HSo := Lib.hid (show sideOk m z = (decide (0 ≤ z) && decide (z < m)) from rfl)
      clear hz hA hg hi
      by_cases h0 : z < 0
      · have hR : R = false := by rw [HR.out, HZ2.out (by rw [HSo.out, decide_eq_false (by omega)]; rfl)]; rfl
        have hF := Lib.hid (HFin.out wr (Below.refl _ _) false hR.symm)
        clear hR
        go_wp2_with (first
          | (refine wpList_val (o := ⟨some 12, _, _, _, _, _⟩) rfl (.pointer (some ⟨g, o + i, none⟩)) wr (run_indexAddr_op rfl rfl rfl HAt.out) ?_)
          | fail)
        go_ret
        exact hF.out
      · have h0' : ¬ z < 0 := h0
        by_cases hm : z < m
        · have hm' : ¬ (m : Int) ≤ z := by omega
          have hnn := HN2.out
          have HOk := Lib.hid (show sideOk m z = true by rw [HSo.out, decide_eq_true (by omega), decide_eq_true hm]; rfl)
          go_wp2_with (first
            | (refine wpList_val (o := ⟨some 12, _, _, _, _, _⟩) rfl (.pointer (some ⟨g, o + i, none⟩)) wr (run_indexAddr_op rfl rfl rfl HAt.out) ?_)
            | fail)
          go_roundw
          case rel =>
            refine ⟨i + 1, by go_num, by omega, ?_, HZ.out.trans HOk.out⟩
            first | trivial | rfl
          case measure =>
            simp [intOf] <;> omega
        · have hm' : (m : Int) ≤ z := by omega
          have hR : R = false := by rw [HR.out, HZ2.out (by rw [HSo.out, decide_eq_false hm]; simp)]; rfl
          have hF := Lib.hid (HFin.out wr (Below.refl _ _) false hR.symm)
          clear hR
          go_wp2_with (first
            | (refine wpList_val (o := ⟨some 12, _, _, _, _, _⟩) rfl (.pointer (some ⟨g, o + i, none⟩)) wr (run_indexAddr_op rfl rfl rfl HAt.out) ?_)
            | fail)
          go_ret
          exact hF.out
    · have hin : i = n := by omega
      subst hin
      have HRk := Lib.hid (show ok = R by rw [HR.out, show L.all (sideOk m) = true by rw [← HAll.out, ← HN.out, List.take_length]]; rfl)
      have c0 : wr.cell? ⟨p, 0, none⟩ = some (.int .i64 k) := (Blk.cell (HC.out wr HB1.out) 0).trans rfl
      have c1 : wr.cell? ⟨p, 1, none⟩ = some (.int .i64 vk) := (Blk.cell (HC.out wr HB1.out) 1).trans rfl
      have c2 : wr.cell? ⟨p, 2, none⟩ = some (.int .i64 vn) := (Blk.cell (HC.out wr HB1.out) 2).trans rfl
      have c3 : wr.cell? ⟨p, 3, none⟩ = some (.string S1) := (Blk.cell (HC.out wr HB1.out) 3).trans rfl
      have c4 : wr.cell? ⟨p, 4, none⟩ = some (.string S2) := (Blk.cell (HC.out wr HB1.out) 4).trans rfl
      have c5 : wr.cell? ⟨p, 5, none⟩ = some (.string S3) := (Blk.cell (HC.out wr HB1.out) 5).trans rfl
      have c6 : wr.cell? ⟨p, 6, none⟩ = some (.int .i64 l) := (Blk.cell (HC.out wr HB1.out) 6).trans rfl
      have c7 : wr.cell? ⟨p, 7, none⟩ = some (.int .i64 r) := (Blk.cell (HC.out wr HB1.out) 7).trans rfl
      clear hi hlt
      by_cases k1 : k = 1
      · have HOk := Lib.hid (show ok = (q1 && z1) by rw [HO.out, if_pos k1])
        subst k1
        go_wp2_with fail
        refine (HSp.out wr HB1.out).mono ?_
        rintro _ w2 ⟨rfl, hbx⟩
        have HBx := Lib.hid hbx
        clear hbx c0 c1 c2 c3 c4 c5 c6 c7
        have c0 : w2.cell? ⟨p, 0, none⟩ = some (.int .i64 _) := (Blk.cell (HC.out w2 (HB1.out.trans (HBx.out.mono HB1.out.size))) 0).trans rfl
        have c1 : w2.cell? ⟨p, 1, none⟩ = some (.int .i64 vk) := (Blk.cell (HC.out w2 (HB1.out.trans (HBx.out.mono HB1.out.size))) 1).trans rfl
        have c2 : w2.cell? ⟨p, 2, none⟩ = some (.int .i64 vn) := (Blk.cell (HC.out w2 (HB1.out.trans (HBx.out.mono HB1.out.size))) 2).trans rfl
        have c3 : w2.cell? ⟨p, 3, none⟩ = some (.string S1) := (Blk.cell (HC.out w2 (HB1.out.trans (HBx.out.mono HB1.out.size))) 3).trans rfl
        have c4 : w2.cell? ⟨p, 4, none⟩ = some (.string S2) := (Blk.cell (HC.out w2 (HB1.out.trans (HBx.out.mono HB1.out.size))) 4).trans rfl
        have c5 : w2.cell? ⟨p, 5, none⟩ = some (.string S3) := (Blk.cell (HC.out w2 (HB1.out.trans (HBx.out.mono HB1.out.size))) 5).trans rfl
        have c6 : w2.cell? ⟨p, 6, none⟩ = some (.int .i64 l) := (Blk.cell (HC.out w2 (HB1.out.trans (HBx.out.mono HB1.out.size))) 6).trans rfl
        have c7 : w2.cell? ⟨p, 7, none⟩ = some (.int .i64 r) := (Blk.cell (HC.out w2 (HB1.out.trans (HBx.out.mono HB1.out.size))) 7).trans rfl
        cases q1
        · have hF := Lib.hid (HFin.out w2 HBx.out false (by rw [← HRk.out, HOk.out]; rfl))
          go_wp2_with fail
          go_ret
          exact hF.out
        · have hF := Lib.hid (HFin.out w2 HBx.out z1 (by rw [← HRk.out, HOk.out]; rfl))
          go_wp2_with (first
            | (refine wpList_build (o := ⟨some 35, _, _, _, _, _⟩) (by rfl) _ _ rfl rfl ?_)
            | (refine wpList_val (o := ⟨some 36, _, _, _, _, _⟩) (by rfl) (.bool z1) w2 (HQ1.out w2 _ _ _ _ _ rfl rfl rfl) ?_)
            | fail)
          go_ret
          exact hF.out
      have k1' : (k == 1) = false := by rw [beq_eq_false_iff_ne]; exact k1
      by_cases k2 : k = 2
      · have HOk := Lib.hid (show ok = (q2 && z2) by rw [HO.out, if_neg k1, if_pos k2])
        clear k1 k1'
        subst k2
        go_wp2_with fail
        refine (HI1.out wr HB1.out).mono ?_
        rintro _ w2 ⟨rfl, hbx⟩
        have HBx := Lib.hid hbx
        clear hbx c0 c1 c2 c3 c4 c5 c6 c7
        have c0 : w2.cell? ⟨p, 0, none⟩ = some (.int .i64 _) := (Blk.cell (HC.out w2 (HB1.out.trans (HBx.out.mono HB1.out.size))) 0).trans rfl
        have c1 : w2.cell? ⟨p, 1, none⟩ = some (.int .i64 vk) := (Blk.cell (HC.out w2 (HB1.out.trans (HBx.out.mono HB1.out.size))) 1).trans rfl
        have c2 : w2.cell? ⟨p, 2, none⟩ = some (.int .i64 vn) := (Blk.cell (HC.out w2 (HB1.out.trans (HBx.out.mono HB1.out.size))) 2).trans rfl
        have c3 : w2.cell? ⟨p, 3, none⟩ = some (.string S1) := (Blk.cell (HC.out w2 (HB1.out.trans (HBx.out.mono HB1.out.size))) 3).trans rfl
        have c4 : w2.cell? ⟨p, 4, none⟩ = some (.string S2) := (Blk.cell (HC.out w2 (HB1.out.trans (HBx.out.mono HB1.out.size))) 4).trans rfl
        have c5 : w2.cell? ⟨p, 5, none⟩ = some (.string S3) := (Blk.cell (HC.out w2 (HB1.out.trans (HBx.out.mono HB1.out.size))) 5).trans rfl
        have c6 : w2.cell? ⟨p, 6, none⟩ = some (.int .i64 l) := (Blk.cell (HC.out w2 (HB1.out.trans (HBx.out.mono HB1.out.size))) 6).trans rfl
        have c7 : w2.cell? ⟨p, 7, none⟩ = some (.int .i64 r) := (Blk.cell (HC.out w2 (HB1.out.trans (HBx.out.mono HB1.out.size))) 7).trans rfl
        cases q2
        · have hF := Lib.hid (HFin.out w2 HBx.out false (by rw [← HRk.out, HOk.out]; rfl))
          go_wp2_with fail
          go_ret
          exact hF.out
        · have hF := Lib.hid (HFin.out w2 HBx.out z2 (by rw [← HRk.out, HOk.out]; rfl))
          go_wp2_with (first
            | (refine wpList_build (o := ⟨some 49, _, _, _, _, _⟩) (by rfl) _ _ rfl rfl ?_)
            | (refine wpList_val (o := ⟨some 50, _, _, _, _, _⟩) (by rfl) (.bool z2) w2 (HQ2.out w2 _ _ _ _ _ rfl rfl rfl) ?_)
            | fail)
          go_ret
          exact hF.out
      have k2' : (k == 2) = false := by rw [beq_eq_false_iff_ne]; exact k2
      by_cases k34 : k = 3 ∨ k = 4
      · have HOk := Lib.hid (show ok = ((q2 && q3) && z3) by rw [HO.out, if_neg k1, if_neg k2, if_pos k34])
        clear k1 k2 k1' k2'
        rcases k34 with rfl | rfl
        all_goals
          go_wp2_with fail
          refine (HI1.out wr HB1.out).mono ?_
          rintro _ w2 ⟨rfl, hbx⟩
          have HBx := Lib.hid hbx
          clear hbx c0 c1 c2 c3 c4 c5 c6 c7
          have c0 : w2.cell? ⟨p, 0, none⟩ = some (.int .i64 _) := (Blk.cell (HC.out w2 (HB1.out.trans (HBx.out.mono HB1.out.size))) 0).trans rfl
          have c1 : w2.cell? ⟨p, 1, none⟩ = some (.int .i64 vk) := (Blk.cell (HC.out w2 (HB1.out.trans (HBx.out.mono HB1.out.size))) 1).trans rfl
          have c2 : w2.cell? ⟨p, 2, none⟩ = some (.int .i64 vn) := (Blk.cell (HC.out w2 (HB1.out.trans (HBx.out.mono HB1.out.size))) 2).trans rfl
          have c3 : w2.cell? ⟨p, 3, none⟩ = some (.string S1) := (Blk.cell (HC.out w2 (HB1.out.trans (HBx.out.mono HB1.out.size))) 3).trans rfl
          have c4 : w2.cell? ⟨p, 4, none⟩ = some (.string S2) := (Blk.cell (HC.out w2 (HB1.out.trans (HBx.out.mono HB1.out.size))) 4).trans rfl
          have c5 : w2.cell? ⟨p, 5, none⟩ = some (.string S3) := (Blk.cell (HC.out w2 (HB1.out.trans (HBx.out.mono HB1.out.size))) 5).trans rfl
          have c6 : w2.cell? ⟨p, 6, none⟩ = some (.int .i64 l) := (Blk.cell (HC.out w2 (HB1.out.trans (HBx.out.mono HB1.out.size))) 6).trans rfl
          have c7 : w2.cell? ⟨p, 7, none⟩ = some (.int .i64 r) := (Blk.cell (HC.out w2 (HB1.out.trans (HBx.out.mono HB1.out.size))) 7).trans rfl
          cases q2
          case false =>
            have hF := Lib.hid (HFin.out w2 HBx.out false (by rw [← HRk.out, HOk.out]; rfl))
            go_wp2_with fail
            go_ret
            exact hF.out
          case true =>
            go_wp2_with fail
            refine (HI2.out w2 (HB1.out.trans (HBx.out.mono HB1.out.size))).mono ?_
            rintro _ w3 ⟨rfl, hbx⟩
            have HBx2 := Lib.hid (HBx.out.trans (hbx.mono HBx.out.size))
            clear hbx c0 c1 c2 c3 c4 c5 c6 c7 HBx
            have HBx := Lib.hid HBx2.out
            have c0 : w3.cell? ⟨p, 0, none⟩ = some (.int .i64 _) := (Blk.cell (HC.out w3 (HB1.out.trans (HBx.out.mono HB1.out.size))) 0).trans rfl
            have c1 : w3.cell? ⟨p, 1, none⟩ = some (.int .i64 vk) := (Blk.cell (HC.out w3 (HB1.out.trans (HBx.out.mono HB1.out.size))) 1).trans rfl
            have c2 : w3.cell? ⟨p, 2, none⟩ = some (.int .i64 vn) := (Blk.cell (HC.out w3 (HB1.out.trans (HBx.out.mono HB1.out.size))) 2).trans rfl
            have c3 : w3.cell? ⟨p, 3, none⟩ = some (.string S1) := (Blk.cell (HC.out w3 (HB1.out.trans (HBx.out.mono HB1.out.size))) 3).trans rfl
            have c4 : w3.cell? ⟨p, 4, none⟩ = some (.string S2) := (Blk.cell (HC.out w3 (HB1.out.trans (HBx.out.mono HB1.out.size))) 4).trans rfl
            have c5 : w3.cell? ⟨p, 5, none⟩ = some (.string S3) := (Blk.cell (HC.out w3 (HB1.out.trans (HBx.out.mono HB1.out.size))) 5).trans rfl
            have c6 : w3.cell? ⟨p, 6, none⟩ = some (.int .i64 l) := (Blk.cell (HC.out w3 (HB1.out.trans (HBx.out.mono HB1.out.size))) 6).trans rfl
            have c7 : w3.cell? ⟨p, 7, none⟩ = some (.int .i64 r) := (Blk.cell (HC.out w3 (HB1.out.trans (HBx.out.mono HB1.out.size))) 7).trans rfl
            cases q3
            · have hF := Lib.hid (HFin.out w3 HBx.out false (by rw [← HRk.out, HOk.out]; rfl))
              go_wp2_with fail
              go_ret
              exact hF.out
            · have hF := Lib.hid (HFin.out w3 HBx.out z3 (by rw [← HRk.out, HOk.out]; rfl))
              go_wp2_with (first
                | (refine wpList_build (o := ⟨some 71, _, _, _, _, _⟩) (by rfl) _ _ rfl rfl ?_)
                | (refine wpList_val (o := ⟨some 72, _, _, _, _, _⟩) (by rfl) (.bool z3) w3 (HQ3.out w3 _ _ _ _ _ rfl rfl rfl) ?_)
                | fail)
              go_ret
              exact hF.out
      have k3' : (k == 3) = false := by rw [beq_eq_false_iff_ne]; exact fun h => k34 (.inl h)
      have k4' : (k == 4) = false := by rw [beq_eq_false_iff_ne]; exact fun h => k34 (.inr h)
      by_cases k567 : k = 5 ∨ k = 6 ∨ k = 7
      · have HOk := Lib.hid (show ok = z4 by rw [HO.out, if_neg k1, if_neg k2, if_neg k34, if_pos k567])
        have hF := Lib.hid (HFin.out wr (Below.refl _ _) z4 (by rw [← HRk.out, HOk.out]))
        clear k34 k1 k2 k1' k2' k3' k4'
        rcases k567 with rfl | rfl | rfl
        all_goals
          go_wp2_with (first
            | (refine wpList_build (o := ⟨some 83, _, _, _, _, _⟩) (by rfl) _ _ rfl rfl ?_)
            | (refine wpList_val (o := ⟨some 84, _, _, _, _, _⟩) (by rfl) (.bool z4) wr (HQ4.out wr _ _ _ _ _ rfl rfl rfl) ?_)
            | fail)
          go_ret
          exact hF.out
      have k5' : (k == 5) = false := by rw [beq_eq_false_iff_ne]; exact fun h => k567 (.inl h)
      have k6' : (k == 6) = false := by rw [beq_eq_false_iff_ne]; exact fun h => k567 (.inr (.inl h))
      have k7' : (k == 7) = false := by rw [beq_eq_false_iff_ne]; exact fun h => k567 (.inr (.inr h))
      have HOk := Lib.hid (show ok = (q4 && z5) by rw [HO.out, if_neg k1, if_neg k2, if_neg k34, if_neg k567])
      clear k34 k1 k2 k567
      go_wp2_with fail
      refine (HT.out wr).mono ?_
      rintro _ w2 ⟨rfl, rfl⟩
      cases q4
      · have hF := Lib.hid (HFin.out _ (Below.refl _ _) false (by rw [← HRk.out, HOk.out]; rfl))
        go_wp2_with fail
        go_ret
        exact hF.out
      · have hF := Lib.hid (HFin.out _ (Below.refl _ _) z5 (by rw [← HRk.out, HOk.out]; rfl))
        go_wp2_with (first
          | (refine wpList_build (o := ⟨some 96, _, _, _, _, _⟩) (by rfl) _ _ rfl rfl ?_)
          | (refine wpList_val (o := ⟨some 97, _, _, _, _, _⟩) (by rfl) (.bool z5) _ (HQ5.out _ _ _ _ _ _ rfl rfl rfl) ?_)
          | fail)
        go_ret
        exact hF.out

end Go.Proofs.YtdabanocofimmaaGreatDoor
