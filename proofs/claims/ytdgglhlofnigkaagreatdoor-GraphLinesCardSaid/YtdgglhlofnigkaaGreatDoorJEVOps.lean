/-
  The operations of the vector laws' regions that draw their order, one by one. vector.Knows, Next, Below, Order. vector.Below, Right, Order. NAMES AND PLAIN TEXTS. Conditions: lengths.
-/import Derived.Test.YtdgglhlofnigkaaGreatDoorJWords
import Derived.Test.YtdgglhlofnigkaaGreatDoorOrder
import Derived.Deep.DeepCutAuto
import Derived.IntWalk
import Derived.Deep.MidRow
import Derived.WalkKit
namespace Go.Proofs.YtdgglhlofnigkaaGreatDoor
open Go.RowKit
section
variable {P : Program}
theorem run_load_op {o : Oper} {ρ : Operand → Value} {w : World} {ty : TypeId} {x : Operand} {g : Nat} {t : TypeId} {cs : Array Value} {d : TypeDesc} (ho : o.op = .load ty x) (hx : ρ x = .pointer (some ⟨g, 0, none⟩)) (hb : Blk w g t cs)
  (hu : P.underlying ty = some d) (hd : (match d with | .struct _ | .array _ _ => true | _ => false) = true) (hi : (P.info? ty).map (·.size) = some cs.size) : (execOp ρ o).run P w = .ok (.value (.agg cs)) w := by
 unfold execOp
 simp only [ho, hx, Instr.loadAt, Instr.sureAddr, Sem.run_bind, Sem.run_pure, Result.andThen_ok, run_loadVar_row w g t ty cs (0, 0) d hb hu hd hi]
theorem run_not_op {o : Oper} {ρ : Operand → Value} {w : World} {t : TypeId} {x : Operand} {b : Bool} (ho : o.op = .unOp .not t x) (hx : ρ x = .bool b) : (execOp ρ o).run P w = .ok (.value (.bool !b)) w := by
 unfold execOp
 simp [ho, hx, go_sem]
theorem run_assign_op {o : Oper} {ρ : Operand → Value} {w : World} {x : Operand} {v : Value} (ho : o.op = .assign x) (hx : ρ x = v) : (execOp ρ o).run P w = .ok (.value v) w := by
 unfold execOp
 simp [ho, hx]
theorem run_loadint_op {o : Oper} {ρ : Operand → Value} {w : World} {ty : TypeId} {x : Operand} {ad : Addr} {n : Int} (ho : o.op = .load ty x) (hx : ρ x = .pointer (some ad)) (hu : P.underlying ty = some (.int .i64)) (hc : w.cell? ad = some (.int .i64 n)) :
  (execOp ρ o).run P w = .ok (.value (.int .i64 n)) w := by
 unfold execOp
 have ha : (isAgg ty).run P w = .ok false w := by unfold isAgg; rw [Sem.run_bind, run_underlying hu w]; simp
 simp [ho, hx, Instr.loadAt, Instr.sureAddr, loadVar, ha, hc, go_sem]
theorem run_fieldAddr_op {o : Oper} {ρ : Operand → Value} {w : World} {ty : TypeId} {x : Operand} {g q k : Nat} {v : Value} (ho : o.op = .fieldAddr ty x k) (hx : ρ x = .pointer (some ⟨g, q, none⟩))
  (hr : (Instr.fieldAt ty (.pointer (some ⟨g, q, none⟩)) k).run P w = .ok v w) : (execOp ρ o).run P w = .ok (.value v) w := by
 unfold execOp
 simp [ho, hx, hr]
theorem run_indexAddr_op {o : Oper} {ρ : Operand → Value} {w : World} {ty : TypeId} {x y : Operand} {vx vy v : Value} (ho : o.op = .indexAddr ty x y) (hx : ρ x = vx) (hy : ρ y = vy)
  (hr : (Instr.indexAt ty vx vy).run P w = .ok v w) : (execOp ρ o).run P w = .ok (.value v) w := by
 unfold execOp
 simp [ho, hx, hy, hr]
variable {ops : Array Oper} {Q : Exit → Act → World → Prop}
theorem guard_no {o : Oper} {a : Act} {k : Nat} {want : Bool} {oj : Oper} {d : Tmp} (hg : o.guard = some (k, want)) (hj : ops[k]? = some oj) (hd : oj.dst = some d) (hv : a.eval (.tmp d) = .bool (!want) ∨ a.eval (.tmp d) = undef) : Region.wanted o (yielded ops a.tmps) = false := by
 simp only [Region.wanted, hg, yielded, hj, Option.bind_some, hd]
 simp only [Act.eval, Array.getD_eq_getD_getElem?] at hv
 cases ht : a.tmps[d]? with
 | none => cases want <;> simp
 | some u =>
  rw [ht] at hv
  simp only [Option.getD_some] at hv
  rcases hv with rfl | rfl <;> cases want <;> simp [undef]
theorem b_skip {i : Nat} {o : Oper} {a : Act} {w w1 : World} {p : Nat → Value → World → Prop} (hi : ops[i]? = some o) (hI : Below w1.heap.size w1 w) (hw : Region.wanted o (yielded ops a.tmps) = false) (hp : p i undef w) : wpOp P ops Q i (Step1 w1 p i a o w) a w := by
 unfold wpOp
 simp only [hi, hw, Bool.false_eq_true, if_false]
 exact ⟨⟨undef, rfl, hp⟩, Below.refl _ _, hI⟩
end
section
variable {P : Program}
theorem run_loadmid_op {o : Oper} {ρ : Operand → Value} {w : World} {ty : TypeId} {x : Operand} {g k : Nat} {cs : List Value} {d : TypeDesc} (ho : o.op = .load ty x) (hx : ρ x = .pointer (some ⟨g, k, none⟩)) (hb : w.rangeAt g k cs)
  (hu : P.underlying ty = some d) (hd : d.isRow = true) (hi : (P.info? ty).map (·.size) = some cs.length) : (execOp ρ o).run P w = .ok (.value (.agg cs.toArray)) w := by
 unfold execOp
 simp only [ho, hx, Instr.loadAt, Instr.sureAddr, Sem.run_bind, Sem.run_pure, Result.andThen_ok, run_loadVar_mid w g k ty cs d hb hu hd hi]
theorem wpList_load_if {ops : Array Oper} {rest : List Oper} {o : Oper} {a : Act} {w : World} {Q : Exit → Act → World → Prop} (hw : Region.wanted o (yielded ops a.tmps) = true) (ty : TypeId) (x : Operand) (ho : o.op = .load ty x)
  (g : Nat) (hx : a.eval x = .pointer (some ⟨g, 0, none⟩)) (t : TypeId) (cs : Array Value) (fr : Nat × Nat) (d : TypeDesc) (hg : w.heap[g]? = some (.cells cs t fr))
  (hu : P.underlying ty = some d) (hd : (match d with | .struct _ | .array _ _ => true | _ => false) = true) (hi : (P.info? ty).map (·.size) = some cs.size)
  (h : wpList P ops Q rest (a.put o.dst (.agg cs)) w) : wpList P ops Q (o :: rest) a w :=
 wpList_step fun K hK => by
  rw [if_pos hw]
  exact wp_load_row ty x ho g hx t cs fr d hg hu hd hi (hK _ _ h)
theorem wpList_load_midif {ops : Array Oper} {rest : List Oper} {o : Oper} {a : Act} {w : World} {Q : Exit → Act → World → Prop} (hw : Region.wanted o (yielded ops a.tmps) = true) (ty : TypeId) (x : Operand) (ho : o.op = .load ty x)
  (b q : Nat) (hx : a.eval x = .pointer (some ⟨b, q, none⟩)) (cs : List Value) (d : TypeDesc) (hc : w.rangeAt b q cs)
  (hu : P.underlying ty = some d) (hd : d.isRow = true) (hi : (P.info? ty).map (·.size) = some cs.length)
  (h : wpList P ops Q rest (a.put o.dst (.agg cs.toArray)) w) : wpList P ops Q (o :: rest) a w :=
 wpList_step fun K hK => by
  rw [if_pos hw]
  exact wp_load_mid ty x ho b q hx cs d hc hu hd hi (hK _ _ h)
theorem run_len_op {o : Oper} {ρ : Operand → Value} {w : World} {x : Operand} {t e : TypeId} {A : Option Addr} {n c : Nat} (hu : P.underlying t = some (.slice e)) (ho : o.op = .call { callee := .builtin .len, args := #[x], argTypes := #[t] }) (hx : ρ x = .slice A n c) : (execOp ρ o).run P w = .ok (.value (.int .i64 n)) w := by
 unfold execOp
 simp [ho, hx, resolve, invoke, builtin, Builtin.len_, run_underlying hu, go_sem]
end
theorem field0 (g : Nat) (w : World) : (Instr.fieldAt 58 (.pointer (some ⟨g, 0, none⟩)) 0).run Tryz.prog w = .ok (.pointer (some ⟨g, 0, none⟩)) w := by go_simp
theorem field1 (g : Nat) (w : World) : (Instr.fieldAt 58 (.pointer (some ⟨g, 0, none⟩)) 1).run Tryz.prog w = .ok (.pointer (some ⟨g, 1, none⟩)) w := by go_simp
theorem indexV (g n : Nat) (h : n < 16) (w : World) : (Instr.indexAt 26 (.pointer (some ⟨g, 0, none⟩)) (.int .i64 n)).run Tryz.prog w = .ok (.pointer (some ⟨g, n, none⟩)) w := by
 have h2 : (n : Int) < 16 := by omega
 go_simp
open Lib (hid)
def nextB (f : Nat → Int) (r c : Int) : Bool := dotB r c && (f r.toNat == c - 1)
theorem dot_is (r c : Int) (b : Bool) (h : dotB r c = b) (w : World) : Calls Tryz.prog 90 #[dv r c] w fun e w' => e = .returned (.bool b) ∧ Below w.heap.size w w' := by
 have := dot_any r c w
 rwa [h] at this
set_option maxRecDepth 100000 in
set_option maxHeartbeats 1000000 in
theorem next_any (f : Nat → Int) (r c : Int) (w : World) : Calls Tryz.prog 65 #[.agg (vA f), dv r c] w fun e w' => e = .returned (.bool (nextB f r c)) ∧ Below w.heap.size w w' := by
 obtain ⟨X, hX⟩ : ∃ X, X = (w.alloc (.cells (vA f) 26)).alloc (.cells #[.int .i64 r, .int .i64 c] 58) := ⟨_, rfl⟩
 have hv : VB X w.heap.size f := by rw [hX]; exact (VB.new_ f rfl).alloc_ _
 have hd : Blk X (w.heap.size + 1) 58 #[.int .i64 r, .int .i64 c] := by
  rw [hX]
  have := Blk.new (w.alloc (.cells (vA f) 26)) 58 #[.int .i64 r, .int .i64 c]
  simpa using this
 have hb : Below w.heap.size w X := by rw [hX]; exact ((Below.refl _ _).alloc (Nat.le_refl _) _).alloc (by simp) _
 have HX := hid hX
 have HV := hid hv
 have HD := hid hd
 have HB := hid hb
 clear hX hv hd hb
 unfold dv
 cases hdot : dotB r c
 ·have HDot := hid hdot
  clear hdot
  go_enter Tryz.func65, Tryz.ntmps65
  go_upto_region 1 with fail
  rw [← HX.out]
  refine wp_region_any (by kernel_rfl) ?_
  refine wpAny_below (fun i v _ => v = ([dv r c, .bool false, .bool false, undef, undef, undef, undef, undef, undef, undef, undef, .bool false, .bool false] : List Value).getD i undef) _ X (by kernel_rfl) (by kernel_rfl) (by kernel_rfl) (fun i v w w' _ h => h) ?_ ?_
  ·refine ⟨?_, ?_, ?_, ?_, ?_, ?_, ?_, ?_, ?_, ?_, ?_, ?_, ?_, trivial⟩
   ·intro a W hI hun haft hi
    have e3 := hun 3 (by kernel_rfl)
    exact b_same hi hI rfl _ (run_load_op rfl e3 (Blk.below HD.out hI (Blk.lt HD.out)) Tryz.underlying58 rfl (by kernel_rfl)) rfl
   ·intro a W hI hun haft hi
    have f0 : a.eval (.tmp 5) = dv r c := haft ⟨0, .data⟩ (by simp) rfl _ _ rfl rfl
    refine b_call hi hI rfl _ _ (run_call_op (args := #[dv r c]) rfl (by simp [f0]) (by kernel_rfl)) ?_
    exact (dot_is r c _ HDot.out W).mono fun e w' H => ⟨_, H.1, rfl, H.2⟩
   ·intro a W hI hun haft hi
    have f1 := haft ⟨1, .data⟩ (by simp) rfl _ _ rfl rfl
    exact b_same hi hI rfl _ (run_move_op rfl f1) rfl
   ·intro a W hI hun haft hi
    have fg : a.eval (.tmp 7) = .bool false := haft ⟨2, .guard⟩ (by simp) rfl _ _ rfl rfl
    exact b_skip hi hI (guard_no rfl rfl rfl (.inl fg)) rfl
   ·intro a W hI hun haft hi
    have fg : a.eval (.tmp 7) = .bool false := haft ⟨2, .guard⟩ (by simp) rfl _ _ rfl rfl
    exact b_skip hi hI (guard_no rfl rfl rfl (.inl fg)) rfl
   ·intro a W hI hun haft hi
    have fg : a.eval (.tmp 7) = .bool false := haft ⟨2, .guard⟩ (by simp) rfl _ _ rfl rfl
    exact b_skip hi hI (guard_no rfl rfl rfl (.inl fg)) rfl
   ·intro a W hI hun haft hi
    have fg : a.eval (.tmp 7) = .bool false := haft ⟨2, .guard⟩ (by simp) rfl _ _ rfl rfl
    exact b_skip hi hI (guard_no rfl rfl rfl (.inl fg)) rfl
   ·intro a W hI hun haft hi
    have fg : a.eval (.tmp 7) = .bool false := haft ⟨2, .guard⟩ (by simp) rfl _ _ rfl rfl
    exact b_skip hi hI (guard_no rfl rfl rfl (.inl fg)) rfl
   ·intro a W hI hun haft hi
    have fg : a.eval (.tmp 7) = .bool false := haft ⟨2, .guard⟩ (by simp) rfl _ _ rfl rfl
    exact b_skip hi hI (guard_no rfl rfl rfl (.inl fg)) rfl
   ·intro a W hI hun haft hi
    have fg : a.eval (.tmp 7) = .bool false := haft ⟨2, .guard⟩ (by simp) rfl _ _ rfl rfl
    exact b_skip hi hI (guard_no rfl rfl rfl (.inl fg)) rfl
   ·intro a W hI hun haft hi
    have fg : a.eval (.tmp 7) = .bool false := haft ⟨2, .guard⟩ (by simp) rfl _ _ rfl rfl
    exact b_skip hi hI (guard_no rfl rfl rfl (.inl fg)) rfl
   ·intro a W hI hun haft hi
    have f2 := haft ⟨2, .data⟩ (by simp) rfl _ _ rfl rfl
    have f10 := haft ⟨10, .data⟩ (by simp) rfl _ _ rfl rfl
    exact b_same hi hI rfl _ (run_pick_op (b := false) rfl f2 f10 rfl) rfl
   ·intro a W hI hun haft hi
    have f11 := haft ⟨11, .data⟩ (by simp) rfl _ _ rfl rfl
    exact b_same hi hI rfl _ (run_assign_op rfl f11) rfl
  ·intro vals W hI hp
   have hl12 : vals 12 = .bool false := hp 12 (by decide)
   have HI := hid hI
   clear hp hI
   simp only [layN, layS, List.range, List.range.loop, if_true, Act.put, Nat.zero_add, Nat.reduceAdd, hl12]
   clear hl12
   go_wp2
   go_ret
   exact ⟨by unfold nextB; rw [HDot.out]; rfl, HB.out.trans (HI.out.mono HB.out.size)⟩
 ·have HDot := hid hdot
  obtain ⟨n, hr, hn, h1, h2⟩ := (dotB_iff r c).1 hdot
  clear hdot
  subst hr
  have hc : (f n == c - 1) = nextB f n c := by unfold nextB; rw [HDot.out]; simp
  go_enter Tryz.func65, Tryz.ntmps65
  go_upto_region 1 with fail
  rw [← HX.out]
  refine wp_region_any (by kernel_rfl) ?_
  refine wpAny_below (fun i v _ => v = ([dv n c, .bool true, .bool true, .pointer (some ⟨w.heap.size + 1, 0, none⟩), .int .i64 n, .pointer (some ⟨w.heap.size, n, none⟩), .int .i64 (f n), .pointer (some ⟨w.heap.size + 1, 1, none⟩), .int .i64 c, .int .i64 (c - 1), .bool (f n == c - 1), .bool (f n == c - 1), .bool (f n == c - 1)] : List Value).getD i undef) _ X (by kernel_rfl) (by kernel_rfl) (by kernel_rfl) (fun i v w w' _ h => h) ?_ ?_
  ·refine ⟨?_, ?_, ?_, ?_, ?_, ?_, ?_, ?_, ?_, ?_, ?_, ?_, ?_, trivial⟩
   ·intro a W hI hun haft hi
    have e3 := hun 3 (by kernel_rfl)
    exact b_same hi hI rfl _ (run_load_op rfl e3 (Blk.below HD.out hI (Blk.lt HD.out)) Tryz.underlying58 rfl (by kernel_rfl)) rfl
   ·intro a W hI hun haft hi
    have f0 : a.eval (.tmp 5) = dv n c := haft ⟨0, .data⟩ (by simp) rfl _ _ rfl rfl
    refine b_call hi hI rfl _ _ (run_call_op (args := #[dv n c]) rfl (by simp [f0]) (by kernel_rfl)) ?_
    exact (dot_is n c _ HDot.out W).mono fun e w' H => ⟨_, H.1, rfl, H.2⟩
   ·intro a W hI hun haft hi
    have f1 := haft ⟨1, .data⟩ (by simp) rfl _ _ rfl rfl
    exact b_same hi hI rfl _ (run_move_op rfl f1) rfl
   ·intro a W hI hun haft hi
    have fg := haft ⟨2, .guard⟩ (by simp) rfl _ _ rfl rfl
    have e3 := hun 3 (by kernel_rfl)
    exact b_same hi hI (guard_ok rfl rfl rfl fg) _ (run_fieldAddr_op rfl e3 (field0 _ _)) rfl
   ·intro a W hI hun haft hi
    have fg : a.eval (.tmp 7) = .bool true := haft ⟨2, .guard⟩ (by simp) rfl _ _ rfl rfl
    have f3 : a.eval (.tmp 8) = .pointer (some ⟨w.heap.size + 1, 0, none⟩) := haft ⟨3, .data⟩ (by simp) rfl _ _ rfl rfl
    exact b_same hi hI (guard_ok rfl rfl rfl fg) _ (run_loadint_op rfl f3 Tryz.underlying3 ((Blk.cell (Blk.below HD.out hI (Blk.lt HD.out)) 0).trans rfl)) rfl
   ·intro a W hI hun haft hi
    have fg := haft ⟨2, .guard⟩ (by simp) rfl _ _ rfl rfl
    have e2 := hun 2 (by kernel_rfl)
    have f4 := haft ⟨4, .data⟩ (by simp) rfl _ _ rfl rfl
    exact b_same hi hI (guard_ok rfl rfl rfl fg) _ (run_indexAddr_op rfl e2 f4 (indexV _ n hn _)) rfl
   ·intro a W hI hun haft hi
    have fg := haft ⟨2, .guard⟩ (by simp) rfl _ _ rfl rfl
    have f5 := haft ⟨5, .data⟩ (by simp) rfl _ _ rfl rfl
    exact b_same hi hI (guard_ok rfl rfl rfl fg) _ (run_loadint_op rfl f5 Tryz.underlying3 (VB.cell_ (Blk.below HV.out hI (Blk.lt HV.out)) n hn)) rfl
   ·intro a W hI hun haft hi
    have fg := haft ⟨2, .guard⟩ (by simp) rfl _ _ rfl rfl
    have e3 := hun 3 (by kernel_rfl)
    exact b_same hi hI (guard_ok rfl rfl rfl fg) _ (run_fieldAddr_op rfl e3 (field1 _ _)) rfl
   ·intro a W hI hun haft hi
    have fg : a.eval (.tmp 7) = .bool true := haft ⟨2, .guard⟩ (by simp) rfl _ _ rfl rfl
    have f7 : a.eval (.tmp 12) = .pointer (some ⟨w.heap.size + 1, 1, none⟩) := haft ⟨7, .data⟩ (by simp) rfl _ _ rfl rfl
    exact b_same hi hI (guard_ok rfl rfl rfl fg) _ (run_loadint_op rfl f7 Tryz.underlying3 ((Blk.cell (Blk.below HD.out hI (Blk.lt HD.out)) 1).trans rfl)) rfl
   ·intro a W hI hun haft hi
    have fg : a.eval (.tmp 7) = .bool true := haft ⟨2, .guard⟩ (by simp) rfl _ _ rfl rfl
    have f8 : a.eval (.tmp 13) = .int .i64 c := haft ⟨8, .data⟩ (by simp) rfl _ _ rfl rfl
    exact b_same hi hI (guard_ok rfl rfl rfl fg) (.int .i64 (c - 1)) (run_bin_op rfl f8 rfl (by go_simp) (by have hw := IntWalk.i64_in (c - 1) (by omega); go_simp)) rfl
   ·intro a W hI hun haft hi
    have fg : a.eval (.tmp 7) = .bool true := haft ⟨2, .guard⟩ (by simp) rfl _ _ rfl rfl
    have f6 : a.eval (.tmp 11) = .int .i64 (f n) := haft ⟨6, .data⟩ (by simp) rfl _ _ rfl rfl
    have f9 : a.eval (.tmp 14) = .int .i64 (c - 1) := haft ⟨9, .data⟩ (by simp) rfl _ _ rfl rfl
    exact b_same hi hI (guard_ok rfl rfl rfl fg) (.bool (f n == c - 1)) (run_bin_op rfl f6 f9 (by go_simp) (by go_simp)) rfl
   ·intro a W hI hun haft hi
    have f2 := haft ⟨2, .data⟩ (by simp) rfl _ _ rfl rfl
    have f10 := haft ⟨10, .data⟩ (by simp) rfl _ _ rfl rfl
    exact b_same hi hI rfl _ (run_pick_op (b := true) rfl f2 f10 rfl) rfl
   ·intro a W hI hun haft hi
    have f11 := haft ⟨11, .data⟩ (by simp) rfl _ _ rfl rfl
    exact b_same hi hI rfl _ (run_assign_op rfl f11) rfl
  ·intro vals W hI hp
   have hl12 : vals 12 = .bool (f n == c - 1) := hp 12 (by decide)
   have HI := hid hI
   clear hp hI
   simp only [layN, layS, List.range, List.range.loop, if_true, Act.put, Nat.zero_add, Nat.reduceAdd, hl12]
   clear hl12
   go_wp2
   go_ret
   exact ⟨ret_bool hc, HB.out.trans (HI.out.mono HB.out.size)⟩
theorem guardV (x y : Operand) (a b : Array Value) (w : World) : (eqGuard .eql 26 x y (.agg a) (.agg b)).run Tryz.prog w = .ok () w := run_eqGuard_agg _ _ _ _ _ _ _ (by kernel_rfl)
def rightV (f : Nat → Int) : Bool := eqV f (clampV f)
set_option maxRecDepth 100000 in
set_option maxHeartbeats 1000000 in
theorem vright_any (f : Nat → Int) (w : World) : Calls Tryz.prog 66 #[.agg (vA f)] w fun e w' => e = .returned (.bool (rightV f)) ∧ Below w.heap.size w w' := by
 obtain ⟨X, hX⟩ : ∃ X, X = w.alloc (.cells (vA f) 26) := ⟨_, rfl⟩
 have hv1 : VB X w.heap.size f := by rw [hX]; exact VB.new_ f rfl
 have hb : Below w.heap.size w X := by rw [hX]; exact (Below.refl _ _).alloc (Nat.le_refl _) _
 have HX := hid hX
 have H1 := hid hv1
 have HB := hid hb
 clear hX hv1 hb
 go_enter Tryz.func66, Tryz.ntmps66
 go_upto_region 1 with fail
 rw [← HX.out]
 refine wp_region_any (by kernel_rfl) ?_
 refine wpAny_below (fun i v _ => v = ([.agg (vA f), .agg (vA f), .agg (vA (clampV f)), .bool (rightV f), .bool (rightV f)] : List Value).getD i undef) _ X (by kernel_rfl) (by kernel_rfl) (by kernel_rfl) (fun i v w w' _ h => h) ?_ ?_
 ·refine ⟨?_, ?_, ?_, ?_, ?_, trivial⟩
  ·intro a W hI hun haft hi
   have e1 := hun 1 (by kernel_rfl)
   exact b_same hi hI rfl _ (run_load_op rfl e1 (Blk.below H1.out hI (Blk.lt H1.out)) Tryz.underlying26 rfl (sizeV f)) rfl
  ·intro a W hI hun haft hi
   have e1 := hun 1 (by kernel_rfl)
   exact b_same hi hI rfl _ (run_load_op rfl e1 (Blk.below H1.out hI (Blk.lt H1.out)) Tryz.underlying26 rfl (sizeV f)) rfl
  ·intro a W hI hun haft hi
   have f1 : a.eval (.tmp 4) = .agg (vA f) := haft ⟨1, .data⟩ (by simp) rfl _ _ rfl rfl
   refine b_call hi hI rfl _ _ (run_call_op (args := #[.agg (vA f)]) rfl (by simp [f1]) (by kernel_rfl)) ?_
   exact (clamp_any f W).mono fun e w' H => ⟨_, H.1, rfl, H.2⟩
  ·intro a W hI hun haft hi
   have f0 := haft ⟨0, .data⟩ (by simp) rfl _ _ rfl rfl
   have f2 := haft ⟨2, .data⟩ (by simp) rfl _ _ rfl rfl
   exact b_same hi hI rfl (.bool (rightV f)) (run_bin_op rfl f0 f2 (guardV _ _ _ _ _) (run_eqV _ f (clampV f))) rfl
  ·intro a W hI hun haft hi
   have f3 := haft ⟨3, .data⟩ (by simp) rfl _ _ rfl rfl
   exact b_same hi hI rfl _ (run_assign_op rfl f3) rfl
 ·intro vals W hI hp
  have hl4 : vals 4 = .bool (rightV f) := hp 4 (by decide)
  have HI := hid hI
  clear hp hI
  simp only [layN, layS, List.range, List.range.loop, if_true, Act.put, Nat.zero_add, Nat.reduceAdd, hl4]
  clear hl4
  go_wp2
  go_ret
  exact ⟨rfl, HB.out.trans (HI.out.mono HB.out.size)⟩
def lettB (c : Int) : Bool := (decide (97 ≤ c) && decide (c ≤ 122)) || (decide (65 ≤ c) && decide (c ≤ 90))
def digI (c : Int) : Bool := decide (48 ≤ c) && decide (c ≤ 57)
def okR (c : Int) (i : Nat) : Bool := lettB c || (decide (0 < i) && (digI c || c == 95))
def okAt (l : List UInt8) (i : Nat) : Bool := okR ((l.getD i 0).toNat : Int) i
def nameB (l : List UInt8) : Bool := decide (0 < l.length) && decide (l.length ≤ 16) && (List.range l.length).all (okAt l)
def plnR (c : Int) : Bool := decide (32 ≤ c) && decide (c ≤ 126)
def plnAt (l : List UInt8) (i : Nat) : Bool := plnR ((l.getD i 0).toNat : Int)
def plainB (l : List UInt8) : Bool := decide (l.length ≤ 64) && (List.range l.length).all (plnAt l)
theorem okR_high (c : Int) (i : Nat) (h : 128 ≤ c) : okR c i = false := by
 have h1 : lettB c = false := by simp [lettB]; omega
 have h2 : digI c = false := by simp [digI]; omega
 have h3 : (c == 95) = false := by rw [beq_eq_false_iff_ne]; omega
 simp [okR, h1, h2, h3]
theorem plnR_high (c : Int) (h : 128 ≤ c) : plnR c = false := by simp [plnR]; omega
theorem all_range_false {n i : Nat} {f : Nat → Bool} (hi : i < n) (h : f i = false) : (List.range n).all f = false := by
 rw [List.all_eq_false]
 exact ⟨i, List.mem_range.2 hi, by simp [h]⟩
theorem all_range_true {n : Nat} {f : Nat → Bool} (h : ∀ i, i < n → f i = true) : (List.range n).all f = true := by
 rw [List.all_eq_true]
 exact fun i hi => h i (List.mem_range.1 hi)
end Go.Proofs.YtdgglhlofnigkaaGreatDoor
