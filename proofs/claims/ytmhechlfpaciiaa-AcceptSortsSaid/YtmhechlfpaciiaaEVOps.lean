/-
  The operations of the vector laws' regions that draw their order, one by one: their runs. Conditions: none.
-/
import Derived.Test.YtmhechlfpaciiaaJEVOf
import Derived.Test.YtmhechlfpaciiaaOrder
import Derived.Deep.DeepCutAuto
import Derived.IntWalk
import Derived.Deep.MidRow
namespace Go.Proofs.Ytmhechlfpaciiaa
open Go.RowKit

section
variable {P : Program}
/-- A whole array's or struct's load, out of a block that is known whole. -/
theorem run_load_op {o : Oper} {ρ : Operand → Value} {w : World} {ty : TypeId} {x : Operand} {g : Nat} {t : TypeId} {cs : Array Value} {d : TypeDesc} (ho : o.op = .load ty x) (hx : ρ x = .pointer (some ⟨g, 0, none⟩)) (hb : Blk w g t cs)
    (hu : P.underlying ty = some d) (hd : (match d with | .struct _ | .array _ _ => true | _ => false) = true) (hi : (P.info? ty).map (·.size) = some cs.size) : (execOp ρ o).run P w = .ok (.value (.agg cs)) w := by
  unfold execOp
  simp only [ho, hx, Instr.loadAt, Instr.sureAddr, Sem.run_bind, Sem.run_pure, Result.andThen_ok, run_loadVar_row w g t ty cs (0, 0) d hb hu hd hi]
theorem run_not_op {o : Oper} {ρ : Operand → Value} {w : World} {t : TypeId} {x : Operand} {b : Bool} (ho : o.op = .unOp .not t x) (hx : ρ x = .bool b) : (execOp ρ o).run P w = .ok (.value (.bool !b)) w := by
  unfold execOp
  simp [ho, hx, go_sem]
theorem run_assign_op {o : Oper} {ρ : Operand → Value} {w : World} {x : Operand} {v : Value} (ho : o.op = .assign x) (hx : ρ x = v) : (execOp ρ o).run P w = .ok (.value v) w := by
  unfold execOp
  simp [ho, hx]
/-- One number out of memory. -/
theorem run_loadint_op {o : Oper} {ρ : Operand → Value} {w : World} {ty : TypeId} {x : Operand} {ad : Addr} {n : Int} (ho : o.op = .load ty x) (hx : ρ x = .pointer (some ad)) (hu : P.underlying ty = some (.int .i64)) (hc : w.cell? ad = some (.int .i64 n)) :
    (execOp ρ o).run P w = .ok (.value (.int .i64 n)) w := by
  unfold execOp
  have ha : (isAgg ty).run P w = .ok false w := by unfold isAgg; rw [Sem.run_bind, run_underlying hu w]; simp
  simp [ho, hx, Instr.loadAt, Instr.sureAddr, loadVar, ha, hc, go_sem]
theorem run_fieldAddr_op {o : Oper} {ρ : Operand → Value} {w : World} {ty : TypeId} {x : Operand} {g q k : Nat} {v : Value} (ho : o.op = .fieldAddr ty x k) (hx : ρ x = .pointer (some ⟨g, q, none⟩))
    (hr : (Instr.fieldAt ty (.pointer (some ⟨g, q, none⟩)) k).run P w = .ok v w) : (execOp ρ o).run P w = .ok (.value v) w := by
  unfold execOp
  simp [ho, hx, hr]
theorem run_indexAddr_op {o : Oper} {ρ : Operand → Value} {w : World} {ty : TypeId} {x y : Operand} {vx vy v : Value} (ho : o.op = .indexAddr ty x y) (hx : ρ x = vx) (hy : ρ y = vy)
    (hr : (Instr.indexAt ty vx vy).run P w = .ok v w) : (execOp ρ o).run P w = .ok (.value v) w := by
  unfold execOp
  simp [ho, hx, hy, hr]
variable {ops : Array Oper} {Q : Exit → Act → World → Prop}
/-- A guard that lets its operation not run. -/
theorem guard_no {o : Oper} {a : Act} {k : Nat} {want : Bool} {oj : Oper} {d : Tmp} (hg : o.guard = some (k, want)) (hj : ops[k]? = some oj) (hd : oj.dst = some d) (hv : a.eval (.tmp d) = .bool (!want) ∨ a.eval (.tmp d) = undef) : Region.wanted o (yielded ops a.tmps) = false := by
  simp only [Region.wanted, hg, yielded, hj, Option.bind_some, hd]
  simp only [Act.eval, Array.getD_eq_getD_getElem?] at hv
  cases ht : a.tmps[d]? with
  | none => cases want <;> simp
  | some u =>
    rw [ht] at hv
    simp only [Option.getD_some] at hv
    rcases hv with rfl | rfl <;> cases want <;> simp [undef]
/-- An operation that its guard skips. -/
theorem b_skip {i : Nat} {o : Oper} {a : Act} {w w1 : World} {p : Nat → Value → World → Prop} (hi : ops[i]? = some o) (hI : Below w1.heap.size w1 w) (hw : Region.wanted o (yielded ops a.tmps) = false) (hp : p i undef w) : wpOp P ops Q i (Step1 w1 p i a o w) a w := by
  unfold wpOp
  simp only [hi, hw, Bool.false_eq_true, if_false]
  exact ⟨⟨undef, rfl, hp⟩, Below.refl _ _, hI⟩
end

section
variable {P : Program}
theorem run_loadmid_op {o : Oper} {ρ : Operand → Value} {w : World} {ty : TypeId} {x : Operand} {g k : Nat} {cs : List Value} {d : TypeDesc} (ho : o.op = .load ty x) (hx : ρ x = .pointer (some ⟨g, k, none⟩)) (hb : w.rangeAt g k cs)
    (hu : P.underlying ty = some d) (hd : d.isRow = true) (hi : (P.info? ty).map (·.size) = some cs.length) : (execOp ρ o).run P w = .ok (.value (.agg cs.toArray)) w := by
  unfold execOp
  simp only [ho, hx, Instr.loadAt, Instr.sureAddr, Sem.run_bind, Sem.run_pure, Result.andThen_ok, run_loadVar_mid w g k ty cs d hb hu hd hi]
/-- A whole array's load, whether it is guarded or not. -/
theorem wpList_load_if {ops : Array Oper} {rest : List Oper} {o : Oper} {a : Act} {w : World} {Q : Exit → Act → World → Prop} (hw : Region.wanted o (yielded ops a.tmps) = true) (ty : TypeId) (x : Operand) (ho : o.op = .load ty x)
    (g : Nat) (hx : a.eval x = .pointer (some ⟨g, 0, none⟩)) (t : TypeId) (cs : Array Value) (fr : Nat × Nat) (d : TypeDesc) (hg : w.heap[g]? = some (.cells cs t fr))
    (hu : P.underlying ty = some d) (hd : (match d with | .struct _ | .array _ _ => true | _ => false) = true) (hi : (P.info? ty).map (·.size) = some cs.size)
    (h : wpList P ops Q rest (a.put o.dst (.agg cs)) w) : wpList P ops Q (o :: rest) a w :=
  wpList_step fun K hK => by
    rw [if_pos hw]
    exact wp_load_row ty x ho g hx t cs fr d hg hu hd hi (hK _ _ h)
/-- A part's load out of a row, whether it is guarded or not. -/
theorem wpList_load_midif {ops : Array Oper} {rest : List Oper} {o : Oper} {a : Act} {w : World} {Q : Exit → Act → World → Prop} (hw : Region.wanted o (yielded ops a.tmps) = true) (ty : TypeId) (x : Operand) (ho : o.op = .load ty x)
    (b q : Nat) (hx : a.eval x = .pointer (some ⟨b, q, none⟩)) (cs : List Value) (d : TypeDesc) (hc : w.rangeAt b q cs)
    (hu : P.underlying ty = some d) (hd : d.isRow = true) (hi : (P.info? ty).map (·.size) = some cs.length)
    (h : wpList P ops Q rest (a.put o.dst (.agg cs.toArray)) w) : wpList P ops Q (o :: rest) a w :=
  wpList_step fun K hK => by
    rw [if_pos hw]
    exact wp_load_mid ty x ho b q hx cs d hc hu hd hi (hK _ _ h)
theorem run_len_op {o : Oper} {ρ : Operand → Value} {w : World} {x : Operand} {t e : TypeId} {A : Option Addr} {n c : Nat} (hu : P.underlying t = some (.slice e)) (ho : o.op = .call { callee := .builtin .len, args := #[x], argTypes := #[t] }) (hx : ρ x = .slice A n c) : (execOp ρ o).run P w = .ok (.value (.int .i64 n)) w := by
  unfold execOp
  simp [ho, hx, resolve, invoke, builtin, Builtin.len_, run_underlying hu, go_sem]
end

theorem field0 (g : Nat) (w : World) : (Instr.fieldAt 33 (.pointer (some ⟨g, 0, none⟩)) 0).run Try.prog w = .ok (.pointer (some ⟨g, 0, none⟩)) w := by go_simp
theorem field0q (g q : Nat) (w : World) : (Instr.fieldAt 33 (.pointer (some ⟨g, q, none⟩)) 0).run Try.prog w = .ok (.pointer (some ⟨g, q, none⟩)) w := by go_simp
theorem field1 (g : Nat) (w : World) : (Instr.fieldAt 33 (.pointer (some ⟨g, 0, none⟩)) 1).run Try.prog w = .ok (.pointer (some ⟨g, 1, none⟩)) w := by go_simp
theorem indexV (g n : Nat) (h : n < 16) (w : World) : (Instr.indexAt 27 (.pointer (some ⟨g, 0, none⟩)) (.int .i64 n)).run Try.prog w = .ok (.pointer (some ⟨g, n, none⟩)) w := by
  have h2 : (n : Int) < 16 := by omega
  go_simp



end Go.Proofs.Ytmhechlfpaciiaa
