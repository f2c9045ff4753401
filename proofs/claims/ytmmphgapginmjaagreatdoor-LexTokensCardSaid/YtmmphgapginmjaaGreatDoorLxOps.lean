/-
  Operations of regions that draw their order: what each does. Conditions: none.
-/
import Derived.Test.YtmmphgapginmjaaGreatDoorOrder
import Derived.Test.YtmmphgapginmjaaGreatDoorJLxFix
import Derived.Deep.MidRow
import Derived.WalkSpells
namespace Go.Proofs.YtmmphgapginmjaaGreatDoor
open Go.RowKit

section
variable {P : Program}
/-- A whole array's or struct's load, out of a block that is known whole. -/
theorem run_load_op {o : Oper} {ρ : Operand → Value} {w : World} {ty : TypeId} {x : Operand} {g : Nat} {t : TypeId} {cs : Array Value} {d : TypeDesc} (ho : o.op = .load ty x) (hx : ρ x = .pointer (some ⟨g, 0, none⟩)) (hb : Blk w g t cs)
    (hu : P.underlying ty = some d) (hd : (match d with | .struct _ | .array _ _ => true | _ => false) = true) (hi : (P.info? ty).map (·.size) = some cs.size) : (execOp ρ o).run P w = .ok (.value (.agg cs)) w := by
  unfold execOp
  simp only [ho, hx, Instr.loadAt, Instr.sureAddr, Sem.run_bind, Sem.run_pure, Result.andThen_ok, run_loadVar_row w g t ty cs (0, 0) d hb hu hd hi]
theorem run_not_op {o : Oper} {ρ : Operand → Value} {w : World} {t : TypeId} {x : Operand} {b : Bool} (ho : o.op = .unOp .not t x) (hx : ρ x = .bool b) : (execOp ρ o).run P w = .ok (.value (.bool !b)) w := by
  unfold execOp
  simp [ho, hx, go_sem]
theorem run_assign_op {o : Oper} {ρ : Operand → Value} {w : World} {x : Operand} {v : Value} (ho : o.op = .assign x) (hx : ρ x = v) : (execOp ρ o).run P w = .ok (.value v) w := by
  unfold execOp
  simp [ho, hx]
/-- One number out of memory. -/
theorem run_loadint_op {o : Oper} {ρ : Operand → Value} {w : World} {ty : TypeId} {x : Operand} {ad : Addr} {n : Int} (ho : o.op = .load ty x) (hx : ρ x = .pointer (some ad)) (hu : P.underlying ty = some (.int .i64)) (hc : w.cell? ad = some (.int .i64 n)) :
    (execOp ρ o).run P w = .ok (.value (.int .i64 n)) w := by
  unfold execOp
  have ha : (isAgg ty).run P w = .ok false w := by unfold isAgg; rw [Sem.run_bind, run_underlying hu w]; simp
  simp [ho, hx, Instr.loadAt, Instr.sureAddr, loadVar, ha, hc, go_sem]
theorem run_fieldAddr_op {o : Oper} {ρ : Operand → Value} {w : World} {ty : TypeId} {x : Operand} {g q k : Nat} {v : Value} (ho : o.op = .fieldAddr ty x k) (hx : ρ x = .pointer (some ⟨g, q, none⟩))
    (hr : (Instr.fieldAt ty (.pointer (some ⟨g, q, none⟩)) k).run P w = .ok v w) : (execOp ρ o).run P w = .ok (.value v) w := by
  unfold execOp
  simp [ho, hx, hr]
variable {ops : Array Oper} {Q : Exit → Act → World → Prop}
/-- A guard that lets its operation not run. -/
theorem guard_no {o : Oper} {a : Act} {k : Nat} {want : Bool} {oj : Oper} {d : Tmp} (hg : o.guard = some (k, want)) (hj : ops[k]? = some oj) (hd : oj.dst = some d) (hv : a.eval (.tmp d) = .bool (!want) ∨ a.eval (.tmp d) = undef) : Region.wanted o (yielded ops a.tmps) = false := by
  simp only [Region.wanted, hg, yielded, hj, Option.bind_some, hd]
  simp only [Act.eval, Array.getD_eq_getD_getElem?] at hv
  cases ht : a.tmps[d]? with
  | none => cases want <;> simp
  | some u =>
    rw [ht] at hv
    simp only [Option.getD_some] at hv
    rcases hv with rfl | rfl <;> cases want <;> simp [undef]
/-- An operation that its guard skips. -/
theorem b_skip {i : Nat} {o : Oper} {a : Act} {w w1 : World} {p : Nat → Value → World → Prop} (hi : ops[i]? = some o) (hI : Below w1.heap.size w1 w) (hw : Region.wanted o (yielded ops a.tmps) = false) (hp : p i undef w) : wpOp P ops Q i (Step1 w1 p i a o w) a w := by
  unfold wpOp
  simp only [hi, hw, Bool.false_eq_true, if_false]
  exact ⟨⟨undef, rfl, hp⟩, Below.refl _ _, hI⟩
end
theorem run_loadstr_op {P : Program} {o : Oper} {ρ : Operand → Value} {w : World} {ty : TypeId} {x : Operand} {ad : Addr} {n : ByteArray} (ho : o.op = .load ty x) (hx : ρ x = .pointer (some ad)) (hu : P.underlying ty = some .string) (hc : w.cell? ad = some (.string n)) :
    (execOp ρ o).run P w = .ok (.value (.string n)) w := by
  unfold execOp
  have ha : (isAgg ty).run P w = .ok false w := by unfold isAgg; rw [Sem.run_bind, run_underlying hu w]; simp
  simp [ho, hx, Instr.loadAt, Instr.sureAddr, loadVar, ha, hc, go_sem]
theorem run_fieldAddr_any {P : Program} {o : Oper} {ρ : Operand → Value} {w : World} {ty : TypeId} {x : Operand} {ad : Addr} {k : Nat} {v : Value} (ho : o.op = .fieldAddr ty x k) (hx : ρ x = .pointer (some ad))
    (hr : (Instr.fieldAt ty (.pointer (some ad)) k).run P w = .ok v w) : (execOp ρ o).run P w = .ok (.value v) w := by
  unfold execOp
  simp [ho, hx, hr]
theorem guardIT (o : BinOp) (t : TypeId) (x y : Operand) (k k' : IntKind) (a b : Int) (w : World) : (eqGuard o t x y (.int k a) (.int k' b)).run Tryz.prog w = .ok () w := by
  unfold eqGuard
  cases o <;> rfl

end Go.Proofs.YtmmphgapginmjaaGreatDoor
