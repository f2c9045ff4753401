/-
  Operations of a region that draws its order, one by one; what a slot holds. Conditions: none.
-/
import Derived.Test.YtkdfedcmhcchiaaJnLaid
import Derived.Test.YtkdfedcmhcchiaaOrder
namespace Go.Proofs.Ytkdfedcmhcchiaa
open Go.RowKit

section
variable {P : Program} {ops : Array Oper} {Q : Exit → Act → World → Prop}
theorem run_assign_op {o : Oper} {ρ : Operand → Value} {w : World} {x : Operand} {v : Value} (ho : o.op = .assign x) (hx : ρ x = v) : (execOp ρ o).run P w = .ok (.value v) w := by
  unfold execOp
  simp [ho, hx]
theorem run_loadint_op {o : Oper} {ρ : Operand → Value} {w : World} {ty : TypeId} {x : Operand} {ad : Addr} {n : Int} (ho : o.op = .load ty x) (hx : ρ x = .pointer (some ad)) (hu : P.underlying ty = some (.int .i64)) (hc : w.cell? ad = some (.int .i64 n)) :
    (execOp ρ o).run P w = .ok (.value (.int .i64 n)) w := by
  unfold execOp
  have ha : (isAgg ty).run P w = .ok false w := by unfold isAgg; rw [Sem.run_bind, run_underlying hu w]; simp
  simp [ho, hx, Instr.loadAt, Instr.sureAddr, loadVar, ha, hc, go_sem]
theorem run_indexAddr_op {o : Oper} {ρ : Operand → Value} {w : World} {ty : TypeId} {x y : Operand} {vx vy v : Value} (ho : o.op = .indexAddr ty x y) (hx : ρ x = vx) (hy : ρ y = vy)
    (hr : (Instr.indexAt ty vx vy).run P w = .ok v w) : (execOp ρ o).run P w = .ok (.value v) w := by
  unfold execOp
  simp [ho, hx, hy, hr]
variable {ops : Array Oper} {Q : Exit → Act → World → Prop}
theorem run_len_op {o : Oper} {ρ : Operand → Value} {w : World} {x : Operand} {t e : TypeId} {A : Option Addr} {n c : Nat} (hu : P.underlying t = some (.slice e)) (ho : o.op = .call { callee := .builtin .len, args := #[x], argTypes := #[t] }) (hx : ρ x = .slice A n c) : (execOp ρ o).run P w = .ok (.value (.int .i64 n)) w := by
  unfold execOp
  simp [ho, hx, resolve, invoke, builtin, Builtin.len_, run_underlying hu, go_sem]
end

theorem run_eqi {a b : Int} {q : Bool} (h : (a == b) = q) (w : World) : (binOp .eql 3 (.int .i64 a) (.int .i64 b)).run Try.prog w = .ok (.bool q) w := by subst h; go_simp
theorem run_nei {a b : Int} {q : Bool} (h : (a != b) = q) (w : World) : (binOp .neq 3 (.int .i64 a) (.int .i64 b)).run Try.prog w = .ok (.bool q) w := by subst h; go_simp
theorem run_nee {a b : Int} {q : Bool} (h : (a != b) = q) (w : World) : (binOp .neq 31 (.int .i64 a) (.int .i64 b)).run Try.prog w = .ok (.bool q) w := by subst h; go_simp
theorem run_lti {a b : Int} {q : Bool} (h : decide (a < b) = q) (w : World) : (binOp .lss 3 (.int .i64 a) (.int .i64 b)).run Try.prog w = .ok (.bool q) w := by subst h; go_simp
theorem run_gti {a b : Int} {q : Bool} (h : decide (b < a) = q) (w : World) : (binOp .gtr 3 (.int .i64 a) (.int .i64 b)).run Try.prog w = .ok (.bool q) w := by subst h; go_simp
theorem run_nes (X : ByteArray) (w : World) : (binOp .neq 9 (.string X) (.string X)).run Try.prog w = .ok (.bool false) w := by go_simp

/-- What a slot holds: just this; a slice that reads so. -/
def pOfB (k : Option Value × Option (List UInt8)) (v : Value) (w : World) : Prop :=
  match k with
  | (some x, _) => v = x
  | (none, some l) => Sl bv w v l
  | (none, none) => True
theorem pOfB_stable (T : List (Option Value × Option (List UInt8))) (i : Nat) (v : Value) (w w' : World) (hb : Below w.heap.size w w') (h : pOfB (T.getD i (none, none)) v w) : pOfB (T.getD i (none, none)) v w' := by
  generalize T.getD i (none, none) = k at *
  obtain ⟨x, y⟩ := k
  cases x with
  | some x => exact h
  | none =>
    cases y with
    | some l => exact Sl.below h hb
    | none => trivial


theorem idx_at (b q n c : Nat) (h : q ≤ n) (w : World) : (Instr.indexAt 27 (.slice (some ⟨b, 0, none⟩) (n + 1) c) (.int .i64 (q : Int))).run Try.prog w = .ok (.pointer (some ⟨b, q, none⟩)) w := by
  have h1 : (q : Int) < (n : Int) + 1 := by omega
  have h2 : q < n + 1 := by omega
  go_simp

end Go.Proofs.Ytkdfedcmhcchiaa
