/-
  Operations of a region that draws its order, one by one; what a slot holds. Conditions: none.
-/
import Derived.Test.YtcaechfmeiklkaaDkFixed
import Derived.Test.YtcaechfmeiklkaaOrder
namespace Go.Proofs.Ytcaechfmeiklkaa
open Go.RowKit

section
variable {P : Program} {ops : Array Oper} {Q : Exit → Act → World → Prop}
theorem run_assign_op {o : Oper} {ρ : Operand → Value} {w : World} {x : Operand} {v : Value} (ho : o.op = .assign x) (hx : ρ x = v) : (execOp ρ o).run P w = .ok (.value v) w := by
  unfold execOp
  simp only [ho, Sem.run_pure, hx]
theorem run_len_op {o : Oper} {ρ : Operand → Value} {w : World} {x : Operand} {t e : TypeId} {A : Option Addr} {n c : Nat} (hu : P.underlying t = some (.slice e)) (ho : o.op = .call { callee := .builtin .len, args := #[x], argTypes := #[t] }) (hx : ρ x = .slice A n c) : (execOp ρ o).run P w = .ok (.value (.int .i64 n)) w := by
  unfold execOp
  simp [ho, hx, resolve, invoke, builtin, Builtin.len_, run_underlying hu, go_sem]
end

theorem run_eqi {a b : Int} {q : Bool} (h : (a == b) = q) (w : World) : (binOp .eql 3 (.int .i64 a) (.int .i64 b)).run Try.prog w = .ok (.bool q) w := by subst h; go_simp
theorem run_nei {a b : Int} {q : Bool} (h : (a != b) = q) (w : World) : (binOp .neq 3 (.int .i64 a) (.int .i64 b)).run Try.prog w = .ok (.bool q) w := by subst h; go_simp
theorem run_eqs (X : ByteArray) (w : World) : (binOp .eql 9 (.string X) (.string X)).run Try.prog w = .ok (.bool true) w := by go_simp
theorem run_nes (X : ByteArray) (w : World) : (binOp .neq 9 (.string X) (.string X)).run Try.prog w = .ok (.bool false) w := by go_simp

/-- What a slot holds: just this; a slice that reads so. -/
def pOfB (k : Option Value × Option (List UInt8)) (v : Value) (w : World) : Prop :=
  match k with
  | (some x, _) => v = x
  | (none, some l) => Sl bv w v l
  | (none, none) => True
theorem pOfB_stable (T : List (Option Value × Option (List UInt8))) (i : Nat) (v : Value) (w w' : World) (hb : Below w.heap.size w w') (h : pOfB (T.getD i (none, none)) v w) : pOfB (T.getD i (none, none)) v w' := by
  generalize T.getD i (none, none) = k at *
  obtain ⟨x, y⟩ := k
  cases x with
  | some x => exact h
  | none =>
    cases y with
    | some l => exact Sl.below h hb
    | none => trivial

/-- Synced, as a region's step. -/
theorem dsynced_step (g : Nat) (v : Value) (l : List UInt8) (s : Nat) (w : World) (h : Dk w g v l s) :
    Calls Try.prog 15 #[.pointer (some ⟨g, 0, none⟩)] w fun e w' => e = .returned (.int .i64 s) ∧ Below w.heap.size w w' :=
  (dsynced_any g v l s w h).mono fun _ _ ⟨he, hw⟩ => ⟨he, hw ▸ Below.refl _ _⟩

end Go.Proofs.Ytcaechfmeiklkaa
