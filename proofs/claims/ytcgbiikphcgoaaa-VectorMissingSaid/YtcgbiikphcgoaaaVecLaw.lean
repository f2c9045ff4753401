/-
  A slice of dots that reads as a list; words for the vector laws' walks. Conditions: none.
-/
import Derived.Test.YtcgbiikphcgoaaaVecMissW
import Derived.Deep.MidRow
namespace Go.Proofs.Ytcgbiikphcgoaaa
open Go.RowKit

/-- v is a slice of the dots l, which lie below the heap's end. -/
def DS (w : World) (v : Value) (l : List (Nat × Int)) : Prop := ∃ A c, v = .slice A l.length c ∧
  ∀ i d, l[i]? = some d → ∃ g, A = some ⟨g, 0, none⟩ ∧ g < w.heap.size ∧ w.cell? ⟨g, i * 2, none⟩ = some (.int .i64 d.1) ∧ w.cell? ⟨g, i * 2 + 1, none⟩ = some (.int .i64 d.2)
theorem DS.of_own {w : World} {base : Nat} {v : Value} {l : List (Nat × Int)} (h : w.ownsRow base 28 2 v l.length (dcells l)) : DS w v l := by
  obtain ⟨hl, hc⟩ := h
  rcases hc with ⟨rfl, h0⟩ | ⟨g, cap, cur, rfl, hb, hg, hn, hm, hs, ht⟩
  · refine ⟨none, 0, by rw [h0], fun i d hd => ?_⟩
    rw [List.length_eq_zero_iff.1 h0] at hd
    simp at hd
  · refine ⟨_, _, rfl, fun i d hd => ⟨g, rfl, (Array.getElem?_eq_some_iff.1 hg).1, ?_⟩⟩
    have hi : i < l.length := (List.getElem?_eq_some_iff.1 hd).1
    have key : ∀ q v, (dcells l)[q]? = some v → w.cell? ⟨g, q, none⟩ = some v := by
      intro q v hq
      rw [cell_of_row w g q cur _ (0, 0) hg]
      rw [← ht, List.getElem?_take] at hq
      split at hq
      · simpa using hq
      · cases hq
    have := dcells_at l i d hd
    rw [Nat.mul_comm] at this
    exact ⟨key _ _ this.1, key _ _ this.2⟩
theorem DS.below {w w' : World} {v : Value} {l : List (Nat × Int)} (h : DS w v l) (hb : Below w.heap.size w w') : DS w' v l := by
  obtain ⟨A, c, rfl, hx⟩ := h
  refine ⟨A, c, rfl, fun i d hd => ?_⟩
  obtain ⟨g, hA, hg, h1, h2⟩ := hx i d hd
  exact ⟨g, hA, Nat.lt_of_lt_of_le hg hb.size, (hb.cell (p := ⟨g, _, none⟩) hg).trans h1, (hb.cell (p := ⟨g, _, none⟩) hg).trans h2⟩
theorem range2 {w : World} {g o : Nat} {x y : Value} (h1 : w.cell? ⟨g, o, none⟩ = some x) (h2 : w.cell? ⟨g, o + 1, none⟩ = some y) : w.rangeAt g o [x, y] := by
  intro j v hv
  match j, hv with
  | 0, hv => obtain rfl : x = v := by simpa using hv
             exact h1
  | 1, hv => obtain rfl : y = v := by simpa using hv
             exact h2
  | j + 2, hv => simp at hv

section
variable {P : Program}
theorem run_loadmid_op {o : Oper} {ρ : Operand → Value} {w : World} {ty : TypeId} {x : Operand} {g k : Nat} {cs : List Value} {d : TypeDesc} (ho : o.op = .load ty x) (hx : ρ x = .pointer (some ⟨g, k, none⟩)) (hb : w.rangeAt g k cs)
    (hu : P.underlying ty = some d) (hd : d.isRow = true) (hi : (P.info? ty).map (·.size) = some cs.length) : (execOp ρ o).run P w = .ok (.value (.agg cs.toArray)) w := by
  unfold execOp
  simp only [ho, hx, Instr.loadAt, Instr.sureAddr, Sem.run_bind, Sem.run_pure, Result.andThen_ok, run_loadVar_mid w g k ty cs d hb hu hd hi]
/-- A whole array's load, whether it is guarded or not. -/
theorem wpList_load_if {ops : Array Oper} {rest : List Oper} {o : Oper} {a : Act} {w : World} {Q : Exit → Act → World → Prop} (hw : Region.wanted o (yielded ops a.tmps) = true) (ty : TypeId) (x : Operand) (ho : o.op = .load ty x)
    (g : Nat) (hx : a.eval x = .pointer (some ⟨g, 0, none⟩)) (t : TypeId) (cs : Array Value) (fr : Nat × Nat) (d : TypeDesc) (hg : w.heap[g]? = some (.cells cs t fr))
    (hu : P.underlying ty = some d) (hd : (match d with | .struct _ | .array _ _ => true | _ => false) = true) (hi : (P.info? ty).map (·.size) = some cs.size)
    (h : wpList P ops Q rest (a.put o.dst (.agg cs)) w) : wpList P ops Q (o :: rest) a w :=
  wpList_step fun K hK => by
    rw [if_pos hw]
    exact wp_load_row ty x ho g hx t cs fr d hg hu hd hi (hK _ _ h)
theorem run_len_op {o : Oper} {ρ : Operand → Value} {w : World} {x : Operand} {t e : TypeId} {A : Option Addr} {n c : Nat} (hu : P.underlying t = some (.slice e)) (ho : o.op = .call { callee := .builtin .len, args := #[x], argTypes := #[t] }) (hx : ρ x = .slice A n c) : (execOp ρ o).run P w = .ok (.value (.int .i64 n)) w := by
  unfold execOp
  simp [ho, hx, resolve, invoke, builtin, Builtin.len_, run_underlying hu, go_sem]
end

/-- The vectors of the fixed facts. -/
def e1 : Nat → Int := fun i => if i = 0 then 1 else 0
def e2 : Nat → Int := fun i => if i = 1 then 1 else 0
def e12 : Nat → Int := fun i => if i = 0 then 1 else if i = 1 then 1 else 0
def e21 : Nat → Int := fun i => if i = 0 then 2 else if i = 1 then 1 else 0
def e0 : Nat → Int := fun _ => 0
def em : Nat → Int := fun i => if i = 0 then -1 else 0
theorem mk1 (w : World) : (Instr.build 23 #[(0, .int .i64 1)]).run Try.prog w = .ok (.agg (vA e1)) w := by kernel_rfl
theorem mk2 (w : World) : (Instr.build 23 #[(0, .int .i64 0), (1, .int .i64 1)]).run Try.prog w = .ok (.agg (vA e2)) w := by kernel_rfl
theorem mk21 (w : World) : (Instr.build 23 #[(0, .int .i64 2), (1, .int .i64 1)]).run Try.prog w = .ok (.agg (vA e21)) w := by kernel_rfl
theorem miss_is : missV e1 e21 = [(0, 2), (1, 1)] := by decide
theorem fx_order (w : World) : Calls Try.prog 15 #[.agg (vA e1), .agg (vA e2)] w fun e w' => e = .returned (.int .i64 2) ∧ Below w.heap.size w w' := by
  have := order_any e1 e2 w; rwa [show ordV e1 e2 = 2 from by decide] at this
theorem fx_next (w : World) : Calls Try.prog 9 #[.agg (vA e1), dv 1 1] w fun e w' => e = .returned (.bool true) ∧ Below w.heap.size w w' := by
  have := next_any e1 1 1 w; rwa [show nextB e1 1 1 = true from by decide] at this
theorem fx_knows (w : World) : Calls Try.prog 10 #[.agg (vA e2), dv 1 1] w fun e w' => e = .returned (.bool true) ∧ Below w.heap.size w w' := by
  have := knows_any e2 1 1 w; rwa [show knowsB e2 1 1 = true from by decide] at this
theorem fx_sum (w : World) : Calls Try.prog 17 #[.agg (vA e1)] w fun e w' => e = .returned (.int .i64 1) ∧ Below w.heap.size w w' := by
  have := sum_any e1 w; rwa [show sumN e1 16 = 1 from by decide] at this
theorem fx_right (w : World) : Calls Try.prog 16 #[.agg (vA em)] w fun e w' => e = .returned (.bool false) ∧ Below w.heap.size w w' := by
  have := right_any em w; rwa [show rightV em = false from by decide] at this
theorem fx_dot (w : World) : Calls Try.prog 18 #[dv 0 0] w fun e w' => e = .returned (.bool false) ∧ Below w.heap.size w w' := by
  have := dot_any 0 0 w; rwa [show dotB 0 0 = false from by decide] at this
theorem eq_is {f g : Nat → Int} (h : eqV f g = true) (w : World) : (binOp .eql 23 (.agg (vA f)) (.agg (vA g))).run Try.prog w = .ok (.bool true) w := by rw [run_eqV, h]

end Go.Proofs.Ytcgbiikphcgoaaa
