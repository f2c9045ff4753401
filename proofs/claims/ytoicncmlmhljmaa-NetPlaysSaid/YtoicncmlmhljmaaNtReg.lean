/-
  Operations of a region that draws its order, one by one; a parcel's twin; where a net's parts lie. Conditions: none.
-/
import Derived.Test.YtoicncmlmhljmaaNtOps
import Derived.Test.YtoicncmlmhljmaaOrder
import Derived.Deep.MidRow
import Derived.Deep.RegionHeld3
import Derived.Deep.DeepCutAuto
namespace Go.Proofs.Ytoicncmlmhljmaa
open Go.RowKit

section
variable {P : Program}
theorem run_assign_op {o : Oper} {ρ : Operand → Value} {w : World} {x : Operand} {v : Value} (ho : o.op = .assign x) (hx : ρ x = v) : (execOp ρ o).run P w = .ok (.value v) w := by
  unfold execOp
  simp only [ho, Sem.run_pure, hx]
theorem run_fieldAddr_any {o : Oper} {ρ : Operand → Value} {w : World} {ty : TypeId} {x : Operand} {ad : Addr} {k : Nat} {v : Value} (ho : o.op = .fieldAddr ty x k) (hx : ρ x = .pointer (some ad))
    (hr : (Instr.fieldAt ty (.pointer (some ad)) k).run P w = .ok v w) : (execOp ρ o).run P w = .ok (.value v) w := by
  unfold execOp
  simp [ho, hx, hr]
theorem run_nilCheck_op {o : Oper} {ρ : Operand → Value} {w : World} {x : Operand} {ad : Addr} (ho : o.op = .nilCheck x) (hx : ρ x = .pointer (some ad)) : (execOp ρ o).run P w = .ok (.value (.pointer (some ad))) w := by
  unfold execOp
  simp [ho, hx]
/-- A load of one cell. -/
theorem run_load1_op {o : Oper} {ρ : Operand → Value} {w : World} {ty : TypeId} {x : Operand} {ad : Addr} {v : Value} {d : TypeDesc} (ho : o.op = .load ty x) (hx : ρ x = .pointer (some ad)) (hu : P.underlying ty = some d) (hd : d.isRow = false)
    (hc : w.cell? ad = some v) : (execOp ρ o).run P w = .ok (.value v) w := by
  unfold execOp
  have ha : (isAgg ty).run P w = .ok false w := by
    unfold isAgg
    rw [Sem.run_bind, run_underlying hu w]
    cases d <;> first | rfl | (simp [TypeDesc.isRow] at hd)
  simp [ho, hx, Instr.loadAt, Instr.sureAddr, loadVar, ha, hc, go_sem]
theorem run_loadmid_op {o : Oper} {ρ : Operand → Value} {w : World} {ty : TypeId} {x : Operand} {b q : Nat} {cs : List Value} {d : TypeDesc} (ho : o.op = .load ty x) (hx : ρ x = .pointer (some ⟨b, q, none⟩)) (hc : w.rangeAt b q cs)
    (hu : P.underlying ty = some d) (hd : d.isRow = true) (hi : (P.info? ty).map (·.size) = some cs.length) : (execOp ρ o).run P w = .ok (.value (.agg cs.toArray)) w := by
  unfold execOp
  simp only [ho, hx, Instr.loadAt, Instr.sureAddr, Sem.run_bind, Sem.run_pure, Result.andThen_ok, run_loadVar_mid w b q ty cs d hc hu hd hi]
theorem run_storemid_op {o : Oper} {ρ : Operand → Value} {w : World} {ty : TypeId} {x y : Operand} {b q : Nat} {cells : Array Value} (ho : o.op = .store ty x y) (hx : ρ x = .pointer (some ⟨b, q, none⟩)) (hy : ρ y = .agg cells)
    (ht : w.there b q cells.size) (hi : (P.info? ty).map (·.size) = some cells.size) (h1 : cells.all (·.oneCell') = true) : (execOp ρ o).run P w = .ok .skip (w.setCells b q cells.toList) := by
  unfold execOp
  simp only [ho, hx, hy, Instr.storeAt, Instr.sureAddr, Sem.run_bind, Sem.run_pure, Result.andThen_ok, run_storeVar_mid w b q ty cells ht hi h1]
theorem run_store1_op {o : Oper} {ρ : Operand → Value} {w : World} {ty : TypeId} {x y : Operand} {ad : Addr} {u v : Value} (ho : o.op = .store ty x y) (hx : ρ x = .pointer (some ad)) (hy : ρ y = v) (hv : v.oneCell' = true) (hcs : v.cells = #[v]) (hi : (P.info? ty).map (·.size) = some 1) (hc : w.cell? ad = some u) (hf : w.frozen? ad = false) :
    (execOp ρ o).run P w = .ok .skip (w.setCell ad v) := by
  cases hq : P.info? ty with
  | none => simp [hq] at hi
  | some i =>
    have hs : i.size = 1 := by simpa [hq] using hi
    have h2 : (storeVar ty ad v).run P w = .ok () (w.setCell ad v) := by
      simp [storeVar, hcs, sizeOf, typeInfo, hq, hs, storeCells, run_store P _ _ v _ hv, Addr.add_zero', hc, hf, Result.andThen]
    unfold execOp
    simp only [ho, hx, hy, Instr.storeAt, Instr.sureAddr, Sem.run_bind, Sem.run_pure, Result.andThen_ok, h2]
theorem run_build_op {o : Oper} {ρ : Operand → Value} {w : World} {ty : TypeId} {xs : Array (Nat × Operand)} {vs : Array (Nat × Value)} {v : Value} (ho : o.op = .build ty xs) (hx : xs.map (fun (i, x) => (i, ρ x)) = vs) (hr : (Instr.build ty vs).run P w = .ok v w) : (execOp ρ o).run P w = .ok (.value v) w := by
  unfold execOp
  simp only [ho]
  rw [show (xs.map fun x => match x with | (i, x) => (i, ρ x)) = vs from hx]
  simp [hr]
theorem run_buildSlice_op {o : Oper} {ρ : Operand → Value} {w w' : World} {t : TypeId} {len : Nat} {xs : Array (Nat × Operand)} {vs : Array (Nat × Value)} {v : Value} (ho : o.op = .buildSlice t len xs) (hx : xs.map (fun (i, x) => (i, ρ x)) = vs) (hr : (Instr.buildSlice t len vs).run P w = .ok v w') : (execOp ρ o).run P w = .ok (.value v) w' := by
  unfold execOp
  simp only [ho]
  rw [show (xs.map fun x => match x with | (i, x) => (i, ρ x)) = vs from hx]
  simp [hr]
theorem run_indexAddr_op {o : Oper} {ρ : Operand → Value} {w : World} {t : TypeId} {x y : Operand} {vx vy v : Value} (ho : o.op = .indexAddr t x y) (hx : ρ x = vx) (hy : ρ y = vy) (hr : (Instr.indexAt t vx vy).run P w = .ok v w) : (execOp ρ o).run P w = .ok (.value v) w := by
  unfold execOp
  simp only [ho, hx, hy, Sem.run_bind, hr, Result.andThen_ok, Sem.run_pure]
theorem run_sllo_op {o : Oper} {ρ : Operand → Value} {w : World} {t : TypeId} {x y : Operand} {vx vy v : Value} (ho : o.op = .slice t x (some y) none none) (hx : ρ x = vx) (hy : ρ y = vy) (hr : (Instr.sliceAt t vx (some vy) none none).run P w = .ok v w) : (execOp ρ o).run P w = .ok (.value v) w := by
  unfold execOp
  simp only [ho, hx, hy, Option.map_some, Option.map_none, Sem.run_bind, hr, Result.andThen_ok, Sem.run_pure]
theorem run_slhi_op {o : Oper} {ρ : Operand → Value} {w : World} {t : TypeId} {x y : Operand} {vx vy v : Value} (ho : o.op = .slice t x none (some y) none) (hx : ρ x = vx) (hy : ρ y = vy) (hr : (Instr.sliceAt t vx none (some vy) none).run P w = .ok v w) : (execOp ρ o).run P w = .ok (.value v) w := by
  unfold execOp
  simp only [ho, hx, hy, Option.map_some, Option.map_none, Sem.run_bind, hr, Result.andThen_ok, Sem.run_pure]
theorem run_copy_op {o : Oper} {ρ : Operand → Value} {w w' : World} {s x : Operand} {t tn : TypeId} {vs vx v' : Value} (ho : o.op = .call { callee := .builtin .copy, args := #[s, x], argTypes := #[t, tn] }) (hs : ρ s = vs) (hx : ρ x = vx)
    (hr : (Builtin.copy_ #[t, tn] o.type #[vs, vx]).run P w = .ok v' w') : (execOp ρ o).run P w = .ok (.value v') w' := by
  unfold execOp
  simp only [ho, resolve, invoke, builtin, Sem.run_bind, Sem.run_pure, Result.andThen_ok, List.map_toArray, List.map_cons, List.map_nil, hs, hx, hr]
end

/-- What a slot holds: just this, or what is said of it. -/
def pN (tab : List (Option Value)) (Z : Nat → Value → World → Prop) (i : Nat) (v : Value) (W : World) : Prop := match tab.getD i none with | some u => v = u | none => Z i v W
theorem pN_keep {tab : List (Option Value)} {Z : Nat → Value → World → Prop} (hZ : ∀ i v w w', Below w.heap.size w w' → Z i v w → Z i v w') (i : Nat) (v : Value) (w w' : World) (hb : Below w.heap.size w w') (h : pN tab Z i v w) : pN tab Z i v w' := by
  unfold pN at *
  split at h
  · exact h
  · exact hZ _ _ _ _ hb h

theorem at_pc0 (g q : Nat) (w : World) : (Instr.fieldAt 35 (.pointer (some ⟨g, q, none⟩)) 0).run Try.prog w = .ok (.pointer (some ⟨g, q, none⟩)) w := by go_simp
theorem at_pc1 (g q : Nat) (w : World) : (Instr.fieldAt 35 (.pointer (some ⟨g, q, none⟩)) 1).run Try.prog w = .ok (.pointer (some ⟨g, q + 1, none⟩)) w := by go_simp
theorem at_sent0 (g q : Nat) (w : World) : (Instr.fieldAt 52 (.pointer (some ⟨g, q, none⟩)) 0).run Try.prog w = .ok (.pointer (some ⟨g, q, none⟩)) w := by go_simp
theorem at_sent1 (g q : Nat) (w : World) : (Instr.fieldAt 52 (.pointer (some ⟨g, q, none⟩)) 1).run Try.prog w = .ok (.pointer (some ⟨g, q + 2, none⟩)) w := by go_simp
theorem at_net0 (g q : Nat) (w : World) : (Instr.fieldAt 49 (.pointer (some ⟨g, q, none⟩)) 0).run Try.prog w = .ok (.pointer (some ⟨g, q, none⟩)) w := by go_simp
theorem at_row (g n c k : Nat) (h : k < n) (w : World) : (Instr.indexAt 47 (.slice (some ⟨g, 0, none⟩) n c) (.int .i64 k)).run Try.prog w = .ok (.pointer (some ⟨g, k * 3, none⟩)) w := by
  have h2 : (k : Int) < n := by omega
  go_simp
theorem build_pc (t : Int) (A : Option Addr) (n c : Nat) (w : World) : (Instr.build 35 #[(0, .int .i64 t), (1, .slice A n c)]).run Try.prog w = .ok (.agg #[.int .i64 t, .slice A n c]) w := by go_simp
theorem build_sent (t : Int) (A : Option Addr) (n c : Nat) (q : Bool) (w : World) : (Instr.build 52 #[(0, .agg #[.int .i64 t, .slice A n c]), (1, .bool q)]).run Try.prog w = .ok (.agg #[.int .i64 t, .slice A n c, .bool q]) w := by go_simp
theorem bs_sent (t : Int) (A : Option Addr) (n c : Nat) (q : Bool) (w : World) : (Instr.buildSlice 47 1 #[(0, .agg #[.int .i64 t, .slice A n c, .bool q])]).run Try.prog w = .ok (.slice (some ⟨w.heap.size, 0, none⟩) 1 1) (w.alloc (.cells #[.int .i64 t, .slice A n c, .bool q] 52)) := by go_simp
theorem sizePc : (Try.prog.info? 35).map (·.size) = some 2 := by kernel_rfl
theorem sizeSent : (Try.prog.info? 52).map (·.size) = some 3 := by kernel_rfl
theorem sizeRow : (Try.prog.info? 47).map (·.size) = some 1 := by kernel_rfl
theorem infoSent : (Try.prog.info? 52).map (fun i => (i.zero, i.size, i.bytes)) = some (some (.agg #[.int .i64 0, .slice none 0 0, .bool false]), 3, 40) := by kernel_rfl

/-- What a function returns whose one result is a struct that has a place in memory. -/
theorem ret_cell1 {P : Program} {fn : Func} {p : Tmp} {ty : TypeId} (h : fn.results = #[.cell p ty]) (tmps : Array Value) (w : World) (g : Nat) (t : TypeId) (cs : Array Value) (d : TypeDesc)
    (hp : tmps.getD p undef = .pointer (some ⟨g, 0, none⟩)) (hg : Blk w g t cs)
    (hu : P.underlying ty = some d) (hd : (match d with | .struct _ | .array _ _ => true | _ => false) = true) (hi : (P.info? ty).map (·.size) = some cs.size) :
    (results fn tmps).run P w = .ok (.agg cs) w := results_cell_row h tmps w g t cs (0, 0) d hp hg hu hd hi
/-- What a function returns whose first result is a struct that has a place in memory, the second a temporary. -/
theorem ret_cell {P : Program} {fn : Func} {p u : Tmp} {ty : TypeId} (h : fn.results = #[.cell p ty, .tmp u]) (tmps : Array Value) (w : World) (g : Nat) (t : TypeId) (cs : Array Value) (d : TypeDesc) (v : Value)
    (hp : tmps.getD p undef = .pointer (some ⟨g, 0, none⟩)) (hg : Blk w g t cs)
    (hu : P.underlying ty = some d) (hd : (match d with | .struct _ | .array _ _ => true | _ => false) = true) (hi : (P.info? ty).map (·.size) = some cs.size) (hv : tmps.getD u undef = v) :
    (results fn tmps).run P w = .ok (.tuple #[.agg cs, v]) w := by
  rw [results_cell_tmp h, hp, hv]
  simp [asAddr, Result.andThen, run_loadVar_row w g t ty cs (0, 0) d hg hu hd hi]
theorem set2_blk {w : World} {g : Nat} {t : TypeId} {a b x y : Value} (h : Blk w g t #[a, b]) : Blk (w.setCells g 0 [x, y]) g t #[x, y] := by
  simpa [World.setCells] using (h.set_ 0 x).set_ 1 y
theorem heap_setCells_ne (w : World) (g o : Nat) (vs : List Value) {k : Nat} (h : k ≠ g) : (w.setCells g o vs).heap[k]? = w.heap[k]? := by
  induction vs generalizing o w with
  | nil => rfl
  | cons u r ih => exact (ih _ _).trans (Below.heap_setCell w ⟨g, o, none⟩ u k h)
theorem But.setCells (w : World) (g o : Nat) (vs : List Value) : But g w (w.setCells g o vs) := by
  induction vs generalizing o w with
  | nil => exact But.refl _ _
  | cons u r ih => exact (But.setCell w g o u).trans (ih _ _)

end Go.Proofs.Ytoicncmlmhljmaa
