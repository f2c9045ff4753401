/-
  Slices of the call's own, and their blocks; operations of a region that draws its order, one by one. Conditions: none.
-/
import Derived.Test.YtejljikikhecnaaGreatNSb
import Derived.Deep.MidRow
namespace Go.Proofs.YtejljikikhecnaaGreat.Ot
open Go.RowKit

section
variable {R R' g k : Nat} {e t t' : TypeId} {w w' : World} {v : Value} {n : Nat} {xs : List Value} {cs cs' : Array Value}
theorem own_blk (h : w.ownsRow R e k v n xs) {g : Nat} (hg : v.ownBlock = some g) : R ≤ g ∧ ∃ cs, Blk w g e cs := by
  rcases h.2 with ⟨rfl, _⟩ | ⟨g', cap, cur, rfl, hb, hx, _⟩
  · cases hg
  · cases hg
    exact ⟨hb, cur, hx⟩
theorem own_keep (h : w.ownsRow R e k v n xs) (hk : ∀ g, v.ownBlock = some g → w'.heap[g]? = w.heap[g]?) : w'.ownsRow R e k v n xs := by
  refine ⟨h.1, h.2.elim Or.inl fun ⟨g, cap, cur, hv, hg, hx, r⟩ => Or.inr ⟨g, cap, cur, hv, hg, ?_, r⟩⟩
  rw [hk g (by rw [hv]; rfl)]
  exact hx
theorem own_base (h : w.ownsRow R e k v n xs) (hR : R' ≤ R) : w.ownsRow R' e k v n xs :=
  ⟨h.1, h.2.elim Or.inl fun ⟨g, cap, cur, hv, hg, r⟩ => Or.inr ⟨g, cap, cur, hv, Nat.le_trans hR hg, r⟩⟩
theorem blk_ne (h : Blk w g t cs) (h' : Blk w k t' cs') (hn : t ≠ t') : g ≠ k := by
  rintro rfl
  unfold Blk at h h'
  rw [h] at h'
  simp only [Option.some.injEq, Obj.cells.injEq] at h'
  exact hn h'.2.1
end

section
variable {P : Program}
theorem run_assign_op {o : Oper} {ρ : Operand → Value} {w : World} {x : Operand} {v : Value} (ho : o.op = .assign x) (hx : ρ x = v) : (execOp ρ o).run P w = .ok (.value v) w := by
  unfold execOp
  simp only [ho, Sem.run_pure, hx]
theorem run_fieldAddr_any {o : Oper} {ρ : Operand → Value} {w : World} {ty : TypeId} {x : Operand} {ad : Addr} {k : Nat} {v : Value} (ho : o.op = .fieldAddr ty x k) (hx : ρ x = .pointer (some ad))
    (hr : (Instr.fieldAt ty (.pointer (some ad)) k).run P w = .ok v w) : (execOp ρ o).run P w = .ok (.value v) w := by
  unfold execOp
  simp [ho, hx, hr]
theorem run_nilCheck_op {o : Oper} {ρ : Operand → Value} {w : World} {x : Operand} {ad : Addr} (ho : o.op = .nilCheck x) (hx : ρ x = .pointer (some ad)) : (execOp ρ o).run P w = .ok (.value (.pointer (some ad))) w := by
  unfold execOp
  simp [ho, hx]
/-- A load of one cell. -/
theorem run_load1_op {o : Oper} {ρ : Operand → Value} {w : World} {ty : TypeId} {x : Operand} {ad : Addr} {v : Value} {d : TypeDesc} (ho : o.op = .load ty x) (hx : ρ x = .pointer (some ad)) (hu : P.underlying ty = some d) (hd : d.isRow = false)
    (hc : w.cell? ad = some v) : (execOp ρ o).run P w = .ok (.value v) w := by
  unfold execOp
  have ha : (isAgg ty).run P w = .ok false w := by
    unfold isAgg
    rw [Sem.run_bind, run_underlying hu w]
    cases d <;> first | rfl | (simp [TypeDesc.isRow] at hd)
  simp [ho, hx, Instr.loadAt, Instr.sureAddr, loadVar, ha, hc, go_sem]
theorem run_loadmid_op {o : Oper} {ρ : Operand → Value} {w : World} {ty : TypeId} {x : Operand} {b q : Nat} {cs : List Value} {d : TypeDesc} (ho : o.op = .load ty x) (hx : ρ x = .pointer (some ⟨b, q, none⟩)) (hc : w.rangeAt b q cs)
    (hu : P.underlying ty = some d) (hd : d.isRow = true) (hi : (P.info? ty).map (·.size) = some cs.length) : (execOp ρ o).run P w = .ok (.value (.agg cs.toArray)) w := by
  unfold execOp
  simp only [ho, hx, Instr.loadAt, Instr.sureAddr, Sem.run_bind, Sem.run_pure, Result.andThen_ok, run_loadVar_mid w b q ty cs d hc hu hd hi]
theorem run_storemid_op {o : Oper} {ρ : Operand → Value} {w : World} {ty : TypeId} {x y : Operand} {b q : Nat} {cells : Array Value} (ho : o.op = .store ty x y) (hx : ρ x = .pointer (some ⟨b, q, none⟩)) (hy : ρ y = .agg cells)
    (ht : w.there b q cells.size) (hi : (P.info? ty).map (·.size) = some cells.size) (h1 : cells.all (·.oneCell') = true) : (execOp ρ o).run P w = .ok .skip (w.setCells b q cells.toList) := by
  unfold execOp
  simp only [ho, hx, hy, Instr.storeAt, Instr.sureAddr, Sem.run_bind, Sem.run_pure, Result.andThen_ok, run_storeVar_mid w b q ty cells ht hi h1]
theorem run_store1_op {o : Oper} {ρ : Operand → Value} {w : World} {ty : TypeId} {x y : Operand} {ad : Addr} {u v : Value} (ho : o.op = .store ty x y) (hx : ρ x = .pointer (some ad)) (hy : ρ y = v) (hv : v.oneCell' = true) (hcs : v.cells = #[v]) (hi : (P.info? ty).map (·.size) = some 1) (hc : w.cell? ad = some u) (hf : w.frozen? ad = false) :
    (execOp ρ o).run P w = .ok .skip (w.setCell ad v) := by
  cases hq : P.info? ty with
  | none => simp [hq] at hi
  | some i =>
    have hs : i.size = 1 := by simpa [hq] using hi
    have h2 : (storeVar ty ad v).run P w = .ok () (w.setCell ad v) := by
      simp [storeVar, hcs, sizeOf, typeInfo, hq, hs, storeCells, run_store P _ _ v _ hv, Addr.add_zero', hc, hf, Result.andThen]
    unfold execOp
    simp only [ho, hx, hy, Instr.storeAt, Instr.sureAddr, Sem.run_bind, Sem.run_pure, Result.andThen_ok, h2]
theorem run_build_op {o : Oper} {ρ : Operand → Value} {w : World} {ty : TypeId} {xs : Array (Nat × Operand)} {vs : Array (Nat × Value)} {v : Value} (ho : o.op = .build ty xs) (hx : xs.map (fun (i, x) => (i, ρ x)) = vs) (hr : (Instr.build ty vs).run P w = .ok v w) : (execOp ρ o).run P w = .ok (.value v) w := by
  unfold execOp
  simp only [ho]
  rw [show (xs.map fun x => match x with | (i, x) => (i, ρ x)) = vs from hx]
  simp [hr]
theorem run_buildSlice_op {o : Oper} {ρ : Operand → Value} {w w' : World} {t : TypeId} {len : Nat} {xs : Array (Nat × Operand)} {vs : Array (Nat × Value)} {v : Value} (ho : o.op = .buildSlice t len xs) (hx : xs.map (fun (i, x) => (i, ρ x)) = vs) (hr : (Instr.buildSlice t len vs).run P w = .ok v w') : (execOp ρ o).run P w = .ok (.value v) w' := by
  unfold execOp
  simp only [ho]
  rw [show (xs.map fun x => match x with | (i, x) => (i, ρ x)) = vs from hx]
  simp [hr]
theorem run_indexAddr_op {o : Oper} {ρ : Operand → Value} {w : World} {t : TypeId} {x y : Operand} {vx vy v : Value} (ho : o.op = .indexAddr t x y) (hx : ρ x = vx) (hy : ρ y = vy) (hr : (Instr.indexAt t vx vy).run P w = .ok v w) : (execOp ρ o).run P w = .ok (.value v) w := by
  unfold execOp
  simp only [ho, hx, hy, Sem.run_bind, hr, Result.andThen_ok, Sem.run_pure]
theorem run_sllo_op {o : Oper} {ρ : Operand → Value} {w : World} {t : TypeId} {x y : Operand} {vx vy v : Value} (ho : o.op = .slice t x (some y) none none) (hx : ρ x = vx) (hy : ρ y = vy) (hr : (Instr.sliceAt t vx (some vy) none none).run P w = .ok v w) : (execOp ρ o).run P w = .ok (.value v) w := by
  unfold execOp
  simp only [ho, hx, hy, Option.map_some, Option.map_none, Sem.run_bind, hr, Result.andThen_ok, Sem.run_pure]
theorem run_slhi_op {o : Oper} {ρ : Operand → Value} {w : World} {t : TypeId} {x y : Operand} {vx vy v : Value} (ho : o.op = .slice t x none (some y) none) (hx : ρ x = vx) (hy : ρ y = vy) (hr : (Instr.sliceAt t vx none (some vy) none).run P w = .ok v w) : (execOp ρ o).run P w = .ok (.value v) w := by
  unfold execOp
  simp only [ho, hx, hy, Option.map_some, Option.map_none, Sem.run_bind, hr, Result.andThen_ok, Sem.run_pure]
theorem run_copy_op {o : Oper} {ρ : Operand → Value} {w w' : World} {s x : Operand} {t tn : TypeId} {vs vx v' : Value} (ho : o.op = .call { callee := .builtin .copy, args := #[s, x], argTypes := #[t, tn] }) (hs : ρ s = vs) (hx : ρ x = vx)
    (hr : (Builtin.copy_ #[t, tn] o.type #[vs, vx]).run P w = .ok v' w') : (execOp ρ o).run P w = .ok (.value v') w' := by
  unfold execOp
  simp only [ho, resolve, invoke, builtin, Sem.run_bind, Sem.run_pure, Result.andThen_ok, List.map_toArray, List.map_cons, List.map_nil, hs, hx, hr]
end

/-- What a slot holds: just this, or what is said of it. -/
def pN (tab : List (Option Value)) (Z : Nat → Value → World → Prop) (i : Nat) (v : Value) (W : World) : Prop := match tab.getD i none with | some u => v = u | none => Z i v W
theorem pN_keep {tab : List (Option Value)} {Z : Nat → Value → World → Prop} (hZ : ∀ i v w w', Below w.heap.size w w' → Z i v w → Z i v w') (i : Nat) (v : Value) (w w' : World) (hb : Below w.heap.size w w') (h : pN tab Z i v w) : pN tab Z i v w' := by
  unfold pN at *
  split at h
  · exact h
  · exact hZ _ _ _ _ hb h


theorem heap_setCells_ne (w : World) (g o : Nat) (vs : List Value) {k : Nat} (h : k ≠ g) : (w.setCells g o vs).heap[k]? = w.heap[k]? := by
  induction vs generalizing o w with
  | nil => rfl
  | cons u r ih => exact (ih _ _).trans (Below.heap_setCell w ⟨g, o, none⟩ u k h)
/-- append onto a slice of the call's own; the source's cells are one each. -/
theorem run_append_K1 {P : Program} {α : Type} {enc : α → List Value} {k : Nat} (hk : ∀ x, (enc x).length = k) (hk0 : 0 < k) (w : World) (base : Nat) (t ty e : TypeId) (i : TypeInfo) (z : Value) (bytes : Nat) (ht : P.underlying t = some (.slice e)) (hi : P.info? e = some i) (hz : i.zero = some z)
    (hsize : i.size = k) (hby : i.bytes = bytes) (hzs : z.cells.size = k) (v : Value) (xs : List α) (hown : OwnK enc base e k w v xs)
    (v2 : Value) (l : List α) (hl : SlK enc k w v2 l) (h1 : ∀ a ∈ l, ∀ u ∈ enc a, u.oneCell' = true)
    (hbytes : (xs.length + l.length) * bytes ≤ 140737488355328) (hnm : xs.length + l.length ≤ 140737488355328) (hbase : base ≤ w.heap.size) :
    ∃ v' w', (Builtin.append_ #[t, t] ty #[v, v2]).run P w = .ok v' w' ∧ OwnK enc base e k w' v' (xs ++ l) ∧ w.grownBy w' v.ownBlock := by
  obtain ⟨A, c, rfl, hlc, hx⟩ := hl
  have h63 : xs.length + l.length ≤ maxLen := by unfold maxLen; omega
  unfold OwnK at hown ⊢
  rw [List.flatMap_append, List.length_append]
  have one : ∀ u ∈ l.flatMap enc, u.oneCell' = true := by intro u hu; obtain ⟨x, hxl, hu⟩ := List.mem_flatMap.1 hu; exact h1 x hxl u hu
  by_cases hn : l = []
  · subst hn
    rcases A with _ | ad
    · refine ⟨v, w, ?_, by simpa using hown, World.grownBy.refl w _⟩
      rcases hown.2 with ⟨hv, h0⟩ | ⟨g, cap, cur, hv, _, _, hnc, _⟩
      · rw [hv]; simp [Builtin.append_, run_underlying ht, sizeOf, typeInfo, hi, Builtin.lenOf, Builtin.firstCells]
      · rw [hv]; simp [Builtin.append_, run_underlying ht, sizeOf, typeInfo, hi, Builtin.lenOf, Builtin.firstCells, hnc, storeCells]
    · obtain ⟨v', w', hr, h2, h3, _⟩ := run_append_own (P := P) w base t ty e i z k bytes ht hi hz hsize hby hzs hk0 v xs.length (xs.flatMap enc) hown ad 0 c [] (by simp) (by simp) (by simp) (by simpa using h63) (by simpa using hbytes) hbase
      exact ⟨v', w', hr, by simpa using h2, h3⟩
  · obtain ⟨b, o, rfl, hb, hcell⟩ := hx hn
    obtain ⟨v', w', hr, h2, h3, _⟩ := run_append_own (P := P) w base t ty e i z k bytes ht hi hz hsize hby hzs hk0 v xs.length (xs.flatMap enc) hown ⟨b, o, none⟩ l.length c (l.flatMap enc) (flat_length hk l)
      (flat_cells hk hk0 hcell) one h63 hbytes hbase
    exact ⟨v', w', hr, h2, h3⟩

end Go.Proofs.YtejljikikhecnaaGreat.Ot
