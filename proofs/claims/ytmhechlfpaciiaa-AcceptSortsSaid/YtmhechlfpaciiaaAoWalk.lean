/-
  What the walks of AcceptOrder and AcceptSorts share. Conditions: lengths.
-/
import Derived.Test.YtmhechlfpaciiaaJAoOps
import Derived.Deep.DeepCutAuto
namespace Go.Proofs.Ytmhechlfpaciiaa
open Go.RowKit Go.MapKept Go.Sort

/-- What stands ahead of the outer loop's round i: what is newer than G has turned alone, and the sums of the first i events are there. -/
structure OrdI (w2 : World) (G N i : Nat) (d : Array Ev) (ss : List Int) (W : World) : Prop where
  below : Below G w2 W
  row : OwnK encN G 3 1 W (.slice (some ⟨G, 0, none⟩) N N) ss
  len : ss.length = N
  done : ∀ k, k < i → ss[k]? = some (sumN d[k]!.p 16)
  rest : ∀ k, i ≤ k → k < N → ss[k]? = some 0
theorem OrdI.keep {w2 W W' : World} {G N i : Nat} {d : Array Ev} {ss : List Int} (h : OrdI w2 G N i d ss W) (hG : G ≤ W.heap.size) (hb : Below W.heap.size W W') : OrdI w2 G N i d ss W' :=
  ⟨h.below.trans (hb.mono hG), h.row.keep hb, h.len, h.done, h.rest⟩
/-- The same within the round of event i, whose sum is s as yet. -/
structure OrdK (w2 : World) (G N i : Nat) (d : Array Ev) (ss : List Int) (s : Int) (W : World) : Prop where
  below : Below G w2 W
  row : OwnK encN G 3 1 W (.slice (some ⟨G, 0, none⟩) N N) ss
  len : ss.length = N
  done : ∀ k, k < i → ss[k]? = some (sumN d[k]!.p 16)
  now : ss[i]? = some s
  rest : ∀ k, i < k → k < N → ss[k]? = some 0
theorem OrdK.keep {w2 W W' : World} {G N i : Nat} {d : Array Ev} {ss : List Int} {s : Int} (h : OrdK w2 G N i d ss s W) (hG : G ≤ W.heap.size) (hb : Below W.heap.size W W') : OrdK w2 G N i d ss s W' :=
  ⟨h.below.trans (hb.mono hG), h.row.keep hb, h.len, h.done, h.now, h.rest⟩
theorem OrdI.enter {w2 W : World} {G N i : Nat} {d : Array Ev} {ss : List Int} (h : OrdI w2 G N i d ss W) (hi : i < N) : OrdK w2 G N i d ss 0 W :=
  ⟨h.below, h.row, h.len, h.done, h.rest i (Nat.le_refl _) hi, fun k h1 h2 => h.rest k (Nat.le_of_lt h1) h2⟩
theorem OrdK.leave {w2 W : World} {G N i : Nat} {d : Array Ev} {ss : List Int} (h : OrdK w2 G N i d ss (sumN d[i]!.p 16) W) : OrdI w2 G N (i + 1) d ss W :=
  ⟨h.below, h.row, h.len, fun k hk => by
    by_cases e : k = i
    · subst e; exact h.now
    · exact h.done k (by omega), fun k h1 h2 => h.rest k (by omega) h2⟩
theorem OrdK.cell {w2 W : World} {G N i : Nat} {d : Array Ev} {ss : List Int} {s : Int} (h : OrdK w2 G N i d ss s W) : W.cell? ⟨G, i, none⟩ = some (.int .i64 s) := by
  obtain ⟨g2, hA, _, _, hr⟩ := h.row.at_ encN_len h.now
  injection hA with hA
  injection hA with hA
  subst hA
  have := hr 0 _ rfl
  rwa [Nat.add_zero, Nat.mul_one] at this
theorem below_sc {B : Nat} {w W : World} (h : Below B w W) (g o : Nat) (vs : List Value) (hg : B ≤ g) : Below B w (W.setCells g o vs) :=
  ⟨(os_sc g vs o W).trans h.os, (tape_sc g vs o W).trans h.tape, (out_sc g vs o W).trans h.output, by rw [size_sc]; exact h.size, fun k hk => (heap_sc g k (by omega) vs o W).trans (h.block k hk)⟩
theorem OrdK.store {w2 W : World} {G N i : Nat} {d : Array Ev} {ss : List Int} {s : Int} (h : OrdK w2 G N i d ss s W) (hi : i < N) (s' : Int) : W.there G i 1 ∧ OrdK w2 G N i d (ss.set i s') s' (W.setCells G i (encN s')) := by
  obtain ⟨h1, h2, _⟩ := h.row.put_ encN_len (by decide) (j := i) (by rw [h.len]; exact hi) s'
  rw [Nat.mul_one] at h1 h2
  refine ⟨h1, below_sc h.below G i _ (Nat.le_refl _), h2, by rw [List.length_set]; exact h.len, fun k hk => ?_, ?_, fun k h3 h4 => ?_⟩
  · rw [List.getElem?_set_ne (by omega)]; exact h.done k hk
  · rw [List.getElem?_set_self (by rw [h.len]; exact hi)]
  · rw [List.getElem?_set_ne (by omega)]; exact h.rest k h3 h4
theorem run_minI_op {P : Program} {o : Oper} {ρ : Operand → Value} {w : World} {x y : Operand} {t t' : TypeId} {a b : Int} (ho : o.op = .call { callee := .builtin .min, args := #[x, y], argTypes := #[t, t'] }) (hx : ρ x = .int .i64 a) (hy : ρ y = .int .i64 b) : (execOp ρ o).run P w = .ok (.value (.int .i64 (min a b))) w := by
  unfold execOp
  have hr := Lib.run_min_ints (P := P) w #[t, t'] o.type .i64 .i64 a b
  simp only [ho, resolve, invoke, builtin, Sem.run_bind, Sem.run_pure, Result.andThen_ok, List.map_toArray, List.map_cons, List.map_nil, hx, hy, hr]
theorem run_storeI_op {P : Program} {o : Oper} {ρ : Operand → Value} {w : World} {ty : TypeId} {x y : Operand} {g k : Nat} {v : Int} (ho : o.op = .store ty x y) (hx : ρ x = .pointer (some ⟨g, k, none⟩)) (hy : ρ y = .int .i64 v) (hi : (P.info? ty).map (·.size) = some 1) (ht : w.there g k 1) :
    (execOp ρ o).run P w = .ok .skip (w.setCells g k (encN v)) := by
  obtain ⟨h1, h2⟩ := ht 0 (by decide)
  rw [Nat.add_zero] at h1 h2
  obtain ⟨u, hc⟩ := Option.isSome_iff_exists.1 h1
  cases hq : P.info? ty with
  | none => simp [hq] at hi
  | some i =>
    have hs : i.size = 1 := by simpa [hq] using hi
    have h2' : (storeVar ty ⟨g, k, none⟩ (.int .i64 v)).run P w = .ok () (w.setCell ⟨g, k, none⟩ (.int .i64 v)) := by
      have hcs : (Value.int .i64 v).cells = #[.int .i64 v] := rfl
      simp [storeVar, hcs, sizeOf, typeInfo, hq, hs, storeCells, run_store P _ _ (.int .i64 v) _ rfl, Addr.add_zero', hc, h2, Result.andThen]
    unfold execOp
    simp only [ho, hx, hy, Instr.storeAt, Instr.sureAddr, Sem.run_bind, Sem.run_pure, Result.andThen_ok, h2']
    rfl
theorem addI (a b c : Int) (e : a + b = c) (h1 : 0 ≤ c) (h2 : c ≤ 9223372036854775807) (w : World) : (binOp .add 3 (.int .i64 a) (.int .i64 b)).run Try.prog w = .ok (.int .i64 c) w := by
  subst e
  have hi := IntWalk.i64_in (a + b) (by omega)
  go_simp
theorem subI (a b c : Int) (e : a - b = c) (h1 : 0 ≤ c) (h2 : c ≤ 9223372036854775807) (w : World) : (binOp .sub 3 (.int .i64 a) (.int .i64 b)).run Try.prog w = .ok (.int .i64 c) w := by
  subst e
  have hi := IntWalk.i64_in (a - b) (by omega)
  go_simp
theorem sumN_idle {f : Nat → Int} {k : Nat} (h : ¬ 0 < f k) : sumN f (k + 1) = sumN f k := by
  have h1 := sumN_in f k
  show sumN f k + min (max (f k) 0) (4611686018427387904 - sumN f k) = sumN f k
  omega
theorem sumN_more {f : Nat → Int} {k : Nat} (h : 0 < f k) : sumN f (k + 1) = min (sumN f k + min (f k) (4611686018427387904 - sumN f k)) 4611686018427387904 := by
  have h1 := sumN_in f k
  show sumN f k + min (max (f k) 0) (4611686018427387904 - sumN f k) = _
  omega
theorem few_is9o (l : List Ev) (A : Option Addr) (N c : Nat) (hN : l.length = N) (hN2 : N ≤ 4611686018427387903) (hf : ∀ e ∈ l, Fit e) (b : Bool) (h : few9B l = b) (w : World) (hs : SlK encE 27 w (.slice A N c) l) :
    Calls Try.prog 27 #[.slice A N c] w (Gives w (.bool b)) := by
  have := few9_any l A N c w hs hN hN2 hf; rwa [h] at this
theorem toList_at {d : Array Ev} {N i : Nat} (hN : d.size = N) (hi : i < N) : d.toList[i]? = some d[i]! := by
  have hi2 : i < d.size := by omega
  rw [Array.getElem?_toList, Array.getElem?_eq_getElem hi2, getElem!_pos d i hi2]
theorem at_evd (g q : Nat) (w : World) : (Instr.fieldAt 39 (.pointer (some ⟨g, q, none⟩)) 0).run Try.prog w = .ok (.pointer (some ⟨g, q, none⟩)) w := by go_simp
theorem at_dd0 (g q : Nat) (w : World) : (Instr.fieldAt 33 (.pointer (some ⟨g, q, none⟩)) 0).run Try.prog w = .ok (.pointer (some ⟨g, q, none⟩)) w := by go_simp
theorem at_dd1 (g : Nat) (w : World) : (Instr.fieldAt 33 (.pointer (some ⟨g, 0, none⟩)) 1).run Try.prog w = .ok (.pointer (some ⟨g, 1, none⟩)) w := by go_simp
theorem infoDt : (Try.prog.info? 33).map (fun i => (i.zero, i.size)) = some (some (.agg #[.int .i64 0, .int .i64 0]), 2) := by kernel_rfl
theorem sizeDtO : (Try.prog.info? 33).map (·.size) = some 2 := by kernel_rfl
def dtC (e : Ev) : Array Value := #[.int .i64 e.r, .int .i64 e.c]
theorem dtC_one (e : Ev) : ((dtC e).all fun x => x.oneCell') = true := by kernel_rfl
theorem run_allocD_op {o : Oper} {ρ : Operand → Value} {w : World} (ho : o.op = .alloc 33) : (execOp ρ o).run Try.prog w = .ok (.value (.pointer (some ⟨w.heap.size, 0, none⟩))) (w.alloc (.cells #[.int .i64 0, .int .i64 0] 33)) := by
  have hz := (zero_of_info infoDt).1
  unfold execOp
  simp only [ho]
  go_simp
theorem eq_isO (a b : Int) (q : Bool) (h : (a == b) = q) (w : World) : (binOp .eql 3 (.int .i64 a) (.int .i64 b)).run Try.prog w = .ok (.bool q) w := by
  subst h; go_simp
theorem dt_range {w : World} {g o : Nat} {e : Ev} (h : w.rangeAt g o (encE e)) : w.rangeAt g o [.int .i64 e.r, .int .i64 e.c] := by
  intro k v hk
  match k, hk with
  | 0, hk => exact h 0 v hk
  | 1, hk => exact h 1 v hk
  | k + 2, hk => simp at hk
theorem OrdI.cell {w2 W : World} {G N i : Nat} {d : Array Ev} {ss : List Int} (h : OrdI w2 G N i d ss W) {k : Nat} {s : Int} (hk : ss[k]? = some s) : W.cell? ⟨G, k, none⟩ = some (.int .i64 s) := by
  obtain ⟨g2, hA, _, _, hr⟩ := h.row.at_ encN_len hk
  injection hA with hA
  injection hA with hA
  subst hA
  have := hr 0 _ rfl
  rwa [Nat.add_zero, Nat.mul_one] at this
theorem range_keep {w W : World} {g o : Nat} {cs : List Value} (h : w.rangeAt g o cs) (hg : g < w.heap.size) (hb : Below w.heap.size w W) : W.rangeAt g o cs := fun k v hk => (World.cell?_of_block (hb.block g hg)).trans (h k v hk)

end Go.Proofs.Ytmhechlfpaciiaa
