/-
  Ranging over a function whose variable is boxed; over a map, inside a fence. maps.Keys at the store's map, and its iterator. slices.AppendSeq, Collect at elements, against whatever iterator. slices.SortedFunc over maps.Keys: the store's elements, in order. (*store.Store).All: the contract, by a walk. Conditions: lengths.
-/
import Derived.Test.YtejljikikhecnaaGreatNSf
import Derived.RangeFuncFrom
import Derived.RangeFuncGives
import Derived.RangeFuncBox
import Derived.Shelf.AbstractIn
import Derived.Sort.MapsRangeIn
import Derived.OwnWalkIn
import Derived.TacticsInMore
import Derived.RegionIn
import Derived.LoopNIn
import Derived.LoopIn
namespace Go.Proofs.YtejljikikhecnaaGreat
open Go.RowKit Go.MapKept

section
variable {F : Fence} {n : Nat} {P : Program}
/-- A range over a function: each round boxes its variable; it never stops early. -/
theorem wpIn_rangeFunc_box {α : Type} {g : Operand} {ps : Array Tmp} {assign body : Code} {Q : Exit → Act → World → Prop} {a : Act} {w : World}
    (hro : F.round = none) (h1 : 1 ≤ n) {gf : Nat} {lb : Array Value} (hg : a.eval g = .func (.func gf) #[] lb) (hFg : F.fn gf) (eg : ∀ args w, (callFunc gf args).run P w = .ok (.enter gf args) w)
    {enc : α → Value} {S : List α → Prop} {N : Nat} {w0 : World} (hseq : SeqGives F (n - 1) P gf lb enc S N w0) (hb0 : Below w0.heap.size w0 w) (hps : ps.size = 1)
    (I : List α → World → Prop) (hI : OwnFrom w.heap.size I) (h0 : I [] w) (ob : α → Obj) (a₁ : α → Nat → Act)
    (hassign : ∀ (l : Nat) (x : α) (W : World) (K : Act → World → Prop), K (a₁ x W.heap.size) (W.alloc (ob x)) →
      assign.wpIn (F.inRound l) (n - 1 - 1) P (Exit.then K (fun _ _ _ => False)) { tmps := (ps.zip #[enc x]).foldl (fun t (p, v) => t.setIfInBounds p v) a.tmps, defers := [] } W)
    (hbody : ∀ (l : Nat) (pre : List α) (x : α) (W : World) (bx : Nat), I pre W → W.heap[bx]? = some (ob x) → w.heap.size ≤ bx → pre.length < N → body.wpIn (F.inRound l) (n - 1 - 1) P (fun e _ W' => e = .normal ∧ KeepsOthers W W' ∧ I (pre ++ [x]) W') (a₁ x bx) W)
    (hdone : ∀ (D : Nat) (xs : List α) (W : World), w.heap.size ≤ D → S xs → I xs W → W.heap[D]? = some (.deferred (some [])) → Q .normal { a with defers := { target := .collected D, args := #[] } :: a.defers } W) :
    (Code.rangeFunc g ps assign body).wpIn F n P Q a w := by
  refine wpIn_rangeFunc ?_
  intro fn hfn
  rw [hro]
  obtain ⟨rec, hrec⟩ : ∃ rec : LoopState → Option Code → Loop, rec = fun st pe => { state := st, pending := pe, fn, tmps := a.tmps, params := ps, assign, body, defers := w.heap.size } := ⟨_, rfl⟩
  obtain ⟨W1, hW1⟩ : ∃ W1, (w.alloc (.deferred (some []))).alloc (.loop (rec .ready none)) = W1 := ⟨_, rfl⟩
  have hL1 : W1.heap[w.heap.size + 1]? = some (.loop (rec .ready none)) := by
    rw [← hW1]; have := World.alloc_heap_new (w.alloc (.deferred (some []))) (.loop (rec .ready none)); rwa [World.size_alloc] at this
  have hK1 : W1.heap[w.heap.size]? = some (.deferred (some [])) := by
    rw [← hW1]; exact (Below.heap_alloc _ _ _ (by simp)).trans (World.alloc_heap_new w _)
  have hI1 : I [] W1 := by rw [← hW1]; exact hI.alloc _ (hI.alloc _ h0)
  have hb1 : Below w0.heap.size w0 W1 := by
    rw [← hW1]; exact hb0.trans ((((Below.refl _ w).alloc (Nat.le_refl _) _).alloc (by simp) _).mono hb0.size)
  refine ⟨w.heap.size + 1, [{ target := .collected w.heap.size, args := #[] }], W1, { target := .fn (.func gf) lb, args := #[.func (.yield (w.heap.size + 1)) #[] #[]] }, W1, gf,
    #[.func (.yield (w.heap.size + 1)) #[] #[]] ++ lb, W1, ?_, ?_, ?_, ?_, fun _ => h1, ?_⟩
  · rw [← hW1, hrec]; exact run_enterLoop_outer _ _ _ _ _
  · simp only [resolve, hg]
    simp [go_sem]
  · intro f' hf'; simp [Target.leads] at hf'; subst hf'; exact hFg
  · simp [invoke, go_sem, eg]
  · have hnw : ∀ {A B : World} {row : Option Nat}, (∀ r, row = some r → W1.heap.size ≤ r ∧ ∃ o : Obj, A.heap[r]? = some o ∧ o.isWalk = true) → (∀ r, row = some r → w.heap.size ≤ r ∧ ∃ o : Obj, A.heap[r]? = some o ∧ o.isCells = false) :=
      fun hr r e => by obtain ⟨hB, o, ho, hw⟩ := hr r e; exact ⟨by rw [← hW1] at hB; simp at hB; omega, o, ho, Obj.not_cells_of_walk hw⟩
    refine (hseq (w.heap.size + 1)
      (fun pre W => I pre W ∧ W.heap[w.heap.size + 1]? = some (.loop (rec .ready none)) ∧ W.heap[w.heap.size]? = some (.deferred (some [])))
      W1 hb1
      (fun s A B row hs hg' hr => ⟨hI s A B row hs.1 hg' (hnw (B := B) hr), (grownBy_keeps hg' (fun r e => (hr r e).2) hs.2.1 rfl).trans hs.2.1, (grownBy_keeps hg' (fun r e => (hr r e).2) hs.2.2 rfl).trans hs.2.2⟩)
      ?_ ⟨hI1, hL1, hK1⟩).mono ?_
    · rintro pre x W ⟨hi, hl, hk⟩ hlen
      have hlt : w.heap.size + 1 < W.heap.size := (Array.getElem?_eq_some_iff.1 hl).1
      have hy := run_yield (P := P) (args := #[enc x]) hl (by rw [hrec]; exact hps.symm)
      rw [hrec] at hy
      have hlA : (W.alloc (ob x)).heap[w.heap.size + 1]? = some (.loop (rec .ready none)) := (Below.heap_alloc _ _ _ hlt).trans hl
      have hkA : (W.alloc (ob x)).heap[w.heap.size]? = some (.deferred (some [])) := (Below.heap_alloc _ _ _ (by omega)).trans hk
      have hxA : (W.alloc (ob x)).heap[W.heap.size]? = some (ob x) := World.alloc_heap_new W _
      have hltA : w.heap.size + 1 < (W.alloc (ob x)).heap.size := (Array.getElem?_eq_some_iff.1 hlA).1
      refine ⟨fn, _, assign, body, hy, roundIn_of_wpIn hfn (hassign _ x W _ ⟨_, run_beginRound hlA (by rw [hrec]), ?_⟩)⟩
      have hl2 : ((W.alloc (ob x)).putObj (w.heap.size + 1) (.loop { rec .ready none with state := .busy })).heap[w.heap.size + 1]? = some (.loop { rec .ready none with state := .busy }) := World.putObj_heap_same hltA
      have hk2 : ((W.alloc (ob x)).putObj (w.heap.size + 1) (.loop { rec .ready none with state := .busy })).heap[w.heap.size]? = some (.deferred (some [])) := (World.putObj_heap_other (by omega)).trans hkA
      have hx2 : ((W.alloc (ob x)).putObj (w.heap.size + 1) (.loop { rec .ready none with state := .busy })).heap[W.heap.size]? = some (ob x) := (World.putObj_heap_other (by omega)).trans hxA
      have hw2 : KeepsWalks W ((W.alloc (ob x)).putObj (w.heap.size + 1) (.loop { rec .ready none with state := .busy })) := (KeepsWalks.alloc W _).trans (KeepsWalks.putObj _ hlA rfl)
      refine wpIn_mono (hbody _ pre x _ W.heap.size (hI.putObj _ (hI.alloc _ hi) (by omega) hlA rfl) hx2 (by omega) hlen) ?_
      rintro e a3 W3 ⟨rfl, hk3, hi3⟩
      have hl3 := hk3.same _ _ hl2 rfl
      have hend := run_endRound (P := P) none hl3
      have hl4 : (W3.putObj (w.heap.size + 1) (.loop (rec .ready none))).heap[w.heap.size + 1]? = some (.loop (rec .ready none)) := World.putObj_heap_same (Array.getElem?_eq_some_iff.1 hl3).1
      have hk4 : (W3.putObj (w.heap.size + 1) (.loop (rec .ready none))).heap[w.heap.size]? = some (.deferred (some [])) := (World.putObj_heap_other (by omega)).trans (hk3.same _ _ hk2 rfl)
      have he : ({ { rec .ready none with state := .busy } with state := if (none : Option Code).isNone then .ready else .done, pending := none } : Loop) = rec .ready none := by rw [hrec]; rfl
      rw [he] at hend
      exact ⟨_, _, hend, rfl, ⟨hI.putObj _ hi3 (by omega) hl3 rfl, hl4, hk4⟩, (hw2.trans hk3.walks).trans (KeepsWalks.putObj _ hl3 rfl)⟩
    · rintro e W2 ⟨⟨v, rfl⟩, xs, hS, hi, hl, hk⟩
      exact ⟨none, _, by have := run_endLoop (P := P) hl (by rw [hrec]; simp); rw [hrec] at this; exact this, hdone _ xs _ (Nat.le_refl _) hS (hI.putObj _ hi (by omega) hl rfl) ((World.putObj_heap_other (by omega)).trans hk)⟩
end

section
variable {F : Fence} {n : Nat} {P : Program} {α β : Type} {eK : α → Value} {eU : β → Value} (w : World) {ops : Array Oper} {rest : List Oper} {o : Oper} {a : Act} {Q : Exit → Act → World → Prop}
theorem wpListIn_range_is (hg : o.guard = none) (m : Operand) (t k e : TypeId) (hop : o.op = Op.range t m) (ht : P.underlying t = some (.map k e)) (b : Nat) (L : List (α × β)) (hm : a.eval m = .map (some b)) (h : MapIs eK eU w b L)
    (hK : ∀ w', Ranging eK eU w' b w.heap.size L L → (∃ o, w' = w.alloc o) → wpListIn F n P ops Q rest (a.put o.dst (.pointer (some ⟨w.heap.size, 0, none⟩))) w') : wpListIn F n P ops Q (o :: rest) a w := by
  refine wpListIn_plain hg fun K' hK' => ?_
  obtain ⟨w', hrun, r1, r2⟩ := range_run h ht
  unfold Oper.wpIn
  refine ⟨?_, ?_⟩
  · simp [Oper.about, hop]
  · rw [Oper.semAt_plain F _ _ (by rw [hop]; intro c hc'; cases hc')]
    simp [execOp, hop, hm, hrun, Result.andThen]
    exact hK' _ _ (hK w' r1 r2)
theorem wpListIn_next_is (hg : o.guard = none) (it : Operand) (hop : o.op = Op.next it false) (b r : Nat) (L R : List (α × β)) (hit : a.eval it = .pointer (some ⟨r, 0, none⟩)) (h : Ranging eK eU w b r L R)
    (hDone : R = [] → wpListIn F n P ops Q rest (a.put o.dst (.tuple #[.bool false])) w)
    (hMore : ∀ (p : α × β) (R' : List (α × β)) (w' : World), R.Perm (p :: R') → Ranging eK eU w' b r L R' → But r w w' → w'.heap.size = w.heap.size → (Instr.entry (.pointer (some ⟨r, 0, none⟩))).run P w' = .ok (.tuple #[eK p.1, eU p.2]) w' →
      wpListIn F n P ops Q rest (a.put o.dst (.tuple #[.bool true, eK p.1, eU p.2])) w') : wpListIn F n P ops Q (o :: rest) a w := by
  refine wpListIn_plain hg fun K' hK' => ?_
  unfold Oper.wpIn
  refine ⟨by simp [Oper.about, hop], ?_⟩
  rw [Oper.semAt_plain F _ _ (by rw [hop]; intro c hc'; cases hc')]
  rcases next_run (P := P) h o.type with ⟨h0, hrun⟩ | ⟨p, R', w', hp, hrun, hrg, hb, hs, hen⟩
  · simp [execOp, hop, hit, hrun, Result.andThen]
    exact hK' _ _ (hDone h0)
  · simp [execOp, hop, hit, hrun, Result.andThen]
    exact hK' _ _ (hMore p R' w' hp hrg hb hs hen)
end
theorem Ranging.of_walks {α β : Type} {eK : α → Value} {eU : β → Value} {w w' : World} {b r : Nat} {L R : List (α × β)} (h : Ranging eK eU w b r L R) (hk : KeepsWalks w w') : Ranging eK eU w' b r L R := by
  obtain ⟨es, clock, since, seen, c0, hb, h2, h3, hr, h5⟩ := h
  exact ⟨es, clock, since, seen, c0, hk.same b _ hb rfl, h2, h3, hk.same r _ hr rfl, h5⟩
theorem Ranging.iter_walk {α β : Type} {eK : α → Value} {eU : β → Value} {w : World} {b r : Nat} {L R : List (α × β)} (h : Ranging eK eU w b r L R) : ∃ o : Obj, w.heap[r]? = some o ∧ o.isWalk = true := by
  obtain ⟨es, clock, since, seen, c0, _, _, _, hr, _⟩ := h
  exact ⟨_, hr, rfl⟩

end Go.Proofs.YtejljikikhecnaaGreat

namespace Go.Proofs.YtejljikikhecnaaGreat
open Go.RowKit Go.MapKept

section
variable {F : Fence} {n : Nat} {P : Program} {ops : Array Oper} {rest : List Oper} {o : Oper} {a : Act} {w : World} {Q : Exit → Act → World → Prop}
theorem wpListIn_store_row (hgd : o.guard = none) (ty : TypeId) (x y : Operand) (ho : o.op = .store ty x y)
    (g : Nat) (cells : Array Value) (hx : a.eval x = .pointer (some ⟨g, 0, none⟩)) (hy : a.eval y = .agg cells)
    (t : TypeId) (old : Array Value) (hg : w.heap[g]? = some (.cells old t (0, 0))) (hi : (P.info? ty).map (·.size) = some cells.size)
    (hold : old.size = cells.size) (h1 : cells.all (·.oneCell') = true)
    (h : wpListIn F n P ops Q rest (a.put o.dst undef) (w.setRow g cells)) : wpListIn F n P ops Q (o :: rest) a w := by
  refine wpListIn_plain hgd fun K hK => ?_
  unfold Oper.wpIn
  refine ⟨by simp [Oper.about, ho], ?_⟩
  rw [Oper.semAt_plain F _ _ (by rw [ho]; intro c hc; cases hc)]
  unfold execOp
  simp only [ho, hx, hy, Instr.storeAt, Instr.sureAddr, Sem.run_bind, Sem.run_pure, Result.andThen_ok, run_storeVar_row w g t ty old cells hg hi hold h1]
  exact hK _ _ h
theorem wpListIn_val (hg : o.guard = none) (hd : ∀ c, o.op ≠ .defer c) (hab : o.about P w a.eval = none) (v : Value) (w' : World) (hr : (execOp a.eval o).run P w = .ok (.value v) w') (h : wpListIn F n P ops Q rest (a.put o.dst v) w') : wpListIn F n P ops Q (o :: rest) a w := by
  refine wpListIn_plain hg fun K hK => ?_
  unfold Oper.wpIn
  refine ⟨fun f hf => (by rw [hab] at hf; cases hf), ?_⟩
  rw [Oper.semAt_plain F _ _ hd, hr]
  exact hK _ _ h
end

theorem grown_of_below {w w' : World} (h : Below w.heap.size w w') (row : Option Nat) : w.grownBy w' row := ⟨h.os, h.tape, h.output, h.size, fun k hk _ => h.block k hk⟩

set_option maxRecDepth 100000 in
set_option maxHeartbeats 1000000 in
/-- The keys come, each once, in some order. -/
theorem keysIt_in (F : Fence) (n : Nat) (hf : F.fn 83) (hro : F.round = none) (hn : 1 ≤ n) (l Bm b : Nat) (L : List (El × Nat)) (J : List El → World → Prop)
    (hY : ∀ pre x W, J pre W → pre.length < L.length → YieldAt F (n - 1) Tryz.prog l #[eE x] W fun e W' => e = .returned (.bool true) ∧ J (pre ++ [x]) W' ∧ KeepsWalks W W')
    (W : World) (hJ : AbidesFrom W.heap.size J) (hm : W.cell? ⟨Bm, 0, none⟩ = some (.map (some b))) (hown : MapIs eE eM W b L) (h0 : J [] W) :
    CallsIn F n Tryz.prog 83 #[.func (.yield l) #[] #[], .pointer (some ⟨Bm, 0, none⟩)] W fun e W' => (∃ v, e = .returned v) ∧ ∃ ss : List El, ss.Perm (keysL L) ∧ J ss W' := by
  obtain ⟨R0, hR0⟩ : ∃ R0, W.heap.size = R0 := ⟨_, rfl⟩
  have HR := Lib.hid hR0
  clear hR0
  refine callsIn_of_wp Tryz.func83 rfl hf ?_ hro
  rw [Tryz.ntmps83]
  simp only [List.size_toArray, List.length_cons, List.length_nil, Nat.reduceAdd, Nat.reduceSub, Array.replicate_succ, Array.replicate_zero, List.push_toArray, List.append_toArray, List.nil_append, List.cons_append]
  gi_wp2_with (first
    | (gi_at_range; refine wpListIn_range_is _ rfl _ 96 45 107 rfl Tryz.underlying96 b L rfl hown ?_; intro V hrg hal)
    | gi_in)
  go_frame
  rw [HR.out] at hrg ⊢
  have hg0 : W.grownBy V none := by
    obtain ⟨o, rfl⟩ := hal
    exact grown_of_below ((Below.refl _ _).alloc (Nat.le_refl _) _) _
  have hJ0 := hJ [] W V none h0 hg0 (fun r e => by cases e)
  clear hal hg0 h0 hm hown
  gi_loopw [3] (fun _ wr => ∃ (R : List (El × Nat)) (ss : List El), Ranging eE eM wr b R0 L R ∧ (ss ++ keysL R).Perm (keysL L) ∧ J ss wr) (fun _ wr => wr.rangeLeft b R0)
  case atStart => exact ⟨L, [], hrg, List.Perm.refl _, hJ0⟩
  case round =>
    obtain ⟨R, ss, hrg1, hpm, hJs⟩ := hrel
    have HPm := Lib.hid hpm
    clear hpm hrg hJ0
    gi_wp2_with (first
      | (gi_at_next; refine wpListIn_next_is _ rfl _ rfl b R0 _ _ rfl hrg1 ?_ ?_)
      | gi_in)
    · intro hR
      subst hR
      gi_wp2
      go_end0
      exact ⟨⟨_, rfl⟩, ss, by simpa [keysL] using HPm.out, hJs⟩
    · intro pd pn R1 V1 hp hrg2 hb1 hs1 hen
      obtain ⟨kk, xa, xb, xc, xd⟩ := pd
      have hJ2 : J ss V1 := hJ ss wr V1 (some R0) hJs hb1 (fun r e => by cases e; exact ⟨by rw [HR.out]; exact Nat.le_refl _, hrg1.iter_walk⟩)
      have hlen : ss.length < L.length := by
        have h1 := HPm.out.length_eq
        have h2 := hp.length_eq
        simp [keysL] at h1 h2
        omega
      have hl1 : wr.rangeLeft b R0 = R.length := hrg1.left_eq
      have HL1 := Lib.hid hl1
      have HP := Lib.hid hp
      have hZ : Blk (V1.alloc (.cells #[.int .i64 0, .string ⟨#[]⟩, .string ⟨#[]⟩, .string ⟨#[]⟩, .string ⟨#[]⟩] 45)) V1.heap.size 45 #[.int .i64 0, .string ⟨#[]⟩, .string ⟨#[]⟩, .string ⟨#[]⟩, .string ⟨#[]⟩] := Blk.new _ _ _
      obtain ⟨X, hX⟩ : ∃ X, X = (V1.alloc (.cells #[.int .i64 0, .string ⟨#[]⟩, .string ⟨#[]⟩, .string ⟨#[]⟩, .string ⟨#[]⟩] 45)).setRow V1.heap.size #[.int .i64 kk, .string xa, .string xb, .string xc, .string xd] := ⟨_, rfl⟩
      have hbX : Below V1.heap.size V1 X := by
        rw [hX]
        exact ((Below.refl _ _).alloc (Nat.le_refl _) _).trans (setRow_below _ _ _ _ (Nat.le_refl _))
      have hBX : Blk X V1.heap.size 45 #[.int .i64 kk, .string xa, .string xb, .string xc, .string xd] := by rw [hX]; exact setRow_blk _ _ _ _ _ hZ
      have hJX : J ss X := hJ ss V1 X none hJ2 (grown_of_below hbX _) (fun r e => by cases e)
      have hrgX := hrg2.below hbX
      have HX := Lib.hid hX
      have HBX := Lib.hid hBX
      obtain ⟨fn, tmps, assign, body, hy, hRd⟩ := hY ss ⟨kk, xa, xb, xc, xd⟩ X hJX hlen
      clear hX hb1 hs1 hl1 hp hrg1 hrg2 hbX
      simp only [eE, elV, eM] at hen hy hRd ⊢
      gi_wp2_with (first
        | (refine wpListIn_store_row rfl 45 (.tmp 3) (.tmp 9) rfl V1.heap.size #[.int .i64 kk, .string xa, .string xb, .string xc, .string xd] rfl rfl _ _ hZ (by kernel_rfl) rfl (by kernel_rfl) ?_; rw [← HX.out])
        | (refine wpListIn_val (o := ⟨some 11, _, _, _, _, _⟩) rfl (fun c hc => by cases hc) (by simp [Oper.about]) (.agg #[.int .i64 kk, .string xa, .string xb, .string xc, .string xd]) X (run_load_op rfl rfl hBX Tryz.underlying45 rfl (by kernel_rfl)) ?_)
        | gi_in)
      refine hRd.mono ?_
      rintro e W3 ⟨rfl, hJ3, hk3⟩
      gi_wp2
      have hrg3 := hrgX.of_walks hk3
      go_roundw
      case rel => exact ⟨R1, ss ++ [⟨kk, xa, xb, xc, xd⟩], hrg3, by
        rw [List.append_assoc]
        exact (List.Perm.append_left ss (keys_perm HP.out).symm).trans HPm.out, hJ3⟩
      case measure =>
        rw [hrg3.left_eq, HL1.out, HP.out.length_eq]
        exact Nat.lt_succ_self _

set_option maxHeartbeats 1000000 in
/-- maps.Keys: the map is boxed; the function value captures the box. -/
theorem keys_in (F : Fence) (n : Nat) (hf : F.fn 52) (hro : F.round = none) (mb : Option Nat) (w : World) :
    CallsIn F n Tryz.prog 52 #[.map mb] w fun e w' => e = .returned (.func (.func 83) #[] #[.pointer (some ⟨w.heap.size, 0, none⟩)]) ∧ w' = w.alloc (.cells #[.map mb] 96) := by
  refine callsIn_of_wp Tryz.func52 rfl hf ?_ hro
  rw [Tryz.ntmps52]
  simp only [List.size_toArray, List.length_cons, List.length_nil, Nat.reduceAdd, Nat.reduceSub, Array.replicate_succ, Array.replicate_zero, List.push_toArray, List.append_toArray, List.nil_append, List.cons_append]
  gi_wp2
  go_ret
  exact ⟨rfl, rfl⟩

/-- maps.Keys hands back an iterator over the keys. -/
theorem keys_gives (F : Fence) (n : Nat) (hf : F.fn 83) (hro : F.round = none) (hn : 1 ≤ n) (Bm b : Nat) (L : List (El × Nat)) (w : World) (hBm : Bm < w.heap.size)
    (hm : w.cell? ⟨Bm, 0, none⟩ = some (.map (some b))) (hown : MapIs eE eM w b L) :
    SeqGives F n Tryz.prog 83 #[.pointer (some ⟨Bm, 0, none⟩)] eE (fun ss => ss.Perm (keysL L)) L.length w := fun l J W hW hJ hY h0 =>
  keysIt_in F n hf hro hn l Bm b L J hY W hJ ((hW.cell (p := ⟨Bm, 0, none⟩) hBm).trans hm) (hown.same (hW.block b hown.lt)) h0

end Go.Proofs.YtejljikikhecnaaGreat

namespace Go.Proofs.YtejljikikhecnaaGreat
open Go.RowKit Go.MapKept

theorem infoL : (Tryz.prog.info? 45).map (fun i => (i.zero, i.size, i.bytes)) = some (some (.agg #[.int .i64 0, .string ⟨#[]⟩, .string ⟨#[]⟩, .string ⟨#[]⟩, .string ⟨#[]⟩]), 5, 72) := by kernel_rfl

theorem zip1 (t : Array Value) (p : Tmp) (v : Value) : ((#[p] : Array Tmp).zip #[v]).foldl (fun t (p, v) => t.setIfInBounds p v) t = t.setIfInBounds p v := by
  rw [List.zip_toArray]
  simp

/-- Between two rounds: the box holds a slice of the call's own, of what has come; nothing that lay before the call has turned. -/
def ApE (B : Nat) (w0 : World) (ss : List El) (W : World) : Prop := ∃ v, Boxed W B 101 v ∧ OwnK enL w0.heap.size 45 5 W v ss ∧ Below w0.heap.size w0 W
theorem ne_EL : (101 : TypeId) ≠ 45 := by decide
theorem ApE.own (B : Nat) (w0 : World) (D : Nat) (hD : w0.heap.size ≤ D) : OwnFrom D (ApE B w0) := by
  rintro s X Y row ⟨v, hv, hr, hb⟩ hg hrow
  refine ⟨v, hv.kept hg (fun e' => ?_), hr.kept hg ?_, hb.grown hg hb.size (fun k e => Nat.le_trans hD (hrow k e).1)⟩
  · obtain ⟨_, o, ho, hc⟩ := hrow B e'.symm
    rw [show X.heap[B]? = _ from hv] at ho; cases ho; cases hc
  · rcases hr.2 with ⟨rfl, _⟩ | ⟨g, cap, cur, rfl, _, hgb, _⟩
    · exact .inl rfl
    · refine .inr fun e' => ?_
      obtain ⟨_, o, ho, hc⟩ := hrow g (by simpa [Value.ownBlock] using e'.symm)
      rw [hgb] at ho; cases ho; cases hc

set_option maxRecDepth 100000 in
set_option maxHeartbeats 2000000 in
theorem appendSeq_in (F : Fence) (n : Nat) (hf : F.fn 108) (hro : F.round = none) (hn : 2 ≤ n) (g : Nat) (lb : Array Value) (hFg : F.fn g) (eg : ∀ args w, (callFunc g args).run Tryz.prog w = .ok (.enter g args) w)
    (S : List El → Prop) (N : Nat) (hN : N ≤ 1000000) (w : World) (hseq : SeqGives F (n - 1) Tryz.prog g lb eE S N w) :
    CallsIn F n Tryz.prog 108 #[.slice none 0 0, .func (.func g) #[] lb] w fun e w' => ∃ (v : Value) (ss : List El), e = .returned v ∧ S ss ∧ OwnK enL w.heap.size 45 5 w' v ss ∧ Below w.heap.size w w' := by
  obtain ⟨i0, hi, hz0, hz1, hz2⟩ := info_parts infoL
  refine callsIn_of_wp_marks Tryz.func108 rfl hf ?_ hro
  rw [Tryz.ntmps108]
  simp only [List.size_toArray, List.length_cons, List.length_nil, Nat.reduceAdd, Nat.reduceSub, Array.replicate_succ, Array.replicate_zero, List.push_toArray, List.append_toArray, List.nil_append, List.cons_append]
  gi_wp2
  obtain ⟨W0, hW0⟩ : ∃ W0, w.alloc (.cells #[.slice none 0 0] 101) = W0 := ⟨_, rfl⟩
  have hs0 : w.heap.size < W0.heap.size := by rw [← hW0]; simp
  have hv0 : Boxed W0 w.heap.size 101 (.slice none 0 0) := by rw [← hW0]; exact Boxed.new _ _ _
  have hb0 : Below w.heap.size w W0 := by rw [← hW0]; exact (Below.refl _ w).alloc (Nat.le_refl _) _
  rw [hW0]
  clear hW0
  refine wpIn_rangeFunc_box (α := El) hro (by omega) (gf := g) (lb := lb) rfl hFg eg hseq hb0 rfl (ApE w.heap.size w) (ApE.own _ _ _ hb0.size) ⟨_, hv0, OwnK.nil_ _ _ _ _ _, hb0⟩ (fun x => .cells #[.int .i64 x.k, .string x.a, .string x.b, .string x.c, .string x.d] 45)
    (fun x q => { tmps := #[.slice none 0 0, .func (.func g) #[] lb, .pointer (some ⟨w.heap.size, 0, none⟩), undef, .slice none 0 0, .pointer (some ⟨q, 0, none⟩), .func (.func g) #[] lb, eE x, undef, undef, undef, undef, undef], defers := [] }) ?_ ?_ ?_
  · rintro l ⟨kk, xa, xb, xc, xd⟩ W K hK
    have hZ : Blk (W.alloc (.cells #[.int .i64 0, .string ⟨#[]⟩, .string ⟨#[]⟩, .string ⟨#[]⟩, .string ⟨#[]⟩] 45)) W.heap.size 45 #[.int .i64 0, .string ⟨#[]⟩, .string ⟨#[]⟩, .string ⟨#[]⟩, .string ⟨#[]⟩] := Blk.new _ _ _
    have hX := World.setRow_alloc_new W #[.int .i64 0, .string ⟨#[]⟩, .string ⟨#[]⟩, .string ⟨#[]⟩, .string ⟨#[]⟩] #[.int .i64 kk, .string xa, .string xb, .string xc, .string xd] 45
    simp only [eE, elV] at hK ⊢
    rw [zip1]
    simp only [List.setIfInBounds_toArray, List.set_cons_zero, List.set_cons_succ]
    gi_wp2_with (first
      | (refine wpListIn_store_row rfl 45 (.tmp 5) (.tmp 7) rfl W.heap.size #[.int .i64 kk, .string xa, .string xb, .string xc, .string xd] rfl rfl _ _ hZ (by kernel_rfl) rfl (by kernel_rfl) ?_; rw [hX])
      | (rw [Oper.semAt_eq _ _ _ (fun c h => by cases h)]; go_simp; try go_bits))
    exact hK
  · rintro l pre ⟨kk, xa, xb, xc, xd⟩ W bx ⟨v, hv, hr, hb⟩ hx hle hlen
    have HX := Lib.hid (show Blk W bx 45 #[.int .i64 kk, .string xa, .string xb, .string xc, .string xd] from hx)
    have hNC : ∀ j u, [Value.int .i64 kk, .string xa, .string xb, .string xc, .string xd][j]? = some u → (W.alloc (.cells #[.int .i64 kk, .string xa, .string xb, .string xc, .string xd] 45)).cell? ((⟨W.heap.size, 0, none⟩ : Addr).add j) = some u := fun j u hu => by
      rw [Addr.add_lit, Blk.cell (Blk.new W _ _)]
      simpa using hu
    have hws : w.heap.size ≤ W.heap.size := hb.size
    have hOw := hr.keep ((Below.refl _ _).alloc (Nat.le_refl _) (.cells #[.int .i64 kk, .string xa, .string xb, .string xc, .string xd] 45))
    have hc := hv.cell
    clear hx
    simp only [eE, elV]
    gi_wp2_with (first
      | (refine wpListIn_val (o := ⟨some 9, _, _, _, _, _⟩) rfl (fun c hc => by cases hc) (by simp [Oper.about]) (.agg #[.int .i64 kk, .string xa, .string xb, .string xc, .string xd]) W (run_load_op rfl rfl HX.out Tryz.underlying45 rfl (by kernel_rfl)) ?_)
      | (gi_at_builtin; refine wpListIn_append_own _ rfl _ _ 101 rfl w.heap.size 45 i0 _ 5 72 Tryz.underlying101 hi hz0 hz1 hz2 rfl (by decide) _ _ _ rfl hOw ⟨W.heap.size, 0, none⟩ 1 1 [.int .i64 kk, .string xa, .string xb, .string xc, .string xd] rfl rfl hNC (enL_one ⟨kk, xa, xb, xc, xd⟩) (by unfold maxLen; omega) (by omega) (by simp; omega) ?_; intro v' W6 hown' hgrow hnil'
         obtain ⟨g', cap', rfl⟩ := ownsRow_succ hown'
         obtain ⟨q1, q2, q3, q4, q5⟩ := Boxed.appended hv ne_EL hr hws (Nat.le_refl _) hown' hgrow
         have hc1 := q1.cell
         have hf1 := q1.frozen)
      | (rw [Oper.semAt_eq _ _ _ (fun c h => by cases h)]; go_simp; try go_bits))
    refine ⟨_, q2, ?_, hb.trans (q5.mono (Nat.le_refl _))⟩
    unfold OwnK
    rw [List.length_append, List.flatMap_append]
    exact q3
  · intro D xs W hD hS hI hDf
    obtain ⟨v, hv, hr, hb⟩ := hI
    have hc := hv.cell
    have hne : v.ownBlock = none ∨ v.ownBlock ≠ some D := by
      rcases hr.2 with ⟨rfl, _⟩ | ⟨g', cap, cur, rfl, _, hgb, _⟩
      · exact .inl rfl
      · refine .inr fun e' => ?_
        have : g' = D := by simpa [Value.ownBlock] using e'
        rw [this, hDf] at hgb; cases hgb
    gi_wp2
    refine ⟨by simp, .inl ⟨_, _, rfl, run_takeDeferred hDf, ?_⟩⟩
    exact ⟨_, results_tmp rfl _ _ _, v, xs, rfl, hS, hr.kept (grownBy_putObj' _ _ _) hne, hb.grown (grownBy_putObj' _ _ _) hb.size (fun k e => by cases e; omega)⟩

set_option maxHeartbeats 1000000 in
theorem collect_in (F : Fence) (n : Nat) (hf : F.fn 81) (hf2 : F.fn 108) (hro : F.round = none) (hn : 3 ≤ n) (g : Nat) (lb : Array Value) (hFg : F.fn g) (eg : ∀ args w, (callFunc g args).run Tryz.prog w = .ok (.enter g args) w)
    (S : List El → Prop) (N : Nat) (hN : N ≤ 1000000) (w : World) (hseq : SeqGives F (n - 1 - 1) Tryz.prog g lb eE S N w) :
    CallsIn F n Tryz.prog 81 #[.func (.func g) #[] lb] w fun e w' => ∃ (v : Value) (ss : List El), e = .returned v ∧ S ss ∧ OwnK enL w.heap.size 45 5 w' v ss ∧ Below w.heap.size w w' := by
  refine callsIn_of_wp Tryz.func81 rfl hf ?_ hro
  rw [Tryz.ntmps81]
  simp only [List.size_toArray, List.length_cons, List.length_nil, Nat.reduceAdd, Nat.reduceSub, Array.replicate_succ, Array.replicate_zero, List.push_toArray, List.append_toArray, List.nil_append, List.cons_append]
  gi_wp2_with fail
  refine ⟨fun _ => by omega, ?_⟩
  refine (appendSeq_in F (n - 1) hf2 hro (by omega) g lb hFg eg S N hN _ hseq).mono ?_
  rintro e w' ⟨v, ss, rfl, hS, hrow, hb⟩
  gi_wp2
  go_ret
  exact ⟨v, ss, rfl, hS, hrow, hb⟩

end Go.Proofs.YtejljikikhecnaaGreat

namespace Go.Proofs.YtejljikikhecnaaGreat
open Go.RowKit Go.MapKept Go.Sort

set_option maxRecDepth 100000 in
set_option maxHeartbeats 1000000 in
theorem keysNil_in (F : Fence) (n : Nat) (hf : F.fn 83) (hro : F.round = none) (l Bm : Nat) (J : List El → World → Prop)
    (W : World) (hJ : AbidesFrom W.heap.size J) (hm : W.cell? ⟨Bm, 0, none⟩ = some (.map none)) (h0 : J [] W) :
    CallsIn F n Tryz.prog 83 #[.func (.yield l) #[] #[], .pointer (some ⟨Bm, 0, none⟩)] W fun e W' => (∃ v, e = .returned v) ∧ J [] W' := by
  obtain ⟨r, hr⟩ : ∃ r, W.heap.size = r := ⟨_, rfl⟩
  obtain ⟨V, hV⟩ : ∃ V, V = W.alloc (.mapIter none 0 #[] 0) := ⟨_, rfl⟩
  have hrg : (Instr.range 96 (.map none)).run Tryz.prog W = .ok (.pointer (some ⟨r, 0, none⟩)) V := by rw [hV, ← hr]; exact run_range_nilMap W _ _ _ Tryz.underlying96
  have hnx : ∀ ty, (Instr.next (.pointer (some ⟨r, 0, none⟩)) false ty).run Tryz.prog V = .ok (.tuple #[.bool false]) V := fun ty => run_next_nil_at V ty r 0 0 #[] (by rw [hV, ← hr]; exact heap_alloc_new W _)
  have HJ := Lib.hid (show J [] V from hJ [] W V none h0 (by rw [hV]; exact grown_of_below ((Below.refl _ _).alloc (Nat.le_refl _) _) _) (fun r e => by cases e))
  clear hV hr hJ h0
  refine callsIn_of_wp Tryz.func83 rfl hf ?_ hro
  rw [Tryz.ntmps83]
  simp only [List.size_toArray, List.length_cons, List.length_nil, Nat.reduceAdd, Nat.reduceSub, Array.replicate_succ, Array.replicate_zero, List.push_toArray, List.append_toArray, List.nil_append, List.cons_append]
  gi_wp2
  refine wpIn_loop_once ?_
  gi_wp2
  go_end0
  exact ⟨⟨_, rfl⟩, HJ.out⟩

/-- The map of a store: it, or nil. -/
def TopIs (w : World) (m : Option Nat) (L : List (El × Nat)) : Prop := (m = none ∧ L = []) ∨ ∃ b, m = some b ∧ MapIs eE eM w b L

theorem top_gives (F : Fence) (n : Nat) (hf : F.fn 83) (hro : F.round = none) (hn : 1 ≤ n) (Bm : Nat) (m : Option Nat) (L : List (El × Nat)) (w : World) (hBm : Bm < w.heap.size)
    (hm : w.cell? ⟨Bm, 0, none⟩ = some (.map m)) (hown : TopIs w m L) :
    SeqGives F n Tryz.prog 83 #[.pointer (some ⟨Bm, 0, none⟩)] eE (fun ss => ss.Perm (keysL L)) L.length w := by
  rcases hown with ⟨rfl, rfl⟩ | ⟨b, rfl, h⟩
  · intro l J W hW hJ hY h0
    exact (keysNil_in F n hf hro l Bm J W hJ ((hW.cell (p := ⟨Bm, 0, none⟩) hBm).trans hm) h0).mono fun e w' ⟨he, hj⟩ => ⟨he, [], List.Perm.refl _, hj⟩
  · exact keys_gives F n hf hro hn Bm b L w hBm hm h

theorem keys_any (mb : Option Nat) (w : World) : Calls Tryz.prog 52 #[.map mb] w fun e w' => e = .returned (.func (.func 83) #[] #[.pointer (some ⟨w.heap.size, 0, none⟩)]) ∧ w' = w.alloc (.cells #[.map mb] 96) :=
  callsIn_wide.1 (keys_in Fence.wide 0 trivial rfl mb w)

set_option maxRecDepth 100000 in
set_option maxHeartbeats 1000000 in
theorem sorted_any (Bm : Nat) (m : Option Nat) (L : List (El × Nat)) (w : World) (hBm : Bm < w.heap.size) (hm : w.cell? ⟨Bm, 0, none⟩ = some (.map m)) (hown : TopIs w m L) (hl : L.length ≤ 1000000) :
    Calls Tryz.prog 51 #[.func (.func 83) #[] #[.pointer (some ⟨Bm, 0, none⟩)], .func (.func 53) #[] #[]] w fun e w' =>
      ∃ (v : Value) (ss : List El), e = .returned v ∧ ss.Perm (keysL L) ∧ (ss.Pairwise fun x y => ltOf cfE y x = false) ∧ OwnK enL w.heap.size 45 5 w' v ss ∧ Below w.heap.size w w' := by
  have eg : ∀ args w, (callFunc 83 args).run Tryz.prog w = .ok (.enter 83 args) w := enters_of Tryz.func83 (by kernel_rfl) rfl
  have HC := Lib.hid (callsIn_wide.1 (collect_in Fence.wide 9 trivial trivial rfl (by decide) _ _ trivial eg (fun ss => ss.Perm (keysL L)) L.length hl w (top_gives Fence.wide 7 trivial rfl (by decide) Bm m L w hBm hm hown)))
  have HL := Lib.hid hl
  clear eg hm hown hl
  go_enter Tryz.func51, Tryz.ntmps51
  go_wp2_with fail
  refine HC.out.mono ?_
  rintro e w1 ⟨v, ss, rfl, hS, ho, hb⟩
  have hlen : ss.length ≤ 1000000 := by
    have := hS.length_eq
    simp [keysL] at this
    have := HL.out
    omega
  have HS := Lib.hid hS
  have HO := Lib.hid ho
  have HB := Lib.hid hb
  have HN := Lib.hid hlen
  clear hS ho hb hlen
  go_wp2_with fail
  refine (sortE_any ss v w.heap.size w1 HO.out HN.out).mono ?_
  rintro e w2 ⟨rfl, l', hp, hs, ho, hout⟩
  have HP := Lib.hid hp
  have HQ := Lib.hid hs
  have HO2 := Lib.hid ho
  have HU := Lib.hid hout
  clear hp hs ho hout
  go_wp2
  go_ret
  exact ⟨v, l', rfl, HP.out.trans HS.out, HQ.out, HO2.out, HB.out.trans (HU.out.below HB.out.size (fun i hi => (HO.out.lt i hi).1))⟩

end Go.Proofs.YtejljikikhecnaaGreat

namespace Go.Proofs.YtejljikikhecnaaGreat
open Go.RowKit Go.MapKept Go.Sort

theorem st_infoI : (Tryz.prog.info? 61).map (fun i => (i.zero, i.size, i.bytes)) = some (some (.agg #[.int .i64 0, .string ⟨#[]⟩, .string ⟨#[]⟩, .string ⟨#[]⟩, .string ⟨#[]⟩, .slice none 0 0]), 6, 96) := by kernel_rfl
/-- An item's cells. -/
theorem RowIs.slice {w : World} {base : Nat} {v : Value} {l : List (Dt × Va)} (h : RowIs w base v l) : ∃ A n c, v = .slice A n c := by
  obtain ⟨l', _, _, ho⟩ := h
  obtain ⟨A, c, h, _⟩ := ho.read enN_len
  exact ⟨A, _, c, h⟩
theorem RowIs.one {w : World} {base : Nat} {v : Value} {l : List (Dt × Va)} (h : RowIs w base v l) : v.oneCell' = true := by
  obtain ⟨A, n, c, rfl⟩ := h.slice; rfl
theorem RowIs.keep {w w' : World} {base : Nat} {v : Value} {l : List (Dt × Va)} (h : RowIs w base v l) (hb : Below w.heap.size w w') : RowIs w' base v l := by
  obtain ⟨l', h1, h2, h3⟩ := h
  exact ⟨l', h1, h2, h3.keep hb⟩
theorem RowIs.base_ {w : World} {base b' : Nat} {v : Value} {l : List (Dt × Va)} (h : RowIs w base v l) (hb : b' ≤ base) : RowIs w b' v l := by
  obtain ⟨l', h1, h2, h3⟩ := h
  exact ⟨l', h1, h2, h3.base_ hb⟩
/-- A slice's own block isn't one of another type. -/
theorem OwnK.apart {α β : Type} {enc : α → List Value} {enc' : β → List Value} {base base' k k' : Nat} {e e' : TypeId} {w : World} {v v' : Value} {l : List α} {l' : List β} (hne : e ≠ e') (h : OwnK enc base e k w v l) (h' : OwnK enc' base' e' k' w v' l') : ∀ g, v.ownBlock = some g → v'.ownBlock ≠ some g := by
  intro g hg hg'
  rcases h.2 with ⟨rfl, _⟩ | ⟨g1, cap, cur, rfl, _, hb, _⟩
  · cases hg
  rcases h'.2 with ⟨rfl, _⟩ | ⟨g2, cap', cur', rfl, _, hb', _⟩
  · cases hg'
  have e1 : g1 = g := Option.some.inj hg
  have e2 : g2 = g := Option.some.inj hg'
  rw [e1] at hb
  rw [e2, hb] at hb'
  simp only [Option.some.injEq, Obj.cells.injEq] at hb'
  exact hne hb'.2.1
theorem ne_NI : (63 : TypeId) ≠ 61 := by decide
theorem ne_EI : (45 : TypeId) ≠ 61 := by decide
/-- .. so it stays when the other grows. -/
theorem OwnK.grown {α β : Type} {enc : α → List Value} {enc' : β → List Value} {base base' k k' : Nat} {e e' : TypeId} {w w' : World} {v v' : Value} {l : List α} {l' : List β} (hne : e ≠ e') (h : OwnK enc base e k w v l) (h' : OwnK enc' base' e' k' w v' l') (hg : w.grownBy w' v'.ownBlock) : OwnK enc base e k w' v l :=
  h.same fun g hv => hg.block g (h.lt g hv).2 fun e => h.apart hne h' g hv e.symm
/-- Items: each with its row. -/
def ItemsIs (w : World) (base : Nat) (v : Value) (σ : List (El × List (Dt × Va))) (es : List El) : Prop :=
  ∃ acc : List (El × Value), OwnK enI base 61 6 w v acc ∧ acc.map Prod.fst = es ∧ ∀ p ∈ acc, RowIs w base p.2 (entS p.1 σ)
theorem ItemsIs.keep {w w' : World} {base : Nat} {v : Value} {σ : List (El × List (Dt × Va))} {es : List El} (h : ItemsIs w base v σ es) (hb : Below w.heap.size w w') : ItemsIs w' base v σ es := by
  obtain ⟨acc, h1, h2, h3⟩ := h
  exact ⟨acc, h1.keep hb, h2, fun p hp => (h3 p hp).keep hb⟩

theorem StoreIs.top {w : World} {sb : Nat} {F : Nat → Prop} {σ : List (El × List (Dt × Va))} (hS : StoreIs w sb F σ) : ∃ m I, Blk w sb 98 #[.map m] ∧ TopIs w m I ∧ keysL I = keysL σ ∧
    ∀ x, ∃ n, (∀ w', Below w.heap.size w w' → (Instr.lookup 96 (.map m) (eE x) false).run Tryz.prog w' = .ok (.map n) w' ∧ HeldIs w' F n (entS x σ)) := by
  obtain ⟨h1, h2, h3⟩ := hS
  rcases h3 with ⟨hb, rfl⟩ | ⟨ob, I, h, hb, hI, rfl⟩
  · exact ⟨none, [], hb, .inl ⟨rfl, rfl⟩, rfl, fun x => ⟨none, fun w' _ => ⟨look_nil_run keyE Tryz.underlying96 (zero_held _) x, .inl ⟨rfl, rfl⟩⟩⟩⟩
  · refine ⟨some ob, I, hb, .inr ⟨ob, rfl, hI.2.1⟩, (keys_mapS h I).symm, fun x => ?_⟩
    cases hg : getL x I with
    | none => exact ⟨none, fun w' hw => ⟨(look_run (hI.2.1.same (hw.block _ hI.2.1.lt)) keyE Tryz.underlying96 (zero_held _) x).trans (by rw [hg]; rfl), .inl ⟨rfl, by unfold entS; rw [getL_mapS, hg]; rfl⟩⟩⟩
    | some n =>
      obtain ⟨f1, f2, f3⟩ := hI.at_ hg
      exact ⟨some n, fun w' hw => ⟨(look_run (hI.2.1.same (hw.block _ hI.2.1.lt)) keyE Tryz.underlying96 (zero_held _) x).trans (by rw [hg]; rfl), .inr ⟨n, rfl, f1, by unfold entS; rw [getL_mapS, hg]; exact f3.same (hw.block _ f3.lt)⟩⟩⟩

theorem at_L (g c n k : Nat) (h : k < n) (w : World) : (Instr.indexAt 101 (.slice (some ⟨g, 0, none⟩) n c) (.int .i64 k)).run Tryz.prog w = .ok (.pointer (some ⟨g, k * 5, none⟩)) w := by
  have h2 : (k : Int) < n := by omega
  go_simp

theorem run_build_op {P : Program} {o : Oper} {ρ : Operand → Value} {w : World} {ty : TypeId} {xs : Array (Nat × Operand)} {vs : Array (Nat × Value)} {v : Value} (ho : o.op = .build ty xs) (hx : xs.map (fun (i, x) => (i, ρ x)) = vs) (hr : (Instr.build ty vs).run P w = .ok v w) : (execOp ρ o).run P w = .ok (.value v) w := by
  unfold execOp
  simp only [ho]
  rw [show (xs.map fun x => match x with | (i, x) => (i, ρ x)) = vs from hx]
  simp [hr]
theorem bsI (k : Int) (a b c d : ByteArray) (A : Option Addr) (n cp : Nat) (w : World) : (Instr.buildSlice 24 1 #[(0, .agg #[.int .i64 k, .string a, .string b, .string c, .string d, .slice A n cp])]).run Tryz.prog w = .ok (.slice (some ⟨w.heap.size, 0, none⟩) 1 1) (w.alloc (.cells #[.int .i64 k, .string a, .string b, .string c, .string d, .slice A n cp] 61)) := by go_simp
theorem OwnK.at_ {α : Type} {enc : α → List Value} {base k : Nat} {e : TypeId} {w : World} {l : List α} {A : Option Addr} {n c j : Nat} {x : α} (hk : ∀ x, (enc x).length = k) (h : OwnK enc base e k w (.slice A n c) l) (hj : l[j]? = some x) : ∃ g, A = some ⟨g, 0, none⟩ ∧ base ≤ g ∧ g < w.heap.size ∧ w.rangeAt g (j * k) (enc x) := by
  have hn : l ≠ [] := fun e => by subst e; cases hj
  obtain ⟨g, cap, cur, hv, hb, hg, _⟩ := h.block hn
  obtain ⟨A', c', hv', _, hx⟩ := h.read hk
  injection hv with e1 e2 e3
  injection hv' with e1' e2' e3'
  obtain ⟨b, o, hA, hbl, hc⟩ := hx hn
  rw [← e1', e1] at hA
  injection hA with hA
  injection hA with h1 h2
  subst h1 h2
  refine ⟨g, e1, hb, hbl, ?_⟩
  have := hc j x hj
  rwa [Nat.zero_add] at this
def pAll (sb R0 : Nat) (v3 : Value) (m n : Option Nat) (x : El) (l : List (Dt × Va)) : Nat → Value → World → Prop
  | 0, u, _ => u = v3
  | 1, u, _ => u = eE x
  | 2, u, _ => u = .pointer (some ⟨sb, 0, none⟩)
  | 3, u, _ => u = .pointer (some ⟨sb, 0, none⟩)
  | 4, u, _ => u = .pointer (some ⟨sb, 0, none⟩)
  | 5, u, _ => u = .map m
  | 6, u, _ => u = eE x
  | 7, u, _ => u = .map n
  | 8, u, W => RowIs W R0 u l
  | 9, u, W => ∃ r, u = .agg (enI (x, r)).toArray ∧ RowIs W R0 r l
  | 10, u, W => ∃ r g, u = .slice (some ⟨g, 0, none⟩) 1 1 ∧ Blk W g 61 (enI (x, r)).toArray ∧ RowIs W R0 r l
  | _, _, _ => True
theorem pAll_keep (sb R0 : Nat) (v3 : Value) (m n : Option Nat) (x : El) (l : List (Dt × Va)) (i : Nat) (v : Value) (w w' : World) (hb : Below w.heap.size w w') (h : pAll sb R0 v3 m n x l i v w) : pAll sb R0 v3 m n x l i v w' := by
  match i, h with
  | 0, h => exact h
  | 1, h => exact h
  | 2, h => exact h
  | 3, h => exact h
  | 4, h => exact h
  | 5, h => exact h
  | 6, h => exact h
  | 7, h => exact h
  | 8, h => exact RowIs.keep h hb
  | 9, ⟨r, h1, h2⟩ => exact ⟨r, h1, h2.keep hb⟩
  | 10, ⟨r, g, h1, h2, h3⟩ => exact ⟨r, g, h1, h2.below hb h2.lt, h3.keep hb⟩
  | _ + 11, _ => trivial

set_option maxRecDepth 100000 in
set_option maxHeartbeats 4000000 in
theorem all_any (sb : Nat) (F : Nat → Prop) (σ : List (El × List (Dt × Va))) (w : World) (hS : StoreIs w sb F σ) (hl : σ.length ≤ 1000000) (hr : ∀ x, (entS x σ).length ≤ 1000000) :
    Calls Tryz.prog 19 #[.pointer (some ⟨sb, 0, none⟩)] w fun e w' => ∃ v es, e = .returned v ∧ es.Perm (keysL σ) ∧ (es.Pairwise fun x y => ltOf cfE y x = false) ∧ ItemsIs w' w.heap.size v σ es ∧ Below w.heap.size w w' := by
  have hpn := fun w => ptr_eql_nil sb w
  obtain ⟨i0, hi, hz0, hz1, hz2⟩ := info_parts st_infoI
  obtain ⟨m, I, hb, htop, hkeys, hlook⟩ := hS.top
  have HLk := Lib.hid hlook
  have HSb := Lib.hid hb
  have c0 : w.cell? ⟨sb, 0, none⟩ = some (.map m) := (Blk.cell hb 0).trans rfl
  have hIl : I.length ≤ 1000000 := by
    have := congrArg List.length hkeys
    simp [keysL] at this
    omega
  obtain ⟨R0, hR0⟩ : ∃ R0, w.heap.size = R0 := ⟨_, rfl⟩
  have HR := Lib.hid hR0
  have HRw := Lib.hid hr
  have HIl := Lib.hid hIl
  have HT := Lib.hid htop
  have HK := Lib.hid hkeys
  clear hlook hb hl hr hR0 hIl htop hkeys hS
  go_enter Tryz.func19, Tryz.ntmps19
  go_wp2_with fail
  refine (keys_any m w).mono ?_
  rintro e w1 ⟨rfl, rfl⟩
  rw [HR.out]
  have hb1 : Below R0 w (w.alloc (.cells #[.map m] 96)) := (Below.refl _ _).alloc (by rw [HR.out]; exact Nat.le_refl _) _
  have hsz1 : R0 < (w.alloc (.cells #[.map m] 96)).heap.size := by rw [← HR.out]; simp
  have hc1 : (w.alloc (.cells #[.map m] 96)).cell? ⟨R0, 0, none⟩ = some (.map m) := by
    rw [← HR.out]; exact (Blk.cell (Blk.new w _ _) 0).trans rfl
  have ht1 : TopIs (w.alloc (.cells #[.map m] 96)) m I := by
    rcases HT.out with h | ⟨b, h1, h2⟩
    · exact .inl h
    · exact .inr ⟨b, h1, h2.same (hb1.block b (by rw [← HR.out]; exact h2.lt))⟩
  obtain ⟨w1, hw1⟩ : ∃ w1, w1 = w.alloc (.cells #[.map m] 96) := ⟨_, rfl⟩
  rw [← hw1] at hb1 hsz1 hc1 ht1 ⊢
  clear hw1
  have HB1 := Lib.hid hb1
  have HS1 := Lib.hid hsz1
  have HC1 := Lib.hid hc1
  have HT1 := Lib.hid ht1
  clear hb1 hsz1 hc1 ht1 c0 hpn
  go_wp2_with fail
  refine (sorted_any R0 m I w1 HS1.out HC1.out HT1.out HIl.out).mono ?_
  rintro e w2 ⟨kv, ss, rfl, hp, hs, ho, hb2⟩
  have hss : ss.length ≤ 1000000 := by
    have := hp.length_eq
    have h2 := HIl.out
    simp [keysL] at this
    omega
  have HB2 := Lib.hid (HB1.out.trans (hb2.mono (by have := HS1.out; omega)))
  have HO := Lib.hid (ho.base_ (b' := R0) (Nat.le_of_lt HS1.out))
  have HP := Lib.hid (hp.trans (by rw [HK.out]))
  have HQ := Lib.hid hs
  have HSS := Lib.hid hss
  obtain ⟨A, c, rfl, hlc, hx⟩ := ho.read enL_len
  obtain ⟨N, hN⟩ : ∃ N, ss.length = N := ⟨_, rfl⟩
  have HN := Lib.hid hN
  rw [hN]
  clear hp hs ho hb2 hss hlc hx hN HB1 HS1 HC1 HT1
  go_wp2_with fail
  go_loopw [3, 15] (fun v3 v15 wr => ∃ (j : Nat) (acc : List (El × Value)), v15 = .int .i64 j ∧ j ≤ N ∧ OwnK enI R0 61 6 wr v3 acc ∧ acc.map Prod.fst = ss.take j ∧ (∀ p ∈ acc, RowIs wr R0 p.2 (entS p.1 σ)) ∧ OwnK enL R0 45 5 wr (.slice A N c) ss ∧ Below R0 w wr) (fun _ v15 _ => N - (intOf v15).toNat)
  case atStart => exact ⟨0, [], rfl, Nat.zero_le _, OwnK.nil_ _ _ _ _ _, rfl, (fun p hp => by cases hp), by have := HO.out; rwa [HN.out] at this, HB2.out⟩
  case round =>
    obtain ⟨j, acc, rfl, hj, hoi, hacc, hrows, hok, hbw⟩ := hrel
    clear HO HB2
    by_cases hlt : j < N
    · obtain ⟨x, hx⟩ : ∃ x, ss[j]? = some x := ⟨ss[j]'(by rw [HN.out]; exact hlt), List.getElem?_eq_getElem _⟩
      obtain ⟨g, rfl, hgb, hgl, hcell⟩ := hok.at_ enL_len hx
      obtain ⟨n, hnl⟩ := HLk.out x
      have hlx := HRw.out x
      obtain ⟨l, hle⟩ : ∃ l, entS x σ = l := ⟨_, rfl⟩
      rw [hle] at hnl hlx
      have HLe := Lib.hid hle
      have HX := Lib.hid hx
      have HNl := Lib.hid hnl
      have HLx := Lib.hid hlx
      have hal : acc.length = j := by
        have := congrArg List.length hacc
        rw [List.length_map, List.length_take, HN.out] at this
        omega
      clear hx hnl hlx hle
      have hwr : R0 ≤ wr.heap.size := by have := hbw.size; have := HR.out; omega
      have hAl := fun c => World.setRow_alloc_new wr #[.int .i64 0, .string ⟨#[]⟩, .string ⟨#[]⟩, .string ⟨#[]⟩, .string ⟨#[]⟩] c 45
      have hZ : Blk (wr.alloc (.cells #[.int .i64 0, .string ⟨#[]⟩, .string ⟨#[]⟩, .string ⟨#[]⟩, .string ⟨#[]⟩] 45)) wr.heap.size 45 #[.int .i64 0, .string ⟨#[]⟩, .string ⟨#[]⟩, .string ⟨#[]⟩, .string ⟨#[]⟩] := Blk.new _ _ _
      obtain ⟨X, hX⟩ : ∃ X, X = wr.alloc (.cells (enL x).toArray 45) := ⟨_, rfl⟩
      have hbX : Below wr.heap.size wr X := by rw [hX]; exact (Below.refl _ _).alloc (Nat.le_refl _) _
      have hBX : Blk X wr.heap.size 45 (enL x).toArray := by rw [hX]; exact Blk.new _ _ _
      have HXe := Lib.hid hX
      have HBX := Lib.hid hBX
      have HOi := Lib.hid (hoi.keep hbX)
      have HOk := Lib.hid (hok.keep hbX)
      have HRs := Lib.hid (show ∀ p ∈ acc, RowIs X R0 p.2 (entS p.1 σ) from fun p hp => (hrows p hp).keep hbX)
      have HbX := Lib.hid (hbw.trans (hbX.mono hwr))
      have HA := Lib.hid hacc
      have HAl := Lib.hid hal
      have HC := Lib.hid hcell
      have hRX : R0 ≤ X.heap.size := Nat.le_trans hwr hbX.size
      have HRX := Lib.hid hRX
      have hat := at_L g c N j hlt wr
      have hat' := Lib.hid hat
      clear hX hBX hoi hok hrows hbw hacc hal hgb hgl hwr hbX hcell hRX hat
      obtain ⟨kk, xa, xb, xc, xd⟩ := x
      simp only [enL] at HXe HBX HC
      go_upto_region 7 with (first
        | (refine wpList_val (o := ⟨some 17, _, _, _, _, _⟩) rfl (.pointer (some ⟨g, j * 5, none⟩)) wr (run_indexAddr_op rfl rfl rfl hat'.out) ?_)
        | (refine wpList_load_midif rfl 45 (.tmp 17) rfl g (j * 5) rfl [.int .i64 kk, .string xa, .string xb, .string xc, .string xd] _ HC.out Tryz.underlying45 rfl (by kernel_rfl) ?_)
        | (refine wpList_store_row rfl 45 (.tmp 5) (.tmp 18) rfl wr.heap.size #[.int .i64 kk, .string xa, .string xb, .string xc, .string xd] rfl rfl _ _ hZ (by kernel_rfl) rfl (by kernel_rfl) ?_; rw [hAl, ← HXe.out]))
      clear hZ hAl
      refine wp_region_any (by kernel_rfl) ?_
      refine Lt.wpAny_mid (pAll sb R0 u3 m n ⟨kk, xa, xb, xc, xd⟩ l) _ X 11 _ _ (fun v' W => ∃ r, OwnK enI R0 61 6 W v' (acc ++ [(⟨kk, xa, xb, xc, xd⟩, r)]) ∧ RowIs W R0 r l ∧ (∀ p ∈ acc, RowIs W R0 p.2 (entS p.1 σ)) ∧ OwnK enL R0 45 5 W (.slice (some ⟨g, 0, none⟩) N c) ss ∧ Below R0 w W) (by kernel_rfl) rfl rfl (by kernel_rfl) (by kernel_rfl) (by kernel_rfl) (by kernel_rfl) (by kernel_rfl) (fun i v w w' hb h => pAll_keep _ _ _ _ _ _ _ i v w w' hb h) ?_ ?_ ?_ ?_
      · refine ⟨?_, ?_, ?_, ?_, ?_, ?_, ?_, ?_, ?_, ?_, ?_, fun h => absurd h (Nat.lt_irrefl _), fun h => absurd h (by decide), trivial⟩
        · intro _ a W hI hun haft hi
          have e3 : a.eval (.tmp 3) = u3 := hun 3 (by kernel_rfl)
          exact b_same hi hI rfl _ (run_move_op rfl e3) rfl
        · intro _ a W hI hun haft hi
          have e5 : a.eval (.tmp 5) = .pointer (some ⟨wr.heap.size, 0, none⟩) := hun 5 (by kernel_rfl)
          exact b_same hi hI rfl _ (run_load_op rfl e5 (Blk.below HBX.out hI (Blk.lt HBX.out)) Tryz.underlying45 rfl (by kernel_rfl)) rfl
        · intro _ a W hI hun haft hi
          have e0 : a.eval (.tmp 0) = .pointer (some ⟨sb, 0, none⟩) := hun 0 (by kernel_rfl)
          exact b_same hi hI rfl _ (run_move_op rfl e0) rfl
        · intro _ a W hI hun haft hi
          have f2 : a.eval (.tmp 21) = .pointer (some ⟨sb, 0, none⟩) := haft ⟨2, .data⟩ (by simp) rfl _ _ rfl rfl
          exact b_same hi hI rfl _ (run_nilCheck_op rfl f2) rfl
        · intro _ a W hI hun haft hi
          have f3 : a.eval (.tmp 22) = .pointer (some ⟨sb, 0, none⟩) := haft ⟨3, .data⟩ (by simp) rfl _ _ rfl rfl
          exact b_same hi hI rfl _ (run_fieldAddr_any rfl f3 (at_store0 _ 0 _)) rfl
        · intro _ a W hI hun haft hi
          have f4 : a.eval (.tmp 23) = .pointer (some ⟨sb, 0, none⟩) := haft ⟨4, .data⟩ (by simp) rfl _ _ rfl rfl
          have hwW : Below w.heap.size w W := by rw [HR.out]; exact HbX.out.trans (hI.mono HRX.out)
          exact b_same hi hI rfl _ (run_loadmap_op rfl f4 Tryz.underlying96 ((Blk.cell (Blk.below HSb.out hwW (Blk.lt HSb.out)) 0).trans rfl)) rfl
        · intro _ a W hI hun haft hi
          have e5 : a.eval (.tmp 5) = .pointer (some ⟨wr.heap.size, 0, none⟩) := hun 5 (by kernel_rfl)
          exact b_same hi hI rfl _ (run_load_op rfl e5 (Blk.below HBX.out hI (Blk.lt HBX.out)) Tryz.underlying45 rfl (by kernel_rfl)) rfl
        · intro _ a W hI hun haft hi
          have f5 : a.eval (.tmp 24) = .map m := haft ⟨5, .data⟩ (by simp) rfl _ _ rfl rfl
          have f6 : a.eval (.tmp 25) = eE ⟨kk, xa, xb, xc, xd⟩ := haft ⟨6, .data⟩ (by simp) rfl _ _ rfl rfl
          have hwW : Below w.heap.size w W := by rw [HR.out]; exact HbX.out.trans (hI.mono HRX.out)
          exact b_same hi hI rfl _ (run_lookup_op rfl f5 f6 (HNl.out W hwW).1) rfl
        · intro _ a W hI hun haft hi
          have f7 : a.eval (.tmp 26) = .map n := haft ⟨7, .data⟩ (by simp) rfl _ _ rfl rfl
          have hwW : Below w.heap.size w W := by rw [HR.out]; exact HbX.out.trans (hI.mono HRX.out)
          refine b_call hi hI rfl _ _ (run_call_op (args := #[.map n]) rfl (by simp [f7]) (by kernel_rfl)) ?_
          exact (row_any n F l W (HNl.out W hwW).2 HLx.out).mono fun e w' ⟨v, he, hrow, hb⟩ => ⟨v, he, hrow.base_ (Nat.le_trans HRX.out hI.size), hb⟩
        · intro _ a W hI hun haft hi
          have f1 : a.eval (.tmp 20) = eE ⟨kk, xa, xb, xc, xd⟩ := haft ⟨1, .data⟩ (by simp) rfl _ _ rfl rfl
          have f8 : RowIs W R0 (a.eval (.tmp 27)) l := haft ⟨8, .data⟩ (by simp) rfl _ _ rfl rfl
          obtain ⟨A, na, ca, f9⟩ := f8.slice
          rw [f9] at f8
          exact b_same hi hI rfl _ (run_build_op (vs := #[(0, eE ⟨kk, xa, xb, xc, xd⟩), (1, .slice A na ca)]) rfl (by simp only [List.map_toArray, List.map_cons, List.map_nil, f1, f9] <;> rfl) (by kernel_rfl)) ⟨_, rfl, f8⟩
        · intro _ a W hI hun haft hi
          obtain ⟨r, f9, hr⟩ : ∃ r, a.eval (.tmp 28) = .agg (enI (⟨kk, xa, xb, xc, xd⟩, r)).toArray ∧ RowIs W R0 r l := haft ⟨9, .data⟩ (by simp) rfl _ _ rfl rfl
          obtain ⟨A, na, ca, rfl⟩ := hr.slice
          have hba : Below W.heap.size W (W.alloc (.cells #[.int .i64 kk, .string xa, .string xb, .string xc, .string xd, .slice A na ca] 61)) := (Below.refl _ _).alloc (Nat.le_refl _) _
          exact b_val hi hI rfl _ _ (run_buildSlice_op (vs := #[(0, .agg #[.int .i64 kk, .string xa, .string xb, .string xc, .string xd, .slice A na ca])]) rfl (by simp only [List.map_toArray, List.map_cons, List.map_nil, f9] <;> rfl) (bsI _ _ _ _ _ _ _ _ _)) hba ⟨_, _, rfl, Blk.new _ _ _, hr.keep hba⟩
      · intro a W hI haft
        have f0 : a.eval (.tmp 19) = u3 := haft ⟨0, .data⟩ (by simp) rfl _ _ rfl rfl
        obtain ⟨r, gb, f10, hbk, hr⟩ : ∃ r gb, a.eval (.tmp 29) = .slice (some ⟨gb, 0, none⟩) 1 1 ∧ Blk W gb 61 (enI (⟨kk, xa, xb, xc, xd⟩, r)).toArray ∧ RowIs W R0 r l := haft ⟨10, .data⟩ (by simp) rfl _ _ rfl rfl
        have hRW : R0 ≤ W.heap.size := Nat.le_trans HRX.out hI.size
        have hbw : Below R0 w W := HbX.out.trans (hI.mono HRX.out)
        have ho1 := HOi.out.keep hI
        have hk1 := HOk.out.keep hI
        have hone := hr.one
        obtain ⟨v', w', hrun, hown', hgrow, _⟩ := run_append_own (P := Tryz.prog) W R0 24 24 61 i0 _ 6 96 Tryz.underlying24 hi hz0 hz1 hz2 rfl (by decide) u3 acc.length (acc.flatMap enI) ho1 ⟨gb, 0, none⟩ 1 1 (enI (⟨kk, xa, xb, xc, xd⟩, r)) rfl
          (fun q u hu => by rw [Addr.add_lit, Blk.cell hbk]; simpa using hu)
          (by intro u hu; simp only [enI, List.mem_cons, List.not_mem_nil, or_false] at hu; rcases hu with rfl | rfl | rfl | rfl | rfl | rfl <;> first | rfl | exact hone)
          (by have h1 := HAl.out; have h2 := HSS.out; have h3 := HN.out; unfold maxLen; omega) (by have h1 := HAl.out; have h2 := HSS.out; have h3 := HN.out; omega) hRW
        refine wpOp_val rfl rfl v' w' (run_append_op rfl f0 f10 hrun) ?_
        refine ⟨v', rfl, r, ?_, ?_, ?_, ?_, ?_⟩
        · unfold OwnK
          rw [List.length_append, List.flatMap_append]
          simpa using hown'
        · obtain ⟨l', q1, q2, q3⟩ := hr
          exact ⟨l', q1, q2, q3.grown ne_NI ho1 hgrow⟩
        · intro p hp
          obtain ⟨l', q1, q2, q3⟩ := (HRs.out p hp).keep hI
          exact ⟨l', q1, q2, q3.grown ne_NI ho1 hgrow⟩
        · exact hk1.grown ne_EI ho1 hgrow
        · exact hbw.grown hgrow hRW (fun q e => (ho1.lt q e).1)
      · intro v a W hv
        have f11 : a.eval (.tmp 30) = v := hv 30 rfl
        exact wpOp_val rfl rfl v W (run_assign_op rfl f11) ⟨rfl, rfl⟩
      · rintro vals W ⟨r, q1, q2, q3, q4, q5⟩ hv12
        have Q1 := Lib.hid q1
        have Q2 := Lib.hid q2
        have Q3 := Lib.hid q3
        have Q4 := Lib.hid q4
        have Q5 := Lib.hid q5
        clear q1 q2 q3 q4 q5
        simp only [layN, List.size_toArray, List.length_cons, List.length_nil, List.range, List.range.loop, if_true, List.getElem?_toArray, List.getElem?_cons_zero, List.getElem?_cons_succ, Act.put, List.setIfInBounds_toArray, List.set_cons_zero, List.set_cons_succ, Nat.zero_add, Nat.reduceAdd, hv12]
        generalize vals 0 = y0, vals 1 = y1, vals 2 = y2, vals 3 = y3, vals 4 = y4, vals 5 = y5, vals 6 = y6, vals 7 = y7, vals 8 = y8, vals 9 = y9, vals 10 = y10, vals 11 = y11 at *
        have hw := IntWalk.i64_in ((j : Int) + 1) (by have h1 := HN.out; have h2 := HSS.out; omega)
        have hjm : ¬ 9223372036854775807 < j + 1 := by have h1 := HN.out; have h2 := HSS.out; omega
        go_wp2
        go_roundw
        case rel =>
          refine ⟨j + 1, acc ++ [(⟨kk, xa, xb, xc, xd⟩, r)], by go_num, by omega, Q1.out, ?_, ?_, Q4.out, Q5.out⟩
          · rw [List.map_append, HA.out, List.take_add_one, HX.out]; rfl
          · intro p hp
            rcases List.mem_append.1 hp with h | h
            · exact Q3.out p h
            · simp only [List.mem_singleton] at h
              rw [h, HLe.out]; exact Q2.out
        case measure => simp [intOf] <;> omega
    · have hjN : j = N := by omega
      subst hjN
      rw [List.take_of_length_le (Nat.le_of_eq HN.out)] at hacc
      have HIt := Lib.hid (show ItemsIs wr R0 u3 σ ss from ⟨acc, hoi, hacc, hrows⟩)
      have HBw := Lib.hid hbw
      clear hoi hacc hrows hbw hok
      go_wp2
      go_ret
      exact ⟨_, ss, rfl, HP.out, HQ.out, by rw [HR.out]; exact HIt.out, by rw [HR.out]; exact HBw.out⟩

end Go.Proofs.YtejljikikhecnaaGreat
