/- Ranging over a function whose variable is boxed. -/import Derived.Test.YtdgglhlofnigkaaGreatDoorJEvPast
import Derived.Test.YtdgglhlofnigkaaGreatDoorStGD
import Derived.RangeFuncFrom
import Derived.RangeFuncGives
import Derived.RangeFuncBox
import Derived.Shelf.AbstractIn
import Derived.Sort.MapsRangeIn
import Derived.OwnWalkIn
import Derived.TacticsInMore
import Derived.RegionIn
import Derived.LoopNIn
import Derived.LoopIn
import Derived.Test.YtdgglhlofnigkaaGreatDoorStGA
set_option maxHeartbeats 2000000
set_option maxRecDepth 100000
namespace Go.Proofs.YtdgglhlofnigkaaGreatDoor
open Lib (hid)
open Go.RowKit Go.MapKept
section
variable {F : Fence} {n : Nat} {P : Program}
theorem wpIn_rangeFunc_box {α : Type} {g : Operand} {ps : Array Tmp} {assign body : Code} {Q : Exit → Act → World → Prop} {a : Act} {w : World}
  (hro : F.round = none) (h1 : 1 ≤ n) {gf : Nat} {lb : Array Value} (hg : a.eval g = .func (.func gf) #[] lb) (hFg : F.fn gf) (eg : ∀ args w, (callFunc gf args).run P w = .ok (.enter gf args) w)
  {enc : α → Value} {S : List α → Prop} {N : Nat} {w0 : World} (hseq : SeqGives F (n - 1) P gf lb enc S N w0) (hb0 : Below w0.heap.size w0 w) (hps : ps.size = 1)
  (I : List α → World → Prop) (hI : OwnFrom w.heap.size I) (h0 : I [] w) (ob : α → Obj) (a₁ : α → Nat → Act)
  (hassign : ∀ (l : Nat) (x : α) (W : World) (K : Act → World → Prop), K (a₁ x W.heap.size) (W.alloc (ob x)) →
   assign.wpIn (F.inRound l) (n - 1 - 1) P (Exit.then K (fun _ _ _ => False)) { tmps := (ps.zip #[enc x]).foldl (fun t (p, v) => t.setIfInBounds p v) a.tmps, defers := [] } W)
  (hbody : ∀ (l : Nat) (pre : List α) (x : α) (W : World) (bx : Nat), I pre W → W.heap[bx]? = some (ob x) → w.heap.size ≤ bx → pre.length < N → body.wpIn (F.inRound l) (n - 1 - 1) P (fun e _ W' => e = .normal ∧ KeepsOthers W W' ∧ I (pre ++ [x]) W') (a₁ x bx) W)
  (hdone : ∀ (D : Nat) (xs : List α) (W : World), w.heap.size ≤ D → S xs → I xs W → W.heap[D]? = some (.deferred (some [])) → Q .normal { a with defers := { target := .collected D, args := #[] } :: a.defers } W) :
  (Code.rangeFunc g ps assign body).wpIn F n P Q a w := by
 refine wpIn_rangeFunc ?_
 intro fn hfn
 rw [hro]
 obtain ⟨rec, hrec⟩ : ∃ rec : LoopState → Option Code → Loop, rec = fun st pe => { state := st, pending := pe, fn, tmps := a.tmps, params := ps, assign, body, defers := w.heap.size } := ⟨_, rfl⟩
 obtain ⟨W1, hW1⟩ : ∃ W1, (w.alloc (.deferred (some []))).alloc (.loop (rec .ready none)) = W1 := ⟨_, rfl⟩
 have hL1 : W1.heap[w.heap.size + 1]? = some (.loop (rec .ready none)) := by
  rw [← hW1]; have := World.alloc_heap_new (w.alloc (.deferred (some []))) (.loop (rec .ready none)); rwa [World.size_alloc] at this
 have hK1 : W1.heap[w.heap.size]? = some (.deferred (some [])) := by
  rw [← hW1]; exact (Below.heap_alloc _ _ _ (by simp)).trans (World.alloc_heap_new w _)
 have hI1 : I [] W1 := by rw [← hW1]; exact hI.alloc _ (hI.alloc _ h0)
 have hb1 : Below w0.heap.size w0 W1 := by
  rw [← hW1]; exact hb0.trans ((((Below.refl _ w).alloc (Nat.le_refl _) _).alloc (by simp) _).mono hb0.size)
 refine ⟨w.heap.size + 1, [{ target := .collected w.heap.size, args := #[] }], W1, { target := .fn (.func gf) lb, args := #[.func (.yield (w.heap.size + 1)) #[] #[]] }, W1, gf,
  #[.func (.yield (w.heap.size + 1)) #[] #[]] ++ lb, W1, ?_, ?_, ?_, ?_, fun _ => h1, ?_⟩
 ·rw [← hW1, hrec]; exact run_enterLoop_outer _ _ _ _ _
 ·simp only [resolve, hg]
  simp [go_sem]
 ·intro f' hf'; simp [Target.leads] at hf'; subst hf'; exact hFg
 ·simp [invoke, go_sem, eg]
 ·have hnw : ∀ {A B : World} {row : Option Nat}, (∀ r, row = some r → W1.heap.size ≤ r ∧ ∃ o : Obj, A.heap[r]? = some o ∧ o.isWalk = true) → (∀ r, row = some r → w.heap.size ≤ r ∧ ∃ o : Obj, A.heap[r]? = some o ∧ o.isCells = false) :=
   fun hr r e => by obtain ⟨hB, o, ho, hw⟩ := hr r e; exact ⟨by rw [← hW1] at hB; simp at hB; omega, o, ho, Obj.not_cells_of_walk hw⟩
  refine (hseq (w.heap.size + 1)
   (fun pre W => I pre W ∧ W.heap[w.heap.size + 1]? = some (.loop (rec .ready none)) ∧ W.heap[w.heap.size]? = some (.deferred (some [])))
   W1 hb1
   (fun s A B row hs hg' hr => ⟨hI s A B row hs.1 hg' (hnw (B := B) hr), (grownBy_keeps hg' (fun r e => (hr r e).2) hs.2.1 rfl).trans hs.2.1, (grownBy_keeps hg' (fun r e => (hr r e).2) hs.2.2 rfl).trans hs.2.2⟩)
   ?_ ⟨hI1, hL1, hK1⟩).mono ?_
  ·rintro pre x W ⟨hi, hl, hk⟩ hlen
   have hlt : w.heap.size + 1 < W.heap.size := (Array.getElem?_eq_some_iff.1 hl).1
   have hy := run_yield (P := P) (args := #[enc x]) hl (by rw [hrec]; exact hps.symm)
   rw [hrec] at hy
   have hlA : (W.alloc (ob x)).heap[w.heap.size + 1]? = some (.loop (rec .ready none)) := (Below.heap_alloc _ _ _ hlt).trans hl
   have hkA : (W.alloc (ob x)).heap[w.heap.size]? = some (.deferred (some [])) := (Below.heap_alloc _ _ _ (by omega)).trans hk
   have hxA : (W.alloc (ob x)).heap[W.heap.size]? = some (ob x) := World.alloc_heap_new W _
   have hltA : w.heap.size + 1 < (W.alloc (ob x)).heap.size := (Array.getElem?_eq_some_iff.1 hlA).1
   refine ⟨fn, _, assign, body, hy, roundIn_of_wpIn hfn (hassign _ x W _ ⟨_, run_beginRound hlA (by rw [hrec]), ?_⟩)⟩
   have hl2 : ((W.alloc (ob x)).putObj (w.heap.size + 1) (.loop { rec .ready none with state := .busy })).heap[w.heap.size + 1]? = some (.loop { rec .ready none with state := .busy }) := World.putObj_heap_same hltA
   have hk2 : ((W.alloc (ob x)).putObj (w.heap.size + 1) (.loop { rec .ready none with state := .busy })).heap[w.heap.size]? = some (.deferred (some [])) := (World.putObj_heap_other (by omega)).trans hkA
   have hx2 : ((W.alloc (ob x)).putObj (w.heap.size + 1) (.loop { rec .ready none with state := .busy })).heap[W.heap.size]? = some (ob x) := (World.putObj_heap_other (by omega)).trans hxA
   have hw2 : KeepsWalks W ((W.alloc (ob x)).putObj (w.heap.size + 1) (.loop { rec .ready none with state := .busy })) := (KeepsWalks.alloc W _).trans (KeepsWalks.putObj _ hlA rfl)
   refine wpIn_mono (hbody _ pre x _ W.heap.size (hI.putObj _ (hI.alloc _ hi) (by omega) hlA rfl) hx2 (by omega) hlen) ?_
   rintro e a3 W3 ⟨rfl, hk3, hi3⟩
   have hl3 := hk3.same _ _ hl2 rfl
   have hend := run_endRound (P := P) none hl3
   have hl4 : (W3.putObj (w.heap.size + 1) (.loop (rec .ready none))).heap[w.heap.size + 1]? = some (.loop (rec .ready none)) := World.putObj_heap_same (Array.getElem?_eq_some_iff.1 hl3).1
   have hk4 : (W3.putObj (w.heap.size + 1) (.loop (rec .ready none))).heap[w.heap.size]? = some (.deferred (some [])) := (World.putObj_heap_other (by omega)).trans (hk3.same _ _ hk2 rfl)
   have he : ({ { rec .ready none with state := .busy } with state := if (none : Option Code).isNone then .ready else .done, pending := none } : Loop) = rec .ready none := by rw [hrec]; rfl
   rw [he] at hend
   exact ⟨_, _, hend, rfl, ⟨hI.putObj _ hi3 (by omega) hl3 rfl, hl4, hk4⟩, (hw2.trans hk3.walks).trans (KeepsWalks.putObj _ hl3 rfl)⟩
  ·rintro e W2 ⟨⟨v, rfl⟩, xs, hS, hi, hl, hk⟩
   exact ⟨none, _, by have := run_endLoop (P := P) hl (by rw [hrec]; simp); rw [hrec] at this; exact this, hdone _ xs _ (Nat.le_refl _) hS (hI.putObj _ hi (by omega) hl rfl) ((World.putObj_heap_other (by omega)).trans hk)⟩
end
section
variable {F : Fence} {n : Nat} {P : Program} {α β : Type} {eK : α → Value} {eU : β → Value} (w : World) {ops : Array Oper} {rest : List Oper} {o : Oper} {a : Act} {Q : Exit → Act → World → Prop}
theorem wpListIn_range_is (hg : o.guard = none) (m : Operand) (t k e : TypeId) (hop : o.op = Op.range t m) (ht : P.underlying t = some (.map k e)) (b : Nat) (L : List (α × β)) (hm : a.eval m = .map (some b)) (h : MapIs eK eU w b L)
  (hK : ∀ w', Ranging eK eU w' b w.heap.size L L → (∃ o, w' = w.alloc o) → wpListIn F n P ops Q rest (a.put o.dst (.pointer (some ⟨w.heap.size, 0, none⟩))) w') : wpListIn F n P ops Q (o :: rest) a w := by
 refine wpListIn_plain hg fun K' hK' => ?_
 obtain ⟨w', hrun, r1, r2⟩ := range_run h ht
 unfold Oper.wpIn
 refine ⟨?_, ?_⟩
 ·simp [Oper.about, hop]
 ·rw [Oper.semAt_plain F _ _ (by rw [hop]; intro c hc'; cases hc')]
  simp [execOp, hop, hm, hrun, Result.andThen]
  exact hK' _ _ (hK w' r1 r2)
theorem wpListIn_next_is (hg : o.guard = none) (it : Operand) (hop : o.op = Op.next it false) (b r : Nat) (L R : List (α × β)) (hit : a.eval it = .pointer (some ⟨r, 0, none⟩)) (h : Ranging eK eU w b r L R)
  (hDone : R = [] → wpListIn F n P ops Q rest (a.put o.dst (.tuple #[.bool false])) w)
  (hMore : ∀ (p : α × β) (R' : List (α × β)) (w' : World), R.Perm (p :: R') → Ranging eK eU w' b r L R' → But r w w' → w'.heap.size = w.heap.size → (Instr.entry (.pointer (some ⟨r, 0, none⟩))).run P w' = .ok (.tuple #[eK p.1, eU p.2]) w' →
   wpListIn F n P ops Q rest (a.put o.dst (.tuple #[.bool true, eK p.1, eU p.2])) w') : wpListIn F n P ops Q (o :: rest) a w := by
 refine wpListIn_plain hg fun K' hK' => ?_
 unfold Oper.wpIn
 refine ⟨by simp [Oper.about, hop], ?_⟩
 rw [Oper.semAt_plain F _ _ (by rw [hop]; intro c hc'; cases hc')]
 rcases next_run (P := P) h o.type with ⟨h0, hrun⟩ | ⟨p, R', w', hp, hrun, hrg, hb, hs, hen⟩
 ·simp [execOp, hop, hit, hrun, Result.andThen]
  exact hK' _ _ (hDone h0)
 ·simp [execOp, hop, hit, hrun, Result.andThen]
  exact hK' _ _ (hMore p R' w' hp hrg hb hs hen)
end
theorem Ranging.of_walks {α β : Type} {eK : α → Value} {eU : β → Value} {w w' : World} {b r : Nat} {L R : List (α × β)} (h : Ranging eK eU w b r L R) (hk : KeepsWalks w w') : Ranging eK eU w' b r L R := by
 obtain ⟨es, clock, since, seen, c0, hb, h2, h3, hr, h5⟩ := h
 exact ⟨es, clock, since, seen, c0, hk.same b _ hb rfl, h2, h3, hk.same r _ hr rfl, h5⟩
theorem Ranging.iter_walk {α β : Type} {eK : α → Value} {eU : β → Value} {w : World} {b r : Nat} {L R : List (α × β)} (h : Ranging eK eU w b r L R) : ∃ o : Obj, w.heap[r]? = some o ∧ o.isWalk = true := by
 obtain ⟨es, clock, since, seen, c0, _, _, _, hr, _⟩ := h
 exact ⟨_, hr, rfl⟩
section
variable {F : Fence} {n : Nat} {P : Program} {ops : Array Oper} {rest : List Oper} {o : Oper} {a : Act} {w : World} {Q : Exit → Act → World → Prop}
theorem wpListIn_store_row (hgd : o.guard = none) (ty : TypeId) (x y : Operand) (ho : o.op = .store ty x y)
  (g : Nat) (cells : Array Value) (hx : a.eval x = .pointer (some ⟨g, 0, none⟩)) (hy : a.eval y = .agg cells)
  (t : TypeId) (old : Array Value) (hg : w.heap[g]? = some (.cells old t (0, 0))) (hi : (P.info? ty).map (·.size) = some cells.size)
  (hold : old.size = cells.size) (h1 : cells.all (·.oneCell') = true)
  (h : wpListIn F n P ops Q rest (a.put o.dst undef) (w.setRow g cells)) : wpListIn F n P ops Q (o :: rest) a w := by
 refine wpListIn_plain hgd fun K hK => ?_
 unfold Oper.wpIn
 refine ⟨by simp [Oper.about, ho], ?_⟩
 rw [Oper.semAt_plain F _ _ (by rw [ho]; intro c hc; cases hc)]
 unfold execOp
 simp only [ho, hx, hy, Instr.storeAt, Instr.sureAddr, Sem.run_bind, Sem.run_pure, Result.andThen_ok, run_storeVar_row w g t ty old cells hg hi hold h1]
 exact hK _ _ h
theorem wpListIn_val (hg : o.guard = none) (hd : ∀ c, o.op ≠ .defer c) (hab : o.about P w a.eval = none) (v : Value) (w' : World) (hr : (execOp a.eval o).run P w = .ok (.value v) w') (h : wpListIn F n P ops Q rest (a.put o.dst v) w') : wpListIn F n P ops Q (o :: rest) a w := by
 refine wpListIn_plain hg fun K hK => ?_
 unfold Oper.wpIn
 refine ⟨fun f hf => (by rw [hab] at hf; cases hf), ?_⟩
 rw [Oper.semAt_plain F _ _ hd, hr]
 exact hK _ _ h
end
theorem grown_of_below {w w' : World} (h : Below w.heap.size w w') (row : Option Nat) : w.grownBy w' row := ⟨h.os, h.tape, h.output, h.size, fun k hk _ => h.block k hk⟩
theorem keysIt_in (F : Fence) (n : Nat) (hf : F.fn 96) (hro : F.round = none) (hn : 1 ≤ n) (l Bm b : Nat) (L : List (El × Nat)) (J : List El → World → Prop)
  (hY : ∀ pre x W, J pre W → pre.length < L.length → YieldAt F (n - 1) Tryz.prog l #[eE x] W fun e W' => e = .returned (.bool true) ∧ J (pre ++ [x]) W' ∧ KeepsWalks W W')
  (W : World) (hJ : AbidesFrom W.heap.size J) (hm : W.cell? ⟨Bm, 0, none⟩ = some (.map (some b))) (hown : MapIs eE eM W b L) (h0 : J [] W) :
  CallsIn F n Tryz.prog 96 #[.func (.yield l) #[] #[], .pointer (some ⟨Bm, 0, none⟩)] W fun e W' => (∃ v, e = .returned v) ∧ ∃ ss : List El, ss.Perm (keysL L) ∧ J ss W' := by
 obtain ⟨R0, hR0⟩ : ∃ R0, W.heap.size = R0 := ⟨_, rfl⟩
 have HR := hid hR0
 clear hR0
 refine callsIn_of_wp Tryz.func96 rfl hf ?_ hro
 rw [Tryz.ntmps96]
 simp only [List.size_toArray, List.length_cons, List.length_nil, Nat.reduceAdd, Nat.reduceSub, Array.replicate_succ, Array.replicate_zero, List.push_toArray, List.append_toArray, List.nil_append, List.cons_append]
 gi_wp2_with (first
  | (gi_at_range; refine wpListIn_range_is _ rfl _ 89 38 116 rfl Tryz.underlying89 b L rfl hown ?_; intro V hrg hal)
  | gi_in)
 go_frame
 rw [HR.out] at hrg ⊢
 have hg0 : W.grownBy V none := by
  obtain ⟨o, rfl⟩ := hal
  exact grown_of_below ((Below.refl _ _).alloc (Nat.le_refl _) _) _
 have hJ0 := hJ [] W V none h0 hg0 (fun r e => by cases e)
 clear hal hg0 h0 hm hown
 gi_loopw [3] (fun _ wr => ∃ (R : List (El × Nat)) (ss : List El), Ranging eE eM wr b R0 L R ∧ (ss ++ keysL R).Perm (keysL L) ∧ J ss wr) (fun _ wr => wr.rangeLeft b R0)
 case atStart => exact ⟨L, [], hrg, List.Perm.refl _, hJ0⟩
 case round =>
  obtain ⟨R, ss, hrg1, hpm, hJs⟩ := hrel
  have HPm := hid hpm
  clear hpm hrg hJ0
  gi_wp2_with (first
   | (gi_at_next; refine wpListIn_next_is _ rfl _ rfl b R0 _ _ rfl hrg1 ?_ ?_)
   | gi_in)
  ·intro hR
   subst hR
   gi_wp2
   go_end0
   exact ⟨⟨_, rfl⟩, ss, by simpa [keysL] using HPm.out, hJs⟩
  ·intro pd pn R1 V1 hp hrg2 hb1 hs1 hen
   obtain ⟨kk, xa, xb, xc, xd⟩ := pd
   have hJ2 : J ss V1 := hJ ss wr V1 (some R0) hJs hb1 (fun r e => by cases e; exact ⟨by rw [HR.out]; exact Nat.le_refl _, hrg1.iter_walk⟩)
   have hlen : ss.length < L.length := by
    have h1 := HPm.out.length_eq
    have h2 := hp.length_eq
    simp [keysL] at h1 h2
    omega
   have hl1 : wr.rangeLeft b R0 = R.length := hrg1.left_eq
   have HL1 := hid hl1
   have HP := hid hp
   have hZ : Blk (V1.alloc (.cells #[.int .i64 0, .string ⟨#[]⟩, .string ⟨#[]⟩, .string ⟨#[]⟩, .string ⟨#[]⟩] 38)) V1.heap.size 38 #[.int .i64 0, .string ⟨#[]⟩, .string ⟨#[]⟩, .string ⟨#[]⟩, .string ⟨#[]⟩] := Blk.new _ _ _
   obtain ⟨X, hX⟩ : ∃ X, X = (V1.alloc (.cells #[.int .i64 0, .string ⟨#[]⟩, .string ⟨#[]⟩, .string ⟨#[]⟩, .string ⟨#[]⟩] 38)).setRow V1.heap.size #[.int .i64 kk, .string xa, .string xb, .string xc, .string xd] := ⟨_, rfl⟩
   have hbX : Below V1.heap.size V1 X := by
    rw [hX]
    exact ((Below.refl _ _).alloc (Nat.le_refl _) _).trans (setRow_below _ _ _ _ (Nat.le_refl _))
   have hBX : Blk X V1.heap.size 38 #[.int .i64 kk, .string xa, .string xb, .string xc, .string xd] := by rw [hX]; exact setRow_blk _ _ _ _ _ hZ
   have hJX : J ss X := hJ ss V1 X none hJ2 (grown_of_below hbX _) (fun r e => by cases e)
   have hrgX := hrg2.below hbX
   have HX := hid hX
   have HBX := hid hBX
   obtain ⟨fn, tmps, assign, body, hy, hRd⟩ := hY ss ⟨kk, xa, xb, xc, xd⟩ X hJX hlen
   clear hX hb1 hs1 hl1 hp hrg1 hrg2 hbX
   simp only [eE, elV, eM] at hen hy hRd ⊢
   gi_wp2_with (first
    | (refine wpListIn_store_row rfl 38 (.tmp 3) (.tmp 9) rfl V1.heap.size #[.int .i64 kk, .string xa, .string xb, .string xc, .string xd] rfl rfl _ _ hZ (by kernel_rfl) rfl (by kernel_rfl) ?_; rw [← HX.out])
    | (refine wpListIn_val (o := ⟨some 11, _, _, _, _, _⟩) rfl (fun c hc => by cases hc) (by simp [Oper.about]) (.agg #[.int .i64 kk, .string xa, .string xb, .string xc, .string xd]) X (run_load_op rfl rfl hBX Tryz.underlying38 rfl (by kernel_rfl)) ?_)
    | gi_in)
   refine hRd.mono ?_
   rintro e W3 ⟨rfl, hJ3, hk3⟩
   gi_wp2
   have hrg3 := hrgX.of_walks hk3
   go_roundw
   case rel => exact ⟨R1, ss ++ [⟨kk, xa, xb, xc, xd⟩], hrg3, by
    rw [List.append_assoc]
    exact (List.Perm.append_left ss (keys_perm HP.out).symm).trans HPm.out, hJ3⟩
   case measure =>
    rw [hrg3.left_eq, HL1.out, HP.out.length_eq]
    exact Nat.lt_succ_self _
theorem keys_in (F : Fence) (n : Nat) (hf : F.fn 71) (hro : F.round = none) (mb : Option Nat) (w : World) :
  CallsIn F n Tryz.prog 71 #[.map mb] w fun e w' => e = .returned (.func (.func 96) #[] #[.pointer (some ⟨w.heap.size, 0, none⟩)]) ∧ w' = w.alloc (.cells #[.map mb] 89) := by
 refine callsIn_of_wp Tryz.func71 rfl hf ?_ hro
 rw [Tryz.ntmps71]
 simp only [List.size_toArray, List.length_cons, List.length_nil, Nat.reduceAdd, Nat.reduceSub, Array.replicate_succ, Array.replicate_zero, List.push_toArray, List.append_toArray, List.nil_append, List.cons_append]
 gi_wp2
 go_ret
 exact ⟨rfl, rfl⟩
theorem keys_gives (F : Fence) (n : Nat) (hf : F.fn 96) (hro : F.round = none) (hn : 1 ≤ n) (Bm b : Nat) (L : List (El × Nat)) (w : World) (hBm : Bm < w.heap.size)
  (hm : w.cell? ⟨Bm, 0, none⟩ = some (.map (some b))) (hown : MapIs eE eM w b L) :
  SeqGives F n Tryz.prog 96 #[.pointer (some ⟨Bm, 0, none⟩)] eE (fun ss => ss.Perm (keysL L)) L.length w := fun l J W hW hJ hY h0 =>
 keysIt_in F n hf hro hn l Bm b L J hY W hJ ((hW.cell (p := ⟨Bm, 0, none⟩) hBm).trans hm) (hown.same (hW.block b hown.lt)) h0
theorem infoL : (Tryz.prog.info? 38).map (fun i => (i.zero, i.size, i.bytes)) = some (some (.agg #[.int .i64 0, .string ⟨#[]⟩, .string ⟨#[]⟩, .string ⟨#[]⟩, .string ⟨#[]⟩]), 5, 72) := by kernel_rfl
theorem zip1 (t : Array Value) (p : Tmp) (v : Value) : ((#[p] : Array Tmp).zip #[v]).foldl (fun t (p, v) => t.setIfInBounds p v) t = t.setIfInBounds p v := by
 rw [List.zip_toArray]
 simp
def ApE (B : Nat) (w0 : World) (ss : List El) (W : World) : Prop := ∃ v, Boxed W B 80 v ∧ OwnK enL w0.heap.size 38 5 W v ss ∧ Below w0.heap.size w0 W
theorem ne_EL : (80 : TypeId) ≠ 38 := by decide
theorem ApE.own (B : Nat) (w0 : World) (D : Nat) (hD : w0.heap.size ≤ D) : OwnFrom D (ApE B w0) := by
 rintro s X Y row ⟨v, hv, hr, hb⟩ hg hrow
 refine ⟨v, hv.kept hg (fun e' => ?_), hr.kept hg ?_, hb.grown hg hb.size (fun k e => Nat.le_trans hD (hrow k e).1)⟩
 ·obtain ⟨_, o, ho, hc⟩ := hrow B e'.symm
  rw [show X.heap[B]? = _ from hv] at ho; cases ho; cases hc
 ·rcases hr.2 with ⟨rfl, _⟩ | ⟨g, cap, cur, rfl, _, hgb, _⟩
  ·exact .inl rfl
  ·refine .inr fun e' => ?_
   obtain ⟨_, o, ho, hc⟩ := hrow g (by simpa [Value.ownBlock] using e'.symm)
   rw [hgb] at ho; cases ho; cases hc
theorem appendSeq_in (F : Fence) (n : Nat) (hf : F.fn 128) (hro : F.round = none) (hn : 2 ≤ n) (g : Nat) (lb : Array Value) (hFg : F.fn g) (eg : ∀ args w, (callFunc g args).run Tryz.prog w = .ok (.enter g args) w)
  (S : List El → Prop) (N : Nat) (hN : N ≤ 1000000) (w : World) (hseq : SeqGives F (n - 1) Tryz.prog g lb eE S N w) :
  CallsIn F n Tryz.prog 128 #[.slice none 0 0, .func (.func g) #[] lb] w fun e w' => ∃ (v : Value) (ss : List El), e = .returned v ∧ S ss ∧ OwnK enL w.heap.size 38 5 w' v ss ∧ Below w.heap.size w w' := by
 obtain ⟨i0, hi, hz0, hz1, hz2⟩ := info_parts infoL
 refine callsIn_of_wp_marks Tryz.func128 rfl hf ?_ hro
 rw [Tryz.ntmps128]
 simp only [List.size_toArray, List.length_cons, List.length_nil, Nat.reduceAdd, Nat.reduceSub, Array.replicate_succ, Array.replicate_zero, List.push_toArray, List.append_toArray, List.nil_append, List.cons_append]
 gi_wp2
 obtain ⟨W0, hW0⟩ : ∃ W0, w.alloc (.cells #[.slice none 0 0] 80) = W0 := ⟨_, rfl⟩
 have hs0 : w.heap.size < W0.heap.size := by rw [← hW0]; simp
 have hv0 : Boxed W0 w.heap.size 80 (.slice none 0 0) := by rw [← hW0]; exact Boxed.new _ _ _
 have hb0 : Below w.heap.size w W0 := by rw [← hW0]; exact (Below.refl _ w).alloc (Nat.le_refl _) _
 rw [hW0]
 clear hW0
 refine wpIn_rangeFunc_box (α := El) hro (by omega) (gf := g) (lb := lb) rfl hFg eg hseq hb0 rfl (ApE w.heap.size w) (ApE.own _ _ _ hb0.size) ⟨_, hv0, OwnK.nil_ _ _ _ _ _, hb0⟩ (fun x => .cells #[.int .i64 x.k, .string x.a, .string x.b, .string x.c, .string x.d] 38)
  (fun x q => { tmps := #[.slice none 0 0, .func (.func g) #[] lb, .pointer (some ⟨w.heap.size, 0, none⟩), undef, .slice none 0 0, .pointer (some ⟨q, 0, none⟩), .func (.func g) #[] lb, eE x, undef, undef, undef, undef, undef], defers := [] }) ?_ ?_ ?_
 ·rintro l ⟨kk, xa, xb, xc, xd⟩ W K hK
  have hZ : Blk (W.alloc (.cells #[.int .i64 0, .string ⟨#[]⟩, .string ⟨#[]⟩, .string ⟨#[]⟩, .string ⟨#[]⟩] 38)) W.heap.size 38 #[.int .i64 0, .string ⟨#[]⟩, .string ⟨#[]⟩, .string ⟨#[]⟩, .string ⟨#[]⟩] := Blk.new _ _ _
  have hX := World.setRow_alloc_new W #[.int .i64 0, .string ⟨#[]⟩, .string ⟨#[]⟩, .string ⟨#[]⟩, .string ⟨#[]⟩] #[.int .i64 kk, .string xa, .string xb, .string xc, .string xd] 38
  simp only [eE, elV] at hK ⊢
  rw [zip1]
  simp only [List.setIfInBounds_toArray, List.set_cons_zero, List.set_cons_succ]
  gi_wp2_with (first
   | (refine wpListIn_store_row rfl 38 (.tmp 5) (.tmp 7) rfl W.heap.size #[.int .i64 kk, .string xa, .string xb, .string xc, .string xd] rfl rfl _ _ hZ (by kernel_rfl) rfl (by kernel_rfl) ?_; rw [hX])
   | (rw [Oper.semAt_eq _ _ _ (fun c h => by cases h)]; go_simp; try go_bits))
  exact hK
 ·rintro l pre ⟨kk, xa, xb, xc, xd⟩ W bx ⟨v, hv, hr, hb⟩ hx hle hlen
  have HX := hid (show Blk W bx 38 #[.int .i64 kk, .string xa, .string xb, .string xc, .string xd] from hx)
  have hNC : ∀ j u, [Value.int .i64 kk, .string xa, .string xb, .string xc, .string xd][j]? = some u → (W.alloc (.cells #[.int .i64 kk, .string xa, .string xb, .string xc, .string xd] 38)).cell? ((⟨W.heap.size, 0, none⟩ : Addr).add j) = some u := fun j u hu => by
   rw [Addr.add_lit, Blk.cell (Blk.new W _ _)]
   simpa using hu
  have hws : w.heap.size ≤ W.heap.size := hb.size
  have hOw := hr.keep ((Below.refl _ _).alloc (Nat.le_refl _) (.cells #[.int .i64 kk, .string xa, .string xb, .string xc, .string xd] 38))
  have hc := hv.cell
  clear hx
  simp only [eE, elV]
  gi_wp2_with (first
   | (refine wpListIn_val (o := ⟨some 9, _, _, _, _, _⟩) rfl (fun c hc => by cases hc) (by simp [Oper.about]) (.agg #[.int .i64 kk, .string xa, .string xb, .string xc, .string xd]) W (run_load_op rfl rfl HX.out Tryz.underlying38 rfl (by kernel_rfl)) ?_)
   | (gi_at_builtin; refine wpListIn_append_own _ rfl _ _ 80 rfl w.heap.size 38 i0 _ 5 72 Tryz.underlying80 hi hz0 hz1 hz2 rfl (by decide) _ _ _ rfl hOw ⟨W.heap.size, 0, none⟩ 1 1 [.int .i64 kk, .string xa, .string xb, .string xc, .string xd] rfl rfl hNC (enL_one ⟨kk, xa, xb, xc, xd⟩) (by unfold maxLen; omega) (by omega) (by simp; omega) ?_; intro v' W6 hown' hgrow hnil'
      obtain ⟨g', cap', rfl⟩ := ownsRow_succ hown'
      obtain ⟨q1, q2, q3, q4, q5⟩ := Boxed.appended hv ne_EL hr hws (Nat.le_refl _) hown' hgrow
      have hc1 := q1.cell
      have hf1 := q1.frozen)
   | (rw [Oper.semAt_eq _ _ _ (fun c h => by cases h)]; go_simp; try go_bits))
  refine ⟨_, q2, ?_, hb.trans (q5.mono (Nat.le_refl _))⟩
  unfold OwnK
  rw [List.length_append, List.flatMap_append]
  exact q3
 ·intro D xs W hD hS hI hDf
  obtain ⟨v, hv, hr, hb⟩ := hI
  have hc := hv.cell
  have hne : v.ownBlock = none ∨ v.ownBlock ≠ some D := by
   rcases hr.2 with ⟨rfl, _⟩ | ⟨g', cap, cur, rfl, _, hgb, _⟩
   ·exact .inl rfl
   ·refine .inr fun e' => ?_
    have : g' = D := by simpa [Value.ownBlock] using e'
    rw [this, hDf] at hgb; cases hgb
  gi_wp2
  refine ⟨by simp, .inl ⟨_, _, rfl, run_takeDeferred hDf, ?_⟩⟩
  exact ⟨_, results_tmp rfl _ _ _, v, xs, rfl, hS, hr.kept (grownBy_putObj' _ _ _) hne, hb.grown (grownBy_putObj' _ _ _) hb.size (fun k e => by cases e; omega)⟩
theorem collect_in (F : Fence) (n : Nat) (hf : F.fn 94) (hf2 : F.fn 128) (hro : F.round = none) (hn : 3 ≤ n) (g : Nat) (lb : Array Value) (hFg : F.fn g) (eg : ∀ args w, (callFunc g args).run Tryz.prog w = .ok (.enter g args) w)
  (S : List El → Prop) (N : Nat) (hN : N ≤ 1000000) (w : World) (hseq : SeqGives F (n - 1 - 1) Tryz.prog g lb eE S N w) :
  CallsIn F n Tryz.prog 94 #[.func (.func g) #[] lb] w fun e w' => ∃ (v : Value) (ss : List El), e = .returned v ∧ S ss ∧ OwnK enL w.heap.size 38 5 w' v ss ∧ Below w.heap.size w w' := by
 refine callsIn_of_wp Tryz.func94 rfl hf ?_ hro
 rw [Tryz.ntmps94]
 simp only [List.size_toArray, List.length_cons, List.length_nil, Nat.reduceAdd, Nat.reduceSub, Array.replicate_succ, Array.replicate_zero, List.push_toArray, List.append_toArray, List.nil_append, List.cons_append]
 gi_wp2_with fail
 refine ⟨fun _ => by omega, ?_⟩
 refine (appendSeq_in F (n - 1) hf2 hro (by omega) g lb hFg eg S N hN _ hseq).mono ?_
 rintro e w' ⟨v, ss, rfl, hS, hrow, hb⟩
 gi_wp2
 go_ret
 exact ⟨v, ss, rfl, hS, hrow, hb⟩
open Go.RowKit Go.MapKept Go.Sort
theorem keysNil_in (F : Fence) (n : Nat) (hf : F.fn 96) (hro : F.round = none) (l Bm : Nat) (J : List El → World → Prop)
  (W : World) (hJ : AbidesFrom W.heap.size J) (hm : W.cell? ⟨Bm, 0, none⟩ = some (.map none)) (h0 : J [] W) :
  CallsIn F n Tryz.prog 96 #[.func (.yield l) #[] #[], .pointer (some ⟨Bm, 0, none⟩)] W fun e W' => (∃ v, e = .returned v) ∧ J [] W' := by
 obtain ⟨r, hr⟩ : ∃ r, W.heap.size = r := ⟨_, rfl⟩
 obtain ⟨V, hV⟩ : ∃ V, V = W.alloc (.mapIter none 0 #[] 0) := ⟨_, rfl⟩
 have hrg : (Instr.range 89 (.map none)).run Tryz.prog W = .ok (.pointer (some ⟨r, 0, none⟩)) V := by rw [hV, ← hr]; exact run_range_nilMap W _ _ _ Tryz.underlying89
 have hnx : ∀ ty, (Instr.next (.pointer (some ⟨r, 0, none⟩)) false ty).run Tryz.prog V = .ok (.tuple #[.bool false]) V := fun ty => run_next_nil_at V ty r 0 0 #[] (by rw [hV, ← hr]; exact heap_alloc_new W _)
 have HJ := hid (show J [] V from hJ [] W V none h0 (by rw [hV]; exact grown_of_below ((Below.refl _ _).alloc (Nat.le_refl _) _) _) (fun r e => by cases e))
 clear hV hr hJ h0
 refine callsIn_of_wp Tryz.func96 rfl hf ?_ hro
 rw [Tryz.ntmps96]
 simp only [List.size_toArray, List.length_cons, List.length_nil, Nat.reduceAdd, Nat.reduceSub, Array.replicate_succ, Array.replicate_zero, List.push_toArray, List.append_toArray, List.nil_append, List.cons_append]
 gi_wp2
 refine wpIn_loop_once ?_
 gi_wp2
 go_end0
 exact ⟨⟨_, rfl⟩, HJ.out⟩
def TopIs (w : World) (m : Option Nat) (L : List (El × Nat)) : Prop := (m = none ∧ L = []) ∨ ∃ b, m = some b ∧ MapIs eE eM w b L
theorem top_gives (F : Fence) (n : Nat) (hf : F.fn 96) (hro : F.round = none) (hn : 1 ≤ n) (Bm : Nat) (m : Option Nat) (L : List (El × Nat)) (w : World) (hBm : Bm < w.heap.size)
  (hm : w.cell? ⟨Bm, 0, none⟩ = some (.map m)) (hown : TopIs w m L) :
  SeqGives F n Tryz.prog 96 #[.pointer (some ⟨Bm, 0, none⟩)] eE (fun ss => ss.Perm (keysL L)) L.length w := by
 rcases hown with ⟨rfl, rfl⟩ | ⟨b, rfl, h⟩
 ·intro l J W hW hJ hY h0
  exact (keysNil_in F n hf hro l Bm J W hJ ((hW.cell (p := ⟨Bm, 0, none⟩) hBm).trans hm) h0).mono fun e w' ⟨he, hj⟩ => ⟨he, [], List.Perm.refl _, hj⟩
 ·exact keys_gives F n hf hro hn Bm b L w hBm hm h
theorem keys_any (mb : Option Nat) (w : World) : Calls Tryz.prog 71 #[.map mb] w fun e w' => e = .returned (.func (.func 96) #[] #[.pointer (some ⟨w.heap.size, 0, none⟩)]) ∧ w' = w.alloc (.cells #[.map mb] 89) :=
 callsIn_wide.1 (keys_in Fence.wide 0 trivial rfl mb w)
theorem sorted_any (Bm : Nat) (m : Option Nat) (L : List (El × Nat)) (w : World) (hBm : Bm < w.heap.size) (hm : w.cell? ⟨Bm, 0, none⟩ = some (.map m)) (hown : TopIs w m L) (hl : L.length ≤ 1000000) :
  Calls Tryz.prog 70 #[.func (.func 96) #[] #[.pointer (some ⟨Bm, 0, none⟩)], .func (.func 72) #[] #[]] w fun e w' =>
   ∃ (v : Value) (ss : List El), e = .returned v ∧ ss.Perm (keysL L) ∧ (ss.Pairwise fun x y => ltOf cfE y x = false) ∧ OwnK enL w.heap.size 38 5 w' v ss ∧ Below w.heap.size w w' := by
 have eg : ∀ args w, (callFunc 96 args).run Tryz.prog w = .ok (.enter 96 args) w := enters_of Tryz.func96 (by kernel_rfl) rfl
 have HC := hid (callsIn_wide.1 (collect_in Fence.wide 9 trivial trivial rfl (by decide) _ _ trivial eg (fun ss => ss.Perm (keysL L)) L.length hl w (top_gives Fence.wide 7 trivial rfl (by decide) Bm m L w hBm hm hown)))
 have HL := hid hl
 clear eg hm hown hl
 go_enter Tryz.func70, Tryz.ntmps70
 go_wp2_with fail
 refine HC.out.mono ?_
 rintro e w1 ⟨v, ss, rfl, hS, ho, hb⟩
 have hlen : ss.length ≤ 1000000 := by
  have := hS.length_eq
  simp [keysL] at this
  have := HL.out
  omega
 have HS := hid hS
 have HO := hid ho
 have HB := hid hb
 have HN := hid hlen
 clear hS ho hb hlen
 go_wp2_with fail
 refine (sortE_any ss v w.heap.size w1 HO.out HN.out).mono ?_
 rintro e w2 ⟨rfl, l', hp, hs, ho, hout⟩
 have HP := hid hp
 have HQ := hid hs
 have HO2 := hid ho
 have HU := hid hout
 clear hp hs ho hout
 go_wp2
 go_ret
 exact ⟨v, l', rfl, HP.out.trans HS.out, HQ.out, HO2.out, HB.out.trans (HU.out.below HB.out.size (fun i hi => (HO.out.lt i hi).1))⟩
end Go.Proofs.YtdgglhlofnigkaaGreatDoor
namespace Go.Proofs.YtdgglhlofnigkaaGreatDoor.Lt
open Go.RowKit
section
variable {P : Program} {ops : Array Oper} {Q : Exit → Act → World → Prop} {md : Region.Mode}
structure Finds (md : Region.Mode) (ops : Array Oper) (a0 : Act) (i : Nat) (o : Oper) (L : Nat → Bool) (vals : Nat → Value) (a : Act) : Prop where
 it : ops[i]? = some o
 open_ : L i = false
 ahead : ∀ e ∈ o.after, Region.binds md e = true → L e.on = true
 closed : ∀ (j : Nat) (oj : Oper), ops[j]? = some oj → L j = true → ∀ e ∈ oj.after, Region.binds md e = true → L e.on = true
 slot : ∀ (j : Nat) (oj : Oper) (d : Tmp), ops[j]? = some oj → oj.dst = some d → L j = true → a.eval (.tmp d) = vals j
 later : ∀ d : Tmp, (∀ (j : Nat) (oj : Oper), ops[j]? = some oj → L j = true → oj.dst ≠ some d) → a.eval (.tmp d) = a0.eval (.tmp d)
 old : ∀ d : Tmp, (ops.all fun o => o.dst != some d) = true → a.eval (.tmp d) = a0.eval (.tmp d)
def Leaves (Inv : (Nat → Bool) → (Nat → Value) → World → Prop) (i : Nat) (o : Oper) (L : Nat → Bool) (vals : Nat → Value) (a a' : Act) (w' : World) : Prop :=
 ∃ v, a' = a.put o.dst v ∧ ∀ L' : Nat → Bool, (∀ j, j ≠ i → L' j = L j) → L' i = true → Inv L' (fun j => if j = i then v else vals j) w'
theorem wpAny_inv (Inv : (Nat → Bool) → (Nat → Value) → World → Prop) (a0 : Act) (w0 : World)
  (hap : apartB ops = true) (hah : aheadB md ops = true) (hin : (List.range ops.size).all (fun i => match ops[i]? with | some o => (match o.dst with | some d => decide (d < a0.tmps.size) | none => true) | none => true) = true)
  (h0 : ∀ L : Nat → Bool, (∀ i, L i = false) → Inv L (fun _ => undef) w0)
  (hop : AllIdx (fun i o => ∀ (L : Nat → Bool) (vals : Nat → Value) (a : Act) (w : World), Finds md ops a0 i o L vals a → Inv L vals w → wpOp P ops Q i (Leaves Inv i o L vals a) a w) 0 ops.toList)
  (hend : ∀ L vals w, (∀ i, i < ops.size → L i = true) → Inv L vals w → Q .normal (layN ops (fun _ => true) vals (List.range ops.size) a0) w) :
  wpAny P md ops Q ops.size (Array.replicate ops.size false) a0 w0 := by
 have hap' := apartB_spec hap
 have hin' : ∀ (i : Nat) (o : Oper) (d : Tmp), ops[i]? = some o → o.dst = some d → d < a0.tmps.size := by
  intro i o d hi hd
  have hil : i < ops.size := (Array.getElem?_eq_some_iff.1 hi).1
  simp only [List.all_eq_true, List.mem_range] at hin
  have := hin i hil
  simpa [hi, hd] using this
 have hah' : ∀ (i : Nat) (o : Oper), ops[i]? = some o → ∀ e ∈ o.after, Region.binds md e = true → e.on < i := by
  intro i o hi e he hb
  have hil : i < ops.size := (Array.getElem?_eq_some_iff.1 hi).1
  simp only [aheadB, List.all_eq_true, List.mem_range] at hah
  have := hah i hil
  simp only [hi, Array.all_eq_true'] at this
  have := this e he
  simpa [hb] using this
 have fin : ∀ (listed : Array Bool) (vals : Nat → Value) (w : World), Inv (fun i => listed.getD i false) vals w → (∀ i, i < ops.size → listed.getD i false = true) →
   Q .normal (layN ops (fun i => listed.getD i false) vals (List.range ops.size) a0) w := by
  intro listed vals w hI hall
  have e : layN ops (fun i => listed.getD i false) vals (List.range ops.size) a0 = layN ops (fun _ => true) vals (List.range ops.size) a0 := by
   have : ∀ (is : List Nat) (a : Act), (∀ i ∈ is, i < ops.size) → layN ops (fun i => listed.getD i false) vals is a = layN ops (fun _ => true) vals is a := by
    intro is
    induction is with
    | nil => intro a _; rfl
    | cons i is ih =>
     intro a hm
     simp only [layN, hall i (hm i (by simp)), if_true]
     exact ih _ (fun j hj => hm j (List.mem_cons_of_mem _ hj))
   exact this _ _ (fun i hi => List.mem_range.1 hi)
  rw [e]
  exact hend _ vals w hall hI
 have none_ready : ∀ (listed : Array Bool), listed.size = ops.size → Region.ready md ops listed = [] → ∀ i, i < ops.size → listed.getD i false = true := by
  intro listed hls hr i
  induction i using Nat.strongRecOn with
  | ind i ih =>
   intro hi
   cases hl : listed.getD i false with
   | true => rfl
   | false =>
    exfalso
    have hm : i ∈ Region.ready md ops listed := by
     refine mem_ready.2 ⟨?_, ops[i], Array.getElem?_eq_getElem hi, fun e he hb => ?_⟩
     ·have : i < listed.size := by omega
      simp only [Array.getD, this] at hl ⊢
      simpa using hl
     ·have hlt := hah' i ops[i] (Array.getElem?_eq_getElem hi) e he hb
      exact ih e.on hlt (by omega)
    rw [hr] at hm
    cases hm
 have main : ∀ (fuel : Nat) (listed : Array Bool) (vals : Nat → Value) (w : World), listed.size = ops.size → Inv (fun i => listed.getD i false) vals w →
   (∀ (j : Nat) (oj : Oper), ops[j]? = some oj → listed.getD j false = true → ∀ e ∈ oj.after, Region.binds md e = true → listed.getD e.on false = true) →
   ((List.range ops.size).filter fun i => !listed.getD i false).length ≤ fuel → wpAny P md ops Q fuel listed (layN ops (fun i => listed.getD i false) vals (List.range ops.size) a0) w := by
  intro fuel
  induction fuel with
  | zero =>
   intro listed vals w hls hI hcl hc
   have hall : ∀ i, i < ops.size → listed.getD i false = true := by
    intro i hi
    cases hl : listed.getD i false with
    | true => rfl
    | false =>
     have : i ∈ (List.range ops.size).filter fun i => !listed.getD i false := List.mem_filter.2 ⟨List.mem_range.2 hi, by rw [hl]; rfl⟩
     have hpos := List.length_pos_of_mem this
     omega
   refine ⟨?_, fin listed vals w hI hall⟩
   cases hr : Region.ready md ops listed with
   | nil => rfl
   | cons j js =>
    exfalso
    have hj : j ∈ Region.ready md ops listed := by rw [hr]; simp
    obtain ⟨h1, o, ho, _⟩ := mem_ready.1 hj
    have hjl : j < ops.size := (Array.getElem?_eq_some_iff.1 ho).1
    have := hall j hjl
    have hjs : j < listed.size := by omega
    simp only [Array.getD, hjs] at h1 this
    simp_all
  | succ fuel ih =>
   intro listed vals w hls hI hcl hc
   refine ⟨fun hr => fin listed vals w hI (none_ready listed hls hr), fun i hi => ?_⟩
   obtain ⟨hun, o, ho, haft⟩ := mem_ready.1 hi
   have hil : i < ops.size := (Array.getElem?_eq_some_iff.1 ho).1
   have hil' : i < listed.size := by omega
   have hun' : listed.getD i false = false := by
    simp only [Array.getD, hil'] at hun ⊢
    simpa using hun
   have h1 := allIdx_get ops.toList 0 i o hop (by simpa using ho)
   rw [Nat.zero_add] at h1
   have hF : Finds md ops a0 i o (fun i => listed.getD i false) vals (layN ops (fun i => listed.getD i false) vals (List.range ops.size) a0) := by
    refine ⟨ho, hun', haft, hcl, ?_, fun d hd => layN_other _ _ (fun j _ oj hoj hl => hd j oj hoj hl), ?_⟩
    ·intro j oj d hj hd hl
     have hjl : j < ops.size := (Array.getElem?_eq_some_iff.1 hj).1
     exact layN_at hap' hj hd hl (List.range ops.size) a0 (List.mem_range.2 hjl) List.nodup_range (hin' j oj d hj hd)
    ·intro d hd
     refine layN_other _ _ (fun j _ oj hoj _ => ?_)
     have hjl := (Array.getElem?_eq_some_iff.1 hoj)
     obtain ⟨hjl, rfl⟩ := hjl
     rw [Array.all_eq_true] at hd
     simpa using hd j hjl
   refine wpOp_mono ?_ (h1 _ vals _ w hF hI)
   rintro a' w' ⟨v, rfl, hI'⟩
   have e := lay_step (ops := ops) hap' (L := fun i => listed.getD i false) (L' := fun j => (listed.setIfInBounds i true).getD j false) (vals := vals) (vals' := fun j => if j = i then v else vals j) ho
    (fun j hj => by simp [Ne.symm hj]) (fun j hj => by simp [hj]) hun' (by simp [hil']) (List.range ops.size) a0 (List.mem_range.2 hil) List.nodup_range
   simp only [if_true] at e
   rw [e]
   refine ih (listed.setIfInBounds i true) (fun j => if j = i then v else vals j) w' (by simpa using hls) (hI' _ (fun j hj => by simp [Ne.symm hj]) (by simp [hil'])) ?_ ?_
   ·intro j oj hj hl e' he hb
    have step : ∀ k, listed.getD k false = true → (listed.setIfInBounds i true).getD k false = true := by
     intro k hk
     by_cases hki : k = i
     ·subst hki; simp [hil']
     ·simpa [Array.getElem?_setIfInBounds, Ne.symm hki] using hk
    by_cases hji : j = i
    ·subst hji
     have : oj = o := by rw [hj] at ho; exact Option.some.inj ho
     subst this
     exact step _ (haft e' he hb)
    ·refine step _ (hcl j oj hj ?_ e' he hb)
     simpa [Array.getElem?_setIfInBounds, Ne.symm hji] using hl
   ·have hsub : ((List.range ops.size).filter fun j => !(listed.setIfInBounds i true).getD j false).length < ((List.range ops.size).filter fun j => !listed.getD j false).length := by
     have h1 : ∀ (is : List Nat), is.Nodup → (is.filter fun j => !(listed.setIfInBounds i true).getD j false).length ≤ (is.filter fun j => !listed.getD j false).length ∧
       (i ∈ is → (is.filter fun j => !(listed.setIfInBounds i true).getD j false).length < (is.filter fun j => !listed.getD j false).length) := by
      intro is
      induction is with
      | nil => intro _; exact ⟨Nat.le_refl _, fun h => by simp at h⟩
      | cons j js ihs =>
       intro hnd
       rw [List.nodup_cons] at hnd
       obtain ⟨hle, hlt⟩ := ihs hnd.2
       by_cases hji : j = i
       ·subst hji
        have e1 : (!(listed.setIfInBounds j true).getD j false) = false := by simp [hil']
        have e2 : (!listed.getD j false) = true := by rw [hun']; rfl
        rw [List.filter_cons, List.filter_cons, if_neg (by rw [e1]; simp), if_pos e2]
        simp only [List.length_cons]
        exact ⟨by omega, fun _ => by omega⟩
       ·have e1 : (listed.setIfInBounds i true).getD j false = listed.getD j false := by simp [Ne.symm hji]
        rw [List.filter_cons, List.filter_cons, e1]
        split
        ·simp only [List.length_cons]
         refine ⟨by omega, fun hm => ?_⟩
         have : i ∈ js := by
          rcases List.mem_cons.1 hm with e | e
          ·exact absurd e.symm hji
          ·exact e
         have := hlt this
         omega
        ·refine ⟨hle, fun hm => ?_⟩
         rcases List.mem_cons.1 hm with e | e
         ·exact absurd e.symm hji
         ·exact hlt e
     exact (h1 _ List.nodup_range).2 (List.mem_range.2 hil)
    omega
 have := main ops.size (Array.replicate ops.size false) (fun _ => undef) w0 (by simp) (h0 _ (fun i => by by_cases hi : i < ops.size <;> simp [Array.getD, hi])) (fun j oj _ hl => by
   exfalso
   by_cases hi : j < ops.size <;> simp [Array.getD, hi] at hl) (Nat.le_trans (List.length_filter_le _ _) (by simp))
 rw [layN_none _ (fun i => by
  by_cases hi : i < ops.size <;> simp [Array.getD, hi])] at this
 exact this
theorem allIdx_of {R : Nat → Oper → Prop} : ∀ (l : List Oper) (k : Nat), (∀ i o, l[i]? = some o → R (k + i) o) → AllIdx R k l
 | [], _, _ => trivial
 | x :: xs, k, h => ⟨h 0 x rfl, allIdx_of xs (k + 1) fun i o hi => by
   have := h (i + 1) o (by simpa using hi)
   rwa [show k + (i + 1) = k + 1 + i from by omega] at this⟩
theorem wpAny_late (p : Nat → Value → World → Prop) (a0 : Act) (w1 : World)
  (hap : apartB ops = true) (hah : aheadB md ops = true) (hin : (List.range ops.size).all (fun i => match ops[i]? with | some o => (match o.dst with | some d => decide (d < a0.tmps.size) | none => true) | none => true) = true)
  (hst : ∀ i v w w', Below w.heap.size w w' → p i v w → p i v w')
  (hop : AllIdx (fun i o => ∀ (a : Act) (w : World), Below w1.heap.size w1 w → (∀ d : Tmp, (ops.all fun oj => oj.dst != some d || oj.after.any fun e => e.on == i && Region.binds md e) = true → a.eval (.tmp d) = a0.eval (.tmp d)) →
   (∀ e ∈ o.after, Region.binds md e = true → ∀ oj d, ops[e.on]? = some oj → oj.dst = some d → p e.on (a.eval (.tmp d)) w) → ops[i]? = some o → wpOp P ops Q i (Step1 w1 p i a o w) a w) 0 ops.toList)
  (hend : ∀ vals w, Below w1.heap.size w1 w → (∀ i, i < ops.size → p i (vals i) w) → Q .normal (layN ops (fun _ => true) vals (List.range ops.size) a0) w) :
  wpAny P md ops Q ops.size (Array.replicate ops.size false) a0 w1.drew := by
 refine wpAny_inv (fun L vals w => Below w1.heap.size w1 w ∧ ∀ i, i < ops.size → L i = true → p i (vals i) w) a0 w1.drew hap hah hin (fun L h => ⟨(Below.refl _ _).drew, fun i _ hl => by rw [h i] at hl; cases hl⟩) (allIdx_of _ _ fun i o hi => ?_) (fun L vals w hL hI => hend vals w hI.1 fun i hi => hI.2 i hi (hL i hi))
 rw [Nat.zero_add]
 intro L vals a w hF hI
 have h1 := allIdx_get ops.toList 0 i o hop hi
 rw [Nat.zero_add] at h1
 refine wpOp_mono ?_ (h1 a w hI.1 (fun d hd => hF.later d fun j oj hj hl hjd => ?_) (fun e he hb oj d hoj hd => ?_) hF.it)
 ·rintro a' w' ⟨⟨v, rfl, hp⟩, hb, hI'⟩
  refine ⟨v, rfl, fun L' h2 h3 => ⟨hI', fun j hj hl => ?_⟩⟩
  by_cases hji : j = i
  ·subst hji; simpa using hp
  ·simp only [hji, if_false]
   exact hst j _ w w' hb (hI.2 j hj (by rw [← h2 j hji]; exact hl))
 ·obtain ⟨hjl, rfl⟩ := Array.getElem?_eq_some_iff.1 hj
  rw [Array.all_eq_true] at hd
  have h2 := hd j hjl
  rw [hjd] at h2
  simp only [bne_self_eq_false, Bool.false_or, Array.any_eq_true', Bool.and_eq_true, beq_iff_eq] at h2
  obtain ⟨e, he, hei, hb⟩ := h2
  have h3 := hF.closed j _ hj hl e he hb
  rw [hei, hF.open_] at h3
  cases h3
 ·have hel : e.on < ops.size := (Array.getElem?_eq_some_iff.1 hoj).1
  rw [hF.slot e.on oj d hoj hd (hF.ahead e he hb)]
  exact hI.2 e.on hel (hF.ahead e he hb)
theorem wpAny_mid (p : Nat → Value → World → Prop) (a0 : Act) (w1 : World) (mid : Nat) (om ol : Oper) (J : Value → World → Prop)
  (hsz : ops.size = mid + 2) (hom : ops[mid]? = some om) (hol : ops[mid + 1]? = some ol) (hwait : (List.range mid).all (reachB md ops mid (aftB md om)) = true) (hwl : aftB md ol mid = true)
  (hap : apartB ops = true) (hah : aheadB md ops = true) (hin : (List.range ops.size).all (fun i => match ops[i]? with | some o => (match o.dst with | some d => decide (d < a0.tmps.size) | none => true) | none => true) = true)
  (hst : ∀ i v w w', Below w.heap.size w w' → p i v w → p i v w')
  (hop : AllIdx (fun i o => i < mid → ∀ (a : Act) (w : World), Below w1.heap.size w1 w → (∀ d : Tmp, (ops.all fun oj => oj.dst != some d || oj.after.any fun e => e.on == i && Region.binds md e) = true → a.eval (.tmp d) = a0.eval (.tmp d)) →
   (∀ e ∈ o.after, Region.binds md e = true → ∀ oj d, ops[e.on]? = some oj → oj.dst = some d → p e.on (a.eval (.tmp d)) w) → ops[i]? = some o → wpOp P ops Q i (Step1 w1 p i a o w) a w) 0 ops.toList)
  (hmid : ∀ (a : Act) (w : World), Below w1.heap.size w1 w →
   (∀ e ∈ om.after, Region.binds md e = true → ∀ oj d, ops[e.on]? = some oj → oj.dst = some d → p e.on (a.eval (.tmp d)) w) →
   wpOp P ops Q mid (fun a' w' => ∃ v, a' = a.put om.dst v ∧ J v w') a w)
  (hlast : ∀ (v : Value) (a : Act) (w : World), (∀ d, om.dst = some d → a.eval (.tmp d) = v) → wpOp P ops Q (mid + 1) (fun a' w' => a' = a.put ol.dst v ∧ w' = w) a w)
  (hend : ∀ vals w, J (vals mid) w → vals (mid + 1) = vals mid → Q .normal (layN ops (fun _ => true) vals (List.range ops.size) a0) w) :
  wpAny P md ops Q ops.size (Array.replicate ops.size false) a0 w1.drew := by
 obtain ⟨Inv, hInv⟩ : ∃ Inv : (Nat → Bool) → (Nat → Value) → World → Prop, Inv = fun L vals w => if L mid = true then (∀ i, i < mid → L i = true) ∧ J (vals mid) w ∧ (L (mid + 1) = true → vals (mid + 1) = vals mid) else L (mid + 1) = false ∧ Below w1.heap.size w1 w ∧ ∀ i, i < mid → L i = true → p i (vals i) w := ⟨_, rfl⟩
 refine wpAny_inv Inv a0 w1.drew hap hah hin (fun L h => ?_) (allIdx_of _ _ fun i o hi => ?_) (fun L vals w hL hI => ?_)
 ·rw [hInv]
  show if L mid = true then _ else _
  rw [if_neg (by rw [h]; exact Bool.false_ne_true)]
  exact ⟨h _, (Below.refl _ _).drew, fun i _ hl => by rw [h i] at hl; cases hl⟩
 ·rw [Nat.zero_add]
  intro L vals a w hF hI
  rw [hInv] at hI
  replace hI : if L mid = true then (∀ i, i < mid → L i = true) ∧ J (vals mid) w ∧ (L (mid + 1) = true → vals (mid + 1) = vals mid) else L (mid + 1) = false ∧ Below w1.heap.size w1 w ∧ ∀ i, i < mid → L i = true → p i (vals i) w := hI
  have hil : i < ops.size := (Array.getElem?_eq_some_iff.1 hF.it).1
  by_cases hlt : i < mid
  ·have hnl : ¬ L mid = true := by
    intro h
    rw [if_pos h] at hI
    have := hI.1 i hlt
    rw [hF.open_] at this
    cases this
   rw [if_neg hnl] at hI
   have h1 := allIdx_get ops.toList 0 i o hop hi
   rw [Nat.zero_add] at h1
   refine wpOp_mono ?_ (h1 hlt a w hI.2.1 (fun d hd => hF.later d fun j oj hj hl hjd => ?_) (fun e he hb oj d hoj hd => ?_) hF.it)
   ·rintro a' w' ⟨⟨v, rfl, hp⟩, hb, hI'⟩
    refine ⟨v, rfl, fun L' h2 h3 => ?_⟩
    rw [hInv]
    show if L' mid = true then _ else _
    rw [if_neg (by rw [h2 mid (by omega)]; exact hnl)]
    refine ⟨by rw [h2 _ (by omega)]; exact hI.1, hI', fun j hj hl => ?_⟩
    by_cases hji : j = i
    ·subst hji; simpa using hp
    ·simp only [hji, if_false]
     exact hst j _ w w' hb (hI.2.2 j hj (by rw [← h2 j hji]; exact hl))
   ·obtain ⟨hjl, rfl⟩ := Array.getElem?_eq_some_iff.1 hj
    rw [Array.all_eq_true] at hd
    have h2 := hd j hjl
    rw [hjd] at h2
    simp only [bne_self_eq_false, Bool.false_or, Array.any_eq_true', Bool.and_eq_true, beq_iff_eq] at h2
    obtain ⟨e, he, hei, hb⟩ := h2
    have h3 := hF.closed j _ hj hl e he hb
    rw [hei, hF.open_] at h3
    cases h3
   ·have hl := hF.ahead e he hb
    have hel : e.on < ops.size := (Array.getElem?_eq_some_iff.1 hoj).1
    have hne : e.on ≠ mid := fun h => hnl (by rw [← h]; exact hl)
    have hne1 : e.on ≠ mid + 1 := fun h => by rw [h, hI.1] at hl; cases hl
    rw [hF.slot e.on oj d hoj hd hl]
    exact hI.2.2 e.on (by omega) hl
  ·by_cases him : i = mid
   ·subst him
    have hoo : o = om := by
     have := hF.it
     rw [hom] at this; exact (Option.some.inj this).symm
    subst hoo
    rw [if_neg (by rw [hF.open_]; exact Bool.false_ne_true)] at hI
    have hL : ∀ j, j < i → L j = true := by
     intro j hj
     simp only [List.all_eq_true, List.mem_range] at hwait
     refine reachB_spec hF.closed i _ (fun k hk => ?_) j (hwait j hj)
     unfold aftB at hk
     rw [Array.any_eq_true'] at hk
     obtain ⟨e, he, h2⟩ := hk
     simp only [Bool.and_eq_true, beq_iff_eq] at h2
     rw [← h2.1]
     exact hF.ahead e he h2.2
    refine wpOp_mono ?_ (hmid a w hI.2.1 (fun e he hb oj d hoj hd => ?_))
    ·rintro a' w' ⟨v, rfl, hJ⟩
     refine ⟨v, rfl, fun L' h2 h3 => ?_⟩
     rw [hInv]
     show if L' i = true then _ else _
     rw [if_pos h3]
     refine ⟨fun j hj => by rw [h2 j (by omega)]; exact hL j hj, by simpa using hJ, fun h => ?_⟩
     rw [h2 _ (by omega), hI.1] at h
     cases h
    ·have hl := hF.ahead e he hb
     have hel : e.on < ops.size := (Array.getElem?_eq_some_iff.1 hoj).1
     have hne : e.on ≠ i := fun h => by rw [h, hF.open_] at hl; cases hl
     have hne1 : e.on ≠ i + 1 := fun h => by rw [h, hI.1] at hl; cases hl
     rw [hF.slot e.on oj d hoj hd hl]
     exact hI.2.2 e.on (by omega) hl
   ·have hie : i = mid + 1 := by omega
    subst hie
    have hoo : o = ol := by
     have := hF.it
     rw [hol] at this; exact (Option.some.inj this).symm
    subst hoo
    have hLm : L mid = true := by
     unfold aftB at hwl
     rw [Array.any_eq_true'] at hwl
     obtain ⟨e, he, h2⟩ := hwl
     simp only [Bool.and_eq_true, beq_iff_eq] at h2
     rw [← h2.1]
     exact hF.ahead e he h2.2
    rw [if_pos hLm] at hI
    refine wpOp_mono ?_ (hlast (vals mid) a w (fun d hd => hF.slot mid om d hom hd hLm))
    rintro a' w' ⟨rfl, rfl⟩
    refine ⟨_, rfl, fun L' h2 h3 => ?_⟩
    rw [hInv]
    show if L' mid = true then _ else _
    rw [if_pos (by rw [h2 mid (by omega)]; exact hLm)]
    refine ⟨fun j hj => by rw [h2 j (by omega)]; exact hI.1 j hj, by simpa using hI.2.1, fun _ => by simp⟩
 ·rw [hInv] at hI
  replace hI : if L mid = true then (∀ i, i < mid → L i = true) ∧ J (vals mid) w ∧ (L (mid + 1) = true → vals (mid + 1) = vals mid) else L (mid + 1) = false ∧ Below w1.heap.size w1 w ∧ ∀ i, i < mid → L i = true → p i (vals i) w := hI
  rw [if_pos (hL mid (by omega))] at hI
  exact hend vals w hI.2.1 (hI.2.2 (hL _ (by omega)))
end
end Go.Proofs.YtdgglhlofnigkaaGreatDoor.Lt
