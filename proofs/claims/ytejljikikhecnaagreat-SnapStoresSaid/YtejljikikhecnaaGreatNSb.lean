/-
  Operations on addresses. (*store.Store).come: the contract, by a walk. A REGION THAT DRAWS ITS ORDER, AND WRITES SLOTS AGAIN: an invariant of what is done, what it yielded, and the world. Worlds that only grow and draw; regions that draw their order and leave such; cmp.Or. store.byDot, store.Order: the contracts, by walks. Rows of entries, of items, as cells. Conditions: lengths.
-/
import Derived.Test.YtejljikikhecnaaGreatNSa
import Derived.Test.YtejljikikhecnaaGreatNVa
import Derived.Test.YtejljikikhecnaaGreatNKe
import Derived.Deep.DeepCutAuto
import Derived.Test.YtejljikikhecnaaGreatShelf
import Derived.Shelf.SlSortCmp.NoneTotal
namespace Go.Proofs.YtejljikikhecnaaGreat
open Go.RowKit
theorem run_loadstr_op {P : Program} {o : Oper} {ρ : Operand → Value} {w : World} {ty : TypeId} {x : Operand} {ad : Addr} {n : ByteArray} (ho : o.op = .load ty x) (hx : ρ x = .pointer (some ad)) (hu : P.underlying ty = some .string) (hc : w.cell? ad = some (.string n)) :
    (execOp ρ o).run P w = .ok (.value (.string n)) w := by
  unfold execOp
  have ha : (isAgg ty).run P w = .ok false w := by unfold isAgg; rw [Sem.run_bind, run_underlying hu w]; simp
  simp [ho, hx, Instr.loadAt, Instr.sureAddr, loadVar, ha, hc, go_sem]
theorem run_fieldAddr_any {P : Program} {o : Oper} {ρ : Operand → Value} {w : World} {ty : TypeId} {x : Operand} {ad : Addr} {k : Nat} {v : Value} (ho : o.op = .fieldAddr ty x k) (hx : ρ x = .pointer (some ad))
    (hr : (Instr.fieldAt ty (.pointer (some ad)) k).run P w = .ok v w) : (execOp ρ o).run P w = .ok (.value v) w := by
  unfold execOp
  simp [ho, hx, hr]

end Go.Proofs.YtejljikikhecnaaGreat

namespace Go.Proofs.YtejljikikhecnaaGreat
open Go.RowKit Go.MapKept

theorem zero_held (w : World) : (zeroValue 107).run Tryz.prog w = .ok (.map none) w := by kernel_rfl
theorem run_eql_held_none (w : World) : (binOp .eql 107 (.map none) (.map none)).run Tryz.prog w = .ok (.bool true) w := run_eql_map_nil w _ _ _ none Tryz.underlying107
theorem run_eql_held_some (n : Nat) (w : World) : (binOp .eql 107 (.map (some n)) (.map none)).run Tryz.prog w = .ok (.bool false) w := run_eql_map_nil w _ _ _ (some n) Tryz.underlying107
theorem guard_held (x y : Operand) (a b : Option Nat) (w : World) : (eqGuard .eql 107 x y (.map a) (.map b)).run Tryz.prog w = .ok () w := by go_simp

/-- A store's struct, its map of maps, while it is written: what was there ahead of it is w. -/
structure Base (w Z : World) (F F' : Nat → Prop) (sb ob : Nat) (I : List (El × Nat)) (h : Nat → List (Dt × Va)) : Prop where
  fs : F sb
  low : ∀ i, F i → i < w.heap.size
  out : Out F w Z
  blk : Blk Z sb 98 #[.map (some ob)]
  inner : InnerIs Z F' ob I h
  grow : ∀ i, F' i → Grow F w Z i
  sub : ∀ i, F i → F' i
  lt : ∀ i, F' i → i < Z.heap.size
section
variable {w Z W W2 w' : World} {F F' : Nat → Prop} {sb ob n : Nat} {I : List (El × Nat)} {h : Nat → List (Dt × Va)} {x : El} {d : Dt} {v : Va}
theorem Base.ne_ob (B : Base w Z F F' sb ob I h) : ob ≠ sb := by
  intro e
  obtain ⟨es, c, hb, _⟩ := B.inner.2.1
  have := B.blk
  unfold Blk at this
  rw [e, this] at hb
  cases hb
theorem Base.ne_in (B : Base w Z F F' sb ob I h) (hn : getL x I = some n) : n ≠ sb := by
  intro e
  obtain ⟨es, c, hb, _⟩ := (B.inner.at_ hn).2.2
  have := B.blk
  unfold Blk at this
  rw [e, this] at hb
  cases hb
theorem Base.up (B : Base w Z F F' sb ob I h) (hz : Z.heap.size ≤ w'.heap.size) : ∀ i, F' i → Grow F w w' i := fun i hi => by
  rcases B.grow i hi with e | ⟨e1, e2⟩
  · exact Or.inl e
  · exact Or.inr ⟨e1, Nat.lt_of_lt_of_le e2 hz⟩
theorem Base.bound (B : Base w Z F F' sb ob I h) (hz : Z.heap.size ≤ w'.heap.size) : ∀ i, Grow F w w' i → i < w'.heap.size := fun i hi => by
  rcases hi with hi | hi
  · exact Nat.lt_of_lt_of_le (B.low i hi) (Nat.le_trans B.out.size hz)
  · exact hi.2
theorem come_turn (B : Base w Z F F' sb ob I h) (hn : getL x I = some n) (hW : Below Z.heap.size Z W) (hm : MapIs eD eV w' n (putL d v (h n))) (hbut : But n W w') : StoreIs w' sb (Grow F w w') (comeS x d v (mapS h I)) ∧ Out F w w' := by
  have hz := Nat.le_trans hW.size hbut.size
  have hk : ∀ i, F' i → i ≠ n → w'.heap[i]? = Z.heap[i]? := fun i hi hin => (hbut.block i (Nat.lt_of_lt_of_le (B.lt i hi) hW.size) (fun e => hin (Option.some.inj e))).trans (hW.block i (B.lt i hi))
  have hO2 : Out F w w' := B.out.trans ((Out.of_below hW).trans' (Out.of_but hbut (B.grow _ (B.inner.at_ hn).1)))
  obtain ⟨hI', hσ⟩ := B.inner.turn hn hm (B.up hz) hk
  refine ⟨⟨Or.inl B.fs, B.bound hz, Or.inr ⟨ob, I, _, (hk sb (B.sub _ B.fs) (B.ne_in hn).symm).trans B.blk, hI', ?_⟩⟩, hO2⟩
  rw [hσ]
  unfold comeS
  rw [getL_mapS, hn]
  rfl
/-- Behind the new map's store. -/
structure Added (Z w1 : World) (ob n : Nat) (I : List (El × Nat)) (x : El) : Prop where
  new : Z.heap.size ≤ n
  outer : MapIs eE eM w1 ob (putL x n I)
  inner : MapIs eD eV w1 n []
  but : Out (fun i => i = ob) Z w1
theorem come_add (B : Base w Z F F' sb ob I h) (hn : getL x I = none) (A : Added Z W ob n I x) (hW : Below W.heap.size W W2) (hm : MapIs eD eV w' n (putL d v [])) (hbut : But n W2 w') : StoreIs w' sb (Grow F w w') (comeS x d v (mapS h I)) ∧ Out F w w' := by
  have hz := Nat.le_trans A.but.size (Nat.le_trans hW.size hbut.size)
  have hnz := A.new
  have hnW := A.inner.lt
  have hnF : ¬ F' n := fun e => by have := B.lt n e; omega
  have hno : n ≠ ob := fun e => hnF (e ▸ B.inner.1)
  have hk : ∀ i, F' i → i ≠ ob → w'.heap[i]? = Z.heap[i]? := fun i hi hio =>
    (hbut.block i (Nat.lt_of_lt_of_le (B.lt i hi) (Nat.le_trans A.but.size hW.size)) (fun e => hnF (by rw [← Option.some.inj e]; exact hi))).trans ((hW.block i (Nat.lt_of_lt_of_le (B.lt i hi) A.but.size)).trans (A.but.block i (B.lt i hi) hio))
  have hou : MapIs eE eM w' ob (putL x n I) := (A.outer.same (hW.block _ A.outer.lt)).same (hbut.block ob (Nat.lt_of_lt_of_le A.outer.lt hW.size) (fun e => hno (Option.some.inj e).symm))
  have hwn : w.heap.size ≤ n := Nat.le_trans B.out.size hnz
  have hn' : n < w'.heap.size := hm.lt
  have hO2 : Out F w w' := B.out.trans ((Out.mono A.but fun i e => by rw [e]; exact B.grow _ B.inner.1).trans ⟨hbut.os.trans hW.os, hbut.tape.trans hW.tape, hbut.output.trans hW.output, Nat.le_trans hW.size hbut.size, fun i hi hni => (hbut.block i (Nat.lt_of_lt_of_le hi hW.size) (fun e => hni (by cases e; exact Or.inr ⟨hnz, hnW⟩))).trans (hW.block i hi)⟩)
  obtain ⟨hI', hσ⟩ := B.inner.add hn hnF hou hm (B.up hz) (Or.inr ⟨hwn, hn'⟩) hk
  refine ⟨⟨Or.inl B.fs, B.bound hz, Or.inr ⟨ob, _, _, (hk sb (B.sub _ B.fs) B.ne_ob.symm).trans B.blk, hI', ?_⟩⟩, hO2⟩
  rw [hσ]
  unfold comeS
  rw [getL_mapS, hn]
  rfl
theorem Base.next (B : Base w Z F F' sb ob I h) (hW : Below Z.heap.size Z W) : Base w W F F' sb ob I h :=
  ⟨B.fs, B.low, B.out.trans' (Out.of_below hW), (hW.block _ B.blk.lt).trans B.blk, B.inner.kept (fun _ e => e) (fun i hi => hW.block i (B.lt i hi)), B.up hW.size, B.sub, fun i hi => Nat.lt_of_lt_of_le (B.lt i hi) hW.size⟩
theorem Base.ne_blk (B : Base w Z F F' sb ob I h) {g : Nat} {t : TypeId} {cs : Array Value} (hb : Blk Z g t cs) : g ≠ ob := by
  intro e
  obtain ⟨es, c, ho, _⟩ := B.inner.2.1
  unfold Blk at hb
  rw [← e, hb] at ho
  cases ho
theorem Added.blk (A : Added Z W ob n I x) {g : Nat} {t : TypeId} {cs : Array Value} (hb : Blk Z g t cs) (hg : g ≠ ob) : Blk W g t cs := (A.but.block g hb.lt hg).trans hb
theorem getL_putL_self {α β : Type} [DecidableEq α] (x : α) (v : β) : ∀ L : List (α × β), getL x (putL x v L) = some v
  | [] => by simp [putL, getL]
  | p :: L => by
    simp only [putL]
    by_cases hp : p.1 = x
    · rw [if_pos hp]; simp [getL]
    · rw [if_neg hp]; simp only [getL, if_neg hp]; exact getL_putL_self x v L
theorem Base.of (hS : F sb) (hl : ∀ i, F i → i < w.heap.size) (hb : Blk w sb 98 #[.map (some ob)]) (hI : InnerIs w F ob I h) (hY : Below w.heap.size w Z) : Base w Z F F sb ob I h :=
  ⟨hS, hl, Out.of_below hY, (hY.block _ (hl _ hS)).trans hb, hI.kept (fun _ e => e) (fun i hi => hY.block i (hl i hi)), fun _ e => Or.inl e, fun _ e => e, fun i e => Nat.lt_of_lt_of_le (hl i e) hY.size⟩
/-- Behind the making of the map of maps. -/
theorem Base.made (hS : F sb) (hl : ∀ i, F i → i < w.heap.size) (hb : Blk w sb 98 #[.map none]) (hY : Below w.heap.size w W) :
    Base w ((W.alloc (.map #[] 0)).setCell ⟨sb, 0, none⟩ (.map (some W.heap.size))) F (fun i => F i ∨ i = W.heap.size) sb W.heap.size [] (fun _ => []) := by
  have hsl := hl _ hS
  have hs := hY.size
  have hsz : ((W.alloc (.map #[] 0)).setCell ⟨sb, 0, none⟩ (.map (some W.heap.size))).heap.size = W.heap.size + 1 := by simp
  have hoth : ∀ i, i ≠ sb → ((W.alloc (.map #[] 0)).setCell ⟨sb, 0, none⟩ (.map (some W.heap.size))).heap[i]? = (W.alloc (.map #[] 0)).heap[i]? := fun i hi => Below.heap_setCell _ _ _ i hi
  have hbW : Blk W sb 98 #[.map none] := (hY.block _ hsl).trans hb
  refine ⟨hS, hl, ⟨hY.os, hY.tape, hY.output, by rw [hsz]; omega, fun k hk hn => ?_⟩, ?_, ⟨Or.inr rfl, ?_, by simp, fun p hp => by simp at hp⟩, fun i hi => ?_, fun i e => Or.inl e, fun i hi => ?_⟩
  · rw [hoth k (fun e => hn (by rw [e]; exact hS)), heap_alloc_old _ _ (by omega)]
    exact hY.block k hk
  · have := (hbW.alloc (.map #[] 0)).set_ 0 (.map (some W.heap.size))
    simpa using this
  · exact (MapIs.made eE eM W).same (hoth _ (by omega))
  · rcases hi with hi | rfl
    · exact Or.inl hi
    · exact Or.inr ⟨hs, by rw [hsz]; omega⟩
  · rcases hi with hi | rfl
    · have := hl i hi; rw [hsz]; omega
    · rw [hsz]; omega
end

set_option maxRecDepth 100000 in
set_option maxHeartbeats 2000000 in
theorem come_turn_w (x : El) (d : Dt) (v : Va) (sb : Nat) (F : Nat → Prop) (w : World) (ob n : Nat) (I : List (El × Nat)) (h : Nat → List (Dt × Va)) (hF : F sb) (hl : ∀ i, F i → i < w.heap.size) (hb : Blk w sb 98 #[.map (some ob)]) (hI : InnerIs w F ob I h) (hg : getL x I = some n) : Calls Tryz.prog 49 #[.pointer (some ⟨sb, 0, none⟩), eE x, enV d v] w fun e w' => e = .returned (.tuple #[]) ∧ StoreIs w' sb (Grow F w w') (comeS x d v (mapS h I)) ∧ Out F w w' := by
  obtain ⟨Y, hY⟩ : ∃ Y, Y = (w.alloc (.cells #[.int .i64 x.k, .string x.a, .string x.b, .string x.c, .string x.d] 45)).alloc (.cells #[.int .i64 d.r, .int .i64 d.c, .int .i64 v.k, .int .i64 v.n, .string v.t] 63) := ⟨_, rfl⟩
  obtain ⟨q, hq⟩ : ∃ q, w.heap.size = q := ⟨_, rfl⟩
  have HY := Lib.hid hY
  have bY : Below w.heap.size w Y := by rw [hY]; exact ((Below.refl _ _).alloc (Nat.le_refl _) _).alloc (by simp) _
  have KE := Lib.hid (show Blk Y q 45 (elA x) by rw [hY, ← hq]; exact (Blk.new w _ _).alloc _)
  have KN := Lib.hid (show Blk Y (q + 1) 63 (enA d v) by
    rw [hY, ← hq]
    have := Blk.new (w.alloc (.cells #[.int .i64 x.k, .string x.a, .string x.b, .string x.c, .string x.d] 45)) 63 (enA d v)
    simpa [enA] using this)
  have BY := Lib.hid bY
  have HQ := Lib.hid hq
  have htn : ∀ w, (binOp .eql 96 (.map none) (.map none)).run Tryz.prog w = .ok (.bool true) w := fun w => run_eql_map_nil w _ _ _ none Tryz.underlying96
  have hts : ∀ n w, (binOp .eql 96 (.map (some n)) (.map none)).run Tryz.prog w = .ok (.bool false) w := fun n w => run_eql_map_nil w _ _ _ (some n) Tryz.underlying96
  clear hY
  obtain ⟨Z, hZ⟩ : ∃ Z, Z = Y := ⟨_, rfl⟩
  subst hZ
  have HB := Lib.hid (Base.of hF hl hb hI bY)
  clear hF hl hb hI bY hq
  have KS3 := Lib.hid HB.out.blk
  have KE3 := KE
  have KN3 := KN
  have KO3 := Lib.hid HB.out.inner.2.1
  have HG := Lib.hid hg
  have c0 : Z.cell? ⟨sb, 0, none⟩ = some (.map (some ob)) := (Blk.cell HB.out.blk 0).trans rfl
  clear hg KE KN
  unfold eE elV enV enA
  go_enter Tryz.func49, Tryz.ntmps49
  go_upto_region 1 with fail
  rw [← HY.out, HQ.out]
  go_upto_region 3 with fail
  clear c0 htn hts
  refine wp_region_any (by kernel_rfl) ?_
  refine wpAny_below (fun i uq _ => uq = ([.pointer (some ⟨sb, 0, none⟩), .pointer (some ⟨sb, 0, none⟩), .pointer (some ⟨sb, 0, none⟩), .map (some ob), eE x, .map (some n), .bool false] : List Value).getD i undef) _ Z (by kernel_rfl) (by kernel_rfl) (by kernel_rfl) (fun i v w w' _ h => h) ?_ ?_
  · refine ⟨?_, ?_, ?_, ?_, ?_, ?_, ?_, trivial⟩
    · intro a W hI hun haft hi
      have e0 : a.eval (.tmp 0) = .pointer (some ⟨sb, 0, none⟩) := hun 0 (by kernel_rfl)
      exact b_same hi hI rfl _ (run_move_op rfl e0) rfl
    · intro a W hI hun haft hi
      have f0 : a.eval (.tmp 15) = .pointer (some ⟨sb, 0, none⟩) := haft ⟨0, .data⟩ (by simp) rfl _ _ rfl rfl
      exact b_same hi hI rfl _ (run_nilCheck_op rfl f0) rfl
    · intro a W hI hun haft hi
      have f1 : a.eval (.tmp 16) = .pointer (some ⟨sb, 0, none⟩) := haft ⟨1, .data⟩ (by simp) rfl _ _ rfl rfl
      exact b_same hi hI rfl _ (run_fieldAddr_any rfl f1 (at_store0 _ 0 _)) rfl
    · intro a W hI hun haft hi
      have f2 : a.eval (.tmp 17) = .pointer (some ⟨sb, 0, none⟩) := haft ⟨2, .data⟩ (by simp) rfl _ _ rfl rfl
      exact b_same hi hI rfl _ (run_loadmap_op rfl f2 Tryz.underlying96 ((Blk.cell (Blk.below KS3.out hI (Blk.lt KS3.out)) 0).trans rfl)) rfl
    · intro a W hI hun haft hi
      have e4 : a.eval (.tmp 4) = .pointer (some ⟨q, 0, none⟩) := hun 4 (by kernel_rfl)
      exact b_same hi hI rfl _ (run_load_op rfl e4 (Blk.below KE3.out hI (Blk.lt KE3.out)) Tryz.underlying45 rfl (by kernel_rfl)) rfl
    · intro a W hI hun haft hi
      have f3 : a.eval (.tmp 18) = .map (some ob) := haft ⟨3, .data⟩ (by simp) rfl _ _ rfl rfl
      have f4 : a.eval (.tmp 19) = eE x := haft ⟨4, .data⟩ (by simp) rfl _ _ rfl rfl
      exact b_same hi hI rfl _ (run_lookup_op rfl f3 f4 ((look_run (MapIs.same KO3.out (hI.block _ (MapIs.lt KO3.out))) keyE Tryz.underlying96 (zero_held _) x).trans (by rw [HG.out]; rfl))) rfl
    · intro a W hI hun haft hi
      have f5 : a.eval (.tmp 20) = .map (some n) := haft ⟨5, .data⟩ (by simp) rfl _ _ rfl rfl
      exact b_same hi hI rfl (.bool false) (run_bin_op rfl f5 rfl (guard_held _ _ _ _ _) (run_eql_held_some _ _)) rfl
  · intro vals W hI hp
    have hl0 : vals 0 = .pointer (some ⟨sb, 0, none⟩) := hp 0 (by decide)
    have hl1 : vals 1 = .pointer (some ⟨sb, 0, none⟩) := hp 1 (by decide)
    have hl2 : vals 2 = .pointer (some ⟨sb, 0, none⟩) := hp 2 (by decide)
    have hl3 : vals 3 = .map (some ob) := hp 3 (by decide)
    have hl4 : vals 4 = eE x := hp 4 (by decide)
    have hl5 : vals 5 = .map (some n) := hp 5 (by decide)
    have hl6 : vals 6 = .bool false := hp 6 (by decide)
    have HI := Lib.hid hI
    clear hp hI
    simp only [layN, List.size_toArray, List.length_cons, List.length_nil, List.range, List.range.loop, if_true, List.getElem?_toArray, List.getElem?_cons_zero, List.getElem?_cons_succ, Act.put, List.setIfInBounds_toArray, List.set_cons_zero, List.set_cons_succ, Nat.zero_add, Nat.reduceAdd, hl0, hl1, hl2, hl3, hl4, hl5, hl6]
    clear hl0 hl1 hl2 hl3 hl4 hl5 hl6
    have KS5 := Lib.hid (Blk.below KS3.out HI.out (Blk.lt KS3.out))
    have KE5 := Lib.hid (Blk.below KE3.out HI.out (Blk.lt KE3.out))
    have KN5 := Lib.hid (Blk.below KN3.out HI.out (Blk.lt KN3.out))
    have KO5 := Lib.hid (MapIs.same KO3.out (HI.out.block _ (MapIs.lt KO3.out)))
    have KI5 := Lib.hid (MapIs.same (HB.out.inner.at_ HG.out).2.2 (HI.out.block _ (MapIs.lt (HB.out.inner.at_ HG.out).2.2)))
    have HG5 := HG
    have HI3 := HI
    clear HI KS3 KE3 KN3 KO3
    go_upto_region 5 with fail
    refine wp_region_any (by kernel_rfl) ?_
    refine wpAny_last (fun i uq _ => uq = ([.pointer (some ⟨sb, 0, none⟩), .pointer (some ⟨sb, 0, none⟩), .pointer (some ⟨sb, 0, none⟩), .map (some ob), eE x, .map (some n), .pointer (some ⟨q + 1, 0, none⟩), eD d, .pointer (some ⟨q + 1, 2, none⟩), eV v, undef] : List Value).getD i undef) _ W 10 _ (fun vals wq => (∀ j, j < 10 → vals j = ([.pointer (some ⟨sb, 0, none⟩), .pointer (some ⟨sb, 0, none⟩), .pointer (some ⟨sb, 0, none⟩), .map (some ob), eE x, .map (some n), .pointer (some ⟨q + 1, 0, none⟩), eD d, .pointer (some ⟨q + 1, 2, none⟩), eV v, undef] : List Value).getD j undef) ∧ (fun w' => StoreIs w' sb (Grow F w w') (comeS x d v (mapS h I)) ∧ Out F w w') wq) (by kernel_rfl) rfl (by kernel_rfl) (by kernel_rfl) (by kernel_rfl) (by kernel_rfl) (fun i v w w' _ h => h) ?_ ?_ ?_
    · refine ⟨?_, ?_, ?_, ?_, ?_, ?_, ?_, ?_, ?_, ?_, fun h => absurd h (Nat.lt_irrefl _), trivial⟩
      · intro _ a W hI hun haft hi
        have e0 : a.eval (.tmp 0) = .pointer (some ⟨sb, 0, none⟩) := hun 0 (by kernel_rfl)
        exact b_same hi hI rfl _ (run_move_op rfl e0) rfl
      · intro _ a W hI hun haft hi
        have f0 : a.eval (.tmp 28) = .pointer (some ⟨sb, 0, none⟩) := haft ⟨0, .data⟩ (by simp) rfl _ _ rfl rfl
        exact b_same hi hI rfl _ (run_nilCheck_op rfl f0) rfl
      · intro _ a W hI hun haft hi
        have f1 : a.eval (.tmp 29) = .pointer (some ⟨sb, 0, none⟩) := haft ⟨1, .data⟩ (by simp) rfl _ _ rfl rfl
        exact b_same hi hI rfl _ (run_fieldAddr_any rfl f1 (at_store0 _ 0 _)) rfl
      · intro _ a W hI hun haft hi
        have f2 : a.eval (.tmp 30) = .pointer (some ⟨sb, 0, none⟩) := haft ⟨2, .data⟩ (by simp) rfl _ _ rfl rfl
        exact b_same hi hI rfl _ (run_loadmap_op rfl f2 Tryz.underlying96 ((Blk.cell (Blk.below KS5.out hI (Blk.lt KS5.out)) 0).trans rfl)) rfl
      · intro _ a W hI hun haft hi
        have e4 : a.eval (.tmp 4) = .pointer (some ⟨q, 0, none⟩) := hun 4 (by kernel_rfl)
        exact b_same hi hI rfl _ (run_load_op rfl e4 (Blk.below KE5.out hI (Blk.lt KE5.out)) Tryz.underlying45 rfl (by kernel_rfl)) rfl
      · intro _ a W hI hun haft hi
        have f3 : a.eval (.tmp 31) = .map (some ob) := haft ⟨3, .data⟩ (by simp) rfl _ _ rfl rfl
        have f4 : a.eval (.tmp 32) = eE x := haft ⟨4, .data⟩ (by simp) rfl _ _ rfl rfl
        exact b_same hi hI rfl _ (run_lookup_op rfl f3 f4 ((look_run (MapIs.same KO5.out (hI.block _ (MapIs.lt KO5.out))) keyE Tryz.underlying96 (zero_held _) x).trans (by rw [HG5.out]; rfl))) rfl
      · intro _ a W hI hun haft hi
        have e5 : a.eval (.tmp 5) = .pointer (some ⟨q + 1, 0, none⟩) := hun 5 (by kernel_rfl)
        exact b_same hi hI rfl _ (run_fieldAddr_any rfl e5 (at_entry0 _ 0 _)) rfl
      · intro _ a W hI hun haft hi
        have f6 : a.eval (.tmp 34) = .pointer (some ⟨q + 1, 0, none⟩) := haft ⟨6, .data⟩ (by simp) rfl _ _ rfl rfl
        exact b_same hi hI rfl _ (run_loadmid_op rfl f6 (World.rangeAt_of_block (C := enA d v) (Blk.below KN5.out hI (Blk.lt KN5.out)) 0 2) Tryz.underlying43 rfl (by kernel_rfl)) rfl
      · intro _ a W hI hun haft hi
        have e5 : a.eval (.tmp 5) = .pointer (some ⟨q + 1, 0, none⟩) := hun 5 (by kernel_rfl)
        exact b_same hi hI rfl _ (run_fieldAddr_any rfl e5 (at_entry1 _ 0 _)) rfl
      · intro _ a W hI hun haft hi
        have f8 : a.eval (.tmp 36) = .pointer (some ⟨q + 1, 2, none⟩) := haft ⟨8, .data⟩ (by simp) rfl _ _ rfl rfl
        exact b_same hi hI rfl _ (run_loadmid_op rfl f8 (World.rangeAt_of_block (C := enA d v) (Blk.below KN5.out hI (Blk.lt KN5.out)) 2 3) Tryz.underlying47 rfl (by kernel_rfl)) rfl
    · intro vals a W hI hun hsl hp
      have f5 : a.eval (.tmp 33) = .map (some n) := (hsl 5 _ _ rfl (by decide) rfl).trans (hp 5 (by decide))
      have f7 : a.eval (.tmp 35) = eD d := (hsl 7 _ _ rfl (by decide) rfl).trans (hp 7 (by decide))
      have f9 : a.eval (.tmp 37) = eV v := (hsl 9 _ _ rfl (by decide) rfl).trans (hp 9 (by decide))
      obtain ⟨w', hr, hm, hb, _, _⟩ := put_run (MapIs.same KI5.out (hI.block _ (MapIs.lt KI5.out))) keyD Tryz.underlying107 d v
      exact l_skip rfl rfl w' (run_mapUpdate_op rfl f5 f7 f9 hr) ⟨undef, rfl, fun vals' h1 _ => ⟨fun j hj => (h1 j hj).trans (hp j hj), come_turn HB.out HG.out (HI3.out.trans (hI.mono HI3.out.size)) hm hb⟩⟩
    · rintro vals W ⟨hv, hJ⟩
      have hl0 : vals 0 = .pointer (some ⟨sb, 0, none⟩) := hv 0 (by decide)
      have hl1 : vals 1 = .pointer (some ⟨sb, 0, none⟩) := hv 1 (by decide)
      have hl2 : vals 2 = .pointer (some ⟨sb, 0, none⟩) := hv 2 (by decide)
      have hl3 : vals 3 = .map (some ob) := hv 3 (by decide)
      have hl4 : vals 4 = eE x := hv 4 (by decide)
      have hl5 : vals 5 = .map (some n) := hv 5 (by decide)
      have hl6 : vals 6 = .pointer (some ⟨q + 1, 0, none⟩) := hv 6 (by decide)
      have hl7 : vals 7 = eD d := hv 7 (by decide)
      have hl8 : vals 8 = .pointer (some ⟨q + 1, 2, none⟩) := hv 8 (by decide)
      have hl9 : vals 9 = eV v := hv 9 (by decide)
      have HJ := Lib.hid hJ
      clear hv hJ
      simp only [layN, List.size_toArray, List.length_cons, List.length_nil, List.range, List.range.loop, if_true, List.getElem?_toArray, List.getElem?_cons_zero, List.getElem?_cons_succ, Act.put, List.setIfInBounds_toArray, List.set_cons_zero, List.set_cons_succ, Nat.zero_add, Nat.reduceAdd, hl0, hl1, hl2, hl3, hl4, hl5, hl6, hl7, hl8, hl9]
      clear hl0 hl1 hl2 hl3 hl4 hl5 hl6 hl7 hl8 hl9
      go_wp2
      go_end0
      exact ⟨rfl, HJ.out.1, HJ.out.2⟩

set_option maxRecDepth 100000 in
set_option maxHeartbeats 2000000 in
theorem come_add_w (x : El) (d : Dt) (v : Va) (sb : Nat) (F : Nat → Prop) (w : World) (ob : Nat) (I : List (El × Nat)) (h : Nat → List (Dt × Va)) (hF : F sb) (hl : ∀ i, F i → i < w.heap.size) (hb : Blk w sb 98 #[.map (some ob)]) (hI : InnerIs w F ob I h) (hg : getL x I = none) : Calls Tryz.prog 49 #[.pointer (some ⟨sb, 0, none⟩), eE x, enV d v] w fun e w' => e = .returned (.tuple #[]) ∧ StoreIs w' sb (Grow F w w') (comeS x d v (mapS h I)) ∧ Out F w w' := by
  obtain ⟨Y, hY⟩ : ∃ Y, Y = (w.alloc (.cells #[.int .i64 x.k, .string x.a, .string x.b, .string x.c, .string x.d] 45)).alloc (.cells #[.int .i64 d.r, .int .i64 d.c, .int .i64 v.k, .int .i64 v.n, .string v.t] 63) := ⟨_, rfl⟩
  obtain ⟨q, hq⟩ : ∃ q, w.heap.size = q := ⟨_, rfl⟩
  have HY := Lib.hid hY
  have bY : Below w.heap.size w Y := by rw [hY]; exact ((Below.refl _ _).alloc (Nat.le_refl _) _).alloc (by simp) _
  have KE := Lib.hid (show Blk Y q 45 (elA x) by rw [hY, ← hq]; exact (Blk.new w _ _).alloc _)
  have KN := Lib.hid (show Blk Y (q + 1) 63 (enA d v) by
    rw [hY, ← hq]
    have := Blk.new (w.alloc (.cells #[.int .i64 x.k, .string x.a, .string x.b, .string x.c, .string x.d] 45)) 63 (enA d v)
    simpa [enA] using this)
  have BY := Lib.hid bY
  have HQ := Lib.hid hq
  have htn : ∀ w, (binOp .eql 96 (.map none) (.map none)).run Tryz.prog w = .ok (.bool true) w := fun w => run_eql_map_nil w _ _ _ none Tryz.underlying96
  have hts : ∀ n w, (binOp .eql 96 (.map (some n)) (.map none)).run Tryz.prog w = .ok (.bool false) w := fun n w => run_eql_map_nil w _ _ _ (some n) Tryz.underlying96
  clear hY
  obtain ⟨Z, hZ⟩ : ∃ Z, Z = Y := ⟨_, rfl⟩
  subst hZ
  have HB := Lib.hid (Base.of hF hl hb hI bY)
  clear hF hl hb hI bY hq
  have KS3 := Lib.hid HB.out.blk
  have KE3 := KE
  have KN3 := KN
  have KO3 := Lib.hid HB.out.inner.2.1
  have HG := Lib.hid hg
  have c0 : Z.cell? ⟨sb, 0, none⟩ = some (.map (some ob)) := (Blk.cell HB.out.blk 0).trans rfl
  clear hg KE KN
  unfold eE elV enV enA
  go_enter Tryz.func49, Tryz.ntmps49
  go_upto_region 1 with fail
  rw [← HY.out, HQ.out]
  go_upto_region 3 with fail
  clear c0 htn hts
  refine wp_region_any (by kernel_rfl) ?_
  refine wpAny_below (fun i uq _ => uq = ([.pointer (some ⟨sb, 0, none⟩), .pointer (some ⟨sb, 0, none⟩), .pointer (some ⟨sb, 0, none⟩), .map (some ob), eE x, .map none, .bool true] : List Value).getD i undef) _ Z (by kernel_rfl) (by kernel_rfl) (by kernel_rfl) (fun i v w w' _ h => h) ?_ ?_
  · refine ⟨?_, ?_, ?_, ?_, ?_, ?_, ?_, trivial⟩
    · intro a W hI hun haft hi
      have e0 : a.eval (.tmp 0) = .pointer (some ⟨sb, 0, none⟩) := hun 0 (by kernel_rfl)
      exact b_same hi hI rfl _ (run_move_op rfl e0) rfl
    · intro a W hI hun haft hi
      have f0 : a.eval (.tmp 15) = .pointer (some ⟨sb, 0, none⟩) := haft ⟨0, .data⟩ (by simp) rfl _ _ rfl rfl
      exact b_same hi hI rfl _ (run_nilCheck_op rfl f0) rfl
    · intro a W hI hun haft hi
      have f1 : a.eval (.tmp 16) = .pointer (some ⟨sb, 0, none⟩) := haft ⟨1, .data⟩ (by simp) rfl _ _ rfl rfl
      exact b_same hi hI rfl _ (run_fieldAddr_any rfl f1 (at_store0 _ 0 _)) rfl
    · intro a W hI hun haft hi
      have f2 : a.eval (.tmp 17) = .pointer (some ⟨sb, 0, none⟩) := haft ⟨2, .data⟩ (by simp) rfl _ _ rfl rfl
      exact b_same hi hI rfl _ (run_loadmap_op rfl f2 Tryz.underlying96 ((Blk.cell (Blk.below KS3.out hI (Blk.lt KS3.out)) 0).trans rfl)) rfl
    · intro a W hI hun haft hi
      have e4 : a.eval (.tmp 4) = .pointer (some ⟨q, 0, none⟩) := hun 4 (by kernel_rfl)
      exact b_same hi hI rfl _ (run_load_op rfl e4 (Blk.below KE3.out hI (Blk.lt KE3.out)) Tryz.underlying45 rfl (by kernel_rfl)) rfl
    · intro a W hI hun haft hi
      have f3 : a.eval (.tmp 18) = .map (some ob) := haft ⟨3, .data⟩ (by simp) rfl _ _ rfl rfl
      have f4 : a.eval (.tmp 19) = eE x := haft ⟨4, .data⟩ (by simp) rfl _ _ rfl rfl
      exact b_same hi hI rfl _ (run_lookup_op rfl f3 f4 ((look_run (MapIs.same KO3.out (hI.block _ (MapIs.lt KO3.out))) keyE Tryz.underlying96 (zero_held _) x).trans (by rw [HG.out]; rfl))) rfl
    · intro a W hI hun haft hi
      have f5 : a.eval (.tmp 20) = .map none := haft ⟨5, .data⟩ (by simp) rfl _ _ rfl rfl
      exact b_same hi hI rfl (.bool true) (run_bin_op rfl f5 rfl (guard_held _ _ _ _ _) (run_eql_held_none _)) rfl
  · intro vals W hI hp
    have hl0 : vals 0 = .pointer (some ⟨sb, 0, none⟩) := hp 0 (by decide)
    have hl1 : vals 1 = .pointer (some ⟨sb, 0, none⟩) := hp 1 (by decide)
    have hl2 : vals 2 = .pointer (some ⟨sb, 0, none⟩) := hp 2 (by decide)
    have hl3 : vals 3 = .map (some ob) := hp 3 (by decide)
    have hl4 : vals 4 = eE x := hp 4 (by decide)
    have hl5 : vals 5 = .map none := hp 5 (by decide)
    have hl6 : vals 6 = .bool true := hp 6 (by decide)
    have HI := Lib.hid hI
    clear hp hI
    simp only [layN, List.size_toArray, List.length_cons, List.length_nil, List.range, List.range.loop, if_true, List.getElem?_toArray, List.getElem?_cons_zero, List.getElem?_cons_succ, Act.put, List.setIfInBounds_toArray, List.set_cons_zero, List.set_cons_succ, Nat.zero_add, Nat.reduceAdd, hl0, hl1, hl2, hl3, hl4, hl5, hl6]
    clear hl0 hl1 hl2 hl3 hl4 hl5 hl6
    have KS4 := Lib.hid (Blk.below KS3.out HI.out (Blk.lt KS3.out))
    have KE4 := Lib.hid (Blk.below KE3.out HI.out (Blk.lt KE3.out))
    have KN4 := Lib.hid (Blk.below KN3.out HI.out (Blk.lt KN3.out))
    have KO4 := Lib.hid (MapIs.same KO3.out (HI.out.block _ (MapIs.lt KO3.out)))
    have HB4 := Lib.hid (HB.out.next HI.out)
    clear HI KS3 KE3 KN3 KO3
    obtain ⟨Z4, hZ4⟩ : ∃ Z4, Z4 = W := ⟨_, rfl⟩
    subst hZ4
    go_upto_region 4 with fail
    refine wp_region_any (by kernel_rfl) ?_
    refine wpAny_last (fun i uq wq => if i = 5 then ∃ n, uq = .map (some n) ∧ Z4.heap.size ≤ n ∧ MapIs eD eV wq n [] else uq = ([.pointer (some ⟨sb, 0, none⟩), .pointer (some ⟨sb, 0, none⟩), .pointer (some ⟨sb, 0, none⟩), .map (some ob), eE x, undef, undef] : List Value).getD i undef) _ Z4 6 _ (fun vals wq => (∀ j, j < 5 → vals j = ([.pointer (some ⟨sb, 0, none⟩), .pointer (some ⟨sb, 0, none⟩), .pointer (some ⟨sb, 0, none⟩), .map (some ob), eE x, undef, undef] : List Value).getD j undef) ∧ ∃ n, vals 5 = .map (some n) ∧ Added Z4 wq ob n I x) (by kernel_rfl) rfl (by kernel_rfl) (by kernel_rfl) (by kernel_rfl) (by kernel_rfl) ?_ ?_ ?_ ?_
    · intro i v w w' hb hp
      by_cases h5 : i = 5
      · rw [if_pos h5] at hp ⊢
        obtain ⟨n, h1, h2, h3⟩ := hp
        exact ⟨n, h1, h2, h3.same (hb.block n h3.lt)⟩
      · rw [if_neg h5] at hp ⊢
        exact hp
    · refine ⟨?_, ?_, ?_, ?_, ?_, ?_, fun h => absurd h (Nat.lt_irrefl _), trivial⟩
      · intro _ a W hI hun haft hi
        have e0 : a.eval (.tmp 0) = .pointer (some ⟨sb, 0, none⟩) := hun 0 (by kernel_rfl)
        exact b_same hi hI rfl _ (run_move_op rfl e0) rfl
      · intro _ a W hI hun haft hi
        have f0 : a.eval (.tmp 22) = .pointer (some ⟨sb, 0, none⟩) := haft ⟨0, .data⟩ (by simp) rfl _ _ rfl rfl
        exact b_same hi hI rfl _ (run_nilCheck_op rfl f0) rfl
      · intro _ a W hI hun haft hi
        have f1 : a.eval (.tmp 23) = .pointer (some ⟨sb, 0, none⟩) := haft ⟨1, .data⟩ (by simp) rfl _ _ rfl rfl
        exact b_same hi hI rfl _ (run_fieldAddr_any rfl f1 (at_store0 _ 0 _)) rfl
      · intro _ a W hI hun haft hi
        have f2 : a.eval (.tmp 24) = .pointer (some ⟨sb, 0, none⟩) := haft ⟨2, .data⟩ (by simp) rfl _ _ rfl rfl
        exact b_same hi hI rfl _ (run_loadmap_op rfl f2 Tryz.underlying96 ((Blk.cell (Blk.below KS4.out hI (Blk.lt KS4.out)) 0).trans rfl)) rfl
      · intro _ a W hI hun haft hi
        have e4 : a.eval (.tmp 4) = .pointer (some ⟨q, 0, none⟩) := hun 4 (by kernel_rfl)
        exact b_same hi hI rfl _ (run_load_op rfl e4 (Blk.below KE4.out hI (Blk.lt KE4.out)) Tryz.underlying45 rfl (by kernel_rfl)) rfl
      · intro _ a W hI hun haft hi
        exact b_val hi hI rfl _ _ (run_makeMap_op rfl) ((Below.refl _ _).alloc (Nat.le_refl _) _) ⟨_, rfl, Below.size hI, MapIs.made eD eV W⟩
    · intro vals a W hI hun hsl hp
      have f3 : a.eval (.tmp 25) = .map (some ob) := (hsl 3 _ _ rfl (by decide) rfl).trans (hp 3 (by decide))
      have f4 : a.eval (.tmp 26) = eE x := (hsl 4 _ _ rfl (by decide) rfl).trans (hp 4 (by decide))
      obtain ⟨n, h5, hsz, hnew⟩ := hp 5 (by decide)
      have f5 : a.eval (.tmp 27) = .map (some n) := (hsl 5 _ _ rfl (by decide) rfl).trans h5
      obtain ⟨w', hr, hm, hb, _, _⟩ := put_run (MapIs.same KO4.out (hI.block _ (MapIs.lt KO4.out))) keyE Tryz.underlying96 x n
      have hno : n ≠ ob := fun e => by have := MapIs.lt KO4.out; omega
      refine l_skip rfl rfl w' (run_mapUpdate_op rfl f3 f4 f5 hr) ⟨undef, rfl, fun vals' h1 _ => ⟨fun j hj => (h1 j (by omega)).trans ?_, n, (h1 5 (by decide)).trans h5, ⟨hsz, hm, hnew.same (hb.block n hnew.lt (fun e => hno (Option.some.inj e))), (Out.of_below hI).trans' (Out.of_but hb rfl)⟩⟩⟩
      have := hp j (by omega)
      rwa [if_neg (by omega)] at this
    · rintro vals W ⟨hv, n, hl5, hA⟩
      have hl0 : vals 0 = .pointer (some ⟨sb, 0, none⟩) := hv 0 (by decide)
      have hl1 : vals 1 = .pointer (some ⟨sb, 0, none⟩) := hv 1 (by decide)
      have hl2 : vals 2 = .pointer (some ⟨sb, 0, none⟩) := hv 2 (by decide)
      have hl3 : vals 3 = .map (some ob) := hv 3 (by decide)
      have hl4 : vals 4 = eE x := hv 4 (by decide)
      have HA := Lib.hid hA
      clear hv hA
      simp only [layN, List.size_toArray, List.length_cons, List.length_nil, List.range, List.range.loop, if_true, List.getElem?_toArray, List.getElem?_cons_zero, List.getElem?_cons_succ, Act.put, List.setIfInBounds_toArray, List.set_cons_zero, List.set_cons_succ, Nat.zero_add, Nat.reduceAdd, hl0, hl1, hl2, hl3, hl4, hl5]
      clear hl0 hl1 hl2 hl3 hl4 hl5
      have KS5 := Lib.hid (HA.out.blk KS4.out HB4.out.ne_ob.symm)
      have KE5 := Lib.hid (HA.out.blk KE4.out (HB4.out.ne_blk KE4.out))
      have KN5 := Lib.hid (HA.out.blk KN4.out (HB4.out.ne_blk KN4.out))
      have KO5 := Lib.hid HA.out.outer
      have KI5 := Lib.hid HA.out.inner
      have HG5 := Lib.hid (getL_putL_self x n I)
      clear KS4 KE4 KN4 KO4
      go_upto_region 5 with fail
      refine wp_region_any (by kernel_rfl) ?_
      refine wpAny_last (fun i uq _ => uq = ([.pointer (some ⟨sb, 0, none⟩), .pointer (some ⟨sb, 0, none⟩), .pointer (some ⟨sb, 0, none⟩), .map (some ob), eE x, .map (some n), .pointer (some ⟨q + 1, 0, none⟩), eD d, .pointer (some ⟨q + 1, 2, none⟩), eV v, undef] : List Value).getD i undef) _ W 10 _ (fun vals wq => (∀ j, j < 10 → vals j = ([.pointer (some ⟨sb, 0, none⟩), .pointer (some ⟨sb, 0, none⟩), .pointer (some ⟨sb, 0, none⟩), .map (some ob), eE x, .map (some n), .pointer (some ⟨q + 1, 0, none⟩), eD d, .pointer (some ⟨q + 1, 2, none⟩), eV v, undef] : List Value).getD j undef) ∧ (fun w' => StoreIs w' sb (Grow F w w') (comeS x d v (mapS h I)) ∧ Out F w w') wq) (by kernel_rfl) rfl (by kernel_rfl) (by kernel_rfl) (by kernel_rfl) (by kernel_rfl) (fun i v w w' _ h => h) ?_ ?_ ?_
      · refine ⟨?_, ?_, ?_, ?_, ?_, ?_, ?_, ?_, ?_, ?_, fun h => absurd h (Nat.lt_irrefl _), trivial⟩
        · intro _ a W hI hun haft hi
          have e0 : a.eval (.tmp 0) = .pointer (some ⟨sb, 0, none⟩) := hun 0 (by kernel_rfl)
          exact b_same hi hI rfl _ (run_move_op rfl e0) rfl
        · intro _ a W hI hun haft hi
          have f0 : a.eval (.tmp 28) = .pointer (some ⟨sb, 0, none⟩) := haft ⟨0, .data⟩ (by simp) rfl _ _ rfl rfl
          exact b_same hi hI rfl _ (run_nilCheck_op rfl f0) rfl
        · intro _ a W hI hun haft hi
          have f1 : a.eval (.tmp 29) = .pointer (some ⟨sb, 0, none⟩) := haft ⟨1, .data⟩ (by simp) rfl _ _ rfl rfl
          exact b_same hi hI rfl _ (run_fieldAddr_any rfl f1 (at_store0 _ 0 _)) rfl
        · intro _ a W hI hun haft hi
          have f2 : a.eval (.tmp 30) = .pointer (some ⟨sb, 0, none⟩) := haft ⟨2, .data⟩ (by simp) rfl _ _ rfl rfl
          exact b_same hi hI rfl _ (run_loadmap_op rfl f2 Tryz.underlying96 ((Blk.cell (Blk.below KS5.out hI (Blk.lt KS5.out)) 0).trans rfl)) rfl
        · intro _ a W hI hun haft hi
          have e4 : a.eval (.tmp 4) = .pointer (some ⟨q, 0, none⟩) := hun 4 (by kernel_rfl)
          exact b_same hi hI rfl _ (run_load_op rfl e4 (Blk.below KE5.out hI (Blk.lt KE5.out)) Tryz.underlying45 rfl (by kernel_rfl)) rfl
        · intro _ a W hI hun haft hi
          have f3 : a.eval (.tmp 31) = .map (some ob) := haft ⟨3, .data⟩ (by simp) rfl _ _ rfl rfl
          have f4 : a.eval (.tmp 32) = eE x := haft ⟨4, .data⟩ (by simp) rfl _ _ rfl rfl
          exact b_same hi hI rfl _ (run_lookup_op rfl f3 f4 ((look_run (MapIs.same KO5.out (hI.block _ (MapIs.lt KO5.out))) keyE Tryz.underlying96 (zero_held _) x).trans (by rw [HG5.out]; rfl))) rfl
        · intro _ a W hI hun haft hi
          have e5 : a.eval (.tmp 5) = .pointer (some ⟨q + 1, 0, none⟩) := hun 5 (by kernel_rfl)
          exact b_same hi hI rfl _ (run_fieldAddr_any rfl e5 (at_entry0 _ 0 _)) rfl
        · intro _ a W hI hun haft hi
          have f6 : a.eval (.tmp 34) = .pointer (some ⟨q + 1, 0, none⟩) := haft ⟨6, .data⟩ (by simp) rfl _ _ rfl rfl
          exact b_same hi hI rfl _ (run_loadmid_op rfl f6 (World.rangeAt_of_block (C := enA d v) (Blk.below KN5.out hI (Blk.lt KN5.out)) 0 2) Tryz.underlying43 rfl (by kernel_rfl)) rfl
        · intro _ a W hI hun haft hi
          have e5 : a.eval (.tmp 5) = .pointer (some ⟨q + 1, 0, none⟩) := hun 5 (by kernel_rfl)
          exact b_same hi hI rfl _ (run_fieldAddr_any rfl e5 (at_entry1 _ 0 _)) rfl
        · intro _ a W hI hun haft hi
          have f8 : a.eval (.tmp 36) = .pointer (some ⟨q + 1, 2, none⟩) := haft ⟨8, .data⟩ (by simp) rfl _ _ rfl rfl
          exact b_same hi hI rfl _ (run_loadmid_op rfl f8 (World.rangeAt_of_block (C := enA d v) (Blk.below KN5.out hI (Blk.lt KN5.out)) 2 3) Tryz.underlying47 rfl (by kernel_rfl)) rfl
      · intro vals a W hI hun hsl hp
        have f5 : a.eval (.tmp 33) = .map (some n) := (hsl 5 _ _ rfl (by decide) rfl).trans (hp 5 (by decide))
        have f7 : a.eval (.tmp 35) = eD d := (hsl 7 _ _ rfl (by decide) rfl).trans (hp 7 (by decide))
        have f9 : a.eval (.tmp 37) = eV v := (hsl 9 _ _ rfl (by decide) rfl).trans (hp 9 (by decide))
        obtain ⟨w', hr, hm, hb, _, _⟩ := put_run (MapIs.same KI5.out (hI.block _ (MapIs.lt KI5.out))) keyD Tryz.underlying107 d v
        exact l_skip rfl rfl w' (run_mapUpdate_op rfl f5 f7 f9 hr) ⟨undef, rfl, fun vals' h1 _ => ⟨fun j hj => (h1 j hj).trans (hp j hj), come_add HB4.out HG.out HA.out hI hm hb⟩⟩
      · rintro vals W ⟨hv, hJ⟩
        have hl0 : vals 0 = .pointer (some ⟨sb, 0, none⟩) := hv 0 (by decide)
        have hl1 : vals 1 = .pointer (some ⟨sb, 0, none⟩) := hv 1 (by decide)
        have hl2 : vals 2 = .pointer (some ⟨sb, 0, none⟩) := hv 2 (by decide)
        have hl3 : vals 3 = .map (some ob) := hv 3 (by decide)
        have hl4 : vals 4 = eE x := hv 4 (by decide)
        have hl5 : vals 5 = .map (some n) := hv 5 (by decide)
        have hl6 : vals 6 = .pointer (some ⟨q + 1, 0, none⟩) := hv 6 (by decide)
        have hl7 : vals 7 = eD d := hv 7 (by decide)
        have hl8 : vals 8 = .pointer (some ⟨q + 1, 2, none⟩) := hv 8 (by decide)
        have hl9 : vals 9 = eV v := hv 9 (by decide)
        have HJ := Lib.hid hJ
        clear hv hJ
        simp only [layN, List.size_toArray, List.length_cons, List.length_nil, List.range, List.range.loop, if_true, List.getElem?_toArray, List.getElem?_cons_zero, List.getElem?_cons_succ, Act.put, List.setIfInBounds_toArray, List.set_cons_zero, List.set_cons_succ, Nat.zero_add, Nat.reduceAdd, hl0, hl1, hl2, hl3, hl4, hl5, hl6, hl7, hl8, hl9]
        clear hl0 hl1 hl2 hl3 hl4 hl5 hl6 hl7 hl8 hl9
        go_wp2
        go_end0
        exact ⟨rfl, HJ.out.1, HJ.out.2⟩

set_option maxRecDepth 100000 in
set_option maxHeartbeats 2000000 in
theorem come_made_w (x : El) (d : Dt) (v : Va) (sb : Nat) (F : Nat → Prop) (w : World) (hF : F sb) (hl : ∀ i, F i → i < w.heap.size) (hb : Blk w sb 98 #[.map none]) : Calls Tryz.prog 49 #[.pointer (some ⟨sb, 0, none⟩), eE x, enV d v] w fun e w' => e = .returned (.tuple #[]) ∧ StoreIs w' sb (Grow F w w') (comeS x d v []) ∧ Out F w w' := by
  obtain ⟨Y, hY⟩ : ∃ Y, Y = (w.alloc (.cells #[.int .i64 x.k, .string x.a, .string x.b, .string x.c, .string x.d] 45)).alloc (.cells #[.int .i64 d.r, .int .i64 d.c, .int .i64 v.k, .int .i64 v.n, .string v.t] 63) := ⟨_, rfl⟩
  obtain ⟨q, hq⟩ : ∃ q, w.heap.size = q := ⟨_, rfl⟩
  have HY := Lib.hid hY
  have bY : Below w.heap.size w Y := by rw [hY]; exact ((Below.refl _ _).alloc (Nat.le_refl _) _).alloc (by simp) _
  have KE := Lib.hid (show Blk Y q 45 (elA x) by rw [hY, ← hq]; exact (Blk.new w _ _).alloc _)
  have KN := Lib.hid (show Blk Y (q + 1) 63 (enA d v) by
    rw [hY, ← hq]
    have := Blk.new (w.alloc (.cells #[.int .i64 x.k, .string x.a, .string x.b, .string x.c, .string x.d] 45)) 63 (enA d v)
    simpa [enA] using this)
  have BY := Lib.hid bY
  have HQ := Lib.hid hq
  have htn : ∀ w, (binOp .eql 96 (.map none) (.map none)).run Tryz.prog w = .ok (.bool true) w := fun w => run_eql_map_nil w _ _ _ none Tryz.underlying96
  have hts : ∀ n w, (binOp .eql 96 (.map (some n)) (.map none)).run Tryz.prog w = .ok (.bool false) w := fun n w => run_eql_map_nil w _ _ _ (some n) Tryz.underlying96
  clear hY
  have hbY : Blk Y sb 98 #[.map none] := (bY.block _ (hl _ hF)).trans hb
  obtain ⟨ob, hob⟩ : ∃ ob, Y.heap.size = ob := ⟨_, rfl⟩
  have HO := Lib.hid hob
  obtain ⟨Z, hZ⟩ : ∃ Z, Z = (Y.alloc (.map #[] 0)).setCell ⟨sb, 0, none⟩ (.map (some ob)) := ⟨_, rfl⟩
  have HB := Lib.hid (show Base w Z F (fun i => F i ∨ i = ob) sb ob [] (fun _ => []) by rw [hZ, ← hob]; exact Base.made hF hl hb bY)
  have hqs : q ≠ sb ∧ q + 1 ≠ sb := by have := hl _ hF; omega
  have KE3 := Lib.hid (show Blk Z q 45 (elA x) by rw [hZ]; exact (KE.out.alloc _).far hqs.1 _)
  have KN3 := Lib.hid (show Blk Z (q + 1) 63 (enA d v) by rw [hZ]; exact (KN.out.alloc _).far hqs.2 _)
  have KS3 := Lib.hid HB.out.blk
  have KO3 := Lib.hid HB.out.inner.2.1
  have c0 : Y.cell? ⟨sb, 0, none⟩ = some (.map none) := (Blk.cell hbY 0).trans rfl
  have c1 : (Y.alloc (.map #[] 0)).cell? ⟨sb, 0, none⟩ = some (.map none) := (Blk.cell (hbY.alloc (.map #[] 0)) 0).trans rfl
  have f1 : (Y.alloc (.map #[] 0)).frozen? ⟨sb, 0, none⟩ = false := Blk.free (hbY.alloc (.map #[] 0)) 0
  have HZ := Lib.hid hZ
  obtain ⟨I, hI⟩ : ∃ I : List (El × Nat), I = [] := ⟨_, rfl⟩
  have HG := Lib.hid (show getL x I = none by rw [hI]; rfl)
  have HII := Lib.hid hI
  rw [← hI] at HB KO3
  have hmm := @run_makeMap Tryz.prog
  rw [show ([] : List (El × List (Dt × Va))) = mapS (fun _ => []) I by rw [hI]; rfl]
  clear hF hl hb bY hq hbY hob hZ hqs KE KN hI
  unfold eE elV enV enA
  go_enter Tryz.func49, Tryz.ntmps49
  go_upto_region 1 with fail
  rw [← HY.out, HQ.out]
  go_upto_region 3 with fail
  rw [HO.out, ← HZ.out]
  clear c0 c1 f1 hmm htn hts
  refine wp_region_any (by kernel_rfl) ?_
  refine wpAny_below (fun i uq _ => uq = ([.pointer (some ⟨sb, 0, none⟩), .pointer (some ⟨sb, 0, none⟩), .pointer (some ⟨sb, 0, none⟩), .map (some ob), eE x, .map none, .bool true] : List Value).getD i undef) _ Z (by kernel_rfl) (by kernel_rfl) (by kernel_rfl) (fun i v w w' _ h => h) ?_ ?_
  · refine ⟨?_, ?_, ?_, ?_, ?_, ?_, ?_, trivial⟩
    · intro a W hI hun haft hi
      have e0 : a.eval (.tmp 0) = .pointer (some ⟨sb, 0, none⟩) := hun 0 (by kernel_rfl)
      exact b_same hi hI rfl _ (run_move_op rfl e0) rfl
    · intro a W hI hun haft hi
      have f0 : a.eval (.tmp 15) = .pointer (some ⟨sb, 0, none⟩) := haft ⟨0, .data⟩ (by simp) rfl _ _ rfl rfl
      exact b_same hi hI rfl _ (run_nilCheck_op rfl f0) rfl
    · intro a W hI hun haft hi
      have f1 : a.eval (.tmp 16) = .pointer (some ⟨sb, 0, none⟩) := haft ⟨1, .data⟩ (by simp) rfl _ _ rfl rfl
      exact b_same hi hI rfl _ (run_fieldAddr_any rfl f1 (at_store0 _ 0 _)) rfl
    · intro a W hI hun haft hi
      have f2 : a.eval (.tmp 17) = .pointer (some ⟨sb, 0, none⟩) := haft ⟨2, .data⟩ (by simp) rfl _ _ rfl rfl
      exact b_same hi hI rfl _ (run_loadmap_op rfl f2 Tryz.underlying96 ((Blk.cell (Blk.below KS3.out hI (Blk.lt KS3.out)) 0).trans rfl)) rfl
    · intro a W hI hun haft hi
      have e4 : a.eval (.tmp 4) = .pointer (some ⟨q, 0, none⟩) := hun 4 (by kernel_rfl)
      exact b_same hi hI rfl _ (run_load_op rfl e4 (Blk.below KE3.out hI (Blk.lt KE3.out)) Tryz.underlying45 rfl (by kernel_rfl)) rfl
    · intro a W hI hun haft hi
      have f3 : a.eval (.tmp 18) = .map (some ob) := haft ⟨3, .data⟩ (by simp) rfl _ _ rfl rfl
      have f4 : a.eval (.tmp 19) = eE x := haft ⟨4, .data⟩ (by simp) rfl _ _ rfl rfl
      exact b_same hi hI rfl _ (run_lookup_op rfl f3 f4 ((look_run (MapIs.same KO3.out (hI.block _ (MapIs.lt KO3.out))) keyE Tryz.underlying96 (zero_held _) x).trans (by rw [HG.out]; rfl))) rfl
    · intro a W hI hun haft hi
      have f5 : a.eval (.tmp 20) = .map none := haft ⟨5, .data⟩ (by simp) rfl _ _ rfl rfl
      exact b_same hi hI rfl (.bool true) (run_bin_op rfl f5 rfl (guard_held _ _ _ _ _) (run_eql_held_none _)) rfl
  · intro vals W hI hp
    have hl0 : vals 0 = .pointer (some ⟨sb, 0, none⟩) := hp 0 (by decide)
    have hl1 : vals 1 = .pointer (some ⟨sb, 0, none⟩) := hp 1 (by decide)
    have hl2 : vals 2 = .pointer (some ⟨sb, 0, none⟩) := hp 2 (by decide)
    have hl3 : vals 3 = .map (some ob) := hp 3 (by decide)
    have hl4 : vals 4 = eE x := hp 4 (by decide)
    have hl5 : vals 5 = .map none := hp 5 (by decide)
    have hl6 : vals 6 = .bool true := hp 6 (by decide)
    have HI := Lib.hid hI
    clear hp hI
    simp only [layN, List.size_toArray, List.length_cons, List.length_nil, List.range, List.range.loop, if_true, List.getElem?_toArray, List.getElem?_cons_zero, List.getElem?_cons_succ, Act.put, List.setIfInBounds_toArray, List.set_cons_zero, List.set_cons_succ, Nat.zero_add, Nat.reduceAdd, hl0, hl1, hl2, hl3, hl4, hl5, hl6]
    clear hl0 hl1 hl2 hl3 hl4 hl5 hl6
    have KS4 := Lib.hid (Blk.below KS3.out HI.out (Blk.lt KS3.out))
    have KE4 := Lib.hid (Blk.below KE3.out HI.out (Blk.lt KE3.out))
    have KN4 := Lib.hid (Blk.below KN3.out HI.out (Blk.lt KN3.out))
    have KO4 := Lib.hid (MapIs.same KO3.out (HI.out.block _ (MapIs.lt KO3.out)))
    have HB4 := Lib.hid (HB.out.next HI.out)
    clear HI KS3 KE3 KN3 KO3
    obtain ⟨Z4, hZ4⟩ : ∃ Z4, Z4 = W := ⟨_, rfl⟩
    subst hZ4
    go_upto_region 4 with fail
    refine wp_region_any (by kernel_rfl) ?_
    refine wpAny_last (fun i uq wq => if i = 5 then ∃ n, uq = .map (some n) ∧ Z4.heap.size ≤ n ∧ MapIs eD eV wq n [] else uq = ([.pointer (some ⟨sb, 0, none⟩), .pointer (some ⟨sb, 0, none⟩), .pointer (some ⟨sb, 0, none⟩), .map (some ob), eE x, undef, undef] : List Value).getD i undef) _ Z4 6 _ (fun vals wq => (∀ j, j < 5 → vals j = ([.pointer (some ⟨sb, 0, none⟩), .pointer (some ⟨sb, 0, none⟩), .pointer (some ⟨sb, 0, none⟩), .map (some ob), eE x, undef, undef] : List Value).getD j undef) ∧ ∃ n, vals 5 = .map (some n) ∧ Added Z4 wq ob n I x) (by kernel_rfl) rfl (by kernel_rfl) (by kernel_rfl) (by kernel_rfl) (by kernel_rfl) ?_ ?_ ?_ ?_
    · intro i v w w' hb hp
      by_cases h5 : i = 5
      · rw [if_pos h5] at hp ⊢
        obtain ⟨n, h1, h2, h3⟩ := hp
        exact ⟨n, h1, h2, h3.same (hb.block n h3.lt)⟩
      · rw [if_neg h5] at hp ⊢
        exact hp
    · refine ⟨?_, ?_, ?_, ?_, ?_, ?_, fun h => absurd h (Nat.lt_irrefl _), trivial⟩
      · intro _ a W hI hun haft hi
        have e0 : a.eval (.tmp 0) = .pointer (some ⟨sb, 0, none⟩) := hun 0 (by kernel_rfl)
        exact b_same hi hI rfl _ (run_move_op rfl e0) rfl
      · intro _ a W hI hun haft hi
        have f0 : a.eval (.tmp 22) = .pointer (some ⟨sb, 0, none⟩) := haft ⟨0, .data⟩ (by simp) rfl _ _ rfl rfl
        exact b_same hi hI rfl _ (run_nilCheck_op rfl f0) rfl
      · intro _ a W hI hun haft hi
        have f1 : a.eval (.tmp 23) = .pointer (some ⟨sb, 0, none⟩) := haft ⟨1, .data⟩ (by simp) rfl _ _ rfl rfl
        exact b_same hi hI rfl _ (run_fieldAddr_any rfl f1 (at_store0 _ 0 _)) rfl
      · intro _ a W hI hun haft hi
        have f2 : a.eval (.tmp 24) = .pointer (some ⟨sb, 0, none⟩) := haft ⟨2, .data⟩ (by simp) rfl _ _ rfl rfl
        exact b_same hi hI rfl _ (run_loadmap_op rfl f2 Tryz.underlying96 ((Blk.cell (Blk.below KS4.out hI (Blk.lt KS4.out)) 0).trans rfl)) rfl
      · intro _ a W hI hun haft hi
        have e4 : a.eval (.tmp 4) = .pointer (some ⟨q, 0, none⟩) := hun 4 (by kernel_rfl)
        exact b_same hi hI rfl _ (run_load_op rfl e4 (Blk.below KE4.out hI (Blk.lt KE4.out)) Tryz.underlying45 rfl (by kernel_rfl)) rfl
      · intro _ a W hI hun haft hi
        exact b_val hi hI rfl _ _ (run_makeMap_op rfl) ((Below.refl _ _).alloc (Nat.le_refl _) _) ⟨_, rfl, Below.size hI, MapIs.made eD eV W⟩
    · intro vals a W hI hun hsl hp
      have f3 : a.eval (.tmp 25) = .map (some ob) := (hsl 3 _ _ rfl (by decide) rfl).trans (hp 3 (by decide))
      have f4 : a.eval (.tmp 26) = eE x := (hsl 4 _ _ rfl (by decide) rfl).trans (hp 4 (by decide))
      obtain ⟨n, h5, hsz, hnew⟩ := hp 5 (by decide)
      have f5 : a.eval (.tmp 27) = .map (some n) := (hsl 5 _ _ rfl (by decide) rfl).trans h5
      obtain ⟨w', hr, hm, hb, _, _⟩ := put_run (MapIs.same KO4.out (hI.block _ (MapIs.lt KO4.out))) keyE Tryz.underlying96 x n
      have hno : n ≠ ob := fun e => by have := MapIs.lt KO4.out; omega
      refine l_skip rfl rfl w' (run_mapUpdate_op rfl f3 f4 f5 hr) ⟨undef, rfl, fun vals' h1 _ => ⟨fun j hj => (h1 j (by omega)).trans ?_, n, (h1 5 (by decide)).trans h5, ⟨hsz, hm, hnew.same (hb.block n hnew.lt (fun e => hno (Option.some.inj e))), (Out.of_below hI).trans' (Out.of_but hb rfl)⟩⟩⟩
      have := hp j (by omega)
      rwa [if_neg (by omega)] at this
    · rintro vals W ⟨hv, n, hl5, hA⟩
      have hl0 : vals 0 = .pointer (some ⟨sb, 0, none⟩) := hv 0 (by decide)
      have hl1 : vals 1 = .pointer (some ⟨sb, 0, none⟩) := hv 1 (by decide)
      have hl2 : vals 2 = .pointer (some ⟨sb, 0, none⟩) := hv 2 (by decide)
      have hl3 : vals 3 = .map (some ob) := hv 3 (by decide)
      have hl4 : vals 4 = eE x := hv 4 (by decide)
      have HA := Lib.hid hA
      clear hv hA
      simp only [layN, List.size_toArray, List.length_cons, List.length_nil, List.range, List.range.loop, if_true, List.getElem?_toArray, List.getElem?_cons_zero, List.getElem?_cons_succ, Act.put, List.setIfInBounds_toArray, List.set_cons_zero, List.set_cons_succ, Nat.zero_add, Nat.reduceAdd, hl0, hl1, hl2, hl3, hl4, hl5]
      clear hl0 hl1 hl2 hl3 hl4 hl5
      have KS5 := Lib.hid (HA.out.blk KS4.out HB4.out.ne_ob.symm)
      have KE5 := Lib.hid (HA.out.blk KE4.out (HB4.out.ne_blk KE4.out))
      have KN5 := Lib.hid (HA.out.blk KN4.out (HB4.out.ne_blk KN4.out))
      have KO5 := Lib.hid HA.out.outer
      have KI5 := Lib.hid HA.out.inner
      have HG5 := Lib.hid (getL_putL_self x n I)
      clear KS4 KE4 KN4 KO4
      go_upto_region 5 with fail
      refine wp_region_any (by kernel_rfl) ?_
      refine wpAny_last (fun i uq _ => uq = ([.pointer (some ⟨sb, 0, none⟩), .pointer (some ⟨sb, 0, none⟩), .pointer (some ⟨sb, 0, none⟩), .map (some ob), eE x, .map (some n), .pointer (some ⟨q + 1, 0, none⟩), eD d, .pointer (some ⟨q + 1, 2, none⟩), eV v, undef] : List Value).getD i undef) _ W 10 _ (fun vals wq => (∀ j, j < 10 → vals j = ([.pointer (some ⟨sb, 0, none⟩), .pointer (some ⟨sb, 0, none⟩), .pointer (some ⟨sb, 0, none⟩), .map (some ob), eE x, .map (some n), .pointer (some ⟨q + 1, 0, none⟩), eD d, .pointer (some ⟨q + 1, 2, none⟩), eV v, undef] : List Value).getD j undef) ∧ (fun w' => StoreIs w' sb (Grow F w w') (comeS x d v (mapS (fun _ => []) I)) ∧ Out F w w') wq) (by kernel_rfl) rfl (by kernel_rfl) (by kernel_rfl) (by kernel_rfl) (by kernel_rfl) (fun i v w w' _ h => h) ?_ ?_ ?_
      · refine ⟨?_, ?_, ?_, ?_, ?_, ?_, ?_, ?_, ?_, ?_, fun h => absurd h (Nat.lt_irrefl _), trivial⟩
        · intro _ a W hI hun haft hi
          have e0 : a.eval (.tmp 0) = .pointer (some ⟨sb, 0, none⟩) := hun 0 (by kernel_rfl)
          exact b_same hi hI rfl _ (run_move_op rfl e0) rfl
        · intro _ a W hI hun haft hi
          have f0 : a.eval (.tmp 28) = .pointer (some ⟨sb, 0, none⟩) := haft ⟨0, .data⟩ (by simp) rfl _ _ rfl rfl
          exact b_same hi hI rfl _ (run_nilCheck_op rfl f0) rfl
        · intro _ a W hI hun haft hi
          have f1 : a.eval (.tmp 29) = .pointer (some ⟨sb, 0, none⟩) := haft ⟨1, .data⟩ (by simp) rfl _ _ rfl rfl
          exact b_same hi hI rfl _ (run_fieldAddr_any rfl f1 (at_store0 _ 0 _)) rfl
        · intro _ a W hI hun haft hi
          have f2 : a.eval (.tmp 30) = .pointer (some ⟨sb, 0, none⟩) := haft ⟨2, .data⟩ (by simp) rfl _ _ rfl rfl
          exact b_same hi hI rfl _ (run_loadmap_op rfl f2 Tryz.underlying96 ((Blk.cell (Blk.below KS5.out hI (Blk.lt KS5.out)) 0).trans rfl)) rfl
        · intro _ a W hI hun haft hi
          have e4 : a.eval (.tmp 4) = .pointer (some ⟨q, 0, none⟩) := hun 4 (by kernel_rfl)
          exact b_same hi hI rfl _ (run_load_op rfl e4 (Blk.below KE5.out hI (Blk.lt KE5.out)) Tryz.underlying45 rfl (by kernel_rfl)) rfl
        · intro _ a W hI hun haft hi
          have f3 : a.eval (.tmp 31) = .map (some ob) := haft ⟨3, .data⟩ (by simp) rfl _ _ rfl rfl
          have f4 : a.eval (.tmp 32) = eE x := haft ⟨4, .data⟩ (by simp) rfl _ _ rfl rfl
          exact b_same hi hI rfl _ (run_lookup_op rfl f3 f4 ((look_run (MapIs.same KO5.out (hI.block _ (MapIs.lt KO5.out))) keyE Tryz.underlying96 (zero_held _) x).trans (by rw [HG5.out]; rfl))) rfl
        · intro _ a W hI hun haft hi
          have e5 : a.eval (.tmp 5) = .pointer (some ⟨q + 1, 0, none⟩) := hun 5 (by kernel_rfl)
          exact b_same hi hI rfl _ (run_fieldAddr_any rfl e5 (at_entry0 _ 0 _)) rfl
        · intro _ a W hI hun haft hi
          have f6 : a.eval (.tmp 34) = .pointer (some ⟨q + 1, 0, none⟩) := haft ⟨6, .data⟩ (by simp) rfl _ _ rfl rfl
          exact b_same hi hI rfl _ (run_loadmid_op rfl f6 (World.rangeAt_of_block (C := enA d v) (Blk.below KN5.out hI (Blk.lt KN5.out)) 0 2) Tryz.underlying43 rfl (by kernel_rfl)) rfl
        · intro _ a W hI hun haft hi
          have e5 : a.eval (.tmp 5) = .pointer (some ⟨q + 1, 0, none⟩) := hun 5 (by kernel_rfl)
          exact b_same hi hI rfl _ (run_fieldAddr_any rfl e5 (at_entry1 _ 0 _)) rfl
        · intro _ a W hI hun haft hi
          have f8 : a.eval (.tmp 36) = .pointer (some ⟨q + 1, 2, none⟩) := haft ⟨8, .data⟩ (by simp) rfl _ _ rfl rfl
          exact b_same hi hI rfl _ (run_loadmid_op rfl f8 (World.rangeAt_of_block (C := enA d v) (Blk.below KN5.out hI (Blk.lt KN5.out)) 2 3) Tryz.underlying47 rfl (by kernel_rfl)) rfl
      · intro vals a W hI hun hsl hp
        have f5 : a.eval (.tmp 33) = .map (some n) := (hsl 5 _ _ rfl (by decide) rfl).trans (hp 5 (by decide))
        have f7 : a.eval (.tmp 35) = eD d := (hsl 7 _ _ rfl (by decide) rfl).trans (hp 7 (by decide))
        have f9 : a.eval (.tmp 37) = eV v := (hsl 9 _ _ rfl (by decide) rfl).trans (hp 9 (by decide))
        obtain ⟨w', hr, hm, hb, _, _⟩ := put_run (MapIs.same KI5.out (hI.block _ (MapIs.lt KI5.out))) keyD Tryz.underlying107 d v
        exact l_skip rfl rfl w' (run_mapUpdate_op rfl f5 f7 f9 hr) ⟨undef, rfl, fun vals' h1 _ => ⟨fun j hj => (h1 j hj).trans (hp j hj), come_add HB4.out HG.out HA.out hI hm hb⟩⟩
      · rintro vals W ⟨hv, hJ⟩
        have hl0 : vals 0 = .pointer (some ⟨sb, 0, none⟩) := hv 0 (by decide)
        have hl1 : vals 1 = .pointer (some ⟨sb, 0, none⟩) := hv 1 (by decide)
        have hl2 : vals 2 = .pointer (some ⟨sb, 0, none⟩) := hv 2 (by decide)
        have hl3 : vals 3 = .map (some ob) := hv 3 (by decide)
        have hl4 : vals 4 = eE x := hv 4 (by decide)
        have hl5 : vals 5 = .map (some n) := hv 5 (by decide)
        have hl6 : vals 6 = .pointer (some ⟨q + 1, 0, none⟩) := hv 6 (by decide)
        have hl7 : vals 7 = eD d := hv 7 (by decide)
        have hl8 : vals 8 = .pointer (some ⟨q + 1, 2, none⟩) := hv 8 (by decide)
        have hl9 : vals 9 = eV v := hv 9 (by decide)
        have HJ := Lib.hid hJ
        clear hv hJ
        simp only [layN, List.size_toArray, List.length_cons, List.length_nil, List.range, List.range.loop, if_true, List.getElem?_toArray, List.getElem?_cons_zero, List.getElem?_cons_succ, Act.put, List.setIfInBounds_toArray, List.set_cons_zero, List.set_cons_succ, Nat.zero_add, Nat.reduceAdd, hl0, hl1, hl2, hl3, hl4, hl5, hl6, hl7, hl8, hl9]
        clear hl0 hl1 hl2 hl3 hl4 hl5 hl6 hl7 hl8 hl9
        go_wp2
        go_end0
        exact ⟨rfl, HJ.out.1, HJ.out.2⟩

/-- come: what comes is there, in its element's place. -/
theorem come_any (x : El) (d : Dt) (v : Va) (sb : Nat) (F : Nat → Prop) (σ : List (El × List (Dt × Va))) (w : World) (hS : StoreIs w sb F σ) : Calls Tryz.prog 49 #[.pointer (some ⟨sb, 0, none⟩), eE x, enV d v] w fun e w' => e = .returned (.tuple #[]) ∧ StoreIs w' sb (Grow F w w') (comeS x d v σ) ∧ Out F w w' := by
  obtain ⟨h1, h2, h3⟩ := hS
  rcases h3 with ⟨hb, rfl⟩ | ⟨ob, I, h, hb, hI, rfl⟩
  · exact come_made_w x d v sb F w h1 h2 hb
  · cases hg : getL x I with
    | none => exact come_add_w x d v sb F w ob I h h1 h2 hb hI hg
    | some n => exact come_turn_w x d v sb F w ob n I h h1 h2 hb hI hg

end Go.Proofs.YtejljikikhecnaaGreat

namespace Go.Proofs.YtejljikikhecnaaGreat.Lt
open Go.RowKit

section
variable {P : Program} {ops : Array Oper} {Q : Exit → Act → World → Prop} {md : Region.Mode}

/-- What an operation finds. -/
structure Finds (md : Region.Mode) (ops : Array Oper) (a0 : Act) (i : Nat) (o : Oper) (L : Nat → Bool) (vals : Nat → Value) (a : Act) : Prop where
  it : ops[i]? = some o
  open_ : L i = false
  ahead : ∀ e ∈ o.after, Region.binds md e = true → L e.on = true
  closed : ∀ (j : Nat) (oj : Oper), ops[j]? = some oj → L j = true → ∀ e ∈ oj.after, Region.binds md e = true → L e.on = true
  slot : ∀ (j : Nat) (oj : Oper) (d : Tmp), ops[j]? = some oj → oj.dst = some d → L j = true → a.eval (.tmp d) = vals j
  later : ∀ d : Tmp, (∀ (j : Nat) (oj : Oper), ops[j]? = some oj → L j = true → oj.dst ≠ some d) → a.eval (.tmp d) = a0.eval (.tmp d)
  old : ∀ d : Tmp, (ops.all fun o => o.dst != some d) = true → a.eval (.tmp d) = a0.eval (.tmp d)
/-- What an operation leaves. -/
def Leaves (Inv : (Nat → Bool) → (Nat → Value) → World → Prop) (i : Nat) (o : Oper) (L : Nat → Bool) (vals : Nat → Value) (a a' : Act) (w' : World) : Prop :=
  ∃ v, a' = a.put o.dst v ∧ ∀ L' : Nat → Bool, (∀ j, j ≠ i → L' j = L j) → L' i = true → Inv L' (fun j => if j = i then v else vals j) w'

theorem wpAny_inv (Inv : (Nat → Bool) → (Nat → Value) → World → Prop) (a0 : Act) (w0 : World)
    (hap : apartB ops = true) (hah : aheadB md ops = true) (hin : (List.range ops.size).all (fun i => match ops[i]? with | some o => (match o.dst with | some d => decide (d < a0.tmps.size) | none => true) | none => true) = true)
    (h0 : ∀ L : Nat → Bool, (∀ i, L i = false) → Inv L (fun _ => undef) w0)
    (hop : AllIdx (fun i o => ∀ (L : Nat → Bool) (vals : Nat → Value) (a : Act) (w : World), Finds md ops a0 i o L vals a → Inv L vals w → wpOp P ops Q i (Leaves Inv i o L vals a) a w) 0 ops.toList)
    (hend : ∀ L vals w, (∀ i, i < ops.size → L i = true) → Inv L vals w → Q .normal (layN ops (fun _ => true) vals (List.range ops.size) a0) w) :
    wpAny P md ops Q ops.size (Array.replicate ops.size false) a0 w0 := by
  have hap' := apartB_spec hap
  have hin' : ∀ (i : Nat) (o : Oper) (d : Tmp), ops[i]? = some o → o.dst = some d → d < a0.tmps.size := by
    intro i o d hi hd
    have hil : i < ops.size := (Array.getElem?_eq_some_iff.1 hi).1
    simp only [List.all_eq_true, List.mem_range] at hin
    have := hin i hil
    simpa [hi, hd] using this
  have hah' : ∀ (i : Nat) (o : Oper), ops[i]? = some o → ∀ e ∈ o.after, Region.binds md e = true → e.on < i := by
    intro i o hi e he hb
    have hil : i < ops.size := (Array.getElem?_eq_some_iff.1 hi).1
    simp only [aheadB, List.all_eq_true, List.mem_range] at hah
    have := hah i hil
    simp only [hi, Array.all_eq_true'] at this
    have := this e he
    simpa [hb] using this
  have fin : ∀ (listed : Array Bool) (vals : Nat → Value) (w : World), Inv (fun i => listed.getD i false) vals w → (∀ i, i < ops.size → listed.getD i false = true) →
      Q .normal (layN ops (fun i => listed.getD i false) vals (List.range ops.size) a0) w := by
    intro listed vals w hI hall
    have e : layN ops (fun i => listed.getD i false) vals (List.range ops.size) a0 = layN ops (fun _ => true) vals (List.range ops.size) a0 := by
      have : ∀ (is : List Nat) (a : Act), (∀ i ∈ is, i < ops.size) → layN ops (fun i => listed.getD i false) vals is a = layN ops (fun _ => true) vals is a := by
        intro is
        induction is with
        | nil => intro a _; rfl
        | cons i is ih =>
          intro a hm
          simp only [layN, hall i (hm i (by simp)), if_true]
          exact ih _ (fun j hj => hm j (List.mem_cons_of_mem _ hj))
      exact this _ _ (fun i hi => List.mem_range.1 hi)
    rw [e]
    exact hend _ vals w hall hI
  have none_ready : ∀ (listed : Array Bool), listed.size = ops.size → Region.ready md ops listed = [] → ∀ i, i < ops.size → listed.getD i false = true := by
    intro listed hls hr i
    induction i using Nat.strongRecOn with
    | ind i ih =>
      intro hi
      cases hl : listed.getD i false with
      | true => rfl
      | false =>
        exfalso
        have hm : i ∈ Region.ready md ops listed := by
          refine mem_ready.2 ⟨?_, ops[i], Array.getElem?_eq_getElem hi, fun e he hb => ?_⟩
          · have : i < listed.size := by omega
            simp only [Array.getD, this] at hl ⊢
            simpa using hl
          · have hlt := hah' i ops[i] (Array.getElem?_eq_getElem hi) e he hb
            exact ih e.on hlt (by omega)
        rw [hr] at hm
        cases hm
  have main : ∀ (fuel : Nat) (listed : Array Bool) (vals : Nat → Value) (w : World), listed.size = ops.size → Inv (fun i => listed.getD i false) vals w →
      (∀ (j : Nat) (oj : Oper), ops[j]? = some oj → listed.getD j false = true → ∀ e ∈ oj.after, Region.binds md e = true → listed.getD e.on false = true) →
      ((List.range ops.size).filter fun i => !listed.getD i false).length ≤ fuel → wpAny P md ops Q fuel listed (layN ops (fun i => listed.getD i false) vals (List.range ops.size) a0) w := by
    intro fuel
    induction fuel with
    | zero =>
      intro listed vals w hls hI hcl hc
      have hall : ∀ i, i < ops.size → listed.getD i false = true := by
        intro i hi
        cases hl : listed.getD i false with
        | true => rfl
        | false =>
          have : i ∈ (List.range ops.size).filter fun i => !listed.getD i false := List.mem_filter.2 ⟨List.mem_range.2 hi, by rw [hl]; rfl⟩
          have hpos := List.length_pos_of_mem this
          omega
      refine ⟨?_, fin listed vals w hI hall⟩
      cases hr : Region.ready md ops listed with
      | nil => rfl
      | cons j js =>
        exfalso
        have hj : j ∈ Region.ready md ops listed := by rw [hr]; simp
        obtain ⟨h1, o, ho, _⟩ := mem_ready.1 hj
        have hjl : j < ops.size := (Array.getElem?_eq_some_iff.1 ho).1
        have := hall j hjl
        have hjs : j < listed.size := by omega
        simp only [Array.getD, hjs] at h1 this
        simp_all
    | succ fuel ih =>
      intro listed vals w hls hI hcl hc
      refine ⟨fun hr => fin listed vals w hI (none_ready listed hls hr), fun i hi => ?_⟩
      obtain ⟨hun, o, ho, haft⟩ := mem_ready.1 hi
      have hil : i < ops.size := (Array.getElem?_eq_some_iff.1 ho).1
      have hil' : i < listed.size := by omega
      have hun' : listed.getD i false = false := by
        simp only [Array.getD, hil'] at hun ⊢
        simpa using hun
      have h1 := allIdx_get ops.toList 0 i o hop (by simpa using ho)
      rw [Nat.zero_add] at h1
      have hF : Finds md ops a0 i o (fun i => listed.getD i false) vals (layN ops (fun i => listed.getD i false) vals (List.range ops.size) a0) := by
        refine ⟨ho, hun', haft, hcl, ?_, fun d hd => layN_other _ _ (fun j _ oj hoj hl => hd j oj hoj hl), ?_⟩
        · intro j oj d hj hd hl
          have hjl : j < ops.size := (Array.getElem?_eq_some_iff.1 hj).1
          exact layN_at hap' hj hd hl (List.range ops.size) a0 (List.mem_range.2 hjl) List.nodup_range (hin' j oj d hj hd)
        · intro d hd
          refine layN_other _ _ (fun j _ oj hoj _ => ?_)
          have hjl := (Array.getElem?_eq_some_iff.1 hoj)
          obtain ⟨hjl, rfl⟩ := hjl
          rw [Array.all_eq_true] at hd
          simpa using hd j hjl
      refine wpOp_mono ?_ (h1 _ vals _ w hF hI)
      rintro a' w' ⟨v, rfl, hI'⟩
      have e := lay_step (ops := ops) hap' (L := fun i => listed.getD i false) (L' := fun j => (listed.setIfInBounds i true).getD j false) (vals := vals) (vals' := fun j => if j = i then v else vals j) ho
        (fun j hj => by simp [Ne.symm hj]) (fun j hj => by simp [hj]) hun' (by simp [hil']) (List.range ops.size) a0 (List.mem_range.2 hil) List.nodup_range
      simp only [if_true] at e
      rw [e]
      refine ih (listed.setIfInBounds i true) (fun j => if j = i then v else vals j) w' (by simpa using hls) (hI' _ (fun j hj => by simp [Ne.symm hj]) (by simp [hil'])) ?_ ?_
      · intro j oj hj hl e' he hb
        have step : ∀ k, listed.getD k false = true → (listed.setIfInBounds i true).getD k false = true := by
          intro k hk
          by_cases hki : k = i
          · subst hki; simp [hil']
          · simpa [Array.getElem?_setIfInBounds, Ne.symm hki] using hk
        by_cases hji : j = i
        · subst hji
          have : oj = o := by rw [hj] at ho; exact Option.some.inj ho
          subst this
          exact step _ (haft e' he hb)
        · refine step _ (hcl j oj hj ?_ e' he hb)
          simpa [Array.getElem?_setIfInBounds, Ne.symm hji] using hl
      · have hsub : ((List.range ops.size).filter fun j => !(listed.setIfInBounds i true).getD j false).length < ((List.range ops.size).filter fun j => !listed.getD j false).length := by
          have h1 : ∀ (is : List Nat), is.Nodup → (is.filter fun j => !(listed.setIfInBounds i true).getD j false).length ≤ (is.filter fun j => !listed.getD j false).length ∧
              (i ∈ is → (is.filter fun j => !(listed.setIfInBounds i true).getD j false).length < (is.filter fun j => !listed.getD j false).length) := by
            intro is
            induction is with
            | nil => intro _; exact ⟨Nat.le_refl _, fun h => by simp at h⟩
            | cons j js ihs =>
              intro hnd
              rw [List.nodup_cons] at hnd
              obtain ⟨hle, hlt⟩ := ihs hnd.2
              by_cases hji : j = i
              · subst hji
                have e1 : (!(listed.setIfInBounds j true).getD j false) = false := by simp [hil']
                have e2 : (!listed.getD j false) = true := by rw [hun']; rfl
                rw [List.filter_cons, List.filter_cons, if_neg (by rw [e1]; simp), if_pos e2]
                simp only [List.length_cons]
                exact ⟨by omega, fun _ => by omega⟩
              · have e1 : (listed.setIfInBounds i true).getD j false = listed.getD j false := by simp [Ne.symm hji]
                rw [List.filter_cons, List.filter_cons, e1]
                split
                · simp only [List.length_cons]
                  refine ⟨by omega, fun hm => ?_⟩
                  have : i ∈ js := by
                    rcases List.mem_cons.1 hm with e | e
                    · exact absurd e.symm hji
                    · exact e
                  have := hlt this
                  omega
                · refine ⟨hle, fun hm => ?_⟩
                  rcases List.mem_cons.1 hm with e | e
                  · exact absurd e.symm hji
                  · exact hlt e
          exact (h1 _ List.nodup_range).2 (List.mem_range.2 hil)
        omega
  have := main ops.size (Array.replicate ops.size false) (fun _ => undef) w0 (by simp) (h0 _ (fun i => by by_cases hi : i < ops.size <;> simp [Array.getD, hi])) (fun j oj _ hl => by
      exfalso
      by_cases hi : j < ops.size <;> simp [Array.getD, hi] at hl) (Nat.le_trans (List.length_filter_le _ _) (by simp))
  rw [layN_none _ (fun i => by
    by_cases hi : i < ops.size <;> simp [Array.getD, hi])] at this
  exact this

theorem allIdx_of {R : Nat → Oper → Prop} : ∀ (l : List Oper) (k : Nat), (∀ i o, l[i]? = some o → R (k + i) o) → AllIdx R k l
  | [], _, _ => trivial
  | x :: xs, k, h => ⟨h 0 x rfl, allIdx_of xs (k + 1) fun i o hi => by
      have := h (i + 1) o (by simpa using hi)
      rwa [show k + (i + 1) = k + 1 + i from by omega] at this⟩

/-- THE RULE where nothing that was there turns, and slots are written again by operations that wait for those that read them. -/
theorem wpAny_late (p : Nat → Value → World → Prop) (a0 : Act) (w1 : World)
    (hap : apartB ops = true) (hah : aheadB md ops = true) (hin : (List.range ops.size).all (fun i => match ops[i]? with | some o => (match o.dst with | some d => decide (d < a0.tmps.size) | none => true) | none => true) = true)
    (hst : ∀ i v w w', Below w.heap.size w w' → p i v w → p i v w')
    (hop : AllIdx (fun i o => ∀ (a : Act) (w : World), Below w1.heap.size w1 w → (∀ d : Tmp, (ops.all fun oj => oj.dst != some d || oj.after.any fun e => e.on == i && Region.binds md e) = true → a.eval (.tmp d) = a0.eval (.tmp d)) →
      (∀ e ∈ o.after, Region.binds md e = true → ∀ oj d, ops[e.on]? = some oj → oj.dst = some d → p e.on (a.eval (.tmp d)) w) → ops[i]? = some o → wpOp P ops Q i (Step1 w1 p i a o w) a w) 0 ops.toList)
    (hend : ∀ vals w, Below w1.heap.size w1 w → (∀ i, i < ops.size → p i (vals i) w) → Q .normal (layN ops (fun _ => true) vals (List.range ops.size) a0) w) :
    wpAny P md ops Q ops.size (Array.replicate ops.size false) a0 w1.drew := by
  refine wpAny_inv (fun L vals w => Below w1.heap.size w1 w ∧ ∀ i, i < ops.size → L i = true → p i (vals i) w) a0 w1.drew hap hah hin (fun L h => ⟨(Below.refl _ _).drew, fun i _ hl => by rw [h i] at hl; cases hl⟩) (allIdx_of _ _ fun i o hi => ?_) (fun L vals w hL hI => hend vals w hI.1 fun i hi => hI.2 i hi (hL i hi))
  rw [Nat.zero_add]
  intro L vals a w hF hI
  have h1 := allIdx_get ops.toList 0 i o hop hi
  rw [Nat.zero_add] at h1
  refine wpOp_mono ?_ (h1 a w hI.1 (fun d hd => hF.later d fun j oj hj hl hjd => ?_) (fun e he hb oj d hoj hd => ?_) hF.it)
  · rintro a' w' ⟨⟨v, rfl, hp⟩, hb, hI'⟩
    refine ⟨v, rfl, fun L' h2 h3 => ⟨hI', fun j hj hl => ?_⟩⟩
    by_cases hji : j = i
    · subst hji; simpa using hp
    · simp only [hji, if_false]
      exact hst j _ w w' hb (hI.2 j hj (by rw [← h2 j hji]; exact hl))
  · obtain ⟨hjl, rfl⟩ := Array.getElem?_eq_some_iff.1 hj
    rw [Array.all_eq_true] at hd
    have h2 := hd j hjl
    rw [hjd] at h2
    simp only [bne_self_eq_false, Bool.false_or, Array.any_eq_true', Bool.and_eq_true, beq_iff_eq] at h2
    obtain ⟨e, he, hei, hb⟩ := h2
    have h3 := hF.closed j _ hj hl e he hb
    rw [hei, hF.open_] at h3
    cases h3
  · have hel : e.on < ops.size := (Array.getElem?_eq_some_iff.1 hoj).1
    rw [hF.slot e.on oj d hoj hd (hF.ahead e he hb)]
    exact hI.2 e.on hel (hF.ahead e he hb)

/-- THE RULE where the last but one waits for all ahead of it, and turns what was there; the last lays what that yielded into a slot. -/
theorem wpAny_mid (p : Nat → Value → World → Prop) (a0 : Act) (w1 : World) (mid : Nat) (om ol : Oper) (J : Value → World → Prop)
    (hsz : ops.size = mid + 2) (hom : ops[mid]? = some om) (hol : ops[mid + 1]? = some ol) (hwait : (List.range mid).all (reachB md ops mid (aftB md om)) = true) (hwl : aftB md ol mid = true)
    (hap : apartB ops = true) (hah : aheadB md ops = true) (hin : (List.range ops.size).all (fun i => match ops[i]? with | some o => (match o.dst with | some d => decide (d < a0.tmps.size) | none => true) | none => true) = true)
    (hst : ∀ i v w w', Below w.heap.size w w' → p i v w → p i v w')
    (hop : AllIdx (fun i o => i < mid → ∀ (a : Act) (w : World), Below w1.heap.size w1 w → (∀ d : Tmp, (ops.all fun oj => oj.dst != some d || oj.after.any fun e => e.on == i && Region.binds md e) = true → a.eval (.tmp d) = a0.eval (.tmp d)) →
      (∀ e ∈ o.after, Region.binds md e = true → ∀ oj d, ops[e.on]? = some oj → oj.dst = some d → p e.on (a.eval (.tmp d)) w) → ops[i]? = some o → wpOp P ops Q i (Step1 w1 p i a o w) a w) 0 ops.toList)
    (hmid : ∀ (a : Act) (w : World), Below w1.heap.size w1 w →
      (∀ e ∈ om.after, Region.binds md e = true → ∀ oj d, ops[e.on]? = some oj → oj.dst = some d → p e.on (a.eval (.tmp d)) w) →
      wpOp P ops Q mid (fun a' w' => ∃ v, a' = a.put om.dst v ∧ J v w') a w)
    (hlast : ∀ (v : Value) (a : Act) (w : World), (∀ d, om.dst = some d → a.eval (.tmp d) = v) → wpOp P ops Q (mid + 1) (fun a' w' => a' = a.put ol.dst v ∧ w' = w) a w)
    (hend : ∀ vals w, J (vals mid) w → vals (mid + 1) = vals mid → Q .normal (layN ops (fun _ => true) vals (List.range ops.size) a0) w) :
    wpAny P md ops Q ops.size (Array.replicate ops.size false) a0 w1.drew := by
  obtain ⟨Inv, hInv⟩ : ∃ Inv : (Nat → Bool) → (Nat → Value) → World → Prop, Inv = fun L vals w => if L mid = true then (∀ i, i < mid → L i = true) ∧ J (vals mid) w ∧ (L (mid + 1) = true → vals (mid + 1) = vals mid) else L (mid + 1) = false ∧ Below w1.heap.size w1 w ∧ ∀ i, i < mid → L i = true → p i (vals i) w := ⟨_, rfl⟩
  refine wpAny_inv Inv a0 w1.drew hap hah hin (fun L h => ?_) (allIdx_of _ _ fun i o hi => ?_) (fun L vals w hL hI => ?_)
  · rw [hInv]
    show if L mid = true then _ else _
    rw [if_neg (by rw [h]; exact Bool.false_ne_true)]
    exact ⟨h _, (Below.refl _ _).drew, fun i _ hl => by rw [h i] at hl; cases hl⟩
  · rw [Nat.zero_add]
    intro L vals a w hF hI
    rw [hInv] at hI
    replace hI : if L mid = true then (∀ i, i < mid → L i = true) ∧ J (vals mid) w ∧ (L (mid + 1) = true → vals (mid + 1) = vals mid) else L (mid + 1) = false ∧ Below w1.heap.size w1 w ∧ ∀ i, i < mid → L i = true → p i (vals i) w := hI
    have hil : i < ops.size := (Array.getElem?_eq_some_iff.1 hF.it).1
    by_cases hlt : i < mid
    · have hnl : ¬ L mid = true := by
        intro h
        rw [if_pos h] at hI
        have := hI.1 i hlt
        rw [hF.open_] at this
        cases this
      rw [if_neg hnl] at hI
      have h1 := allIdx_get ops.toList 0 i o hop hi
      rw [Nat.zero_add] at h1
      refine wpOp_mono ?_ (h1 hlt a w hI.2.1 (fun d hd => hF.later d fun j oj hj hl hjd => ?_) (fun e he hb oj d hoj hd => ?_) hF.it)
      · rintro a' w' ⟨⟨v, rfl, hp⟩, hb, hI'⟩
        refine ⟨v, rfl, fun L' h2 h3 => ?_⟩
        rw [hInv]
        show if L' mid = true then _ else _
        rw [if_neg (by rw [h2 mid (by omega)]; exact hnl)]
        refine ⟨by rw [h2 _ (by omega)]; exact hI.1, hI', fun j hj hl => ?_⟩
        by_cases hji : j = i
        · subst hji; simpa using hp
        · simp only [hji, if_false]
          exact hst j _ w w' hb (hI.2.2 j hj (by rw [← h2 j hji]; exact hl))
      · obtain ⟨hjl, rfl⟩ := Array.getElem?_eq_some_iff.1 hj
        rw [Array.all_eq_true] at hd
        have h2 := hd j hjl
        rw [hjd] at h2
        simp only [bne_self_eq_false, Bool.false_or, Array.any_eq_true', Bool.and_eq_true, beq_iff_eq] at h2
        obtain ⟨e, he, hei, hb⟩ := h2
        have h3 := hF.closed j _ hj hl e he hb
        rw [hei, hF.open_] at h3
        cases h3
      · have hl := hF.ahead e he hb
        have hel : e.on < ops.size := (Array.getElem?_eq_some_iff.1 hoj).1
        have hne : e.on ≠ mid := fun h => hnl (by rw [← h]; exact hl)
        have hne1 : e.on ≠ mid + 1 := fun h => by rw [h, hI.1] at hl; cases hl
        rw [hF.slot e.on oj d hoj hd hl]
        exact hI.2.2 e.on (by omega) hl
    · by_cases him : i = mid
      · subst him
        have hoo : o = om := by
          have := hF.it
          rw [hom] at this; exact (Option.some.inj this).symm
        subst hoo
        rw [if_neg (by rw [hF.open_]; exact Bool.false_ne_true)] at hI
        have hL : ∀ j, j < i → L j = true := by
          intro j hj
          simp only [List.all_eq_true, List.mem_range] at hwait
          refine reachB_spec hF.closed i _ (fun k hk => ?_) j (hwait j hj)
          unfold aftB at hk
          rw [Array.any_eq_true'] at hk
          obtain ⟨e, he, h2⟩ := hk
          simp only [Bool.and_eq_true, beq_iff_eq] at h2
          rw [← h2.1]
          exact hF.ahead e he h2.2
        refine wpOp_mono ?_ (hmid a w hI.2.1 (fun e he hb oj d hoj hd => ?_))
        · rintro a' w' ⟨v, rfl, hJ⟩
          refine ⟨v, rfl, fun L' h2 h3 => ?_⟩
          rw [hInv]
          show if L' i = true then _ else _
          rw [if_pos h3]
          refine ⟨fun j hj => by rw [h2 j (by omega)]; exact hL j hj, by simpa using hJ, fun h => ?_⟩
          rw [h2 _ (by omega), hI.1] at h
          cases h
        · have hl := hF.ahead e he hb
          have hel : e.on < ops.size := (Array.getElem?_eq_some_iff.1 hoj).1
          have hne : e.on ≠ i := fun h => by rw [h, hF.open_] at hl; cases hl
          have hne1 : e.on ≠ i + 1 := fun h => by rw [h, hI.1] at hl; cases hl
          rw [hF.slot e.on oj d hoj hd hl]
          exact hI.2.2 e.on (by omega) hl
      · have hie : i = mid + 1 := by omega
        subst hie
        have hoo : o = ol := by
          have := hF.it
          rw [hol] at this; exact (Option.some.inj this).symm
        subst hoo
        have hLm : L mid = true := by
          unfold aftB at hwl
          rw [Array.any_eq_true'] at hwl
          obtain ⟨e, he, h2⟩ := hwl
          simp only [Bool.and_eq_true, beq_iff_eq] at h2
          rw [← h2.1]
          exact hF.ahead e he h2.2
        rw [if_pos hLm] at hI
        refine wpOp_mono ?_ (hlast (vals mid) a w (fun d hd => hF.slot mid om d hom hd hLm))
        rintro a' w' ⟨rfl, rfl⟩
        refine ⟨_, rfl, fun L' h2 h3 => ?_⟩
        rw [hInv]
        show if L' mid = true then _ else _
        rw [if_pos (by rw [h2 mid (by omega)]; exact hLm)]
        refine ⟨fun j hj => by rw [h2 j (by omega)]; exact hI.1 j hj, by simpa using hI.2.1, fun _ => by simp⟩
  · rw [hInv] at hI
    replace hI : if L mid = true then (∀ i, i < mid → L i = true) ∧ J (vals mid) w ∧ (L (mid + 1) = true → vals (mid + 1) = vals mid) else L (mid + 1) = false ∧ Below w1.heap.size w1 w ∧ ∀ i, i < mid → L i = true → p i (vals i) w := hI
    rw [if_pos (hL mid (by omega))] at hI
    exact hend vals w hI.2.1 (hI.2.2 (hL _ (by omega)))

end
end Go.Proofs.YtejljikikhecnaaGreat.Lt

namespace Go.Proofs.YtejljikikhecnaaGreat
open Go.RowKit Go.MapKept
open Go.Sort (grow SWO)

/-- Nothing has turned; perhaps something was made, or drawn. -/
structure Grn (w w' : World) : Prop where
  below : Below w.heap.size w w'
  drawn : w.drawn ≤ w'.drawn
theorem Grn.refl (w : World) : Grn w w := ⟨Below.refl _ _, Nat.le_refl _⟩
theorem Grn.trans {a b c : World} (h : Grn a b) (k : Grn b c) : Grn a c := ⟨h.below.trans (k.below.mono h.below.size), Nat.le_trans h.drawn k.drawn⟩
theorem Grn.alloc {w w' : World} (h : Grn w w') (o : Obj) : Grn w (w'.alloc o) := ⟨h.below.alloc h.below.size o, h.drawn⟩
theorem Grn.drew {w w' : World} (h : Grn w w') : Grn w w'.drew := ⟨h.below.drew, Nat.le_trans h.drawn (Nat.le_succ _)⟩
theorem Grn.grow_ {w w' : World} (h : Grn w w') : ∃ q os, w' = grow (w.drewN q) os := by
  refine ⟨w'.drawn - w.drawn, w'.heap.extract w.heap.size w'.heap.size, ?_⟩
  obtain ⟨⟨e1, e2, e3, hs, hb⟩, hd⟩ := h
  obtain ⟨heap', tape', drawn', os', output'⟩ := w'
  dsimp only at e1 e2 e3 hs hb hd
  subst e1 e2 e3
  have eh : heap' = w.heap ++ heap'.extract w.heap.size heap'.size := by
    apply Array.ext_getElem?
    intro k
    by_cases hk : k < w.heap.size
    · rw [Array.getElem?_append_left hk]; exact hb k hk
    · rw [Array.getElem?_append_right (by omega), Array.getElem?_extract]
      by_cases hk2 : k < heap'.size
      · rw [if_pos (by omega)]; congr 1; omega
      · rw [if_neg (by omega), Array.getElem?_eq_none (by omega)]
  simp only [grow, World.drewN]
  have ed : drawn' = w.drawn + (drawn' - w.drawn) := by omega
  congr 1

section
variable {P : Program} {ops : Array Oper} {Q : Exit → Act → World → Prop} {md : Region.Mode}
def StepG (w1 : World) (p : Nat → Value → World → Prop) (i : Nat) (a : Act) (o : Oper) (w : World) (a' : Act) (w' : World) : Prop :=
  (∃ v, a' = a.put o.dst v ∧ p i v w') ∧ Grn w w' ∧ Grn w1 w'
theorem wpAny_grn (p : Nat → Value → World → Prop) (a0 : Act) (w1 : World)
    (hap : apartB ops = true) (hah : aheadB md ops = true) (hin : (List.range ops.size).all (fun i => match ops[i]? with | some o => (match o.dst with | some d => decide (d < a0.tmps.size) | none => true) | none => true) = true)
    (hst : ∀ i v w w', Grn w w' → p i v w → p i v w')
    (hop : AllIdx (fun i o => ∀ (a : Act) (w : World), Grn w1 w → (∀ d : Tmp, (ops.all fun o => o.dst != some d) = true → a.eval (.tmp d) = a0.eval (.tmp d)) →
      (∀ e ∈ o.after, Region.binds md e = true → ∀ oj d, ops[e.on]? = some oj → oj.dst = some d → p e.on (a.eval (.tmp d)) w) → ops[i]? = some o → wpOp P ops Q i (StepG w1 p i a o w) a w) 0 ops.toList)
    (hend : ∀ vals w, Grn w1 w → (∀ i, i < ops.size → p i (vals i) w) → Q .normal (layN ops (fun _ => true) vals (List.range ops.size) a0) w) :
    wpAny P md ops Q ops.size (Array.replicate ops.size false) a0 w1.drew := by
  refine wpAny_each (fun w => Grn w1 w) p (fun w w' => Grn w w') a0 w1.drew hap hah hin (Grn.refl _).drew hst ?_ hend
  intro i o hi a w hI _ hun haft
  have h1 := allIdx_get ops.toList 0 i o hop (by simpa using hi)
  rw [Nat.zero_add] at h1
  refine wpOp_mono ?_ (h1 a w hI (fun d hd => hun d fun j oj hj => ?_) haft hi)
  · rintro a' w' ⟨h, h2, h3⟩
    exact ⟨h, h2, h3⟩
  · have hjl := (Array.getElem?_eq_some_iff.1 hj)
    obtain ⟨hjl, rfl⟩ := hjl
    rw [Array.all_eq_true] at hd
    simpa using hd j hjl
theorem g_val {i : Nat} {o : Oper} {a : Act} {w w1 : World} {p : Nat → Value → World → Prop} (hi : ops[i]? = some o) (hI : Grn w1 w) (hw : Region.wanted o (yielded ops a.tmps) = true) (v : Value) (w' : World)
    (hr : (execOp a.eval o).run P w = .ok (.value v) w') (hb : Grn w w') (hp : p i v w') : wpOp P ops Q i (StepG w1 p i a o w) a w :=
  wpOp_val hi hw v w' hr ⟨⟨v, rfl, hp⟩, hb, hI.trans hb⟩
theorem g_same {i : Nat} {o : Oper} {a : Act} {w w1 : World} {p : Nat → Value → World → Prop} (hi : ops[i]? = some o) (hI : Grn w1 w) (hw : Region.wanted o (yielded ops a.tmps) = true) (v : Value)
    (hr : (execOp a.eval o).run P w = .ok (.value v) w) (hp : p i v w) : wpOp P ops Q i (StepG w1 p i a o w) a w :=
  g_val hi hI hw v w hr (Grn.refl _) hp
theorem g_call {i : Nat} {o : Oper} {a : Act} {w w1 : World} {p : Nat → Value → World → Prop} (hi : ops[i]? = some o) (hI : Grn w1 w) (hw : Region.wanted o (yielded ops a.tmps) = true) (f : FuncId) (args : Array Value)
    (hr : (execOp a.eval o).run P w = .ok (.enter f args) w) (h : Calls P f args w fun e w'' => ∃ v, e = .returned v ∧ p i v w'' ∧ Grn w w'') : wpOp P ops Q i (StepG w1 p i a o w) a w :=
  wpOp_enter hi hw f args hr (h.mono fun _ _ ⟨v, he, hp, hb⟩ => ⟨v, he, ⟨v, rfl, hp⟩, hb, hI.trans hb⟩)
theorem run_buildSlice_op {o : Oper} {ρ : Operand → Value} {w w' : World} {t : TypeId} {len : Nat} {xs : Array (Nat × Operand)} {vs : Array (Nat × Value)} {v : Value} (ho : o.op = .buildSlice t len xs) (hx : xs.map (fun (i, x) => (i, ρ x)) = vs) (hr : (Instr.buildSlice t len vs).run P w = .ok v w') : (execOp ρ o).run P w = .ok (.value v) w' := by
  unfold execOp
  simp only [ho]
  rw [show (xs.map fun x => match x with | (i, x) => (i, ρ x)) = vs from hx]
  simp [hr]
end

/-- The first that isn't 0. -/
def orI : List Int → Int
  | [] => 0
  | a :: l => if a = 0 then orI l else a
theorem bs2 (a b : Int) (w : World) : (Instr.buildSlice 159 2 #[(0, .int .i64 a), (1, .int .i64 b)]).run Tryz.prog w = .ok (.slice (some ⟨w.heap.size, 0, none⟩) 2 2) (w.alloc (.cells #[.int .i64 a, .int .i64 b] 3)) := by go_simp
theorem bs5 (a b c d e : Int) (w : World) : (Instr.buildSlice 159 5 #[(0, .int .i64 a), (1, .int .i64 b), (2, .int .i64 c), (3, .int .i64 d), (4, .int .i64 e)]).run Tryz.prog w = .ok (.slice (some ⟨w.heap.size, 0, none⟩) 5 5) (w.alloc (.cells #[.int .i64 a, .int .i64 b, .int .i64 c, .int .i64 d, .int .i64 e] 3)) := by go_simp

set_option maxRecDepth 100000 in
set_option maxHeartbeats 1000000 in
theorem or_any (zs : List Int) (g : Nat) (w : World) (hB : Blk w g 3 (zs.map fun z => Value.int .i64 z).toArray) (hl : zs.length ≤ 100) : Calls Tryz.prog 84 #[.slice (some ⟨g, 0, none⟩) zs.length zs.length] w fun e w' => e = .returned (.int .i64 (orI zs)) ∧ w' = w := by
  have HB := Lib.hid hB
  have HL := Lib.hid hl
  obtain ⟨n, hn⟩ : ∃ n, zs.length = n := ⟨_, rfl⟩
  have HN := Lib.hid hn
  have hn63 : n ≤ 9223372036854775807 := by omega
  rw [hn]
  clear hB hl hn
  go_enter Tryz.func84, Tryz.ntmps84
  go_wp2
  go_loop [8] (fun i => ∃ k : Nat, k ≤ n ∧ i = .int .i64 k ∧ orI zs = orI (zs.drop k)) (fun i => n - (intOf i).toNat)
  case atStart => exact ⟨0, Nat.zero_le _, rfl, rfl⟩
  case round =>
    obtain ⟨k, hk, rfl, ho⟩ := hrel
    have HO := Lib.hid ho
    clear ho
    by_cases hlt : k < n
    · have hkz : k < zs.length := by rw [HN.out]; exact hlt
      obtain ⟨z, hz⟩ : ∃ z, zs[k] = z := ⟨_, rfl⟩
      have hc : w.cell? ⟨g, k, none⟩ = some (.int .i64 z) := (Blk.cell HB.out k).trans (by simp [hkz, hz])
      have HD := Lib.hid (show zs.drop k = z :: zs.drop (k + 1) by rw [List.drop_eq_getElem_cons hkz, hz])
      clear hkz hz
      by_cases hz0 : z = 0
      · have HO2 := Lib.hid (show orI zs = orI (zs.drop (k + 1)) by rw [HO.out, HD.out, hz0]; rfl)
        subst hz0
        clear HO HD
        go_wp2
        go_round
        case rel => exact ⟨k + 1, by omega, by go_num, HO2.out⟩
        case measure => simp [intOf]; omega
      · have HO2 := Lib.hid (show orI zs = z by rw [HO.out, HD.out]; simp [orI, hz0])
        clear HO HD
        go_wp2
        go_ret
        exact ⟨by rw [HO2.out]; rfl, rfl⟩
    · have hkn : k = n := by omega
      subst hkn
      have HO2 := Lib.hid (show orI zs = 0 by rw [HO.out, List.drop_eq_nil_of_le (by rw [HN.out]; exact Nat.le_refl _)]; rfl)
      clear HO
      go_wp2
      go_ret
      exact ⟨by rw [HO2.out]; rfl, rfl⟩

/-! ### Orders -/
structure CmpOk {α : Type} (c : α → α → Int) : Prop where
  anti : ∀ x y, c y x = - c x y
  trans : ∀ x y z, c x y ≤ 0 → c y z ≤ 0 → c x z ≤ 0
section
variable {α : Type} {c d : α → α → Int}
theorem CmpOk.zero (h : CmpOk c) {x y z : α} (h1 : c x y ≤ 0) (h2 : c y z ≤ 0) (h3 : c x z = 0) : c x y = 0 ∧ c y z = 0 := by
  have a1 := h.anti x y
  have a2 := h.anti y z
  have a3 := h.anti x z
  have t1 := h.trans y z x h2 (by omega)
  have t2 := h.trans z x y (by omega) h1
  omega
theorem CmpOk.lex (hc : CmpOk c) (hd : CmpOk d) : CmpOk fun x y => if c x y = 0 then d x y else c x y where
  anti x y := by
    have a1 := hc.anti x y
    have a2 := hd.anti x y
    by_cases h : c x y = 0
    · rw [if_pos (by omega), if_pos h, a2]
    · rw [if_neg (by omega), if_neg h, a1]
  trans x y z h1 h2 := by
    have q1 : c x y ≤ 0 := by
      by_cases h : c x y = 0
      · omega
      · rwa [if_neg h] at h1
    have q2 : c y z ≤ 0 := by
      by_cases h : c y z = 0
      · omega
      · rwa [if_neg h] at h2
    have q3 := hc.trans x y z q1 q2
    by_cases h : c x z = 0
    · obtain ⟨z1, z2⟩ := hc.zero q1 q2 h
      rw [if_pos h]
      rw [if_pos z1] at h1
      rw [if_pos z2] at h2
      exact hd.trans x y z h1 h2
    · rw [if_neg h]; exact q3
theorem CmpOk.map {β : Type} (hc : CmpOk c) (f : β → α) : CmpOk fun x y => c (f x) (f y) := ⟨fun _ _ => hc.anti _ _, fun _ _ _ => hc.trans _ _ _⟩
theorem CmpOk.swo (h : CmpOk c) : SWO (ltOf c) where
  irrefl x := by
    have := h.anti x x
    unfold ltOf; simp; omega
  trans x y z h1 h2 := by
    unfold ltOf at *
    simp only [decide_eq_true_eq] at *
    have a := h.trans x y z (by omega) (by omega)
    by_cases e : c x z = 0
    · have := (h.zero (x := x) (y := y) (z := z) (by omega) (by omega) e).1
      omega
    · omega
  ntrans x y z h1 h2 := by
    unfold ltOf at *
    simp only [decide_eq_false_iff_not, Int.not_lt] at *
    have a1 := h.anti x y
    have a2 := h.anti y z
    have a3 := h.anti x z
    have := h.trans z y x (by omega) (by omega)
    omega
end
theorem ciOk : CmpOk Lib.compareInt where
  anti x y := by rcases ci_cases x y with ⟨h, e⟩ | ⟨h, e⟩ | ⟨h, e⟩ <;> rcases ci_cases y x with ⟨h', e'⟩ | ⟨h', e'⟩ | ⟨h', e'⟩ <;> omega
  trans x y z h1 h2 := by rcases ci_cases x y with ⟨h, e⟩ | ⟨h, e⟩ | ⟨h, e⟩ <;> rcases ci_cases y z with ⟨h', e'⟩ | ⟨h', e'⟩ | ⟨h', e'⟩ <;> rcases ci_cases x z with ⟨h'', e''⟩ | ⟨h'', e''⟩ | ⟨h'', e''⟩ <;> omega
theorem cbOk : CmpOk Lib.compareBytes := ⟨cb_anti, cb_trans⟩
theorem ci_zero (x y : Int) : Lib.compareInt x y = 0 ↔ x = y := by rcases ci_cases x y with ⟨h, e⟩ | ⟨h, e⟩ | ⟨h, e⟩ <;> omega
theorem orI_one (a : Int) : orI [a] = a := by
  simp only [orI]
  split
  · omega
  · rfl
/-- The order of dots, of elements. -/
def cfD (x y : Dt) : Int := orI [Lib.compareInt x.r y.r, Lib.compareInt x.c y.c]
def cfE (x y : El) : Int := orI [Lib.compareInt x.k y.k, Lib.compareBytes x.a.data.toList y.a.data.toList, Lib.compareBytes x.b.data.toList y.b.data.toList, Lib.compareBytes x.c.data.toList y.c.data.toList, Lib.compareBytes x.d.data.toList y.d.data.toList]
theorem ba_ext {a b : ByteArray} (h : a.data.toList = b.data.toList) : a = b := by
  obtain ⟨⟨x⟩⟩ := a
  obtain ⟨⟨y⟩⟩ := b
  simp at h
  subst h
  rfl
theorem cfD_ok : CmpOk cfD := by
  have := (ciOk.map Dt.r).lex (ciOk.map Dt.c)
  have e : cfD = fun x y => if Lib.compareInt x.r y.r = 0 then Lib.compareInt x.c y.c else Lib.compareInt x.r y.r := by
    funext x y
    unfold cfD
    rw [orI, orI_one]
  rw [e]; exact this
theorem cfD_zero (x y : Dt) (h : cfD x y = 0) : x = y := by
  unfold cfD at h
  rw [orI, orI_one] at h
  by_cases h1 : Lib.compareInt x.r y.r = 0
  · rw [if_pos h1] at h
    exact (Dt.ext_iff' x y).2 ⟨(ci_zero _ _).1 h1, (ci_zero _ _).1 h⟩
  · rw [if_neg h1] at h; exact absurd h h1
theorem cfE_ok : CmpOk cfE := by
  have := (ciOk.map El.k).lex ((cbOk.map fun x : El => x.a.data.toList).lex ((cbOk.map fun x : El => x.b.data.toList).lex ((cbOk.map fun x : El => x.c.data.toList).lex (cbOk.map fun x : El => x.d.data.toList))))
  have e : cfE = fun x y => if Lib.compareInt x.k y.k = 0 then if Lib.compareBytes x.a.data.toList y.a.data.toList = 0 then if Lib.compareBytes x.b.data.toList y.b.data.toList = 0 then if Lib.compareBytes x.c.data.toList y.c.data.toList = 0 then Lib.compareBytes x.d.data.toList y.d.data.toList else Lib.compareBytes x.c.data.toList y.c.data.toList else Lib.compareBytes x.b.data.toList y.b.data.toList else Lib.compareBytes x.a.data.toList y.a.data.toList else Lib.compareInt x.k y.k := by
    funext x y
    unfold cfE
    rw [orI, orI, orI, orI, orI_one]
  rw [e]; exact this
theorem cfE_zero (x y : El) (h : cfE x y = 0) : x = y := by
  unfold cfE at h
  rw [orI, orI, orI, orI, orI_one] at h
  by_cases h1 : Lib.compareInt x.k y.k = 0
  · rw [if_pos h1] at h
    by_cases h2 : Lib.compareBytes x.a.data.toList y.a.data.toList = 0
    · rw [if_pos h2] at h
      by_cases h3 : Lib.compareBytes x.b.data.toList y.b.data.toList = 0
      · rw [if_pos h3] at h
        by_cases h4 : Lib.compareBytes x.c.data.toList y.c.data.toList = 0
        · rw [if_pos h4] at h
          exact (El.ext_iff' x y).2 ⟨(ci_zero _ _).1 h1, ba_ext ((cb_zero _ _).1 h2), ba_ext ((cb_zero _ _).1 h3), ba_ext ((cb_zero _ _).1 h4), ba_ext ((cb_zero _ _).1 h)⟩
        · rw [if_neg h4] at h; exact absurd h h4
      · rw [if_neg h3] at h; exact absurd h h3
    · rw [if_neg h2] at h; exact absurd h h2
  · rw [if_neg h1] at h; exact absurd h h1

end Go.Proofs.YtejljikikhecnaaGreat

namespace Go.Proofs.YtejljikikhecnaaGreat
open Go.RowKit Go.MapKept

theorem cmpint (x y : Int) (w : World) : Calls Tryz.prog 85 #[.int .i64 x, .int .i64 y] w fun e w' => e = .returned (.int .i64 (Lib.compareInt x y)) ∧ Grn w w' :=
  (Tryz.cmp_Compare_int x y w).mono fun _ _ ⟨h, hw⟩ => ⟨h, hw ▸ Grn.refl _⟩
theorem cmpstr (x y : ByteArray) (w : World) : Calls Tryz.prog 86 #[.string x, .string y] w fun e w' => e = .returned (.int .i64 (Lib.compareBytes x.data.toList y.data.toList)) ∧ Grn w w' :=
  (Tryz.strings_Compare x y w).mono fun _ _ ⟨h, hw⟩ => ⟨h, hw ▸ Grn.refl _⟩

set_option maxRecDepth 100000 in
set_option maxHeartbeats 2000000 in
theorem byDot_any (x y : Dt × Va) (w : World) : Calls Tryz.prog 88 #[enV x.1 x.2, enV y.1 y.2] w fun e w' => e = .returned (.int .i64 (cfD x.1 y.1)) ∧ Grn w w' := by
  obtain ⟨Y, hY⟩ : ∃ Y, Y = (w.alloc (.cells #[.int .i64 x.1.r, .int .i64 x.1.c, .int .i64 x.2.k, .int .i64 x.2.n, .string x.2.t] 63)).alloc (.cells #[.int .i64 y.1.r, .int .i64 y.1.c, .int .i64 y.2.k, .int .i64 y.2.n, .string y.2.t] 63) := ⟨_, rfl⟩
  obtain ⟨q, hq⟩ : ∃ q, w.heap.size = q := ⟨_, rfl⟩
  have HY := Lib.hid hY
  have HQ := Lib.hid hq
  have KX := Lib.hid (show Blk Y q 63 #[.int .i64 x.1.r, .int .i64 x.1.c, .int .i64 x.2.k, .int .i64 x.2.n, .string x.2.t] by rw [hY, ← hq]; exact (Blk.new w _ _).alloc _)
  have KY := Lib.hid (show Blk Y (q + 1) 63 #[.int .i64 y.1.r, .int .i64 y.1.c, .int .i64 y.2.k, .int .i64 y.2.n, .string y.2.t] by
    rw [hY, ← hq]
    have := Blk.new (w.alloc (.cells #[.int .i64 x.1.r, .int .i64 x.1.c, .int .i64 x.2.k, .int .i64 x.2.n, .string x.2.t] 63)) 63 #[.int .i64 y.1.r, .int .i64 y.1.c, .int .i64 y.2.k, .int .i64 y.2.n, .string y.2.t]
    simpa using this)
  have BY := Lib.hid (show Grn w Y by rw [hY]; exact ((Grn.refl w).alloc _).alloc _)
  clear hY hq
  unfold enV enA
  go_enter Tryz.func88, Tryz.ntmps88
  go_upto_region 1 with fail
  rw [← HY.out, HQ.out]
  refine wp_region_any (by kernel_rfl) ?_
  refine wpAny_grn (fun i uq wq => if i = 14 then ∃ gs, uq = .slice (some ⟨gs, 0, none⟩) 2 2 ∧ Blk wq gs 3 ([Lib.compareInt (x.1.r) (y.1.r), Lib.compareInt (x.1.c) (y.1.c)].map fun z => Value.int .i64 z).toArray else uq = ([.pointer (some ⟨q, 0, none⟩), .pointer (some ⟨q, 0, none⟩), .int .i64 x.1.r, .pointer (some ⟨q + 1, 0, none⟩), .pointer (some ⟨q + 1, 0, none⟩), .int .i64 y.1.r, .int .i64 (Lib.compareInt (x.1.r) (y.1.r)), .pointer (some ⟨q, 0, none⟩), .pointer (some ⟨q, 1, none⟩), .int .i64 x.1.c, .pointer (some ⟨q + 1, 0, none⟩), .pointer (some ⟨q + 1, 1, none⟩), .int .i64 y.1.c, .int .i64 (Lib.compareInt (x.1.c) (y.1.c)), undef, .int .i64 (orI [Lib.compareInt (x.1.r) (y.1.r), Lib.compareInt (x.1.c) (y.1.c)]), .int .i64 (orI [Lib.compareInt (x.1.r) (y.1.r), Lib.compareInt (x.1.c) (y.1.c)])] : List Value).getD i undef) _ Y (by kernel_rfl) (by kernel_rfl) (by kernel_rfl) ?_ ?_ ?_
  · intro i v w w' hb hp
    by_cases h5 : i = 14
    · rw [if_pos h5] at hp ⊢
      obtain ⟨n, h1, h2⟩ := hp
      exact ⟨n, h1, Blk.below h2 hb.below (Blk.lt h2)⟩
    · rw [if_neg h5] at hp ⊢
      exact hp
  · refine ⟨?_, ?_, ?_, ?_, ?_, ?_, ?_, ?_, ?_, ?_, ?_, ?_, ?_, ?_, ?_, ?_, ?_, trivial⟩
    · intro a W hI hun haft hi
      have e2 : a.eval (.tmp 2) = .pointer (some ⟨q, 0, none⟩) := hun 2 (by kernel_rfl)
      exact g_same hi hI rfl _ (run_fieldAddr_any rfl e2 (at_entry0 _ 0 _)) rfl
    · intro a W hI hun haft hi
      have f0 : a.eval (.tmp 5) = .pointer (some ⟨q, 0, none⟩) := haft ⟨0, .data⟩ (by simp) rfl _ _ rfl rfl
      exact g_same hi hI rfl _ (run_fieldAddr_any rfl f0 (at_dot0' _ 0 _)) rfl
    · intro a W hI hun haft hi
      have f1 : a.eval (.tmp 6) = .pointer (some ⟨q, 0, none⟩) := haft ⟨1, .data⟩ (by simp) rfl _ _ rfl rfl
      exact g_same hi hI rfl _ (run_loadint_op rfl f1 Tryz.underlying3 ((Blk.cell (Blk.below KX.out hI.below (Blk.lt KX.out)) 0).trans rfl)) rfl
    · intro a W hI hun haft hi
      have e3 : a.eval (.tmp 3) = .pointer (some ⟨q + 1, 0, none⟩) := hun 3 (by kernel_rfl)
      exact g_same hi hI rfl _ (run_fieldAddr_any rfl e3 (at_entry0 _ 0 _)) rfl
    · intro a W hI hun haft hi
      have f3 : a.eval (.tmp 8) = .pointer (some ⟨q + 1, 0, none⟩) := haft ⟨3, .data⟩ (by simp) rfl _ _ rfl rfl
      exact g_same hi hI rfl _ (run_fieldAddr_any rfl f3 (at_dot0' _ 0 _)) rfl
    · intro a W hI hun haft hi
      have f4 : a.eval (.tmp 9) = .pointer (some ⟨q + 1, 0, none⟩) := haft ⟨4, .data⟩ (by simp) rfl _ _ rfl rfl
      exact g_same hi hI rfl _ (run_loadint_op rfl f4 Tryz.underlying3 ((Blk.cell (Blk.below KY.out hI.below (Blk.lt KY.out)) 0).trans rfl)) rfl
    · intro a W hI hun haft hi
      have f2 : a.eval (.tmp 7) = .int .i64 x.1.r := haft ⟨2, .data⟩ (by simp) rfl _ _ rfl rfl
      have f5 : a.eval (.tmp 10) = .int .i64 y.1.r := haft ⟨5, .data⟩ (by simp) rfl _ _ rfl rfl
      refine g_call hi hI rfl _ _ (run_call_op (args := #[.int .i64 x.1.r, .int .i64 y.1.r]) rfl (by simp [f2, f5]) (by kernel_rfl)) ?_
      exact (cmpint _ _ W).mono fun e w' H => ⟨_, H.1, rfl, H.2⟩
    · intro a W hI hun haft hi
      have e2 : a.eval (.tmp 2) = .pointer (some ⟨q, 0, none⟩) := hun 2 (by kernel_rfl)
      exact g_same hi hI rfl _ (run_fieldAddr_any rfl e2 (at_entry0 _ 0 _)) rfl
    · intro a W hI hun haft hi
      have f7 : a.eval (.tmp 12) = .pointer (some ⟨q, 0, none⟩) := haft ⟨7, .data⟩ (by simp) rfl _ _ rfl rfl
      exact g_same hi hI rfl _ (run_fieldAddr_any rfl f7 (at_dot1' _ 0 _)) rfl
    · intro a W hI hun haft hi
      have f8 : a.eval (.tmp 13) = .pointer (some ⟨q, 1, none⟩) := haft ⟨8, .data⟩ (by simp) rfl _ _ rfl rfl
      exact g_same hi hI rfl _ (run_loadint_op rfl f8 Tryz.underlying3 ((Blk.cell (Blk.below KX.out hI.below (Blk.lt KX.out)) 1).trans rfl)) rfl
    · intro a W hI hun haft hi
      have e3 : a.eval (.tmp 3) = .pointer (some ⟨q + 1, 0, none⟩) := hun 3 (by kernel_rfl)
      exact g_same hi hI rfl _ (run_fieldAddr_any rfl e3 (at_entry0 _ 0 _)) rfl
    · intro a W hI hun haft hi
      have f10 : a.eval (.tmp 15) = .pointer (some ⟨q + 1, 0, none⟩) := haft ⟨10, .data⟩ (by simp) rfl _ _ rfl rfl
      exact g_same hi hI rfl _ (run_fieldAddr_any rfl f10 (at_dot1' _ 0 _)) rfl
    · intro a W hI hun haft hi
      have f11 : a.eval (.tmp 16) = .pointer (some ⟨q + 1, 1, none⟩) := haft ⟨11, .data⟩ (by simp) rfl _ _ rfl rfl
      exact g_same hi hI rfl _ (run_loadint_op rfl f11 Tryz.underlying3 ((Blk.cell (Blk.below KY.out hI.below (Blk.lt KY.out)) 1).trans rfl)) rfl
    · intro a W hI hun haft hi
      have f9 : a.eval (.tmp 14) = .int .i64 x.1.c := haft ⟨9, .data⟩ (by simp) rfl _ _ rfl rfl
      have f12 : a.eval (.tmp 17) = .int .i64 y.1.c := haft ⟨12, .data⟩ (by simp) rfl _ _ rfl rfl
      refine g_call hi hI rfl _ _ (run_call_op (args := #[.int .i64 x.1.c, .int .i64 y.1.c]) rfl (by simp [f9, f12]) (by kernel_rfl)) ?_
      exact (cmpint _ _ W).mono fun e w' H => ⟨_, H.1, rfl, H.2⟩
    · intro a W hI hun haft hi
      have f6 : a.eval (.tmp 11) = .int .i64 (Lib.compareInt (x.1.r) (y.1.r)) := haft ⟨6, .data⟩ (by simp) rfl _ _ rfl rfl
      have f13 : a.eval (.tmp 18) = .int .i64 (Lib.compareInt (x.1.c) (y.1.c)) := haft ⟨13, .data⟩ (by simp) rfl _ _ rfl rfl
      exact g_val hi hI rfl _ _ (run_buildSlice_op (vs := #[(0, .int .i64 (Lib.compareInt (x.1.r) (y.1.r))), (1, .int .i64 (Lib.compareInt (x.1.c) (y.1.c)))]) rfl (by simp only [List.map_toArray, List.map_cons, List.map_nil, f6, f13]) (bs2 _ _ _)) ((Grn.refl _).alloc _) ⟨_, rfl, Blk.new _ _ _⟩
    · intro a W hI hun haft hi
      obtain ⟨gs, fs, hs⟩ : ∃ gs, a.eval (.tmp 19) = .slice (some ⟨gs, 0, none⟩) 2 2 ∧ Blk W gs 3 ([Lib.compareInt (x.1.r) (y.1.r), Lib.compareInt (x.1.c) (y.1.c)].map fun z => Value.int .i64 z).toArray := haft ⟨14, .data⟩ (by simp) rfl _ _ rfl rfl
      refine g_call hi hI rfl _ _ (run_call_op (args := #[.slice (some ⟨gs, 0, none⟩) 2 2]) rfl (by simp [fs]) (by kernel_rfl)) ?_
      exact (or_any [Lib.compareInt (x.1.r) (y.1.r), Lib.compareInt (x.1.c) (y.1.c)] gs W hs (by simp)).mono fun e w' H => ⟨_, H.1, rfl, by rw [H.2]; exact Grn.refl _⟩
    · intro a W hI hun haft hi
      have f15 : a.eval (.tmp 20) = .int .i64 (orI [Lib.compareInt (x.1.r) (y.1.r), Lib.compareInt (x.1.c) (y.1.c)]) := haft ⟨15, .data⟩ (by simp) rfl _ _ rfl rfl
      exact g_same hi hI rfl _ (run_assign_op rfl f15) rfl
  · intro vals W hI hp
    have hl16 : vals 16 = .int .i64 (orI [Lib.compareInt (x.1.r) (y.1.r), Lib.compareInt (x.1.c) (y.1.c)]) := hp 16 (by decide)
    have HI := Lib.hid hI
    clear hp hI
    simp only [layN, List.size_toArray, List.length_cons, List.length_nil, List.range, List.range.loop, if_true, List.getElem?_toArray, List.getElem?_cons_zero, List.getElem?_cons_succ, Act.put, List.setIfInBounds_toArray, List.set_cons_zero, List.set_cons_succ, Nat.zero_add, Nat.reduceAdd, hl16]
    clear hl16
    go_wp2
    go_ret
    exact ⟨rfl, BY.out.trans HI.out⟩

set_option maxRecDepth 100000 in
set_option maxHeartbeats 2000000 in
theorem order_any (x y : El) (w : World) : Calls Tryz.prog 53 #[eE x, eE y] w fun e w' => e = .returned (.int .i64 (cfE x y)) ∧ Grn w w' := by
  obtain ⟨Y, hY⟩ : ∃ Y, Y = (w.alloc (.cells #[.int .i64 x.k, .string x.a, .string x.b, .string x.c, .string x.d] 45)).alloc (.cells #[.int .i64 y.k, .string y.a, .string y.b, .string y.c, .string y.d] 45) := ⟨_, rfl⟩
  obtain ⟨q, hq⟩ : ∃ q, w.heap.size = q := ⟨_, rfl⟩
  have HY := Lib.hid hY
  have HQ := Lib.hid hq
  have KX := Lib.hid (show Blk Y q 45 #[.int .i64 x.k, .string x.a, .string x.b, .string x.c, .string x.d] by rw [hY, ← hq]; exact (Blk.new w _ _).alloc _)
  have KY := Lib.hid (show Blk Y (q + 1) 45 #[.int .i64 y.k, .string y.a, .string y.b, .string y.c, .string y.d] by
    rw [hY, ← hq]
    have := Blk.new (w.alloc (.cells #[.int .i64 x.k, .string x.a, .string x.b, .string x.c, .string x.d] 45)) 45 #[.int .i64 y.k, .string y.a, .string y.b, .string y.c, .string y.d]
    simpa using this)
  have BY := Lib.hid (show Grn w Y by rw [hY]; exact ((Grn.refl w).alloc _).alloc _)
  clear hY hq
  unfold eE elV
  go_enter Tryz.func53, Tryz.ntmps53
  go_upto_region 1 with fail
  rw [← HY.out, HQ.out]
  refine wp_region_any (by kernel_rfl) ?_
  refine wpAny_grn (fun i uq wq => if i = 25 then ∃ gs, uq = .slice (some ⟨gs, 0, none⟩) 5 5 ∧ Blk wq gs 3 ([Lib.compareInt (x.k) (y.k), Lib.compareBytes (x.a).data.toList (y.a).data.toList, Lib.compareBytes (x.b).data.toList (y.b).data.toList, Lib.compareBytes (x.c).data.toList (y.c).data.toList, Lib.compareBytes (x.d).data.toList (y.d).data.toList].map fun z => Value.int .i64 z).toArray else uq = ([.pointer (some ⟨q, 0, none⟩), .int .i64 x.k, .pointer (some ⟨q + 1, 0, none⟩), .int .i64 y.k, .int .i64 (Lib.compareInt (x.k) (y.k)), .pointer (some ⟨q, 1, none⟩), .string x.a, .pointer (some ⟨q + 1, 1, none⟩), .string y.a, .int .i64 (Lib.compareBytes (x.a).data.toList (y.a).data.toList), .pointer (some ⟨q, 2, none⟩), .string x.b, .pointer (some ⟨q + 1, 2, none⟩), .string y.b, .int .i64 (Lib.compareBytes (x.b).data.toList (y.b).data.toList), .pointer (some ⟨q, 3, none⟩), .string x.c, .pointer (some ⟨q + 1, 3, none⟩), .string y.c, .int .i64 (Lib.compareBytes (x.c).data.toList (y.c).data.toList), .pointer (some ⟨q, 4, none⟩), .string x.d, .pointer (some ⟨q + 1, 4, none⟩), .string y.d, .int .i64 (Lib.compareBytes (x.d).data.toList (y.d).data.toList), undef, .int .i64 (orI [Lib.compareInt (x.k) (y.k), Lib.compareBytes (x.a).data.toList (y.a).data.toList, Lib.compareBytes (x.b).data.toList (y.b).data.toList, Lib.compareBytes (x.c).data.toList (y.c).data.toList, Lib.compareBytes (x.d).data.toList (y.d).data.toList]), .int .i64 (orI [Lib.compareInt (x.k) (y.k), Lib.compareBytes (x.a).data.toList (y.a).data.toList, Lib.compareBytes (x.b).data.toList (y.b).data.toList, Lib.compareBytes (x.c).data.toList (y.c).data.toList, Lib.compareBytes (x.d).data.toList (y.d).data.toList])] : List Value).getD i undef) _ Y (by kernel_rfl) (by kernel_rfl) (by kernel_rfl) ?_ ?_ ?_
  · intro i v w w' hb hp
    by_cases h5 : i = 25
    · rw [if_pos h5] at hp ⊢
      obtain ⟨n, h1, h2⟩ := hp
      exact ⟨n, h1, Blk.below h2 hb.below (Blk.lt h2)⟩
    · rw [if_neg h5] at hp ⊢
      exact hp
  · refine ⟨?_, ?_, ?_, ?_, ?_, ?_, ?_, ?_, ?_, ?_, ?_, ?_, ?_, ?_, ?_, ?_, ?_, ?_, ?_, ?_, ?_, ?_, ?_, ?_, ?_, ?_, ?_, ?_, trivial⟩
    · intro a W hI hun haft hi
      have e2 : a.eval (.tmp 2) = .pointer (some ⟨q, 0, none⟩) := hun 2 (by kernel_rfl)
      exact g_same hi hI rfl _ (run_fieldAddr_any rfl e2 (at_elem0 _ 0 _)) rfl
    · intro a W hI hun haft hi
      have f0 : a.eval (.tmp 5) = .pointer (some ⟨q, 0, none⟩) := haft ⟨0, .data⟩ (by simp) rfl _ _ rfl rfl
      exact g_same hi hI rfl _ (run_loadint_op rfl f0 Tryz.underlying3 ((Blk.cell (Blk.below KX.out hI.below (Blk.lt KX.out)) 0).trans rfl)) rfl
    · intro a W hI hun haft hi
      have e3 : a.eval (.tmp 3) = .pointer (some ⟨q + 1, 0, none⟩) := hun 3 (by kernel_rfl)
      exact g_same hi hI rfl _ (run_fieldAddr_any rfl e3 (at_elem0 _ 0 _)) rfl
    · intro a W hI hun haft hi
      have f2 : a.eval (.tmp 7) = .pointer (some ⟨q + 1, 0, none⟩) := haft ⟨2, .data⟩ (by simp) rfl _ _ rfl rfl
      exact g_same hi hI rfl _ (run_loadint_op rfl f2 Tryz.underlying3 ((Blk.cell (Blk.below KY.out hI.below (Blk.lt KY.out)) 0).trans rfl)) rfl
    · intro a W hI hun haft hi
      have f1 : a.eval (.tmp 6) = .int .i64 x.k := haft ⟨1, .data⟩ (by simp) rfl _ _ rfl rfl
      have f3 : a.eval (.tmp 8) = .int .i64 y.k := haft ⟨3, .data⟩ (by simp) rfl _ _ rfl rfl
      refine g_call hi hI rfl _ _ (run_call_op (args := #[.int .i64 x.k, .int .i64 y.k]) rfl (by simp [f1, f3]) (by kernel_rfl)) ?_
      exact (cmpint _ _ W).mono fun e w' H => ⟨_, H.1, rfl, H.2⟩
    · intro a W hI hun haft hi
      have e2 : a.eval (.tmp 2) = .pointer (some ⟨q, 0, none⟩) := hun 2 (by kernel_rfl)
      exact g_same hi hI rfl _ (run_fieldAddr_any rfl e2 (at_elem1 _ 0 _)) rfl
    · intro a W hI hun haft hi
      have f5 : a.eval (.tmp 10) = .pointer (some ⟨q, 1, none⟩) := haft ⟨5, .data⟩ (by simp) rfl _ _ rfl rfl
      exact g_same hi hI rfl _ (run_loadstr_op rfl f5 Tryz.underlying9 ((Blk.cell (Blk.below KX.out hI.below (Blk.lt KX.out)) 1).trans rfl)) rfl
    · intro a W hI hun haft hi
      have e3 : a.eval (.tmp 3) = .pointer (some ⟨q + 1, 0, none⟩) := hun 3 (by kernel_rfl)
      exact g_same hi hI rfl _ (run_fieldAddr_any rfl e3 (at_elem1 _ 0 _)) rfl
    · intro a W hI hun haft hi
      have f7 : a.eval (.tmp 12) = .pointer (some ⟨q + 1, 1, none⟩) := haft ⟨7, .data⟩ (by simp) rfl _ _ rfl rfl
      exact g_same hi hI rfl _ (run_loadstr_op rfl f7 Tryz.underlying9 ((Blk.cell (Blk.below KY.out hI.below (Blk.lt KY.out)) 1).trans rfl)) rfl
    · intro a W hI hun haft hi
      have f6 : a.eval (.tmp 11) = .string x.a := haft ⟨6, .data⟩ (by simp) rfl _ _ rfl rfl
      have f8 : a.eval (.tmp 13) = .string y.a := haft ⟨8, .data⟩ (by simp) rfl _ _ rfl rfl
      refine g_call hi hI rfl _ _ (run_call_op (args := #[.string x.a, .string y.a]) rfl (by simp [f6, f8]) (by kernel_rfl)) ?_
      exact (cmpstr _ _ W).mono fun e w' H => ⟨_, H.1, rfl, H.2⟩
    · intro a W hI hun haft hi
      have e2 : a.eval (.tmp 2) = .pointer (some ⟨q, 0, none⟩) := hun 2 (by kernel_rfl)
      exact g_same hi hI rfl _ (run_fieldAddr_any rfl e2 (at_elem2 _ 0 _)) rfl
    · intro a W hI hun haft hi
      have f10 : a.eval (.tmp 15) = .pointer (some ⟨q, 2, none⟩) := haft ⟨10, .data⟩ (by simp) rfl _ _ rfl rfl
      exact g_same hi hI rfl _ (run_loadstr_op rfl f10 Tryz.underlying9 ((Blk.cell (Blk.below KX.out hI.below (Blk.lt KX.out)) 2).trans rfl)) rfl
    · intro a W hI hun haft hi
      have e3 : a.eval (.tmp 3) = .pointer (some ⟨q + 1, 0, none⟩) := hun 3 (by kernel_rfl)
      exact g_same hi hI rfl _ (run_fieldAddr_any rfl e3 (at_elem2 _ 0 _)) rfl
    · intro a W hI hun haft hi
      have f12 : a.eval (.tmp 17) = .pointer (some ⟨q + 1, 2, none⟩) := haft ⟨12, .data⟩ (by simp) rfl _ _ rfl rfl
      exact g_same hi hI rfl _ (run_loadstr_op rfl f12 Tryz.underlying9 ((Blk.cell (Blk.below KY.out hI.below (Blk.lt KY.out)) 2).trans rfl)) rfl
    · intro a W hI hun haft hi
      have f11 : a.eval (.tmp 16) = .string x.b := haft ⟨11, .data⟩ (by simp) rfl _ _ rfl rfl
      have f13 : a.eval (.tmp 18) = .string y.b := haft ⟨13, .data⟩ (by simp) rfl _ _ rfl rfl
      refine g_call hi hI rfl _ _ (run_call_op (args := #[.string x.b, .string y.b]) rfl (by simp [f11, f13]) (by kernel_rfl)) ?_
      exact (cmpstr _ _ W).mono fun e w' H => ⟨_, H.1, rfl, H.2⟩
    · intro a W hI hun haft hi
      have e2 : a.eval (.tmp 2) = .pointer (some ⟨q, 0, none⟩) := hun 2 (by kernel_rfl)
      exact g_same hi hI rfl _ (run_fieldAddr_any rfl e2 (at_elem3 _ 0 _)) rfl
    · intro a W hI hun haft hi
      have f15 : a.eval (.tmp 20) = .pointer (some ⟨q, 3, none⟩) := haft ⟨15, .data⟩ (by simp) rfl _ _ rfl rfl
      exact g_same hi hI rfl _ (run_loadstr_op rfl f15 Tryz.underlying9 ((Blk.cell (Blk.below KX.out hI.below (Blk.lt KX.out)) 3).trans rfl)) rfl
    · intro a W hI hun haft hi
      have e3 : a.eval (.tmp 3) = .pointer (some ⟨q + 1, 0, none⟩) := hun 3 (by kernel_rfl)
      exact g_same hi hI rfl _ (run_fieldAddr_any rfl e3 (at_elem3 _ 0 _)) rfl
    · intro a W hI hun haft hi
      have f17 : a.eval (.tmp 22) = .pointer (some ⟨q + 1, 3, none⟩) := haft ⟨17, .data⟩ (by simp) rfl _ _ rfl rfl
      exact g_same hi hI rfl _ (run_loadstr_op rfl f17 Tryz.underlying9 ((Blk.cell (Blk.below KY.out hI.below (Blk.lt KY.out)) 3).trans rfl)) rfl
    · intro a W hI hun haft hi
      have f16 : a.eval (.tmp 21) = .string x.c := haft ⟨16, .data⟩ (by simp) rfl _ _ rfl rfl
      have f18 : a.eval (.tmp 23) = .string y.c := haft ⟨18, .data⟩ (by simp) rfl _ _ rfl rfl
      refine g_call hi hI rfl _ _ (run_call_op (args := #[.string x.c, .string y.c]) rfl (by simp [f16, f18]) (by kernel_rfl)) ?_
      exact (cmpstr _ _ W).mono fun e w' H => ⟨_, H.1, rfl, H.2⟩
    · intro a W hI hun haft hi
      have e2 : a.eval (.tmp 2) = .pointer (some ⟨q, 0, none⟩) := hun 2 (by kernel_rfl)
      exact g_same hi hI rfl _ (run_fieldAddr_any rfl e2 (at_elem4 _ 0 _)) rfl
    · intro a W hI hun haft hi
      have f20 : a.eval (.tmp 25) = .pointer (some ⟨q, 4, none⟩) := haft ⟨20, .data⟩ (by simp) rfl _ _ rfl rfl
      exact g_same hi hI rfl _ (run_loadstr_op rfl f20 Tryz.underlying9 ((Blk.cell (Blk.below KX.out hI.below (Blk.lt KX.out)) 4).trans rfl)) rfl
    · intro a W hI hun haft hi
      have e3 : a.eval (.tmp 3) = .pointer (some ⟨q + 1, 0, none⟩) := hun 3 (by kernel_rfl)
      exact g_same hi hI rfl _ (run_fieldAddr_any rfl e3 (at_elem4 _ 0 _)) rfl
    · intro a W hI hun haft hi
      have f22 : a.eval (.tmp 27) = .pointer (some ⟨q + 1, 4, none⟩) := haft ⟨22, .data⟩ (by simp) rfl _ _ rfl rfl
      exact g_same hi hI rfl _ (run_loadstr_op rfl f22 Tryz.underlying9 ((Blk.cell (Blk.below KY.out hI.below (Blk.lt KY.out)) 4).trans rfl)) rfl
    · intro a W hI hun haft hi
      have f21 : a.eval (.tmp 26) = .string x.d := haft ⟨21, .data⟩ (by simp) rfl _ _ rfl rfl
      have f23 : a.eval (.tmp 28) = .string y.d := haft ⟨23, .data⟩ (by simp) rfl _ _ rfl rfl
      refine g_call hi hI rfl _ _ (run_call_op (args := #[.string x.d, .string y.d]) rfl (by simp [f21, f23]) (by kernel_rfl)) ?_
      exact (cmpstr _ _ W).mono fun e w' H => ⟨_, H.1, rfl, H.2⟩
    · intro a W hI hun haft hi
      have f4 : a.eval (.tmp 9) = .int .i64 (Lib.compareInt (x.k) (y.k)) := haft ⟨4, .data⟩ (by simp) rfl _ _ rfl rfl
      have f9 : a.eval (.tmp 14) = .int .i64 (Lib.compareBytes (x.a).data.toList (y.a).data.toList) := haft ⟨9, .data⟩ (by simp) rfl _ _ rfl rfl
      have f14 : a.eval (.tmp 19) = .int .i64 (Lib.compareBytes (x.b).data.toList (y.b).data.toList) := haft ⟨14, .data⟩ (by simp) rfl _ _ rfl rfl
      have f19 : a.eval (.tmp 24) = .int .i64 (Lib.compareBytes (x.c).data.toList (y.c).data.toList) := haft ⟨19, .data⟩ (by simp) rfl _ _ rfl rfl
      have f24 : a.eval (.tmp 29) = .int .i64 (Lib.compareBytes (x.d).data.toList (y.d).data.toList) := haft ⟨24, .data⟩ (by simp) rfl _ _ rfl rfl
      exact g_val hi hI rfl _ _ (run_buildSlice_op (vs := #[(0, .int .i64 (Lib.compareInt (x.k) (y.k))), (1, .int .i64 (Lib.compareBytes (x.a).data.toList (y.a).data.toList)), (2, .int .i64 (Lib.compareBytes (x.b).data.toList (y.b).data.toList)), (3, .int .i64 (Lib.compareBytes (x.c).data.toList (y.c).data.toList)), (4, .int .i64 (Lib.compareBytes (x.d).data.toList (y.d).data.toList))]) rfl (by simp only [List.map_toArray, List.map_cons, List.map_nil, f4, f9, f14, f19, f24]) (bs5 _ _ _ _ _ _)) ((Grn.refl _).alloc _) ⟨_, rfl, Blk.new _ _ _⟩
    · intro a W hI hun haft hi
      obtain ⟨gs, fs, hs⟩ : ∃ gs, a.eval (.tmp 30) = .slice (some ⟨gs, 0, none⟩) 5 5 ∧ Blk W gs 3 ([Lib.compareInt (x.k) (y.k), Lib.compareBytes (x.a).data.toList (y.a).data.toList, Lib.compareBytes (x.b).data.toList (y.b).data.toList, Lib.compareBytes (x.c).data.toList (y.c).data.toList, Lib.compareBytes (x.d).data.toList (y.d).data.toList].map fun z => Value.int .i64 z).toArray := haft ⟨25, .data⟩ (by simp) rfl _ _ rfl rfl
      refine g_call hi hI rfl _ _ (run_call_op (args := #[.slice (some ⟨gs, 0, none⟩) 5 5]) rfl (by simp [fs]) (by kernel_rfl)) ?_
      exact (or_any [Lib.compareInt (x.k) (y.k), Lib.compareBytes (x.a).data.toList (y.a).data.toList, Lib.compareBytes (x.b).data.toList (y.b).data.toList, Lib.compareBytes (x.c).data.toList (y.c).data.toList, Lib.compareBytes (x.d).data.toList (y.d).data.toList] gs W hs (by simp)).mono fun e w' H => ⟨_, H.1, rfl, by rw [H.2]; exact Grn.refl _⟩
    · intro a W hI hun haft hi
      have f26 : a.eval (.tmp 31) = .int .i64 (orI [Lib.compareInt (x.k) (y.k), Lib.compareBytes (x.a).data.toList (y.a).data.toList, Lib.compareBytes (x.b).data.toList (y.b).data.toList, Lib.compareBytes (x.c).data.toList (y.c).data.toList, Lib.compareBytes (x.d).data.toList (y.d).data.toList]) := haft ⟨26, .data⟩ (by simp) rfl _ _ rfl rfl
      exact g_same hi hI rfl _ (run_assign_op rfl f26) rfl
  · intro vals W hI hp
    have hl27 : vals 27 = .int .i64 (orI [Lib.compareInt (x.k) (y.k), Lib.compareBytes (x.a).data.toList (y.a).data.toList, Lib.compareBytes (x.b).data.toList (y.b).data.toList, Lib.compareBytes (x.c).data.toList (y.c).data.toList, Lib.compareBytes (x.d).data.toList (y.d).data.toList]) := hp 27 (by decide)
    have HI := Lib.hid hI
    clear hp hI
    simp only [layN, List.size_toArray, List.length_cons, List.length_nil, List.range, List.range.loop, if_true, List.getElem?_toArray, List.getElem?_cons_zero, List.getElem?_cons_succ, Act.put, List.setIfInBounds_toArray, List.set_cons_zero, List.set_cons_succ, Nat.zero_add, Nat.reduceAdd, hl27]
    clear hl27
    go_wp2
    go_ret
    exact ⟨rfl, BY.out.trans HI.out⟩

end Go.Proofs.YtejljikikhecnaaGreat

namespace Go.Proofs.YtejljikikhecnaaGreat
open Go.RowKit Go.MapKept Go.Sort
def enN (x : Dt × Va) : List Value := [.int .i64 x.1.r, .int .i64 x.1.c, .int .i64 x.2.k, .int .i64 x.2.n, .string x.2.t]
def enL (x : El) : List Value := [.int .i64 x.k, .string x.a, .string x.b, .string x.c, .string x.d]
theorem enN_len (x : Dt × Va) : (enN x).length = 5 := rfl
theorem enL_len (x : El) : (enL x).length = 5 := rfl
theorem enN_one : ∀ x, ∀ v ∈ enN x, v.oneCell' = true := by
  intro x v hv
  simp only [enN, List.mem_cons, List.not_mem_nil, or_false] at hv
  rcases hv with rfl | rfl | rfl | rfl | rfl <;> rfl
theorem enL_one : ∀ x, ∀ v ∈ enL x, v.oneCell' = true := by
  intro x v hv
  simp only [enL, List.mem_cons, List.not_mem_nil, or_false] at hv
  rcases hv with rfl | rfl | rfl | rfl | rfl <;> rfl
instance : Inhabited Dt := ⟨⟨0, 0⟩⟩
instance : Inhabited Va := ⟨⟨0, 0, ⟨#[]⟩⟩⟩
instance : Inhabited El := ⟨⟨0, ⟨#[]⟩, ⟨#[]⟩, ⟨#[]⟩, ⟨#[]⟩⟩⟩
def cfN (x y : Dt × Va) : Int := cfD x.1 y.1
theorem cfN_ok : CmpOk cfN := cfD_ok.map Prod.fst
def enI (x : El × Value) : List Value := [.int .i64 x.1.k, .string x.1.a, .string x.1.b, .string x.1.c, .string x.1.d, x.2]
theorem enI_len (x : El × Value) : (enI x).length = 6 := rfl

end Go.Proofs.YtejljikikhecnaaGreat
