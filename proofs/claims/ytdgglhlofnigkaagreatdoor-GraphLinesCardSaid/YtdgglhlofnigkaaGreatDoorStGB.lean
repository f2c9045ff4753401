/- (*store.Store).come. -/import Derived.Test.YtdgglhlofnigkaaGreatDoorStGA
import Derived.Deep.DeepCutAuto
import Derived.Test.YtdgglhlofnigkaaGreatDoorJEVOps
set_option maxHeartbeats 2000000
set_option maxRecDepth 100000
namespace Go.Proofs.YtdgglhlofnigkaaGreatDoor
open Lib (hid)
open Go.RowKit Go.MapKept
theorem zero_held (w : World) : (zeroValue 116).run Tryz.prog w = .ok (.map none) w := by kernel_rfl
theorem run_eql_held_none (w : World) : (binOp .eql 116 (.map none) (.map none)).run Tryz.prog w = .ok (.bool true) w := run_eql_map_nil w _ _ _ none Tryz.underlying116
theorem run_eql_held_some (n : Nat) (w : World) : (binOp .eql 116 (.map (some n)) (.map none)).run Tryz.prog w = .ok (.bool false) w := run_eql_map_nil w _ _ _ (some n) Tryz.underlying116
theorem guard_held (x y : Operand) (a b : Option Nat) (w : World) : (eqGuard .eql 116 x y (.map a) (.map b)).run Tryz.prog w = .ok () w := by go_simp
structure Base (w Z : World) (F F' : Nat → Prop) (sb ob : Nat) (I : List (El × Nat)) (h : Nat → List (Dt × Va)) : Prop where
 fs : F sb
 low : ∀ i, F i → i < w.heap.size
 out : Out F w Z
 blk : Blk Z sb 91 #[.map (some ob)]
 inner : InnerIs Z F' ob I h
 grow : ∀ i, F' i → Grow F w Z i
 sub : ∀ i, F i → F' i
 lt : ∀ i, F' i → i < Z.heap.size
section
variable {w Z W W2 w' : World} {F F' : Nat → Prop} {sb ob n : Nat} {I : List (El × Nat)} {h : Nat → List (Dt × Va)} {x : El} {d : Dt} {v : Va}
theorem Base.ne_ob (B : Base w Z F F' sb ob I h) : ob ≠ sb := by
 intro e
 obtain ⟨es, c, hb, _⟩ := B.inner.2.1
 have := B.blk
 unfold Blk at this
 rw [e, this] at hb
 cases hb
theorem Base.ne_in (B : Base w Z F F' sb ob I h) (hn : getL x I = some n) : n ≠ sb := by
 intro e
 obtain ⟨es, c, hb, _⟩ := (B.inner.at_ hn).2.2
 have := B.blk
 unfold Blk at this
 rw [e, this] at hb
 cases hb
theorem Base.up (B : Base w Z F F' sb ob I h) (hz : Z.heap.size ≤ w'.heap.size) : ∀ i, F' i → Grow F w w' i := fun i hi => by
 rcases B.grow i hi with e | ⟨e1, e2⟩
 ·exact Or.inl e
 ·exact Or.inr ⟨e1, Nat.lt_of_lt_of_le e2 hz⟩
theorem Base.bound (B : Base w Z F F' sb ob I h) (hz : Z.heap.size ≤ w'.heap.size) : ∀ i, Grow F w w' i → i < w'.heap.size := fun i hi => by
 rcases hi with hi | hi
 ·exact Nat.lt_of_lt_of_le (B.low i hi) (Nat.le_trans B.out.size hz)
 ·exact hi.2
theorem come_turn (B : Base w Z F F' sb ob I h) (hn : getL x I = some n) (hW : Below Z.heap.size Z W) (hm : MapIs eD eV w' n (putL d v (h n))) (hbut : But n W w') : StoreIs w' sb (Grow F w w') (comeS x d v (mapS h I)) ∧ Out F w w' := by
 have hz := Nat.le_trans hW.size hbut.size
 have hk : ∀ i, F' i → i ≠ n → w'.heap[i]? = Z.heap[i]? := fun i hi hin => (hbut.block i (Nat.lt_of_lt_of_le (B.lt i hi) hW.size) (fun e => hin (Option.some.inj e))).trans (hW.block i (B.lt i hi))
 have hO2 : Out F w w' := B.out.trans ((Out.of_below hW).trans' (Out.of_but hbut (B.grow _ (B.inner.at_ hn).1)))
 obtain ⟨hI', hσ⟩ := B.inner.turn hn hm (B.up hz) hk
 refine ⟨⟨Or.inl B.fs, B.bound hz, Or.inr ⟨ob, I, _, (hk sb (B.sub _ B.fs) (B.ne_in hn).symm).trans B.blk, hI', ?_⟩⟩, hO2⟩
 rw [hσ]
 unfold comeS
 rw [getL_mapS, hn]
 rfl
structure Added (Z w1 : World) (ob n : Nat) (I : List (El × Nat)) (x : El) : Prop where
 new : Z.heap.size ≤ n
 outer : MapIs eE eM w1 ob (putL x n I)
 inner : MapIs eD eV w1 n []
 but : Out (fun i => i = ob) Z w1
theorem come_add (B : Base w Z F F' sb ob I h) (hn : getL x I = none) (A : Added Z W ob n I x) (hW : Below W.heap.size W W2) (hm : MapIs eD eV w' n (putL d v [])) (hbut : But n W2 w') : StoreIs w' sb (Grow F w w') (comeS x d v (mapS h I)) ∧ Out F w w' := by
 have hz := Nat.le_trans A.but.size (Nat.le_trans hW.size hbut.size)
 have hnz := A.new
 have hnW := A.inner.lt
 have hnF : ¬ F' n := fun e => by have := B.lt n e; omega
 have hno : n ≠ ob := fun e => hnF (e ▸ B.inner.1)
 have hk : ∀ i, F' i → i ≠ ob → w'.heap[i]? = Z.heap[i]? := fun i hi hio =>
  (hbut.block i (Nat.lt_of_lt_of_le (B.lt i hi) (Nat.le_trans A.but.size hW.size)) (fun e => hnF (by rw [← Option.some.inj e]; exact hi))).trans ((hW.block i (Nat.lt_of_lt_of_le (B.lt i hi) A.but.size)).trans (A.but.block i (B.lt i hi) hio))
 have hou : MapIs eE eM w' ob (putL x n I) := (A.outer.same (hW.block _ A.outer.lt)).same (hbut.block ob (Nat.lt_of_lt_of_le A.outer.lt hW.size) (fun e => hno (Option.some.inj e).symm))
 have hwn : w.heap.size ≤ n := Nat.le_trans B.out.size hnz
 have hn' : n < w'.heap.size := hm.lt
 have hO2 : Out F w w' := B.out.trans ((Out.mono A.but fun i e => by rw [e]; exact B.grow _ B.inner.1).trans ⟨hbut.os.trans hW.os, hbut.tape.trans hW.tape, hbut.output.trans hW.output, Nat.le_trans hW.size hbut.size, fun i hi hni => (hbut.block i (Nat.lt_of_lt_of_le hi hW.size) (fun e => hni (by cases e; exact Or.inr ⟨hnz, hnW⟩))).trans (hW.block i hi)⟩)
 obtain ⟨hI', hσ⟩ := B.inner.add hn hnF hou hm (B.up hz) (Or.inr ⟨hwn, hn'⟩) hk
 refine ⟨⟨Or.inl B.fs, B.bound hz, Or.inr ⟨ob, _, _, (hk sb (B.sub _ B.fs) B.ne_ob.symm).trans B.blk, hI', ?_⟩⟩, hO2⟩
 rw [hσ]
 unfold comeS
 rw [getL_mapS, hn]
 rfl
theorem Base.next (B : Base w Z F F' sb ob I h) (hW : Below Z.heap.size Z W) : Base w W F F' sb ob I h :=
 ⟨B.fs, B.low, B.out.trans' (Out.of_below hW), (hW.block _ B.blk.lt).trans B.blk, B.inner.kept (fun _ e => e) (fun i hi => hW.block i (B.lt i hi)), B.up hW.size, B.sub, fun i hi => Nat.lt_of_lt_of_le (B.lt i hi) hW.size⟩
theorem Base.ne_blk (B : Base w Z F F' sb ob I h) {g : Nat} {t : TypeId} {cs : Array Value} (hb : Blk Z g t cs) : g ≠ ob := by
 intro e
 obtain ⟨es, c, ho, _⟩ := B.inner.2.1
 unfold Blk at hb
 rw [← e, hb] at ho
 cases ho
theorem Added.blk (A : Added Z W ob n I x) {g : Nat} {t : TypeId} {cs : Array Value} (hb : Blk Z g t cs) (hg : g ≠ ob) : Blk W g t cs := (A.but.block g hb.lt hg).trans hb
theorem getL_putL_self {α β : Type} [DecidableEq α] (x : α) (v : β) : ∀ L : List (α × β), getL x (putL x v L) = some v
 | [] => by simp [putL, getL]
 | p :: L => by
  simp only [putL]
  by_cases hp : p.1 = x
  ·rw [if_pos hp]; simp [getL]
  ·rw [if_neg hp]; simp only [getL, if_neg hp]; exact getL_putL_self x v L
theorem Base.of (hS : F sb) (hl : ∀ i, F i → i < w.heap.size) (hb : Blk w sb 91 #[.map (some ob)]) (hI : InnerIs w F ob I h) (hY : Below w.heap.size w Z) : Base w Z F F sb ob I h :=
 ⟨hS, hl, Out.of_below hY, (hY.block _ (hl _ hS)).trans hb, hI.kept (fun _ e => e) (fun i hi => hY.block i (hl i hi)), fun _ e => Or.inl e, fun _ e => e, fun i e => Nat.lt_of_lt_of_le (hl i e) hY.size⟩
theorem Base.made (hS : F sb) (hl : ∀ i, F i → i < w.heap.size) (hb : Blk w sb 91 #[.map none]) (hY : Below w.heap.size w W) :
  Base w ((W.alloc (.map #[] 0)).setCell ⟨sb, 0, none⟩ (.map (some W.heap.size))) F (fun i => F i ∨ i = W.heap.size) sb W.heap.size [] (fun _ => []) := by
 have hsl := hl _ hS
 have hs := hY.size
 have hsz : ((W.alloc (.map #[] 0)).setCell ⟨sb, 0, none⟩ (.map (some W.heap.size))).heap.size = W.heap.size + 1 := by simp
 have hoth : ∀ i, i ≠ sb → ((W.alloc (.map #[] 0)).setCell ⟨sb, 0, none⟩ (.map (some W.heap.size))).heap[i]? = (W.alloc (.map #[] 0)).heap[i]? := fun i hi => Below.heap_setCell _ _ _ i hi
 have hbW : Blk W sb 91 #[.map none] := (hY.block _ hsl).trans hb
 refine ⟨hS, hl, ⟨hY.os, hY.tape, hY.output, by rw [hsz]; omega, fun k hk hn => ?_⟩, ?_, ⟨Or.inr rfl, ?_, by simp, fun p hp => by simp at hp⟩, fun i hi => ?_, fun i e => Or.inl e, fun i hi => ?_⟩
 ·rw [hoth k (fun e => hn (by rw [e]; exact hS)), heap_alloc_old _ _ (by omega)]
  exact hY.block k hk
 ·have := (hbW.alloc (.map #[] 0)).set_ 0 (.map (some W.heap.size))
  simpa using this
 ·exact (MapIs.made eE eM W).same (hoth _ (by omega))
 ·rcases hi with hi | rfl
  ·exact Or.inl hi
  ·exact Or.inr ⟨hs, by rw [hsz]; omega⟩
 ·rcases hi with hi | rfl
  ·have := hl i hi; rw [hsz]; omega
  ·rw [hsz]; omega
end
theorem come_turn_w (x : El) (d : Dt) (v : Va) (sb : Nat) (F : Nat → Prop) (w : World) (ob n : Nat) (I : List (El × Nat)) (h : Nat → List (Dt × Va)) (hF : F sb) (hl : ∀ i, F i → i < w.heap.size) (hb : Blk w sb 91 #[.map (some ob)]) (hI : InnerIs w F ob I h) (hg : getL x I = some n) : Calls Tryz.prog 53 #[.pointer (some ⟨sb, 0, none⟩), eE x, enV d v] w fun e w' => e = .returned (.tuple #[]) ∧ StoreIs w' sb (Grow F w w') (comeS x d v (mapS h I)) ∧ Out F w w' := by
 obtain ⟨Y, hY⟩ : ∃ Y, Y = (w.alloc (.cells #[.int .i64 x.k, .string x.a, .string x.b, .string x.c, .string x.d] 38)).alloc (.cells #[.int .i64 d.r, .int .i64 d.c, .int .i64 v.k, .int .i64 v.n, .string v.t] 94) := ⟨_, rfl⟩
 obtain ⟨q, hq⟩ : ∃ q, w.heap.size = q := ⟨_, rfl⟩
 have HY := hid hY
 have bY : Below w.heap.size w Y := by rw [hY]; exact ((Below.refl _ _).alloc (Nat.le_refl _) _).alloc (by simp) _
 have KE := hid (show Blk Y q 38 (elA x) by rw [hY, ← hq]; exact (Blk.new w _ _).alloc _)
 have KN := hid (show Blk Y (q + 1) 94 (enA d v) by
  rw [hY, ← hq]
  have := Blk.new (w.alloc (.cells #[.int .i64 x.k, .string x.a, .string x.b, .string x.c, .string x.d] 38)) 94 (enA d v)
  simpa [enA] using this)
 have BY := hid bY
 have HQ := hid hq
 have htn : ∀ w, (binOp .eql 89 (.map none) (.map none)).run Tryz.prog w = .ok (.bool true) w := fun w => run_eql_map_nil w _ _ _ none Tryz.underlying89
 have hts : ∀ n w, (binOp .eql 89 (.map (some n)) (.map none)).run Tryz.prog w = .ok (.bool false) w := fun n w => run_eql_map_nil w _ _ _ (some n) Tryz.underlying89
 clear hY
 obtain ⟨Z, hZ⟩ : ∃ Z, Z = Y := ⟨_, rfl⟩
 subst hZ
 have HB := hid (Base.of hF hl hb hI bY)
 clear hF hl hb hI bY hq
 have KS3 := hid HB.out.blk
 have KE3 := KE
 have KN3 := KN
 have KO3 := hid HB.out.inner.2.1
 have HG := hid hg
 have c0 : Z.cell? ⟨sb, 0, none⟩ = some (.map (some ob)) := (Blk.cell HB.out.blk 0).trans rfl
 clear hg KE KN
 unfold eE elV enV enA
 go_enter Tryz.func53, Tryz.ntmps53
 go_upto_region 1 with fail
 rw [← HY.out, HQ.out]
 go_upto_region 3 with fail
 clear c0 htn hts
 refine wp_region_any (by kernel_rfl) ?_
 refine wpAny_below (fun i uq _ => uq = ([.pointer (some ⟨sb, 0, none⟩), .pointer (some ⟨sb, 0, none⟩), .pointer (some ⟨sb, 0, none⟩), .map (some ob), eE x, .map (some n), .bool false] : List Value).getD i undef) _ Z (by kernel_rfl) (by kernel_rfl) (by kernel_rfl) (fun i v w w' _ h => h) ?_ ?_
 ·refine ⟨?_, ?_, ?_, ?_, ?_, ?_, ?_, trivial⟩
  ·intro a W hI hun haft hi
   have e0 := hun 0 (by kernel_rfl)
   exact b_same hi hI rfl _ (run_move_op rfl e0) rfl
  ·intro a W hI hun haft hi
   have f0 := haft ⟨0, .data⟩ (by simp) rfl _ _ rfl rfl
   exact b_same hi hI rfl _ (run_nilCheck_op rfl f0) rfl
  ·intro a W hI hun haft hi
   have f1 := haft ⟨1, .data⟩ (by simp) rfl _ _ rfl rfl
   exact b_same hi hI rfl _ (run_fieldAddr_any rfl f1 (at_store0 _ 0 _)) rfl
  ·intro a W hI hun haft hi
   have f2 : a.eval (.tmp 17) = .pointer (some ⟨sb, 0, none⟩) := haft ⟨2, .data⟩ (by simp) rfl _ _ rfl rfl
   exact b_same hi hI rfl _ (run_loadmap_op rfl f2 Tryz.underlying89 ((Blk.cell (Blk.below KS3.out hI (Blk.lt KS3.out)) 0).trans rfl)) rfl
  ·intro a W hI hun haft hi
   have e4 := hun 4 (by kernel_rfl)
   exact b_same hi hI rfl _ (run_load_op rfl e4 (Blk.below KE3.out hI (Blk.lt KE3.out)) Tryz.underlying38 rfl (by kernel_rfl)) rfl
  ·intro a W hI hun haft hi
   have f3 : a.eval (.tmp 18) = .map (some ob) := haft ⟨3, .data⟩ (by simp) rfl _ _ rfl rfl
   have f4 : a.eval (.tmp 19) = eE x := haft ⟨4, .data⟩ (by simp) rfl _ _ rfl rfl
   exact b_same hi hI rfl _ (run_lookup_op rfl f3 f4 ((look_run (MapIs.same KO3.out (hI.block _ (MapIs.lt KO3.out))) keyE Tryz.underlying89 (zero_held _) x).trans (by rw [HG.out]; rfl))) rfl
  ·intro a W hI hun haft hi
   have f5 := haft ⟨5, .data⟩ (by simp) rfl _ _ rfl rfl
   exact b_same hi hI rfl (.bool false) (run_bin_op rfl f5 rfl (guard_held _ _ _ _ _) (run_eql_held_some _ _)) rfl
 ·intro vals W hI hp
  have hl0 : vals 0 = .pointer (some ⟨sb, 0, none⟩) := hp 0 (by decide)
  have hl1 : vals 1 = .pointer (some ⟨sb, 0, none⟩) := hp 1 (by decide)
  have hl2 : vals 2 = .pointer (some ⟨sb, 0, none⟩) := hp 2 (by decide)
  have hl3 : vals 3 = .map (some ob) := hp 3 (by decide)
  have hl4 : vals 4 = eE x := hp 4 (by decide)
  have hl5 : vals 5 = .map (some n) := hp 5 (by decide)
  have hl6 : vals 6 = .bool false := hp 6 (by decide)
  have HI := hid hI
  clear hp hI
  simp only [layN, layS, List.range, List.range.loop, if_true, Act.put, Nat.zero_add, Nat.reduceAdd, hl0, hl1, hl2, hl3, hl4, hl5, hl6]
  clear hl0 hl1 hl2 hl3 hl4 hl5 hl6
  have KS5 := hid (Blk.below KS3.out HI.out (Blk.lt KS3.out))
  have KE5 := hid (Blk.below KE3.out HI.out (Blk.lt KE3.out))
  have KN5 := hid (Blk.below KN3.out HI.out (Blk.lt KN3.out))
  have KO5 := hid (MapIs.same KO3.out (HI.out.block _ (MapIs.lt KO3.out)))
  have KI5 := hid (MapIs.same (HB.out.inner.at_ HG.out).2.2 (HI.out.block _ (MapIs.lt (HB.out.inner.at_ HG.out).2.2)))
  have HG5 := HG
  have HI3 := HI
  clear HI KS3 KE3 KN3 KO3
  go_upto_region 5 with fail
  refine wp_region_any (by kernel_rfl) ?_
  refine wpAny_last (fun i uq _ => uq = ([.pointer (some ⟨sb, 0, none⟩), .pointer (some ⟨sb, 0, none⟩), .pointer (some ⟨sb, 0, none⟩), .map (some ob), eE x, .map (some n), .pointer (some ⟨q + 1, 0, none⟩), eD d, .pointer (some ⟨q + 1, 2, none⟩), eV v, undef] : List Value).getD i undef) _ W 10 _ (fun vals wq => (∀ j, j < 10 → vals j = ([.pointer (some ⟨sb, 0, none⟩), .pointer (some ⟨sb, 0, none⟩), .pointer (some ⟨sb, 0, none⟩), .map (some ob), eE x, .map (some n), .pointer (some ⟨q + 1, 0, none⟩), eD d, .pointer (some ⟨q + 1, 2, none⟩), eV v, undef] : List Value).getD j undef) ∧ (fun w' => StoreIs w' sb (Grow F w w') (comeS x d v (mapS h I)) ∧ Out F w w') wq) (by kernel_rfl) rfl (by kernel_rfl) (by kernel_rfl) (by kernel_rfl) (by kernel_rfl) (fun i v w w' _ h => h) ?_ ?_ ?_
  ·refine ⟨?_, ?_, ?_, ?_, ?_, ?_, ?_, ?_, ?_, ?_, fun h => absurd h (Nat.lt_irrefl _), trivial⟩
   ·intro _ a W hI hun haft hi
    have e0 := hun 0 (by kernel_rfl)
    exact b_same hi hI rfl _ (run_move_op rfl e0) rfl
   ·intro _ a W hI hun haft hi
    have f0 := haft ⟨0, .data⟩ (by simp) rfl _ _ rfl rfl
    exact b_same hi hI rfl _ (run_nilCheck_op rfl f0) rfl
   ·intro _ a W hI hun haft hi
    have f1 := haft ⟨1, .data⟩ (by simp) rfl _ _ rfl rfl
    exact b_same hi hI rfl _ (run_fieldAddr_any rfl f1 (at_store0 _ 0 _)) rfl
   ·intro _ a W hI hun haft hi
    have f2 : a.eval (.tmp 30) = .pointer (some ⟨sb, 0, none⟩) := haft ⟨2, .data⟩ (by simp) rfl _ _ rfl rfl
    exact b_same hi hI rfl _ (run_loadmap_op rfl f2 Tryz.underlying89 ((Blk.cell (Blk.below KS5.out hI (Blk.lt KS5.out)) 0).trans rfl)) rfl
   ·intro _ a W hI hun haft hi
    have e4 := hun 4 (by kernel_rfl)
    exact b_same hi hI rfl _ (run_load_op rfl e4 (Blk.below KE5.out hI (Blk.lt KE5.out)) Tryz.underlying38 rfl (by kernel_rfl)) rfl
   ·intro _ a W hI hun haft hi
    have f3 : a.eval (.tmp 31) = .map (some ob) := haft ⟨3, .data⟩ (by simp) rfl _ _ rfl rfl
    have f4 : a.eval (.tmp 32) = eE x := haft ⟨4, .data⟩ (by simp) rfl _ _ rfl rfl
    exact b_same hi hI rfl _ (run_lookup_op rfl f3 f4 ((look_run (MapIs.same KO5.out (hI.block _ (MapIs.lt KO5.out))) keyE Tryz.underlying89 (zero_held _) x).trans (by rw [HG5.out]; rfl))) rfl
   ·intro _ a W hI hun haft hi
    have e5 := hun 5 (by kernel_rfl)
    exact b_same hi hI rfl _ (run_fieldAddr_any rfl e5 (at_entry0 _ 0 _)) rfl
   ·intro _ a W hI hun haft hi
    have f6 := haft ⟨6, .data⟩ (by simp) rfl _ _ rfl rfl
    exact b_same hi hI rfl _ (run_loadmid_op rfl f6 (World.rangeAt_of_block (C := enA d v) (Blk.below KN5.out hI (Blk.lt KN5.out)) 0 2) Tryz.underlying58 rfl (by kernel_rfl)) rfl
   ·intro _ a W hI hun haft hi
    have e5 := hun 5 (by kernel_rfl)
    exact b_same hi hI rfl _ (run_fieldAddr_any rfl e5 (at_entry1 _ 0 _)) rfl
   ·intro _ a W hI hun haft hi
    have f8 := haft ⟨8, .data⟩ (by simp) rfl _ _ rfl rfl
    exact b_same hi hI rfl _ (run_loadmid_op rfl f8 (World.rangeAt_of_block (C := enA d v) (Blk.below KN5.out hI (Blk.lt KN5.out)) 2 3) Tryz.underlying43 rfl (by kernel_rfl)) rfl
  ·intro vals a W hI hun hsl hp
   have f5 : a.eval (.tmp 33) = .map (some n) := (hsl 5 _ _ rfl (by decide) rfl).trans (hp 5 (by decide))
   have f7 : a.eval (.tmp 35) = eD d := (hsl 7 _ _ rfl (by decide) rfl).trans (hp 7 (by decide))
   have f9 : a.eval (.tmp 37) = eV v := (hsl 9 _ _ rfl (by decide) rfl).trans (hp 9 (by decide))
   obtain ⟨w', hr, hm, hb, _, _⟩ := put_run (MapIs.same KI5.out (hI.block _ (MapIs.lt KI5.out))) keyD Tryz.underlying116 d v
   exact l_skip rfl rfl w' (run_mapUpdate_op rfl f5 f7 f9 hr) ⟨undef, rfl, fun vals' h1 _ => ⟨fun j hj => (h1 j hj).trans (hp j hj), come_turn HB.out HG.out (HI3.out.trans (hI.mono HI3.out.size)) hm hb⟩⟩
  ·rintro vals W ⟨hv, hJ⟩
   have hl0 : vals 0 = .pointer (some ⟨sb, 0, none⟩) := hv 0 (by decide)
   have hl1 : vals 1 = .pointer (some ⟨sb, 0, none⟩) := hv 1 (by decide)
   have hl2 : vals 2 = .pointer (some ⟨sb, 0, none⟩) := hv 2 (by decide)
   have hl3 : vals 3 = .map (some ob) := hv 3 (by decide)
   have hl4 : vals 4 = eE x := hv 4 (by decide)
   have hl5 : vals 5 = .map (some n) := hv 5 (by decide)
   have hl6 : vals 6 = .pointer (some ⟨q + 1, 0, none⟩) := hv 6 (by decide)
   have hl7 : vals 7 = eD d := hv 7 (by decide)
   have hl8 : vals 8 = .pointer (some ⟨q + 1, 2, none⟩) := hv 8 (by decide)
   have hl9 : vals 9 = eV v := hv 9 (by decide)
   have HJ := hid hJ
   clear hv hJ
   simp only [layN, layS, List.range, List.range.loop, if_true, Act.put, Nat.zero_add, Nat.reduceAdd, hl0, hl1, hl2, hl3, hl4, hl5, hl6, hl7, hl8, hl9]
   clear hl0 hl1 hl2 hl3 hl4 hl5 hl6 hl7 hl8 hl9
   go_wp2
   go_end0
   exact ⟨rfl, HJ.out.1, HJ.out.2⟩
theorem come_add_w (x : El) (d : Dt) (v : Va) (sb : Nat) (F : Nat → Prop) (w : World) (ob : Nat) (I : List (El × Nat)) (h : Nat → List (Dt × Va)) (hF : F sb) (hl : ∀ i, F i → i < w.heap.size) (hb : Blk w sb 91 #[.map (some ob)]) (hI : InnerIs w F ob I h) (hg : getL x I = none) : Calls Tryz.prog 53 #[.pointer (some ⟨sb, 0, none⟩), eE x, enV d v] w fun e w' => e = .returned (.tuple #[]) ∧ StoreIs w' sb (Grow F w w') (comeS x d v (mapS h I)) ∧ Out F w w' := by
 obtain ⟨Y, hY⟩ : ∃ Y, Y = (w.alloc (.cells #[.int .i64 x.k, .string x.a, .string x.b, .string x.c, .string x.d] 38)).alloc (.cells #[.int .i64 d.r, .int .i64 d.c, .int .i64 v.k, .int .i64 v.n, .string v.t] 94) := ⟨_, rfl⟩
 obtain ⟨q, hq⟩ : ∃ q, w.heap.size = q := ⟨_, rfl⟩
 have HY := hid hY
 have bY : Below w.heap.size w Y := by rw [hY]; exact ((Below.refl _ _).alloc (Nat.le_refl _) _).alloc (by simp) _
 have KE := hid (show Blk Y q 38 (elA x) by rw [hY, ← hq]; exact (Blk.new w _ _).alloc _)
 have KN := hid (show Blk Y (q + 1) 94 (enA d v) by
  rw [hY, ← hq]
  have := Blk.new (w.alloc (.cells #[.int .i64 x.k, .string x.a, .string x.b, .string x.c, .string x.d] 38)) 94 (enA d v)
  simpa [enA] using this)
 have BY := hid bY
 have HQ := hid hq
 have htn : ∀ w, (binOp .eql 89 (.map none) (.map none)).run Tryz.prog w = .ok (.bool true) w := fun w => run_eql_map_nil w _ _ _ none Tryz.underlying89
 have hts : ∀ n w, (binOp .eql 89 (.map (some n)) (.map none)).run Tryz.prog w = .ok (.bool false) w := fun n w => run_eql_map_nil w _ _ _ (some n) Tryz.underlying89
 clear hY
 obtain ⟨Z, hZ⟩ : ∃ Z, Z = Y := ⟨_, rfl⟩
 subst hZ
 have HB := hid (Base.of hF hl hb hI bY)
 clear hF hl hb hI bY hq
 have KS3 := hid HB.out.blk
 have KE3 := KE
 have KN3 := KN
 have KO3 := hid HB.out.inner.2.1
 have HG := hid hg
 have c0 : Z.cell? ⟨sb, 0, none⟩ = some (.map (some ob)) := (Blk.cell HB.out.blk 0).trans rfl
 clear hg KE KN
 unfold eE elV enV enA
 go_enter Tryz.func53, Tryz.ntmps53
 go_upto_region 1 with fail
 rw [← HY.out, HQ.out]
 go_upto_region 3 with fail
 clear c0 htn hts
 refine wp_region_any (by kernel_rfl) ?_
 refine wpAny_below (fun i uq _ => uq = ([.pointer (some ⟨sb, 0, none⟩), .pointer (some ⟨sb, 0, none⟩), .pointer (some ⟨sb, 0, none⟩), .map (some ob), eE x, .map none, .bool true] : List Value).getD i undef) _ Z (by kernel_rfl) (by kernel_rfl) (by kernel_rfl) (fun i v w w' _ h => h) ?_ ?_
 ·refine ⟨?_, ?_, ?_, ?_, ?_, ?_, ?_, trivial⟩
  ·intro a W hI hun haft hi
   have e0 := hun 0 (by kernel_rfl)
   exact b_same hi hI rfl _ (run_move_op rfl e0) rfl
  ·intro a W hI hun haft hi
   have f0 := haft ⟨0, .data⟩ (by simp) rfl _ _ rfl rfl
   exact b_same hi hI rfl _ (run_nilCheck_op rfl f0) rfl
  ·intro a W hI hun haft hi
   have f1 := haft ⟨1, .data⟩ (by simp) rfl _ _ rfl rfl
   exact b_same hi hI rfl _ (run_fieldAddr_any rfl f1 (at_store0 _ 0 _)) rfl
  ·intro a W hI hun haft hi
   have f2 : a.eval (.tmp 17) = .pointer (some ⟨sb, 0, none⟩) := haft ⟨2, .data⟩ (by simp) rfl _ _ rfl rfl
   exact b_same hi hI rfl _ (run_loadmap_op rfl f2 Tryz.underlying89 ((Blk.cell (Blk.below KS3.out hI (Blk.lt KS3.out)) 0).trans rfl)) rfl
  ·intro a W hI hun haft hi
   have e4 := hun 4 (by kernel_rfl)
   exact b_same hi hI rfl _ (run_load_op rfl e4 (Blk.below KE3.out hI (Blk.lt KE3.out)) Tryz.underlying38 rfl (by kernel_rfl)) rfl
  ·intro a W hI hun haft hi
   have f3 : a.eval (.tmp 18) = .map (some ob) := haft ⟨3, .data⟩ (by simp) rfl _ _ rfl rfl
   have f4 : a.eval (.tmp 19) = eE x := haft ⟨4, .data⟩ (by simp) rfl _ _ rfl rfl
   exact b_same hi hI rfl _ (run_lookup_op rfl f3 f4 ((look_run (MapIs.same KO3.out (hI.block _ (MapIs.lt KO3.out))) keyE Tryz.underlying89 (zero_held _) x).trans (by rw [HG.out]; rfl))) rfl
  ·intro a W hI hun haft hi
   have f5 := haft ⟨5, .data⟩ (by simp) rfl _ _ rfl rfl
   exact b_same hi hI rfl (.bool true) (run_bin_op rfl f5 rfl (guard_held _ _ _ _ _) (run_eql_held_none _)) rfl
 ·intro vals W hI hp
  have hl0 : vals 0 = .pointer (some ⟨sb, 0, none⟩) := hp 0 (by decide)
  have hl1 : vals 1 = .pointer (some ⟨sb, 0, none⟩) := hp 1 (by decide)
  have hl2 : vals 2 = .pointer (some ⟨sb, 0, none⟩) := hp 2 (by decide)
  have hl3 : vals 3 = .map (some ob) := hp 3 (by decide)
  have hl4 : vals 4 = eE x := hp 4 (by decide)
  have hl5 : vals 5 = .map none := hp 5 (by decide)
  have hl6 : vals 6 = .bool true := hp 6 (by decide)
  have HI := hid hI
  clear hp hI
  simp only [layN, layS, List.range, List.range.loop, if_true, Act.put, Nat.zero_add, Nat.reduceAdd, hl0, hl1, hl2, hl3, hl4, hl5, hl6]
  clear hl0 hl1 hl2 hl3 hl4 hl5 hl6
  have KS4 := hid (Blk.below KS3.out HI.out (Blk.lt KS3.out))
  have KE4 := hid (Blk.below KE3.out HI.out (Blk.lt KE3.out))
  have KN4 := hid (Blk.below KN3.out HI.out (Blk.lt KN3.out))
  have KO4 := hid (MapIs.same KO3.out (HI.out.block _ (MapIs.lt KO3.out)))
  have HB4 := hid (HB.out.next HI.out)
  clear HI KS3 KE3 KN3 KO3
  obtain ⟨Z4, hZ4⟩ : ∃ Z4, Z4 = W := ⟨_, rfl⟩
  subst hZ4
  go_upto_region 4 with fail
  refine wp_region_any (by kernel_rfl) ?_
  refine wpAny_last (fun i uq wq => if i = 5 then ∃ n, uq = .map (some n) ∧ Z4.heap.size ≤ n ∧ MapIs eD eV wq n [] else uq = ([.pointer (some ⟨sb, 0, none⟩), .pointer (some ⟨sb, 0, none⟩), .pointer (some ⟨sb, 0, none⟩), .map (some ob), eE x, undef, undef] : List Value).getD i undef) _ Z4 6 _ (fun vals wq => (∀ j, j < 5 → vals j = ([.pointer (some ⟨sb, 0, none⟩), .pointer (some ⟨sb, 0, none⟩), .pointer (some ⟨sb, 0, none⟩), .map (some ob), eE x, undef, undef] : List Value).getD j undef) ∧ ∃ n, vals 5 = .map (some n) ∧ Added Z4 wq ob n I x) (by kernel_rfl) rfl (by kernel_rfl) (by kernel_rfl) (by kernel_rfl) (by kernel_rfl) ?_ ?_ ?_ ?_
  ·intro i v w w' hb hp
   by_cases h5 : i = 5
   ·rw [if_pos h5] at hp ⊢
    obtain ⟨n, h1, h2, h3⟩ := hp
    exact ⟨n, h1, h2, h3.same (hb.block n h3.lt)⟩
   ·rw [if_neg h5] at hp ⊢
    exact hp
  ·refine ⟨?_, ?_, ?_, ?_, ?_, ?_, fun h => absurd h (Nat.lt_irrefl _), trivial⟩
   ·intro _ a W hI hun haft hi
    have e0 := hun 0 (by kernel_rfl)
    exact b_same hi hI rfl _ (run_move_op rfl e0) rfl
   ·intro _ a W hI hun haft hi
    have f0 := haft ⟨0, .data⟩ (by simp) rfl _ _ rfl rfl
    exact b_same hi hI rfl _ (run_nilCheck_op rfl f0) rfl
   ·intro _ a W hI hun haft hi
    have f1 := haft ⟨1, .data⟩ (by simp) rfl _ _ rfl rfl
    exact b_same hi hI rfl _ (run_fieldAddr_any rfl f1 (at_store0 _ 0 _)) rfl
   ·intro _ a W hI hun haft hi
    have f2 : a.eval (.tmp 24) = .pointer (some ⟨sb, 0, none⟩) := haft ⟨2, .data⟩ (by simp) rfl _ _ rfl rfl
    exact b_same hi hI rfl _ (run_loadmap_op rfl f2 Tryz.underlying89 ((Blk.cell (Blk.below KS4.out hI (Blk.lt KS4.out)) 0).trans rfl)) rfl
   ·intro _ a W hI hun haft hi
    have e4 := hun 4 (by kernel_rfl)
    exact b_same hi hI rfl _ (run_load_op rfl e4 (Blk.below KE4.out hI (Blk.lt KE4.out)) Tryz.underlying38 rfl (by kernel_rfl)) rfl
   ·intro _ a W hI hun haft hi
    exact b_val hi hI rfl _ _ (run_makeMap_op rfl) ((Below.refl _ _).alloc (Nat.le_refl _) _) ⟨_, rfl, Below.size hI, MapIs.made eD eV W⟩
  ·intro vals a W hI hun hsl hp
   have f3 : a.eval (.tmp 25) = .map (some ob) := (hsl 3 _ _ rfl (by decide) rfl).trans (hp 3 (by decide))
   have f4 : a.eval (.tmp 26) = eE x := (hsl 4 _ _ rfl (by decide) rfl).trans (hp 4 (by decide))
   obtain ⟨n, h5, hsz, hnew⟩ := hp 5 (by decide)
   have f5 : a.eval (.tmp 27) = .map (some n) := (hsl 5 _ _ rfl (by decide) rfl).trans h5
   obtain ⟨w', hr, hm, hb, _, _⟩ := put_run (MapIs.same KO4.out (hI.block _ (MapIs.lt KO4.out))) keyE Tryz.underlying89 x n
   have hno : n ≠ ob := fun e => by have := MapIs.lt KO4.out; omega
   refine l_skip rfl rfl w' (run_mapUpdate_op rfl f3 f4 f5 hr) ⟨undef, rfl, fun vals' h1 _ => ⟨fun j hj => (h1 j (by omega)).trans ?_, n, (h1 5 (by decide)).trans h5, ⟨hsz, hm, hnew.same (hb.block n hnew.lt (fun e => hno (Option.some.inj e))), (Out.of_below hI).trans' (Out.of_but hb rfl)⟩⟩⟩
   have := hp j (by omega)
   rwa [if_neg (by omega)] at this
  ·rintro vals W ⟨hv, n, hl5, hA⟩
   have hl0 : vals 0 = .pointer (some ⟨sb, 0, none⟩) := hv 0 (by decide)
   have hl1 : vals 1 = .pointer (some ⟨sb, 0, none⟩) := hv 1 (by decide)
   have hl2 : vals 2 = .pointer (some ⟨sb, 0, none⟩) := hv 2 (by decide)
   have hl3 : vals 3 = .map (some ob) := hv 3 (by decide)
   have hl4 : vals 4 = eE x := hv 4 (by decide)
   have HA := hid hA
   clear hv hA
   simp only [layN, layS, List.range, List.range.loop, if_true, Act.put, Nat.zero_add, Nat.reduceAdd, hl0, hl1, hl2, hl3, hl4, hl5]
   clear hl0 hl1 hl2 hl3 hl4 hl5
   have KS5 := hid (HA.out.blk KS4.out HB4.out.ne_ob.symm)
   have KE5 := hid (HA.out.blk KE4.out (HB4.out.ne_blk KE4.out))
   have KN5 := hid (HA.out.blk KN4.out (HB4.out.ne_blk KN4.out))
   have KO5 := hid HA.out.outer
   have KI5 := hid HA.out.inner
   have HG5 := hid (getL_putL_self x n I)
   clear KS4 KE4 KN4 KO4
   go_upto_region 5 with fail
   refine wp_region_any (by kernel_rfl) ?_
   refine wpAny_last (fun i uq _ => uq = ([.pointer (some ⟨sb, 0, none⟩), .pointer (some ⟨sb, 0, none⟩), .pointer (some ⟨sb, 0, none⟩), .map (some ob), eE x, .map (some n), .pointer (some ⟨q + 1, 0, none⟩), eD d, .pointer (some ⟨q + 1, 2, none⟩), eV v, undef] : List Value).getD i undef) _ W 10 _ (fun vals wq => (∀ j, j < 10 → vals j = ([.pointer (some ⟨sb, 0, none⟩), .pointer (some ⟨sb, 0, none⟩), .pointer (some ⟨sb, 0, none⟩), .map (some ob), eE x, .map (some n), .pointer (some ⟨q + 1, 0, none⟩), eD d, .pointer (some ⟨q + 1, 2, none⟩), eV v, undef] : List Value).getD j undef) ∧ (fun w' => StoreIs w' sb (Grow F w w') (comeS x d v (mapS h I)) ∧ Out F w w') wq) (by kernel_rfl) rfl (by kernel_rfl) (by kernel_rfl) (by kernel_rfl) (by kernel_rfl) (fun i v w w' _ h => h) ?_ ?_ ?_
   ·refine ⟨?_, ?_, ?_, ?_, ?_, ?_, ?_, ?_, ?_, ?_, fun h => absurd h (Nat.lt_irrefl _), trivial⟩
    ·intro _ a W hI hun haft hi
     have e0 := hun 0 (by kernel_rfl)
     exact b_same hi hI rfl _ (run_move_op rfl e0) rfl
    ·intro _ a W hI hun haft hi
     have f0 := haft ⟨0, .data⟩ (by simp) rfl _ _ rfl rfl
     exact b_same hi hI rfl _ (run_nilCheck_op rfl f0) rfl
    ·intro _ a W hI hun haft hi
     have f1 := haft ⟨1, .data⟩ (by simp) rfl _ _ rfl rfl
     exact b_same hi hI rfl _ (run_fieldAddr_any rfl f1 (at_store0 _ 0 _)) rfl
    ·intro _ a W hI hun haft hi
     have f2 : a.eval (.tmp 30) = .pointer (some ⟨sb, 0, none⟩) := haft ⟨2, .data⟩ (by simp) rfl _ _ rfl rfl
     exact b_same hi hI rfl _ (run_loadmap_op rfl f2 Tryz.underlying89 ((Blk.cell (Blk.below KS5.out hI (Blk.lt KS5.out)) 0).trans rfl)) rfl
    ·intro _ a W hI hun haft hi
     have e4 := hun 4 (by kernel_rfl)
     exact b_same hi hI rfl _ (run_load_op rfl e4 (Blk.below KE5.out hI (Blk.lt KE5.out)) Tryz.underlying38 rfl (by kernel_rfl)) rfl
    ·intro _ a W hI hun haft hi
     have f3 : a.eval (.tmp 31) = .map (some ob) := haft ⟨3, .data⟩ (by simp) rfl _ _ rfl rfl
     have f4 : a.eval (.tmp 32) = eE x := haft ⟨4, .data⟩ (by simp) rfl _ _ rfl rfl
     exact b_same hi hI rfl _ (run_lookup_op rfl f3 f4 ((look_run (MapIs.same KO5.out (hI.block _ (MapIs.lt KO5.out))) keyE Tryz.underlying89 (zero_held _) x).trans (by rw [HG5.out]; rfl))) rfl
    ·intro _ a W hI hun haft hi
     have e5 := hun 5 (by kernel_rfl)
     exact b_same hi hI rfl _ (run_fieldAddr_any rfl e5 (at_entry0 _ 0 _)) rfl
    ·intro _ a W hI hun haft hi
     have f6 := haft ⟨6, .data⟩ (by simp) rfl _ _ rfl rfl
     exact b_same hi hI rfl _ (run_loadmid_op rfl f6 (World.rangeAt_of_block (C := enA d v) (Blk.below KN5.out hI (Blk.lt KN5.out)) 0 2) Tryz.underlying58 rfl (by kernel_rfl)) rfl
    ·intro _ a W hI hun haft hi
     have e5 := hun 5 (by kernel_rfl)
     exact b_same hi hI rfl _ (run_fieldAddr_any rfl e5 (at_entry1 _ 0 _)) rfl
    ·intro _ a W hI hun haft hi
     have f8 := haft ⟨8, .data⟩ (by simp) rfl _ _ rfl rfl
     exact b_same hi hI rfl _ (run_loadmid_op rfl f8 (World.rangeAt_of_block (C := enA d v) (Blk.below KN5.out hI (Blk.lt KN5.out)) 2 3) Tryz.underlying43 rfl (by kernel_rfl)) rfl
   ·intro vals a W hI hun hsl hp
    have f5 : a.eval (.tmp 33) = .map (some n) := (hsl 5 _ _ rfl (by decide) rfl).trans (hp 5 (by decide))
    have f7 : a.eval (.tmp 35) = eD d := (hsl 7 _ _ rfl (by decide) rfl).trans (hp 7 (by decide))
    have f9 : a.eval (.tmp 37) = eV v := (hsl 9 _ _ rfl (by decide) rfl).trans (hp 9 (by decide))
    obtain ⟨w', hr, hm, hb, _, _⟩ := put_run (MapIs.same KI5.out (hI.block _ (MapIs.lt KI5.out))) keyD Tryz.underlying116 d v
    exact l_skip rfl rfl w' (run_mapUpdate_op rfl f5 f7 f9 hr) ⟨undef, rfl, fun vals' h1 _ => ⟨fun j hj => (h1 j hj).trans (hp j hj), come_add HB4.out HG.out HA.out hI hm hb⟩⟩
   ·rintro vals W ⟨hv, hJ⟩
    have hl0 : vals 0 = .pointer (some ⟨sb, 0, none⟩) := hv 0 (by decide)
    have hl1 : vals 1 = .pointer (some ⟨sb, 0, none⟩) := hv 1 (by decide)
    have hl2 : vals 2 = .pointer (some ⟨sb, 0, none⟩) := hv 2 (by decide)
    have hl3 : vals 3 = .map (some ob) := hv 3 (by decide)
    have hl4 : vals 4 = eE x := hv 4 (by decide)
    have hl5 : vals 5 = .map (some n) := hv 5 (by decide)
    have hl6 : vals 6 = .pointer (some ⟨q + 1, 0, none⟩) := hv 6 (by decide)
    have hl7 : vals 7 = eD d := hv 7 (by decide)
    have hl8 : vals 8 = .pointer (some ⟨q + 1, 2, none⟩) := hv 8 (by decide)
    have hl9 : vals 9 = eV v := hv 9 (by decide)
    have HJ := hid hJ
    clear hv hJ
    simp only [layN, layS, List.range, List.range.loop, if_true, Act.put, Nat.zero_add, Nat.reduceAdd, hl0, hl1, hl2, hl3, hl4, hl5, hl6, hl7, hl8, hl9]
    clear hl0 hl1 hl2 hl3 hl4 hl5 hl6 hl7 hl8 hl9
    go_wp2
    go_end0
    exact ⟨rfl, HJ.out.1, HJ.out.2⟩
theorem come_made_w (x : El) (d : Dt) (v : Va) (sb : Nat) (F : Nat → Prop) (w : World) (hF : F sb) (hl : ∀ i, F i → i < w.heap.size) (hb : Blk w sb 91 #[.map none]) : Calls Tryz.prog 53 #[.pointer (some ⟨sb, 0, none⟩), eE x, enV d v] w fun e w' => e = .returned (.tuple #[]) ∧ StoreIs w' sb (Grow F w w') (comeS x d v []) ∧ Out F w w' := by
 obtain ⟨Y, hY⟩ : ∃ Y, Y = (w.alloc (.cells #[.int .i64 x.k, .string x.a, .string x.b, .string x.c, .string x.d] 38)).alloc (.cells #[.int .i64 d.r, .int .i64 d.c, .int .i64 v.k, .int .i64 v.n, .string v.t] 94) := ⟨_, rfl⟩
 obtain ⟨q, hq⟩ : ∃ q, w.heap.size = q := ⟨_, rfl⟩
 have HY := hid hY
 have bY : Below w.heap.size w Y := by rw [hY]; exact ((Below.refl _ _).alloc (Nat.le_refl _) _).alloc (by simp) _
 have KE := hid (show Blk Y q 38 (elA x) by rw [hY, ← hq]; exact (Blk.new w _ _).alloc _)
 have KN := hid (show Blk Y (q + 1) 94 (enA d v) by
  rw [hY, ← hq]
  have := Blk.new (w.alloc (.cells #[.int .i64 x.k, .string x.a, .string x.b, .string x.c, .string x.d] 38)) 94 (enA d v)
  simpa [enA] using this)
 have BY := hid bY
 have HQ := hid hq
 have htn : ∀ w, (binOp .eql 89 (.map none) (.map none)).run Tryz.prog w = .ok (.bool true) w := fun w => run_eql_map_nil w _ _ _ none Tryz.underlying89
 have hts : ∀ n w, (binOp .eql 89 (.map (some n)) (.map none)).run Tryz.prog w = .ok (.bool false) w := fun n w => run_eql_map_nil w _ _ _ (some n) Tryz.underlying89
 clear hY
 have hbY : Blk Y sb 91 #[.map none] := (bY.block _ (hl _ hF)).trans hb
 obtain ⟨ob, hob⟩ : ∃ ob, Y.heap.size = ob := ⟨_, rfl⟩
 have HO := hid hob
 obtain ⟨Z, hZ⟩ : ∃ Z, Z = (Y.alloc (.map #[] 0)).setCell ⟨sb, 0, none⟩ (.map (some ob)) := ⟨_, rfl⟩
 have HB := hid (show Base w Z F (fun i => F i ∨ i = ob) sb ob [] (fun _ => []) by rw [hZ, ← hob]; exact Base.made hF hl hb bY)
 have hqs : q ≠ sb ∧ q + 1 ≠ sb := by have := hl _ hF; omega
 have KE3 := hid (show Blk Z q 38 (elA x) by rw [hZ]; exact (KE.out.alloc _).far hqs.1 _)
 have KN3 := hid (show Blk Z (q + 1) 94 (enA d v) by rw [hZ]; exact (KN.out.alloc _).far hqs.2 _)
 have KS3 := hid HB.out.blk
 have KO3 := hid HB.out.inner.2.1
 have c0 : Y.cell? ⟨sb, 0, none⟩ = some (.map none) := (Blk.cell hbY 0).trans rfl
 have c1 : (Y.alloc (.map #[] 0)).cell? ⟨sb, 0, none⟩ = some (.map none) := (Blk.cell (hbY.alloc (.map #[] 0)) 0).trans rfl
 have f1 : (Y.alloc (.map #[] 0)).frozen? ⟨sb, 0, none⟩ = false := Blk.free (hbY.alloc (.map #[] 0)) 0
 have HZ := hid hZ
 obtain ⟨I, hI⟩ : ∃ I : List (El × Nat), I = [] := ⟨_, rfl⟩
 have HG := hid (show getL x I = none by rw [hI]; rfl)
 have HII := hid hI
 rw [← hI] at HB KO3
 have hmm := @run_makeMap Tryz.prog
 rw [show ([] : List (El × List (Dt × Va))) = mapS (fun _ => []) I by rw [hI]; rfl]
 clear hF hl hb bY hq hbY hob hZ hqs KE KN hI
 unfold eE elV enV enA
 go_enter Tryz.func53, Tryz.ntmps53
 go_upto_region 1 with fail
 rw [← HY.out, HQ.out]
 go_upto_region 3 with fail
 rw [HO.out, ← HZ.out]
 clear c0 c1 f1 hmm htn hts
 refine wp_region_any (by kernel_rfl) ?_
 refine wpAny_below (fun i uq _ => uq = ([.pointer (some ⟨sb, 0, none⟩), .pointer (some ⟨sb, 0, none⟩), .pointer (some ⟨sb, 0, none⟩), .map (some ob), eE x, .map none, .bool true] : List Value).getD i undef) _ Z (by kernel_rfl) (by kernel_rfl) (by kernel_rfl) (fun i v w w' _ h => h) ?_ ?_
 ·refine ⟨?_, ?_, ?_, ?_, ?_, ?_, ?_, trivial⟩
  ·intro a W hI hun haft hi
   have e0 := hun 0 (by kernel_rfl)
   exact b_same hi hI rfl _ (run_move_op rfl e0) rfl
  ·intro a W hI hun haft hi
   have f0 := haft ⟨0, .data⟩ (by simp) rfl _ _ rfl rfl
   exact b_same hi hI rfl _ (run_nilCheck_op rfl f0) rfl
  ·intro a W hI hun haft hi
   have f1 := haft ⟨1, .data⟩ (by simp) rfl _ _ rfl rfl
   exact b_same hi hI rfl _ (run_fieldAddr_any rfl f1 (at_store0 _ 0 _)) rfl
  ·intro a W hI hun haft hi
   have f2 : a.eval (.tmp 17) = .pointer (some ⟨sb, 0, none⟩) := haft ⟨2, .data⟩ (by simp) rfl _ _ rfl rfl
   exact b_same hi hI rfl _ (run_loadmap_op rfl f2 Tryz.underlying89 ((Blk.cell (Blk.below KS3.out hI (Blk.lt KS3.out)) 0).trans rfl)) rfl
  ·intro a W hI hun haft hi
   have e4 := hun 4 (by kernel_rfl)
   exact b_same hi hI rfl _ (run_load_op rfl e4 (Blk.below KE3.out hI (Blk.lt KE3.out)) Tryz.underlying38 rfl (by kernel_rfl)) rfl
  ·intro a W hI hun haft hi
   have f3 : a.eval (.tmp 18) = .map (some ob) := haft ⟨3, .data⟩ (by simp) rfl _ _ rfl rfl
   have f4 : a.eval (.tmp 19) = eE x := haft ⟨4, .data⟩ (by simp) rfl _ _ rfl rfl
   exact b_same hi hI rfl _ (run_lookup_op rfl f3 f4 ((look_run (MapIs.same KO3.out (hI.block _ (MapIs.lt KO3.out))) keyE Tryz.underlying89 (zero_held _) x).trans (by rw [HG.out]; rfl))) rfl
  ·intro a W hI hun haft hi
   have f5 := haft ⟨5, .data⟩ (by simp) rfl _ _ rfl rfl
   exact b_same hi hI rfl (.bool true) (run_bin_op rfl f5 rfl (guard_held _ _ _ _ _) (run_eql_held_none _)) rfl
 ·intro vals W hI hp
  have hl0 : vals 0 = .pointer (some ⟨sb, 0, none⟩) := hp 0 (by decide)
  have hl1 : vals 1 = .pointer (some ⟨sb, 0, none⟩) := hp 1 (by decide)
  have hl2 : vals 2 = .pointer (some ⟨sb, 0, none⟩) := hp 2 (by decide)
  have hl3 : vals 3 = .map (some ob) := hp 3 (by decide)
  have hl4 : vals 4 = eE x := hp 4 (by decide)
  have hl5 : vals 5 = .map none := hp 5 (by decide)
  have hl6 : vals 6 = .bool true := hp 6 (by decide)
  have HI := hid hI
  clear hp hI
  simp only [layN, layS, List.range, List.range.loop, if_true, Act.put, Nat.zero_add, Nat.reduceAdd, hl0, hl1, hl2, hl3, hl4, hl5, hl6]
  clear hl0 hl1 hl2 hl3 hl4 hl5 hl6
  have KS4 := hid (Blk.below KS3.out HI.out (Blk.lt KS3.out))
  have KE4 := hid (Blk.below KE3.out HI.out (Blk.lt KE3.out))
  have KN4 := hid (Blk.below KN3.out HI.out (Blk.lt KN3.out))
  have KO4 := hid (MapIs.same KO3.out (HI.out.block _ (MapIs.lt KO3.out)))
  have HB4 := hid (HB.out.next HI.out)
  clear HI KS3 KE3 KN3 KO3
  obtain ⟨Z4, hZ4⟩ : ∃ Z4, Z4 = W := ⟨_, rfl⟩
  subst hZ4
  go_upto_region 4 with fail
  refine wp_region_any (by kernel_rfl) ?_
  refine wpAny_last (fun i uq wq => if i = 5 then ∃ n, uq = .map (some n) ∧ Z4.heap.size ≤ n ∧ MapIs eD eV wq n [] else uq = ([.pointer (some ⟨sb, 0, none⟩), .pointer (some ⟨sb, 0, none⟩), .pointer (some ⟨sb, 0, none⟩), .map (some ob), eE x, undef, undef] : List Value).getD i undef) _ Z4 6 _ (fun vals wq => (∀ j, j < 5 → vals j = ([.pointer (some ⟨sb, 0, none⟩), .pointer (some ⟨sb, 0, none⟩), .pointer (some ⟨sb, 0, none⟩), .map (some ob), eE x, undef, undef] : List Value).getD j undef) ∧ ∃ n, vals 5 = .map (some n) ∧ Added Z4 wq ob n I x) (by kernel_rfl) rfl (by kernel_rfl) (by kernel_rfl) (by kernel_rfl) (by kernel_rfl) ?_ ?_ ?_ ?_
  ·intro i v w w' hb hp
   by_cases h5 : i = 5
   ·rw [if_pos h5] at hp ⊢
    obtain ⟨n, h1, h2, h3⟩ := hp
    exact ⟨n, h1, h2, h3.same (hb.block n h3.lt)⟩
   ·rw [if_neg h5] at hp ⊢
    exact hp
  ·refine ⟨?_, ?_, ?_, ?_, ?_, ?_, fun h => absurd h (Nat.lt_irrefl _), trivial⟩
   ·intro _ a W hI hun haft hi
    have e0 := hun 0 (by kernel_rfl)
    exact b_same hi hI rfl _ (run_move_op rfl e0) rfl
   ·intro _ a W hI hun haft hi
    have f0 := haft ⟨0, .data⟩ (by simp) rfl _ _ rfl rfl
    exact b_same hi hI rfl _ (run_nilCheck_op rfl f0) rfl
   ·intro _ a W hI hun haft hi
    have f1 := haft ⟨1, .data⟩ (by simp) rfl _ _ rfl rfl
    exact b_same hi hI rfl _ (run_fieldAddr_any rfl f1 (at_store0 _ 0 _)) rfl
   ·intro _ a W hI hun haft hi
    have f2 : a.eval (.tmp 24) = .pointer (some ⟨sb, 0, none⟩) := haft ⟨2, .data⟩ (by simp) rfl _ _ rfl rfl
    exact b_same hi hI rfl _ (run_loadmap_op rfl f2 Tryz.underlying89 ((Blk.cell (Blk.below KS4.out hI (Blk.lt KS4.out)) 0).trans rfl)) rfl
   ·intro _ a W hI hun haft hi
    have e4 := hun 4 (by kernel_rfl)
    exact b_same hi hI rfl _ (run_load_op rfl e4 (Blk.below KE4.out hI (Blk.lt KE4.out)) Tryz.underlying38 rfl (by kernel_rfl)) rfl
   ·intro _ a W hI hun haft hi
    exact b_val hi hI rfl _ _ (run_makeMap_op rfl) ((Below.refl _ _).alloc (Nat.le_refl _) _) ⟨_, rfl, Below.size hI, MapIs.made eD eV W⟩
  ·intro vals a W hI hun hsl hp
   have f3 : a.eval (.tmp 25) = .map (some ob) := (hsl 3 _ _ rfl (by decide) rfl).trans (hp 3 (by decide))
   have f4 : a.eval (.tmp 26) = eE x := (hsl 4 _ _ rfl (by decide) rfl).trans (hp 4 (by decide))
   obtain ⟨n, h5, hsz, hnew⟩ := hp 5 (by decide)
   have f5 : a.eval (.tmp 27) = .map (some n) := (hsl 5 _ _ rfl (by decide) rfl).trans h5
   obtain ⟨w', hr, hm, hb, _, _⟩ := put_run (MapIs.same KO4.out (hI.block _ (MapIs.lt KO4.out))) keyE Tryz.underlying89 x n
   have hno : n ≠ ob := fun e => by have := MapIs.lt KO4.out; omega
   refine l_skip rfl rfl w' (run_mapUpdate_op rfl f3 f4 f5 hr) ⟨undef, rfl, fun vals' h1 _ => ⟨fun j hj => (h1 j (by omega)).trans ?_, n, (h1 5 (by decide)).trans h5, ⟨hsz, hm, hnew.same (hb.block n hnew.lt (fun e => hno (Option.some.inj e))), (Out.of_below hI).trans' (Out.of_but hb rfl)⟩⟩⟩
   have := hp j (by omega)
   rwa [if_neg (by omega)] at this
  ·rintro vals W ⟨hv, n, hl5, hA⟩
   have hl0 : vals 0 = .pointer (some ⟨sb, 0, none⟩) := hv 0 (by decide)
   have hl1 : vals 1 = .pointer (some ⟨sb, 0, none⟩) := hv 1 (by decide)
   have hl2 : vals 2 = .pointer (some ⟨sb, 0, none⟩) := hv 2 (by decide)
   have hl3 : vals 3 = .map (some ob) := hv 3 (by decide)
   have hl4 : vals 4 = eE x := hv 4 (by decide)
   have HA := hid hA
   clear hv hA
   simp only [layN, layS, List.range, List.range.loop, if_true, Act.put, Nat.zero_add, Nat.reduceAdd, hl0, hl1, hl2, hl3, hl4, hl5]
   clear hl0 hl1 hl2 hl3 hl4 hl5
   have KS5 := hid (HA.out.blk KS4.out HB4.out.ne_ob.symm)
   have KE5 := hid (HA.out.blk KE4.out (HB4.out.ne_blk KE4.out))
   have KN5 := hid (HA.out.blk KN4.out (HB4.out.ne_blk KN4.out))
   have KO5 := hid HA.out.outer
   have KI5 := hid HA.out.inner
   have HG5 := hid (getL_putL_self x n I)
   clear KS4 KE4 KN4 KO4
   go_upto_region 5 with fail
   refine wp_region_any (by kernel_rfl) ?_
   refine wpAny_last (fun i uq _ => uq = ([.pointer (some ⟨sb, 0, none⟩), .pointer (some ⟨sb, 0, none⟩), .pointer (some ⟨sb, 0, none⟩), .map (some ob), eE x, .map (some n), .pointer (some ⟨q + 1, 0, none⟩), eD d, .pointer (some ⟨q + 1, 2, none⟩), eV v, undef] : List Value).getD i undef) _ W 10 _ (fun vals wq => (∀ j, j < 10 → vals j = ([.pointer (some ⟨sb, 0, none⟩), .pointer (some ⟨sb, 0, none⟩), .pointer (some ⟨sb, 0, none⟩), .map (some ob), eE x, .map (some n), .pointer (some ⟨q + 1, 0, none⟩), eD d, .pointer (some ⟨q + 1, 2, none⟩), eV v, undef] : List Value).getD j undef) ∧ (fun w' => StoreIs w' sb (Grow F w w') (comeS x d v (mapS (fun _ => []) I)) ∧ Out F w w') wq) (by kernel_rfl) rfl (by kernel_rfl) (by kernel_rfl) (by kernel_rfl) (by kernel_rfl) (fun i v w w' _ h => h) ?_ ?_ ?_
   ·refine ⟨?_, ?_, ?_, ?_, ?_, ?_, ?_, ?_, ?_, ?_, fun h => absurd h (Nat.lt_irrefl _), trivial⟩
    ·intro _ a W hI hun haft hi
     have e0 := hun 0 (by kernel_rfl)
     exact b_same hi hI rfl _ (run_move_op rfl e0) rfl
    ·intro _ a W hI hun haft hi
     have f0 := haft ⟨0, .data⟩ (by simp) rfl _ _ rfl rfl
     exact b_same hi hI rfl _ (run_nilCheck_op rfl f0) rfl
    ·intro _ a W hI hun haft hi
     have f1 := haft ⟨1, .data⟩ (by simp) rfl _ _ rfl rfl
     exact b_same hi hI rfl _ (run_fieldAddr_any rfl f1 (at_store0 _ 0 _)) rfl
    ·intro _ a W hI hun haft hi
     have f2 : a.eval (.tmp 30) = .pointer (some ⟨sb, 0, none⟩) := haft ⟨2, .data⟩ (by simp) rfl _ _ rfl rfl
     exact b_same hi hI rfl _ (run_loadmap_op rfl f2 Tryz.underlying89 ((Blk.cell (Blk.below KS5.out hI (Blk.lt KS5.out)) 0).trans rfl)) rfl
    ·intro _ a W hI hun haft hi
     have e4 := hun 4 (by kernel_rfl)
     exact b_same hi hI rfl _ (run_load_op rfl e4 (Blk.below KE5.out hI (Blk.lt KE5.out)) Tryz.underlying38 rfl (by kernel_rfl)) rfl
    ·intro _ a W hI hun haft hi
     have f3 : a.eval (.tmp 31) = .map (some ob) := haft ⟨3, .data⟩ (by simp) rfl _ _ rfl rfl
     have f4 : a.eval (.tmp 32) = eE x := haft ⟨4, .data⟩ (by simp) rfl _ _ rfl rfl
     exact b_same hi hI rfl _ (run_lookup_op rfl f3 f4 ((look_run (MapIs.same KO5.out (hI.block _ (MapIs.lt KO5.out))) keyE Tryz.underlying89 (zero_held _) x).trans (by rw [HG5.out]; rfl))) rfl
    ·intro _ a W hI hun haft hi
     have e5 := hun 5 (by kernel_rfl)
     exact b_same hi hI rfl _ (run_fieldAddr_any rfl e5 (at_entry0 _ 0 _)) rfl
    ·intro _ a W hI hun haft hi
     have f6 := haft ⟨6, .data⟩ (by simp) rfl _ _ rfl rfl
     exact b_same hi hI rfl _ (run_loadmid_op rfl f6 (World.rangeAt_of_block (C := enA d v) (Blk.below KN5.out hI (Blk.lt KN5.out)) 0 2) Tryz.underlying58 rfl (by kernel_rfl)) rfl
    ·intro _ a W hI hun haft hi
     have e5 := hun 5 (by kernel_rfl)
     exact b_same hi hI rfl _ (run_fieldAddr_any rfl e5 (at_entry1 _ 0 _)) rfl
    ·intro _ a W hI hun haft hi
     have f8 := haft ⟨8, .data⟩ (by simp) rfl _ _ rfl rfl
     exact b_same hi hI rfl _ (run_loadmid_op rfl f8 (World.rangeAt_of_block (C := enA d v) (Blk.below KN5.out hI (Blk.lt KN5.out)) 2 3) Tryz.underlying43 rfl (by kernel_rfl)) rfl
   ·intro vals a W hI hun hsl hp
    have f5 : a.eval (.tmp 33) = .map (some n) := (hsl 5 _ _ rfl (by decide) rfl).trans (hp 5 (by decide))
    have f7 : a.eval (.tmp 35) = eD d := (hsl 7 _ _ rfl (by decide) rfl).trans (hp 7 (by decide))
    have f9 : a.eval (.tmp 37) = eV v := (hsl 9 _ _ rfl (by decide) rfl).trans (hp 9 (by decide))
    obtain ⟨w', hr, hm, hb, _, _⟩ := put_run (MapIs.same KI5.out (hI.block _ (MapIs.lt KI5.out))) keyD Tryz.underlying116 d v
    exact l_skip rfl rfl w' (run_mapUpdate_op rfl f5 f7 f9 hr) ⟨undef, rfl, fun vals' h1 _ => ⟨fun j hj => (h1 j hj).trans (hp j hj), come_add HB4.out HG.out HA.out hI hm hb⟩⟩
   ·rintro vals W ⟨hv, hJ⟩
    have hl0 : vals 0 = .pointer (some ⟨sb, 0, none⟩) := hv 0 (by decide)
    have hl1 : vals 1 = .pointer (some ⟨sb, 0, none⟩) := hv 1 (by decide)
    have hl2 : vals 2 = .pointer (some ⟨sb, 0, none⟩) := hv 2 (by decide)
    have hl3 : vals 3 = .map (some ob) := hv 3 (by decide)
    have hl4 : vals 4 = eE x := hv 4 (by decide)
    have hl5 : vals 5 = .map (some n) := hv 5 (by decide)
    have hl6 : vals 6 = .pointer (some ⟨q + 1, 0, none⟩) := hv 6 (by decide)
    have hl7 : vals 7 = eD d := hv 7 (by decide)
    have hl8 : vals 8 = .pointer (some ⟨q + 1, 2, none⟩) := hv 8 (by decide)
    have hl9 : vals 9 = eV v := hv 9 (by decide)
    have HJ := hid hJ
    clear hv hJ
    simp only [layN, layS, List.range, List.range.loop, if_true, Act.put, Nat.zero_add, Nat.reduceAdd, hl0, hl1, hl2, hl3, hl4, hl5, hl6, hl7, hl8, hl9]
    clear hl0 hl1 hl2 hl3 hl4 hl5 hl6 hl7 hl8 hl9
    go_wp2
    go_end0
    exact ⟨rfl, HJ.out.1, HJ.out.2⟩
theorem come_any (x : El) (d : Dt) (v : Va) (sb : Nat) (F : Nat → Prop) (σ : List (El × List (Dt × Va))) (w : World) (hS : StoreIs w sb F σ) : Calls Tryz.prog 53 #[.pointer (some ⟨sb, 0, none⟩), eE x, enV d v] w fun e w' => e = .returned (.tuple #[]) ∧ StoreIs w' sb (Grow F w w') (comeS x d v σ) ∧ Out F w w' := by
 obtain ⟨h1, h2, h3⟩ := hS
 rcases h3 with ⟨hb, rfl⟩ | ⟨ob, I, h, hb, hI, rfl⟩
 ·exact come_made_w x d v sb F w h1 h2 hb
 ·cases hg : getL x I with
  | none => exact come_add_w x d v sb F w ob I h h1 h2 hb hI hg
  | some n => exact come_turn_w x d v sb F w ob n I h h1 h2 hb hI hg
section
variable {P : Program} {α β : Type} {eK : α → Value} {eV : β → Value} (w : World) {ops : Array Oper} {rest : List Oper} {o : Oper} {a : Act} {Q : Exit → Act → World → Prop}
theorem wpList_range_is (hg : o.guard = none) (m : Operand) (t k e : TypeId) (hop : o.op = Op.range t m) (ht : P.underlying t = some (.map k e)) (b : Nat) (L : List (α × β)) (hm : a.eval m = .map (some b)) (h : MapIs eK eV w b L)
  (hK : ∀ w', Ranging eK eV w' b w.heap.size L L → (∃ o, w' = w.alloc o) → wpList P ops Q rest (a.put o.dst (.pointer (some ⟨w.heap.size, 0, none⟩))) w') : wpList P ops Q (o :: rest) a w := by
 refine wpList_plain hg fun K' hK' => ?_
 obtain ⟨w', hrun, r1, r2⟩ := range_run h ht
 unfold Oper.wp
 simp [execOp, hop, hm, hrun, Result.andThen]
 exact hK' _ _ (hK w' r1 r2)
theorem wpList_next_is (hg : o.guard = none) (it : Operand) (hop : o.op = Op.next it false) (b r : Nat) (L R : List (α × β)) (hit : a.eval it = .pointer (some ⟨r, 0, none⟩)) (h : Ranging eK eV w b r L R)
  (hDone : R = [] → wpList P ops Q rest (a.put o.dst (.tuple #[.bool false])) w)
  (hMore : ∀ (p : α × β) (R' : List (α × β)) (w' : World), R.Perm (p :: R') → Ranging eK eV w' b r L R' → But r w w' → w'.heap.size = w.heap.size → (Instr.entry (.pointer (some ⟨r, 0, none⟩))).run P w' = .ok (.tuple #[eK p.1, eV p.2]) w' →
   wpList P ops Q rest (a.put o.dst (.tuple #[.bool true, eK p.1, eV p.2])) w') : wpList P ops Q (o :: rest) a w := by
 refine wpList_plain hg fun K' hK' => ?_
 unfold Oper.wp
 rcases next_run (P := P) h o.type with ⟨h0, hrun⟩ | ⟨p, R', w', hp, hrun, hrg, hb, hs, hen⟩
 ·simp [execOp, hop, hit, hrun, Result.andThen]
  exact hK' _ _ (hDone h0)
 ·simp [execOp, hop, hit, hrun, Result.andThen]
  exact hK' _ _ (hMore p R' w' hp hrg hb hs hen)
theorem wpList_delete_is [DecidableEq α] (hg : o.guard = none) (m x : Operand) (t k e : TypeId) (hop : o.op = Op.call { callee := Callee.builtin Builtin.delete, args := #[m, x], argTypes := #[t, k] }) (K : KeyIs P k eK) (ht : P.underlying t = some (.map k e)) (b r : Nat) (L R : List (α × β)) (y : α)
  (hm : a.eval m = .map (some b)) (h : Ranging eK eV w b r L R) (hx : a.eval x = eK y)
  (hK : ∀ w', Ranging eK eV w' b r (delL y L) (delL y R) → But b w w' → w'.heap.size = w.heap.size → wpList P ops Q rest (a.put o.dst (.tuple #[])) w') : wpList P ops Q (o :: rest) a w := by
 refine wpList_plain hg fun K' hK' => ?_
 obtain ⟨w', hrun, r1, r2, r3⟩ := del_range_run (ty := o.type) h K ht y
 unfold Oper.wp
 simp [execOp, hop, resolve, invoke, builtin, hm, hx, hrun, Result.andThen]
 exact hK' _ _ (hK w' r1 r2 r3)
end
section
variable {α β : Type} {eK : α → Value} {eV : β → Value} {w w' : World} {b r : Nat} {L R R' : List (α × β)} {p : α × β}
theorem Ranging.left_eq (h : Ranging eK eV w b r L R) : w.rangeLeft b r = R.length := by
 obtain ⟨es, clock, since, seen, c0, hb, _, _, hr, _, _, _, hR⟩ := h
 have := congrArg List.length hR
 simp only [World.rangeLeft, hb, hr]
 simpa using this
def keepS [DecidableEq α] (kn : α → Bool) (R L : List (α × β)) : List (α × β) := L.filter fun q => decide (q.1 ∈ keysL R) || !kn q.1
theorem keepS_start [DecidableEq α] (kn : α → Bool) (L : List (α × β)) : keepS kn L L = L :=
 List.filter_eq_self.2 fun q hq => by
  have : q.1 ∈ keysL L := List.mem_map.2 ⟨q, hq, rfl⟩
  simp [this]
theorem keepS_end [DecidableEq α] (kn : α → Bool) (L : List (α × β)) : keepS kn [] L = L.filter fun q => !kn q.1 := by simp [keepS, keysL]
theorem keys_perm (hp : R.Perm (p :: R')) : (keysL R).Perm (p.1 :: keysL R') := hp.map Prod.fst
theorem keepS_stays [DecidableEq α] {kn : α → Bool} (hp : R.Perm (p :: R')) (hk : kn p.1 = false) : keepS kn R L = keepS kn R' L := by
 refine List.filter_congr fun q _ => ?_
 have h1 : q.1 ∈ keysL R ↔ q.1 = p.1 ∨ q.1 ∈ keysL R' := by rw [(keys_perm hp).mem_iff, List.mem_cons]
 by_cases hq : q.1 = p.1
 ·rw [hq] at h1 ⊢
  simp [h1.2 (Or.inl rfl), hk]
 ·have : q.1 ∈ keysL R ↔ q.1 ∈ keysL R' := by rw [h1]; exact ⟨fun h => h.resolve_left hq, Or.inr⟩
  simp [this]
theorem keepS_goes [DecidableEq α] {kn : α → Bool} (hn : (keysL R).Nodup) (hp : R.Perm (p :: R')) (hk : kn p.1 = true) : delL p.1 (keepS kn R L) = keepS kn R' L := by
 have hn' := (keys_perm hp).nodup hn
 rw [List.nodup_cons] at hn'
 unfold delL keepS
 rw [List.filter_filter]
 refine List.filter_congr fun q _ => ?_
 have h1 : q.1 ∈ keysL R ↔ q.1 = p.1 ∨ q.1 ∈ keysL R' := by rw [(keys_perm hp).mem_iff, List.mem_cons]
 by_cases hq : q.1 = p.1
 ·rw [hq]
  simp [hk, hn'.1]
 ·have : q.1 ∈ keysL R ↔ q.1 ∈ keysL R' := by rw [h1]; exact ⟨fun h => h.resolve_left hq, Or.inr⟩
  simp [this, hq]
theorem delL_other [DecidableEq α] (hn : (keysL R).Nodup) (hp : R.Perm (p :: R')) : delL p.1 R' = R' := by
 have hn' := (keys_perm hp).nodup hn
 rw [List.nodup_cons] at hn'
 exact List.filter_eq_self.2 fun q hq => by
  simp only [ne_eq, decide_eq_true_eq]
  exact fun e => hn'.1 (by rw [← e]; exact List.mem_map.2 ⟨q, hq, rfl⟩)
theorem run_next_nil_at {P : Program} (w : World) (ty : TypeId) (r a b : Nat) (s : Array Nat) (hr : w.heap[r]? = some (.mapIter none a s b)) : (Instr.next (.pointer (some ⟨r, 0, none⟩)) false ty).run P w = .ok (.tuple #[.bool false]) w := by
 simp only [Instr.next, getObj, Sem.run_bind, Sem.run, hr, Result.andThen]
 rfl
end
open Go.RowKit
def knowsB (f : Nat → Int) (r c : Int) : Bool := dotB r c && decide (c ≤ f r.toNat)
theorem knows_any (f : Nat → Int) (r c : Int) (w : World) : Calls Tryz.prog 69 #[.agg (vA f), dv r c] w fun e w' => e = .returned (.bool (knowsB f r c)) ∧ Below w.heap.size w w' := by
 obtain ⟨X, hX⟩ : ∃ X, X = (w.alloc (.cells (vA f) 26)).alloc (.cells #[.int .i64 r, .int .i64 c] 58) := ⟨_, rfl⟩
 have hv : VB X w.heap.size f := by rw [hX]; exact (VB.new_ f rfl).alloc_ _
 have hd : Blk X (w.heap.size + 1) 58 #[.int .i64 r, .int .i64 c] := by
  rw [hX]
  have := Blk.new (w.alloc (.cells (vA f) 26)) 58 #[.int .i64 r, .int .i64 c]
  simpa using this
 have hb : Below w.heap.size w X := by rw [hX]; exact ((Below.refl _ _).alloc (Nat.le_refl _) _).alloc (by simp) _
 have HX := hid hX
 have HV := hid hv
 have HD := hid hd
 have HB := hid hb
 clear hX hv hd hb
 unfold dv
 cases hdot : dotB r c
 ·have HDot := hid hdot
  clear hdot
  go_enter Tryz.func69, Tryz.ntmps69
  go_upto_region 1 with fail
  rw [← HX.out]
  refine wp_region_any (by kernel_rfl) ?_
  refine wpAny_below (fun i v _ => v = ([dv r c, .bool false, .bool false, undef, undef, undef, undef, undef, undef, undef, .bool false, .bool false] : List Value).getD i undef) _ X (by kernel_rfl) (by kernel_rfl) (by kernel_rfl) (fun i v w w' _ h => h) ?_ ?_
  ·refine ⟨?_, ?_, ?_, ?_, ?_, ?_, ?_, ?_, ?_, ?_, ?_, ?_, trivial⟩
   ·intro a W hI hun haft hi
    have e3 := hun 3 (by kernel_rfl)
    exact b_same hi hI rfl _ (run_load_op rfl e3 (Blk.below HD.out hI (Blk.lt HD.out)) Tryz.underlying58 rfl (by kernel_rfl)) rfl
   ·intro a W hI hun haft hi
    have f0 : a.eval (.tmp 5) = dv r c := haft ⟨0, .data⟩ (by simp) rfl _ _ rfl rfl
    refine b_call hi hI rfl _ _ (run_call_op (args := #[dv r c]) rfl (by simp [f0]) (by kernel_rfl)) ?_
    exact (dot_is r c _ HDot.out W).mono fun e w' H => ⟨_, H.1, rfl, H.2⟩
   ·intro a W hI hun haft hi
    have f1 := haft ⟨1, .data⟩ (by simp) rfl _ _ rfl rfl
    exact b_same hi hI rfl _ (run_move_op rfl f1) rfl
   ·intro a W hI hun haft hi
    have fg : a.eval (.tmp 7) = .bool false := haft ⟨2, .guard⟩ (by simp) rfl _ _ rfl rfl
    exact b_skip hi hI (guard_no rfl rfl rfl (.inl fg)) rfl
   ·intro a W hI hun haft hi
    have fg : a.eval (.tmp 7) = .bool false := haft ⟨2, .guard⟩ (by simp) rfl _ _ rfl rfl
    exact b_skip hi hI (guard_no rfl rfl rfl (.inl fg)) rfl
   ·intro a W hI hun haft hi
    have fg : a.eval (.tmp 7) = .bool false := haft ⟨2, .guard⟩ (by simp) rfl _ _ rfl rfl
    exact b_skip hi hI (guard_no rfl rfl rfl (.inl fg)) rfl
   ·intro a W hI hun haft hi
    have fg : a.eval (.tmp 7) = .bool false := haft ⟨2, .guard⟩ (by simp) rfl _ _ rfl rfl
    exact b_skip hi hI (guard_no rfl rfl rfl (.inl fg)) rfl
   ·intro a W hI hun haft hi
    have fg : a.eval (.tmp 7) = .bool false := haft ⟨2, .guard⟩ (by simp) rfl _ _ rfl rfl
    exact b_skip hi hI (guard_no rfl rfl rfl (.inl fg)) rfl
   ·intro a W hI hun haft hi
    have fg : a.eval (.tmp 7) = .bool false := haft ⟨2, .guard⟩ (by simp) rfl _ _ rfl rfl
    exact b_skip hi hI (guard_no rfl rfl rfl (.inl fg)) rfl
   ·intro a W hI hun haft hi
    have fg : a.eval (.tmp 7) = .bool false := haft ⟨2, .guard⟩ (by simp) rfl _ _ rfl rfl
    exact b_skip hi hI (guard_no rfl rfl rfl (.inl fg)) rfl
   ·intro a W hI hun haft hi
    have f2 := haft ⟨2, .data⟩ (by simp) rfl _ _ rfl rfl
    have f9 := haft ⟨9, .data⟩ (by simp) rfl _ _ rfl rfl
    exact b_same hi hI rfl _ (run_pick_op (b := false) rfl f2 f9 rfl) rfl
   ·intro a W hI hun haft hi
    have f10 := haft ⟨10, .data⟩ (by simp) rfl _ _ rfl rfl
    exact b_same hi hI rfl _ (run_assign_op rfl f10) rfl
  ·intro vals W hI hp
   have hl11 : vals 11 = .bool false := hp 11 (by decide)
   have HI := hid hI
   clear hp hI
   simp only [layN, layS, List.range, List.range.loop, if_true, Act.put, Nat.zero_add, Nat.reduceAdd, hl11]
   clear hl11
   go_wp2
   go_ret
   exact ⟨by unfold knowsB; rw [HDot.out]; rfl, HB.out.trans (HI.out.mono HB.out.size)⟩
 ·have HDot := hid hdot
  obtain ⟨n, hr, hn, h1, h2⟩ := (dotB_iff r c).1 hdot
  clear hdot
  subst hr
  have hc : decide (c ≤ f n) = knowsB f n c := by unfold knowsB; rw [HDot.out]; simp
  go_enter Tryz.func69, Tryz.ntmps69
  go_upto_region 1 with fail
  rw [← HX.out]
  refine wp_region_any (by kernel_rfl) ?_
  refine wpAny_below (fun i v _ => v = ([dv n c, .bool true, .bool true, .pointer (some ⟨w.heap.size + 1, 0, none⟩), .int .i64 n, .pointer (some ⟨w.heap.size, n, none⟩), .int .i64 (f n), .pointer (some ⟨w.heap.size + 1, 1, none⟩), .int .i64 c, .bool (decide (c ≤ f n)), .bool (decide (c ≤ f n)), .bool (decide (c ≤ f n))] : List Value).getD i undef) _ X (by kernel_rfl) (by kernel_rfl) (by kernel_rfl) (fun i v w w' _ h => h) ?_ ?_
  ·refine ⟨?_, ?_, ?_, ?_, ?_, ?_, ?_, ?_, ?_, ?_, ?_, ?_, trivial⟩
   ·intro a W hI hun haft hi
    have e3 := hun 3 (by kernel_rfl)
    exact b_same hi hI rfl _ (run_load_op rfl e3 (Blk.below HD.out hI (Blk.lt HD.out)) Tryz.underlying58 rfl (by kernel_rfl)) rfl
   ·intro a W hI hun haft hi
    have f0 : a.eval (.tmp 5) = dv n c := haft ⟨0, .data⟩ (by simp) rfl _ _ rfl rfl
    refine b_call hi hI rfl _ _ (run_call_op (args := #[dv n c]) rfl (by simp [f0]) (by kernel_rfl)) ?_
    exact (dot_is n c _ HDot.out W).mono fun e w' H => ⟨_, H.1, rfl, H.2⟩
   ·intro a W hI hun haft hi
    have f1 := haft ⟨1, .data⟩ (by simp) rfl _ _ rfl rfl
    exact b_same hi hI rfl _ (run_move_op rfl f1) rfl
   ·intro a W hI hun haft hi
    have fg := haft ⟨2, .guard⟩ (by simp) rfl _ _ rfl rfl
    have e3 := hun 3 (by kernel_rfl)
    exact b_same hi hI (guard_ok rfl rfl rfl fg) _ (run_fieldAddr_op rfl e3 (field0 _ _)) rfl
   ·intro a W hI hun haft hi
    have fg : a.eval (.tmp 7) = .bool true := haft ⟨2, .guard⟩ (by simp) rfl _ _ rfl rfl
    have f3 : a.eval (.tmp 8) = .pointer (some ⟨w.heap.size + 1, 0, none⟩) := haft ⟨3, .data⟩ (by simp) rfl _ _ rfl rfl
    exact b_same hi hI (guard_ok rfl rfl rfl fg) _ (run_loadint_op rfl f3 Tryz.underlying3 ((Blk.cell (Blk.below HD.out hI (Blk.lt HD.out)) 0).trans rfl)) rfl
   ·intro a W hI hun haft hi
    have fg := haft ⟨2, .guard⟩ (by simp) rfl _ _ rfl rfl
    have e2 := hun 2 (by kernel_rfl)
    have f4 := haft ⟨4, .data⟩ (by simp) rfl _ _ rfl rfl
    exact b_same hi hI (guard_ok rfl rfl rfl fg) _ (run_indexAddr_op rfl e2 f4 (indexV _ n hn _)) rfl
   ·intro a W hI hun haft hi
    have fg := haft ⟨2, .guard⟩ (by simp) rfl _ _ rfl rfl
    have f5 := haft ⟨5, .data⟩ (by simp) rfl _ _ rfl rfl
    exact b_same hi hI (guard_ok rfl rfl rfl fg) _ (run_loadint_op rfl f5 Tryz.underlying3 (VB.cell_ (Blk.below HV.out hI (Blk.lt HV.out)) n hn)) rfl
   ·intro a W hI hun haft hi
    have fg := haft ⟨2, .guard⟩ (by simp) rfl _ _ rfl rfl
    have e3 := hun 3 (by kernel_rfl)
    exact b_same hi hI (guard_ok rfl rfl rfl fg) _ (run_fieldAddr_op rfl e3 (field1 _ _)) rfl
   ·intro a W hI hun haft hi
    have fg : a.eval (.tmp 7) = .bool true := haft ⟨2, .guard⟩ (by simp) rfl _ _ rfl rfl
    have f7 : a.eval (.tmp 12) = .pointer (some ⟨w.heap.size + 1, 1, none⟩) := haft ⟨7, .data⟩ (by simp) rfl _ _ rfl rfl
    exact b_same hi hI (guard_ok rfl rfl rfl fg) _ (run_loadint_op rfl f7 Tryz.underlying3 ((Blk.cell (Blk.below HD.out hI (Blk.lt HD.out)) 1).trans rfl)) rfl
   ·intro a W hI hun haft hi
    have fg : a.eval (.tmp 7) = .bool true := haft ⟨2, .guard⟩ (by simp) rfl _ _ rfl rfl
    have f6 : a.eval (.tmp 11) = .int .i64 (f n) := haft ⟨6, .data⟩ (by simp) rfl _ _ rfl rfl
    have f8 : a.eval (.tmp 13) = .int .i64 c := haft ⟨8, .data⟩ (by simp) rfl _ _ rfl rfl
    exact b_same hi hI (guard_ok rfl rfl rfl fg) (.bool (decide (c ≤ f n))) (run_bin_op rfl f6 f8 (by go_simp) (by go_simp)) rfl
   ·intro a W hI hun haft hi
    have f2 := haft ⟨2, .data⟩ (by simp) rfl _ _ rfl rfl
    have f9 := haft ⟨9, .data⟩ (by simp) rfl _ _ rfl rfl
    exact b_same hi hI rfl _ (run_pick_op (b := true) rfl f2 f9 rfl) rfl
   ·intro a W hI hun haft hi
    have f10 := haft ⟨10, .data⟩ (by simp) rfl _ _ rfl rfl
    exact b_same hi hI rfl _ (run_assign_op rfl f10) rfl
  ·intro vals W hI hp
   have hl11 : vals 11 = .bool (decide (c ≤ f n)) := hp 11 (by decide)
   have HI := hid hI
   clear hp hI
   simp only [layN, layS, List.range, List.range.loop, if_true, Act.put, Nat.zero_add, Nat.reduceAdd, hl11]
   clear hl11
   go_wp2
   go_ret
   exact ⟨ret_bool hc, HB.out.trans (HI.out.mono HB.out.size)⟩
end Go.Proofs.YtdgglhlofnigkaaGreatDoor
