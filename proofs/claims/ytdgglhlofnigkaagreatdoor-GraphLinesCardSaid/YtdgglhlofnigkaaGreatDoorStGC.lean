/- (*store.Store).undo. -/import Derived.Test.YtdgglhlofnigkaaGreatDoorStGB
import Derived.Deep.CutBlock
set_option maxHeartbeats 2000000
set_option maxRecDepth 100000
namespace Go.Proofs.YtdgglhlofnigkaaGreatDoor
open Lib (hid)
open Go.RowKit Go.MapKept
theorem blk_ne_map {α β : Type} {eK : α → Value} {eU : β → Value} {w : World} {g b : Nat} {t : TypeId} {cs : Array Value} {L : List (α × β)} (hb : Blk w g t cs) (hm : MapIs eK eU w b L) : g ≠ b := by
 intro e
 obtain ⟨es, c, ho, _⟩ := hm
 unfold Blk at hb
 rw [← e, hb] at ho
 cases ho
theorem But.trans_but {n r : Nat} {a b c : World} (h : But n a b) (k : But r b c) (hr : a.heap.size ≤ r) : But n a c :=
 ⟨k.os.trans h.os, k.tape.trans h.tape, k.output.trans h.output, Nat.le_trans h.size k.size, fun i hi hn => (k.block i (Nat.lt_of_lt_of_le hi h.size) (fun e => by have := Option.some.inj e; omega)).trans (h.block i hi hn)⟩
def knD (f : Nat → Int) (d : Dt) : Bool := knowsB f d.r d.c
section
variable {w Z W w' : World} {F F' : Nat → Prop} {sb ob n : Nat} {I : List (El × Nat)} {h : Nat → List (Dt × Va)} {x : El} {l : List (Dt × Va)}
theorem undo_gone (B : Base w Z F F' sb ob I h) (hn : getL x I = none) (hW : Below Z.heap.size Z W) (hm : MapIs eE eM w' ob (delL x I)) (hbut : But ob W w') (kn : Dt → Bool) : StoreIs w' sb (Grow F w w') (undoS x kn (mapS h I)) ∧ Out F w w' := by
 have hz := Nat.le_trans hW.size hbut.size
 have hk : ∀ i, F' i → i ≠ ob → w'.heap[i]? = Z.heap[i]? := fun i hi hin => (hbut.block i (Nat.lt_of_lt_of_le (B.lt i hi) hW.size) (fun e => hin (Option.some.inj e))).trans (hW.block i (B.lt i hi))
 have hO2 : Out F w w' := B.out.trans ((Out.of_below hW).trans' (Out.of_but hbut (B.grow _ B.inner.1)))
 obtain ⟨hI', hσ⟩ := B.inner.drop hm (B.up hz) hk
 refine ⟨⟨Or.inl B.fs, B.bound hz, Or.inr ⟨ob, _, _, (hk sb (B.sub _ B.fs) B.ne_ob.symm).trans B.blk, hI', ?_⟩⟩, hO2⟩
 rw [hσ]
 unfold undoS
 rw [getL_mapS, hn]
 exact (List.filter_eq_self.2 fun p hp => by
  simp only [ne_eq, decide_eq_true_eq]
  intro e
  have : x ∉ keysL I := getL_none.1 hn
  exact this (by rw [← e, ← keys_mapS h I]; exact List.mem_map.2 ⟨p, hp, rfl⟩)).symm
theorem undo_turn (B : Base w Z F F' sb ob I h) (hn : getL x I = some n) (hk : ∀ i, F' i → i ≠ n → w'.heap[i]? = Z.heap[i]?) (hO : Out F w w') (hz : Z.heap.size ≤ w'.heap.size) (kn : Dt → Bool) (hm : MapIs eD eV w' n (leftS kn (h n))) (hl : leftS kn (h n) ≠ []) : StoreIs w' sb (Grow F w w') (undoS x kn (mapS h I)) ∧ Out F w w' := by
 obtain ⟨hI', hσ⟩ := B.inner.turn hn hm (B.up hz) hk
 refine ⟨⟨Or.inl B.fs, B.bound hz, Or.inr ⟨ob, I, _, (hk sb (B.sub _ B.fs) (B.ne_in hn).symm).trans B.blk, hI', ?_⟩⟩, hO⟩
 rw [hσ]
 unfold undoS
 rw [getL_mapS, hn]
 simp only [Option.map_some]
 rw [if_neg hl]
theorem undo_last (B : Base w Z F F' sb ob I h) (hn : getL x I = some n) (hk : ∀ i, F' i → i ≠ n → W.heap[i]? = Z.heap[i]?) (hO : Out F w W) (hz : Z.heap.size ≤ W.heap.size) (kn : Dt → Bool) (hl : leftS kn (h n) = []) (hm0 : MapIs eD eV W n (leftS kn (h n))) (hm : MapIs eE eM w' ob (delL x I)) (hbut : But ob W w') :
  StoreIs w' sb (Grow F w w') (undoS x kn (mapS h I)) ∧ Out F w w' := by
 have hz' := Nat.le_trans hz hbut.size
 have hO2 : Out F w w' := hO.trans (Out.of_but hbut (by
  rcases B.grow _ B.inner.1 with e | ⟨e1, e2⟩
  ·exact Or.inl e
  ·exact Or.inr ⟨e1, Nat.lt_of_lt_of_le e2 hz⟩))
 obtain ⟨hI1, hσ1⟩ := B.inner.turn hn hm0 (fun _ e => e) hk
 obtain ⟨hI', hσ⟩ := hI1.drop hm (B.up hz') (fun i hi hin => hbut.block i (Nat.lt_of_lt_of_le (B.lt i hi) hz) (fun e => hin (Option.some.inj e)))
 have hsb : w'.heap[sb]? = Z.heap[sb]? := (hbut.block sb (Nat.lt_of_lt_of_le (B.lt sb (B.sub _ B.fs)) hz) (fun e => B.ne_ob (Option.some.inj e).symm)).trans (hk sb (B.sub _ B.fs) (B.ne_in hn).symm)
 refine ⟨⟨Or.inl B.fs, B.bound hz', Or.inr ⟨ob, _, _, hsb.trans B.blk, hI', ?_⟩⟩, hO2⟩
 rw [hσ, hσ1]
 unfold undoS
 rw [getL_mapS, hn]
 simp only [Option.map_some]
 rw [if_pos hl]
 have : ∀ L : List (El × List (Dt × Va)), (keysL L).Nodup → delL x (putL x (leftS kn (h n)) L) = delL x L := by
  intro L
  induction L with
  | nil => intro _; simp [putL, delL]
  | cons p L ih =>
   intro hnd
   simp only [keysL, List.map_cons, List.nodup_cons] at hnd
   simp only [putL]
   by_cases hp : p.1 = x
   ·rw [if_pos hp]; simp [delL, hp]
   ·rw [if_neg hp]
    have := ih hnd.2
    unfold delL at this ⊢
    simp only [List.filter_cons, this]
 exact (this _ (by rw [keys_mapS]; exact B.inner.nodup)).symm
end
theorem undo_none_w (x : El) (f : Nat → Int) (sb : Nat) (F : Nat → Prop) (w : World) (hF : F sb) (hl : ∀ i, F i → i < w.heap.size) (hb : Blk w sb 91 #[.map none]) (σ : List (El × List (Dt × Va))) (hσ : σ = []) : Calls Tryz.prog 54 #[.pointer (some ⟨sb, 0, none⟩), eE x, .agg (vA f)] w fun e w' => e = .returned (.tuple #[]) ∧ StoreIs w' sb (Grow F w w') (undoS x (knD f) σ) ∧ Out F w w' := by
 obtain ⟨Z, hY⟩ : ∃ Z, Z = (w.alloc (.cells #[.int .i64 x.k, .string x.a, .string x.b, .string x.c, .string x.d] 38)).alloc (.cells (vA f) 26) := ⟨_, rfl⟩
 obtain ⟨q, hq⟩ : ∃ q, w.heap.size = q := ⟨_, rfl⟩
 have HY := hid hY
 have bY : Below w.heap.size w Z := by rw [hY]; exact ((Below.refl _ _).alloc (Nat.le_refl _) _).alloc (by simp) _
 have KE := hid (show Blk Z q 38 (elA x) by rw [hY, ← hq]; exact (Blk.new w _ _).alloc _)
 have KV := hid (show VB Z (q + 1) f by
  rw [hY, ← hq]
  exact VB.new_ f (by simp))
 have HQ := hid hq
 clear hY
 have KS := hid (show Blk Z sb 91 #[.map none] from (bY.block _ (hl _ hF)).trans hb)
 have HJ0 := hid (fun (w' : World) (hb' : Below w.heap.size w w') => show StoreIs w' sb (Grow F w w') (undoS x (knD f) σ) ∧ Out F w w' from
  ⟨⟨Or.inl hF, fun i hi => by
    rcases hi with hi | hi
    ·exact Nat.lt_of_lt_of_le (hl i hi) hb'.size
    ·exact hi.2, Or.inl ⟨(hb'.block _ (hl _ hF)).trans hb, by rw [hσ]; rfl⟩⟩, Out.of_below hb'⟩)
 have BY := hid bY
 clear hF hl hb hσ bY hq
 unfold eE elV
 go_enter Tryz.func54, Tryz.ntmps54
 go_upto_region 1 with fail
 rw [← HY.out, HQ.out]
 refine wp_region_any (by kernel_rfl) ?_
 refine wpAny_below (fun i uq _ => uq = ([.pointer (some ⟨sb, 0, none⟩), .pointer (some ⟨sb, 0, none⟩), .pointer (some ⟨sb, 0, none⟩), .map none, eE x, .map none, .map none] : List Value).getD i undef) _ Z (by kernel_rfl) (by kernel_rfl) (by kernel_rfl) (fun i v w w' _ h => h) ?_ ?_
 ·refine ⟨?_, ?_, ?_, ?_, ?_, ?_, ?_, trivial⟩
  ·intro a W hI hun haft hi
   have e0 := hun 0 (by kernel_rfl)
   exact b_same hi hI rfl _ (run_move_op rfl e0) rfl
  ·intro a W hI hun haft hi
   have f0 := haft ⟨0, .data⟩ (by simp) rfl _ _ rfl rfl
   exact b_same hi hI rfl _ (run_nilCheck_op rfl f0) rfl
  ·intro a W hI hun haft hi
   have f1 := haft ⟨1, .data⟩ (by simp) rfl _ _ rfl rfl
   exact b_same hi hI rfl _ (run_fieldAddr_any rfl f1 (at_store0 _ 0 _)) rfl
  ·intro a W hI hun haft hi
   have f2 : a.eval (.tmp 10) = .pointer (some ⟨sb, 0, none⟩) := haft ⟨2, .data⟩ (by simp) rfl _ _ rfl rfl
   exact b_same hi hI rfl _ (run_loadmap_op rfl f2 Tryz.underlying89 ((Blk.cell (Blk.below KS.out hI (Blk.lt KS.out)) 0).trans rfl)) rfl
  ·intro a W hI hun haft hi
   have e4 := hun 4 (by kernel_rfl)
   exact b_same hi hI rfl _ (run_load_op rfl e4 (Blk.below KE.out hI (Blk.lt KE.out)) Tryz.underlying38 rfl (by kernel_rfl)) rfl
  ·intro a W hI hun haft hi
   have f3 := haft ⟨3, .data⟩ (by simp) rfl _ _ rfl rfl
   have f4 := haft ⟨4, .data⟩ (by simp) rfl _ _ rfl rfl
   exact b_same hi hI rfl _ (run_lookup_op rfl f3 f4 (look_nil_run keyE Tryz.underlying89 (zero_held _) x)) rfl
  ·intro a W hI hun haft hi
   have f5 := haft ⟨5, .data⟩ (by simp) rfl _ _ rfl rfl
   exact b_same hi hI rfl _ (run_assign_op rfl f5) rfl
 ·intro vals W hI hp
  have hl0 : vals 0 = .pointer (some ⟨sb, 0, none⟩) := hp 0 (by decide)
  have hl1 : vals 1 = .pointer (some ⟨sb, 0, none⟩) := hp 1 (by decide)
  have hl2 : vals 2 = .pointer (some ⟨sb, 0, none⟩) := hp 2 (by decide)
  have hl3 : vals 3 = .map none := hp 3 (by decide)
  have hl4 : vals 4 = eE x := hp 4 (by decide)
  have hl5 : vals 5 = .map none := hp 5 (by decide)
  have hl6 : vals 6 = .map none := hp 6 (by decide)
  have HI := hid hI
  clear hp hI
  simp only [layN, layS, List.range, List.range.loop, if_true, Act.put, Nat.zero_add, Nat.reduceAdd, hl0, hl1, hl2, hl3, hl4, hl5, hl6]
  clear hl0 hl1 hl2 hl3 hl4 hl5 hl6
  have KS2 := KS
  have KE2 := KE
  obtain ⟨r, hr⟩ : ∃ r, W.heap.size = r := ⟨_, rfl⟩
  obtain ⟨V, hV⟩ : ∃ V, V = W.alloc (.mapIter none 0 #[] 0) := ⟨_, rfl⟩
  have hrg : (Instr.range 116 (.map none)).run Tryz.prog W = .ok (.pointer (some ⟨r, 0, none⟩)) V := by rw [hV, ← hr]; exact run_range_nilMap W _ _ _ Tryz.underlying116
  have hnx : ∀ ty, (Instr.next (.pointer (some ⟨r, 0, none⟩)) false ty).run Tryz.prog V = .ok (.tuple #[.bool false]) V := fun ty => run_next_nil_at V ty r 0 0 #[] (by rw [hV, ← hr]; exact heap_alloc_new W _)
  have hln : ∀ ty, (Builtin.len_ #[116] ty #[.map none]).run Tryz.prog V = .ok (.int .i64 0) V := fun ty => len_nil_run Tryz.underlying116
  have HI2 := hid (show Below Z.heap.size Z V by rw [hV]; exact HI.out.alloc HI.out.size _)
  clear hV hr HI
  go_wp2
  refine wp_loop_rounds 1 ?_
  rw [rounds_succ]
  go_upto_region 8 with fail
  clear hrg hnx hln
  have KS8 := hid (Blk.below KS2.out HI2.out (Blk.lt KS2.out))
  have KE8 := hid (Blk.below KE2.out HI2.out (Blk.lt KE2.out))
  refine wp_region_any (by kernel_rfl) ?_
  refine wpAny_last (fun i uq _ => uq = ([.pointer (some ⟨sb, 0, none⟩), .pointer (some ⟨sb, 0, none⟩), .pointer (some ⟨sb, 0, none⟩), .map none, eE x, undef] : List Value).getD i undef) _ V 5 _ (fun vals wq => (∀ j, j < 5 → vals j = ([.pointer (some ⟨sb, 0, none⟩), .pointer (some ⟨sb, 0, none⟩), .pointer (some ⟨sb, 0, none⟩), .map none, eE x, undef] : List Value).getD j undef) ∧ (fun w' => StoreIs w' sb (Grow F w w') (undoS x (knD f) σ) ∧ Out F w w') wq) (by kernel_rfl) rfl (by kernel_rfl) (by kernel_rfl) (by kernel_rfl) (by kernel_rfl) (fun i v w w' _ h => h) ?_ ?_ ?_
  ·refine ⟨?_, ?_, ?_, ?_, ?_, fun h => absurd h (Nat.lt_irrefl _), trivial⟩
   ·intro _ a W hI hun haft hi
    have e0 := hun 0 (by kernel_rfl)
    exact b_same hi hI rfl _ (run_move_op rfl e0) rfl
   ·intro _ a W hI hun haft hi
    have f0 := haft ⟨0, .data⟩ (by simp) rfl _ _ rfl rfl
    exact b_same hi hI rfl _ (run_nilCheck_op rfl f0) rfl
   ·intro _ a W hI hun haft hi
    have f1 := haft ⟨1, .data⟩ (by simp) rfl _ _ rfl rfl
    exact b_same hi hI rfl _ (run_fieldAddr_any rfl f1 (at_store0 _ 0 _)) rfl
   ·intro _ a W hI hun haft hi
    have f2 : a.eval (.tmp 30) = .pointer (some ⟨sb, 0, none⟩) := haft ⟨2, .data⟩ (by simp) rfl _ _ rfl rfl
    exact b_same hi hI rfl _ (run_loadmap_op rfl f2 Tryz.underlying89 ((Blk.cell (Blk.below KS8.out hI (Blk.lt KS8.out)) 0).trans rfl)) rfl
   ·intro _ a W hI hun haft hi
    have e4 := hun 4 (by kernel_rfl)
    exact b_same hi hI rfl _ (run_load_op rfl e4 (Blk.below KE8.out hI (Blk.lt KE8.out)) Tryz.underlying38 rfl (by kernel_rfl)) rfl
  ·intro vals a W hI hun hsl hp
   have f3 : a.eval (.tmp 31) = .map none := (hsl 3 _ _ rfl (by decide) rfl).trans (hp 3 (by decide))
   have f4 : a.eval (.tmp 32) = eE x := (hsl 4 _ _ rfl (by decide) rfl).trans (hp 4 (by decide))
   refine wpOp_val rfl rfl (.tuple #[]) W (run_delete_op rfl f3 f4 (del_nil_run keyE Tryz.underlying89 x)) ⟨_, rfl, fun vals' h1 _ => ⟨fun j hj => (h1 j hj).trans (hp j hj), HJ0.out _ ((BY.out.trans (HI2.out.mono BY.out.size)).trans (hI.mono (Nat.le_trans BY.out.size HI2.out.size)))⟩⟩
  ·rintro vals W ⟨hv, hJ⟩
   have hl0 : vals 0 = .pointer (some ⟨sb, 0, none⟩) := hv 0 (by decide)
   have hl1 : vals 1 = .pointer (some ⟨sb, 0, none⟩) := hv 1 (by decide)
   have hl2 : vals 2 = .pointer (some ⟨sb, 0, none⟩) := hv 2 (by decide)
   have hl3 : vals 3 = .map none := hv 3 (by decide)
   have hl4 : vals 4 = eE x := hv 4 (by decide)
   have HJ := hid hJ
   clear hv hJ
   simp only [layN, layS, List.range, List.range.loop, if_true, Act.put, Nat.zero_add, Nat.reduceAdd, hl0, hl1, hl2, hl3, hl4]
   clear hl0 hl1 hl2 hl3 hl4
   go_wp2
   go_end0
   exact ⟨rfl, HJ.out.1, HJ.out.2⟩
theorem undo_gone_w (x : El) (f : Nat → Int) (sb : Nat) (F : Nat → Prop) (w : World) (ob : Nat) (I : List (El × Nat)) (h : Nat → List (Dt × Va)) (hF : F sb) (hl : ∀ i, F i → i < w.heap.size) (hb : Blk w sb 91 #[.map (some ob)]) (hI : InnerIs w F ob I h) (hg : getL x I = none) (σ : List (El × List (Dt × Va))) (hσ : mapS h I = σ) : Calls Tryz.prog 54 #[.pointer (some ⟨sb, 0, none⟩), eE x, .agg (vA f)] w fun e w' => e = .returned (.tuple #[]) ∧ StoreIs w' sb (Grow F w w') (undoS x (knD f) σ) ∧ Out F w w' := by
 obtain ⟨Z, hY⟩ : ∃ Z, Z = (w.alloc (.cells #[.int .i64 x.k, .string x.a, .string x.b, .string x.c, .string x.d] 38)).alloc (.cells (vA f) 26) := ⟨_, rfl⟩
 obtain ⟨q, hq⟩ : ∃ q, w.heap.size = q := ⟨_, rfl⟩
 have HY := hid hY
 have bY : Below w.heap.size w Z := by rw [hY]; exact ((Below.refl _ _).alloc (Nat.le_refl _) _).alloc (by simp) _
 have KE := hid (show Blk Z q 38 (elA x) by rw [hY, ← hq]; exact (Blk.new w _ _).alloc _)
 have KV := hid (show VB Z (q + 1) f by
  rw [hY, ← hq]
  exact VB.new_ f (by simp))
 have HQ := hid hq
 clear hY
 have HB := hid (Base.of hF hl hb hI bY)
 clear hF hl hb hI bY hq
 have KS := hid HB.out.blk
 have KO := hid HB.out.inner.2.1
 have HG := hid hg
 clear hg
 have HS := hid hσ
 clear hσ
 unfold eE elV
 go_enter Tryz.func54, Tryz.ntmps54
 go_upto_region 1 with fail
 rw [← HY.out, HQ.out]
 refine wp_region_any (by kernel_rfl) ?_
 refine wpAny_below (fun i uq _ => uq = ([.pointer (some ⟨sb, 0, none⟩), .pointer (some ⟨sb, 0, none⟩), .pointer (some ⟨sb, 0, none⟩), .map (some ob), eE x, .map none, .map none] : List Value).getD i undef) _ Z (by kernel_rfl) (by kernel_rfl) (by kernel_rfl) (fun i v w w' _ h => h) ?_ ?_
 ·refine ⟨?_, ?_, ?_, ?_, ?_, ?_, ?_, trivial⟩
  ·intro a W hI hun haft hi
   have e0 := hun 0 (by kernel_rfl)
   exact b_same hi hI rfl _ (run_move_op rfl e0) rfl
  ·intro a W hI hun haft hi
   have f0 := haft ⟨0, .data⟩ (by simp) rfl _ _ rfl rfl
   exact b_same hi hI rfl _ (run_nilCheck_op rfl f0) rfl
  ·intro a W hI hun haft hi
   have f1 := haft ⟨1, .data⟩ (by simp) rfl _ _ rfl rfl
   exact b_same hi hI rfl _ (run_fieldAddr_any rfl f1 (at_store0 _ 0 _)) rfl
  ·intro a W hI hun haft hi
   have f2 : a.eval (.tmp 10) = .pointer (some ⟨sb, 0, none⟩) := haft ⟨2, .data⟩ (by simp) rfl _ _ rfl rfl
   exact b_same hi hI rfl _ (run_loadmap_op rfl f2 Tryz.underlying89 ((Blk.cell (Blk.below KS.out hI (Blk.lt KS.out)) 0).trans rfl)) rfl
  ·intro a W hI hun haft hi
   have e4 := hun 4 (by kernel_rfl)
   exact b_same hi hI rfl _ (run_load_op rfl e4 (Blk.below KE.out hI (Blk.lt KE.out)) Tryz.underlying38 rfl (by kernel_rfl)) rfl
  ·intro a W hI hun haft hi
   have f3 : a.eval (.tmp 11) = .map (some ob) := haft ⟨3, .data⟩ (by simp) rfl _ _ rfl rfl
   have f4 : a.eval (.tmp 12) = eE x := haft ⟨4, .data⟩ (by simp) rfl _ _ rfl rfl
   exact b_same hi hI rfl _ (run_lookup_op rfl f3 f4 ((look_run (MapIs.same KO.out (hI.block _ (MapIs.lt KO.out))) keyE Tryz.underlying89 (zero_held _) x).trans (by rw [HG.out]; rfl))) rfl
  ·intro a W hI hun haft hi
   have f5 := haft ⟨5, .data⟩ (by simp) rfl _ _ rfl rfl
   exact b_same hi hI rfl _ (run_assign_op rfl f5) rfl
 ·intro vals W hI hp
  have hl0 : vals 0 = .pointer (some ⟨sb, 0, none⟩) := hp 0 (by decide)
  have hl1 : vals 1 = .pointer (some ⟨sb, 0, none⟩) := hp 1 (by decide)
  have hl2 : vals 2 = .pointer (some ⟨sb, 0, none⟩) := hp 2 (by decide)
  have hl3 : vals 3 = .map (some ob) := hp 3 (by decide)
  have hl4 : vals 4 = eE x := hp 4 (by decide)
  have hl5 : vals 5 = .map none := hp 5 (by decide)
  have hl6 : vals 6 = .map none := hp 6 (by decide)
  have HI := hid hI
  clear hp hI
  simp only [layN, layS, List.range, List.range.loop, if_true, Act.put, Nat.zero_add, Nat.reduceAdd, hl0, hl1, hl2, hl3, hl4, hl5, hl6]
  clear hl0 hl1 hl2 hl3 hl4 hl5 hl6
  obtain ⟨r, hr⟩ : ∃ r, W.heap.size = r := ⟨_, rfl⟩
  obtain ⟨V, hV⟩ : ∃ V, V = W.alloc (.mapIter none 0 #[] 0) := ⟨_, rfl⟩
  have hrg : (Instr.range 116 (.map none)).run Tryz.prog W = .ok (.pointer (some ⟨r, 0, none⟩)) V := by rw [hV, ← hr]; exact run_range_nilMap W _ _ _ Tryz.underlying116
  have hnx : ∀ ty, (Instr.next (.pointer (some ⟨r, 0, none⟩)) false ty).run Tryz.prog V = .ok (.tuple #[.bool false]) V := fun ty => run_next_nil_at V ty r 0 0 #[] (by rw [hV, ← hr]; exact heap_alloc_new W _)
  have hln : ∀ ty, (Builtin.len_ #[116] ty #[.map none]).run Tryz.prog V = .ok (.int .i64 0) V := fun ty => len_nil_run Tryz.underlying116
  have HI2 := hid (show Below Z.heap.size Z V by rw [hV]; exact HI.out.alloc HI.out.size _)
  clear hV hr HI
  go_wp2
  refine wp_loop_rounds 1 ?_
  rw [rounds_succ]
  go_upto_region 8 with fail
  clear hrg hnx hln
  have KS8 := hid (Blk.below KS.out HI2.out (Blk.lt KS.out))
  have KE8 := hid (Blk.below KE.out HI2.out (Blk.lt KE.out))
  have KO8 := hid (MapIs.same KO.out (HI2.out.block _ (MapIs.lt KO.out)))
  refine wp_region_any (by kernel_rfl) ?_
  refine wpAny_last (fun i uq _ => uq = ([.pointer (some ⟨sb, 0, none⟩), .pointer (some ⟨sb, 0, none⟩), .pointer (some ⟨sb, 0, none⟩), .map (some ob), eE x, undef] : List Value).getD i undef) _ V 5 _ (fun vals wq => (∀ j, j < 5 → vals j = ([.pointer (some ⟨sb, 0, none⟩), .pointer (some ⟨sb, 0, none⟩), .pointer (some ⟨sb, 0, none⟩), .map (some ob), eE x, undef] : List Value).getD j undef) ∧ (fun w' => StoreIs w' sb (Grow F w w') (undoS x (knD f) σ) ∧ Out F w w') wq) (by kernel_rfl) rfl (by kernel_rfl) (by kernel_rfl) (by kernel_rfl) (by kernel_rfl) (fun i v w w' _ h => h) ?_ ?_ ?_
  ·refine ⟨?_, ?_, ?_, ?_, ?_, fun h => absurd h (Nat.lt_irrefl _), trivial⟩
   ·intro _ a W hI hun haft hi
    have e0 := hun 0 (by kernel_rfl)
    exact b_same hi hI rfl _ (run_move_op rfl e0) rfl
   ·intro _ a W hI hun haft hi
    have f0 := haft ⟨0, .data⟩ (by simp) rfl _ _ rfl rfl
    exact b_same hi hI rfl _ (run_nilCheck_op rfl f0) rfl
   ·intro _ a W hI hun haft hi
    have f1 := haft ⟨1, .data⟩ (by simp) rfl _ _ rfl rfl
    exact b_same hi hI rfl _ (run_fieldAddr_any rfl f1 (at_store0 _ 0 _)) rfl
   ·intro _ a W hI hun haft hi
    have f2 : a.eval (.tmp 30) = .pointer (some ⟨sb, 0, none⟩) := haft ⟨2, .data⟩ (by simp) rfl _ _ rfl rfl
    exact b_same hi hI rfl _ (run_loadmap_op rfl f2 Tryz.underlying89 ((Blk.cell (Blk.below KS8.out hI (Blk.lt KS8.out)) 0).trans rfl)) rfl
   ·intro _ a W hI hun haft hi
    have e4 := hun 4 (by kernel_rfl)
    exact b_same hi hI rfl _ (run_load_op rfl e4 (Blk.below KE8.out hI (Blk.lt KE8.out)) Tryz.underlying38 rfl (by kernel_rfl)) rfl
  ·intro vals a W hI hun hsl hp
   have f3 : a.eval (.tmp 31) = .map (some ob) := (hsl 3 _ _ rfl (by decide) rfl).trans (hp 3 (by decide))
   have f4 : a.eval (.tmp 32) = eE x := (hsl 4 _ _ rfl (by decide) rfl).trans (hp 4 (by decide))
   obtain ⟨w', hr, hm, hb, _, _⟩ := del_run (ty := _) (MapIs.same KO8.out (hI.block _ (MapIs.lt KO8.out))) keyE Tryz.underlying89 x
   refine wpOp_val rfl rfl (.tuple #[]) w' (run_delete_op rfl f3 f4 hr) ⟨_, rfl, fun vals' h1 _ => ⟨fun j hj => (h1 j hj).trans (hp j hj), by rw [← HS.out]; exact undo_gone HB.out HG.out (HI2.out.trans (hI.mono HI2.out.size)) hm hb (knD f)⟩⟩
  ·rintro vals W ⟨hv, hJ⟩
   have hl0 : vals 0 = .pointer (some ⟨sb, 0, none⟩) := hv 0 (by decide)
   have hl1 : vals 1 = .pointer (some ⟨sb, 0, none⟩) := hv 1 (by decide)
   have hl2 : vals 2 = .pointer (some ⟨sb, 0, none⟩) := hv 2 (by decide)
   have hl3 : vals 3 = .map (some ob) := hv 3 (by decide)
   have hl4 : vals 4 = eE x := hv 4 (by decide)
   have HJ := hid hJ
   clear hv hJ
   simp only [layN, layS, List.range, List.range.loop, if_true, Act.put, Nat.zero_add, Nat.reduceAdd, hl0, hl1, hl2, hl3, hl4]
   clear hl0 hl1 hl2 hl3 hl4
   go_wp2
   go_end0
   exact ⟨rfl, HJ.out.1, HJ.out.2⟩
theorem undo_some_w (x : El) (f : Nat → Int) (sb : Nat) (F : Nat → Prop) (w : World) (ob n : Nat) (I : List (El × Nat)) (h : Nat → List (Dt × Va)) (hF : F sb) (hl : ∀ i, F i → i < w.heap.size) (hb : Blk w sb 91 #[.map (some ob)]) (hI : InnerIs w F ob I h) (hg : getL x I = some n) (σ : List (El × List (Dt × Va))) (hσ : mapS h I = σ) : Calls Tryz.prog 54 #[.pointer (some ⟨sb, 0, none⟩), eE x, .agg (vA f)] w fun e w' => e = .returned (.tuple #[]) ∧ StoreIs w' sb (Grow F w w') (undoS x (knD f) σ) ∧ Out F w w' := by
 obtain ⟨Z, hY⟩ : ∃ Z, Z = (w.alloc (.cells #[.int .i64 x.k, .string x.a, .string x.b, .string x.c, .string x.d] 38)).alloc (.cells (vA f) 26) := ⟨_, rfl⟩
 obtain ⟨q, hq⟩ : ∃ q, w.heap.size = q := ⟨_, rfl⟩
 have HY := hid hY
 have bY : Below w.heap.size w Z := by rw [hY]; exact ((Below.refl _ _).alloc (Nat.le_refl _) _).alloc (by simp) _
 have KE := hid (show Blk Z q 38 (elA x) by rw [hY, ← hq]; exact (Blk.new w _ _).alloc _)
 have KV := hid (show VB Z (q + 1) f by
  rw [hY, ← hq]
  exact VB.new_ f (by simp))
 have HQ := hid hq
 clear hY
 have HB := hid (Base.of hF hl hb hI bY)
 clear hF hl hb hI bY hq
 have KS := hid HB.out.blk
 have KO := hid HB.out.inner.2.1
 have HG := hid hg
 clear hg
 have HS := hid hσ
 clear hσ
 unfold eE elV
 go_enter Tryz.func54, Tryz.ntmps54
 go_upto_region 1 with fail
 rw [← HY.out, HQ.out]
 refine wp_region_any (by kernel_rfl) ?_
 refine wpAny_below (fun i uq _ => uq = ([.pointer (some ⟨sb, 0, none⟩), .pointer (some ⟨sb, 0, none⟩), .pointer (some ⟨sb, 0, none⟩), .map (some ob), eE x, .map (some n), .map (some n)] : List Value).getD i undef) _ Z (by kernel_rfl) (by kernel_rfl) (by kernel_rfl) (fun i v w w' _ h => h) ?_ ?_
 ·refine ⟨?_, ?_, ?_, ?_, ?_, ?_, ?_, trivial⟩
  ·intro a W hI hun haft hi
   have e0 := hun 0 (by kernel_rfl)
   exact b_same hi hI rfl _ (run_move_op rfl e0) rfl
  ·intro a W hI hun haft hi
   have f0 := haft ⟨0, .data⟩ (by simp) rfl _ _ rfl rfl
   exact b_same hi hI rfl _ (run_nilCheck_op rfl f0) rfl
  ·intro a W hI hun haft hi
   have f1 := haft ⟨1, .data⟩ (by simp) rfl _ _ rfl rfl
   exact b_same hi hI rfl _ (run_fieldAddr_any rfl f1 (at_store0 _ 0 _)) rfl
  ·intro a W hI hun haft hi
   have f2 : a.eval (.tmp 10) = .pointer (some ⟨sb, 0, none⟩) := haft ⟨2, .data⟩ (by simp) rfl _ _ rfl rfl
   exact b_same hi hI rfl _ (run_loadmap_op rfl f2 Tryz.underlying89 ((Blk.cell (Blk.below KS.out hI (Blk.lt KS.out)) 0).trans rfl)) rfl
  ·intro a W hI hun haft hi
   have e4 := hun 4 (by kernel_rfl)
   exact b_same hi hI rfl _ (run_load_op rfl e4 (Blk.below KE.out hI (Blk.lt KE.out)) Tryz.underlying38 rfl (by kernel_rfl)) rfl
  ·intro a W hI hun haft hi
   have f3 : a.eval (.tmp 11) = .map (some ob) := haft ⟨3, .data⟩ (by simp) rfl _ _ rfl rfl
   have f4 : a.eval (.tmp 12) = eE x := haft ⟨4, .data⟩ (by simp) rfl _ _ rfl rfl
   exact b_same hi hI rfl _ (run_lookup_op rfl f3 f4 ((look_run (MapIs.same KO.out (hI.block _ (MapIs.lt KO.out))) keyE Tryz.underlying89 (zero_held _) x).trans (by rw [HG.out]; rfl))) rfl
  ·intro a W hI hun haft hi
   have f5 := haft ⟨5, .data⟩ (by simp) rfl _ _ rfl rfl
   exact b_same hi hI rfl _ (run_assign_op rfl f5) rfl
 ·intro vals W hI hp
  have hl0 : vals 0 = .pointer (some ⟨sb, 0, none⟩) := hp 0 (by decide)
  have hl1 : vals 1 = .pointer (some ⟨sb, 0, none⟩) := hp 1 (by decide)
  have hl2 : vals 2 = .pointer (some ⟨sb, 0, none⟩) := hp 2 (by decide)
  have hl3 : vals 3 = .map (some ob) := hp 3 (by decide)
  have hl4 : vals 4 = eE x := hp 4 (by decide)
  have hl5 : vals 5 = .map (some n) := hp 5 (by decide)
  have hl6 : vals 6 = .map (some n) := hp 6 (by decide)
  have HI := hid hI
  clear hp hI
  simp only [layN, layS, List.range, List.range.loop, if_true, Act.put, Nat.zero_add, Nat.reduceAdd, hl0, hl1, hl2, hl3, hl4, hl5, hl6]
  clear hl0 hl1 hl2 hl3 hl4 hl5 hl6
  have hin : MapIs eD eV W n (h n) := MapIs.same (HB.out.inner.at_ HG.out).2.2 (HI.out.block _ (MapIs.lt (HB.out.inner.at_ HG.out).2.2))
  have hnlt : n < Z.heap.size := MapIs.lt (HB.out.inner.at_ HG.out).2.2
  obtain ⟨r, hr⟩ : ∃ r, W.heap.size = r := ⟨_, rfl⟩
  have hzr : Z.heap.size ≤ r := by rw [← hr]; exact HI.out.size
  go_wp2_with (first
   | (at_range; refine wpList_range_is _ rfl _ 116 58 43 rfl Tryz.underlying116 n (h n) rfl hin ?_; intro V hrg hal)
   | go_in)
  go_frame
  rw [hr] at hrg ⊢
  have HV := hid (show But n Z V by
   obtain ⟨o, rfl⟩ := hal
   exact But.of_below (HI.out.alloc HI.out.size _))
  have HR := hid hzr
  clear hal hin HI hr
  go_loopw [7] (fun _ wr => ∃ R : List (Dt × Va), Ranging eD eV wr n r (keepS (knD f) R (h n)) R ∧ But n Z wr) (fun _ wr => wr.rangeLeft n r)
  case atStart => exact ⟨h n, by rw [keepS_start]; exact hrg, HV.out⟩
  case round =>
   obtain ⟨R, hrg2, hbut⟩ := hrel
   clear hrg HV
   have HRg := hid hrg2
   have HBt := hid hbut
   clear hrg2 hbut
   go_wp2_with (first
    | (at_next; refine wpList_next_is _ rfl _ rfl n r _ _ rfl HRg.out ?_ ?_)
    | go_in)
   ·intro hR
    subst hR
    have hown : MapIs eD eV wr n (leftS (knD f) (h n)) := by
     have := HRg.out.owns
     rwa [keepS_end] at this
    have hKS : Blk wr sb 91 #[.map (some ob)] := HBt.out.blk KS.out (HB.out.ne_in HG.out).symm
    have hKE : Blk wr q 38 (elA x) := HBt.out.blk KE.out (blk_ne_map KE.out (HB.out.inner.at_ HG.out).2.2)
    have hKO : MapIs eE eM wr ob I := MapIs.same KO.out (HBt.out.block ob (MapIs.lt KO.out) (fun e => (HB.out.inner.at_ HG.out).2.1 (Option.some.inj e).symm))
    have hK : ∀ W, Below wr.heap.size wr W → (∀ i, F i → i ≠ n → W.heap[i]? = Z.heap[i]?) ∧ Out F w W ∧ Z.heap.size ≤ W.heap.size ∧ MapIs eD eV W n (leftS (knD f) (h n)) := fun W hb => by
     refine ⟨fun i hi hin => ?_, HB.out.out.trans' ((Out.of_but HBt.out (HB.out.inner.at_ HG.out).1).trans' (Out.of_below hb)), Nat.le_trans HBt.out.size hb.size, hown.same (hb.block _ hown.lt)⟩
     have hiz := HB.out.lt i hi
     exact (hb.block i (Nat.lt_of_lt_of_le hiz HBt.out.size)).trans (HBt.out.block i hiz (fun e => hin (Option.some.inj e)))
    have KS8 := hid hKS
    have KE8 := hid hKE
    have KO8 := hid hKO
    have HK := hid hK
    by_cases hl0 : leftS (knD f) (h n) = []
    ·have hln : ∀ ty, (Builtin.len_ #[116] ty #[.map (some n)]).run Tryz.prog wr = .ok (.int .i64 0) wr := fun ty => by
      have := len_run (P := Tryz.prog) (ty := ty) hown Tryz.underlying116
      rwa [hl0] at this
     have HL0 := hid hl0
     clear hown hKS hKE hKO hK hl0 HRg HBt
     go_upto_region 8 with fail
     clear hln
     refine wp_region_any (by kernel_rfl) ?_
     refine wpAny_last (fun i uq _ => uq = ([.pointer (some ⟨sb, 0, none⟩), .pointer (some ⟨sb, 0, none⟩), .pointer (some ⟨sb, 0, none⟩), .map (some ob), eE x, undef] : List Value).getD i undef) _ wr 5 _ (fun vals wq => (∀ j, j < 5 → vals j = ([.pointer (some ⟨sb, 0, none⟩), .pointer (some ⟨sb, 0, none⟩), .pointer (some ⟨sb, 0, none⟩), .map (some ob), eE x, undef] : List Value).getD j undef) ∧ (fun w' => StoreIs w' sb (Grow F w w') (undoS x (knD f) σ) ∧ Out F w w') wq) (by kernel_rfl) rfl (by kernel_rfl) (by kernel_rfl) (by kernel_rfl) (by kernel_rfl) (fun i v w w' _ h => h) ?_ ?_ ?_
     ·refine ⟨?_, ?_, ?_, ?_, ?_, fun h => absurd h (Nat.lt_irrefl _), trivial⟩
      ·intro _ a W hI hun haft hi
       have e0 := hun 0 (by kernel_rfl)
       exact b_same hi hI rfl _ (run_move_op rfl e0) rfl
      ·intro _ a W hI hun haft hi
       have f0 := haft ⟨0, .data⟩ (by simp) rfl _ _ rfl rfl
       exact b_same hi hI rfl _ (run_nilCheck_op rfl f0) rfl
      ·intro _ a W hI hun haft hi
       have f1 := haft ⟨1, .data⟩ (by simp) rfl _ _ rfl rfl
       exact b_same hi hI rfl _ (run_fieldAddr_any rfl f1 (at_store0 _ 0 _)) rfl
      ·intro _ a W hI hun haft hi
       have f2 : a.eval (.tmp 30) = .pointer (some ⟨sb, 0, none⟩) := haft ⟨2, .data⟩ (by simp) rfl _ _ rfl rfl
       exact b_same hi hI rfl _ (run_loadmap_op rfl f2 Tryz.underlying89 ((Blk.cell (Blk.below KS8.out hI (Blk.lt KS8.out)) 0).trans rfl)) rfl
      ·intro _ a W hI hun haft hi
       have e4 := hun 4 (by kernel_rfl)
       exact b_same hi hI rfl _ (run_load_op rfl e4 (Blk.below KE8.out hI (Blk.lt KE8.out)) Tryz.underlying38 rfl (by kernel_rfl)) rfl
     ·intro vals a W hI hun hsl hp
      have f3 : a.eval (.tmp 31) = .map (some ob) := (hsl 3 _ _ rfl (by decide) rfl).trans (hp 3 (by decide))
      have f4 : a.eval (.tmp 32) = eE x := (hsl 4 _ _ rfl (by decide) rfl).trans (hp 4 (by decide))
      obtain ⟨w', hr, hm, hb, _, _⟩ := del_run (ty := _) (MapIs.same KO8.out (hI.block _ (MapIs.lt KO8.out))) keyE Tryz.underlying89 x
      refine wpOp_val rfl rfl (.tuple #[]) w' (run_delete_op rfl f3 f4 hr) ⟨_, rfl, fun vals' h1 _ => ⟨fun j hj => (h1 j hj).trans (hp j hj), by rw [← HS.out]; exact undo_last HB.out HG.out (HK.out W hI).1 (HK.out W hI).2.1 (HK.out W hI).2.2.1 (knD f) HL0.out (HK.out W hI).2.2.2 hm hb⟩⟩
     ·rintro vals W ⟨hv, hJ⟩
      have hl0 : vals 0 = .pointer (some ⟨sb, 0, none⟩) := hv 0 (by decide)
      have hl1 : vals 1 = .pointer (some ⟨sb, 0, none⟩) := hv 1 (by decide)
      have hl2 : vals 2 = .pointer (some ⟨sb, 0, none⟩) := hv 2 (by decide)
      have hl3 : vals 3 = .map (some ob) := hv 3 (by decide)
      have hl4 : vals 4 = eE x := hv 4 (by decide)
      have HJ := hid hJ
      clear hv hJ
      simp only [layN, layS, List.range, List.range.loop, if_true, Act.put, Nat.zero_add, Nat.reduceAdd, hl0, hl1, hl2, hl3, hl4]
      clear hl0 hl1 hl2 hl3 hl4
      go_wp2
      go_end0
      exact ⟨rfl, HJ.out.1, HJ.out.2⟩
    ·obtain ⟨m, hm⟩ : ∃ m, (leftS (knD f) (h n)).length = m := ⟨_, rfl⟩
     have hm0 : ((m : Int) == 0) = false := by
      have : m ≠ 0 := fun e => hl0 (List.eq_nil_of_length_eq_zero (by rw [hm, e]))
      exact beq_eq_false_iff_ne.2 (by omega)
     have hln : ∀ ty, (Builtin.len_ #[116] ty #[.map (some n)]).run Tryz.prog wr = .ok (.int .i64 (m : Int)) wr := fun ty => by
      have := len_run (P := Tryz.prog) (ty := ty) hown Tryz.underlying116
      rwa [hm] at this
     have HL0 := hid hl0
     clear hown hKS hKE hKO hK hl0 HRg HBt hm
     go_wp2
     go_end0
     refine ⟨rfl, ?_⟩
     rw [← HS.out]
     have hk := HK.out wr (Below.refl _ _)
     exact undo_turn HB.out HG.out hk.1 hk.2.1 hk.2.2.1 (knD f) hk.2.2.2 HL0.out
   ·intro pd vv R1 V1 hp hrg1 hb1 hs1 hen
    obtain ⟨rr, cc⟩ := pd
    have hn0 := HRg.out.nodup
    have hl1 : wr.rangeLeft n r = R.length := HRg.out.left_eq
    have hV1 : But n Z V1 := HBt.out.trans_but hb1 (by omega)
    have HP := hid hp
    have HR1 := hid hrg1
    have HN0 := hid hn0
    have HL1 := hid hl1
    have HV1 := hid hV1
    clear hp hrg1 hb1 hs1 hn0 hl1 hV1 HRg
    obtain ⟨X, hX⟩ : ∃ X, X = (V1.alloc (.cells #[.int .i64 0, .int .i64 0] 58)).setRow V1.heap.size #[.int .i64 rr, .int .i64 cc] := ⟨_, rfl⟩
    have hB0 : Blk (V1.alloc (.cells #[.int .i64 0, .int .i64 0] 58)) V1.heap.size 58 #[.int .i64 0, .int .i64 0] := Blk.new V1 _ _
    have hBX : Blk X V1.heap.size 58 #[.int .i64 rr, .int .i64 cc] := by rw [hX]; exact setRow_blk _ _ _ _ _ hB0
    have hbX : Below V1.heap.size V1 X := by rw [hX]; exact ((Below.refl _ _).alloc (Nat.le_refl _) _).trans (setRow_below _ _ _ _ (Nat.le_refl _))
    have hVX : VB X (q + 1) f := (HV1.out.blk KV.out (blk_ne_map KV.out (HB.out.inner.at_ HG.out).2.2)).below hbX (HV1.out.blk KV.out (blk_ne_map KV.out (HB.out.inner.at_ HG.out).2.2)).lt
    have HX := hid hX
    have HBX := hid hBX
    have HbX := hid hbX
    have HVX := hid hVX
    clear hX hBX hbX hVX
    simp only [eD, dv] at hen ⊢
    go_upto_region 5 with (first
     | (refine wpList_store_row rfl 58 (.tmp 7) (.tmp 19) rfl V1.heap.size #[.int .i64 rr, .int .i64 cc] rfl rfl _ _ hB0 (by kernel_rfl) rfl (by kernel_rfl) ?_))
    rw [← HX.out]
    clear hB0 hen
    go_wp2_with (first
     | (refine wpList_load_if rfl 26 (.tmp 5) rfl (q + 1) rfl _ _ _ _ HVX.out Tryz.underlying26 rfl (sizeV _) ?_)
     | (refine wpList_load_if rfl 58 (.tmp 7) rfl V1.heap.size rfl _ _ _ _ HBX.out Tryz.underlying58 rfl (by kernel_rfl) ?_))
    refine (knows_any f rr cc _).mono ?_
    rintro e V2 ⟨rfl, hb2⟩
    have HB2 := hid (Blk.below HBX.out hb2 (Blk.lt HBX.out))
    have hR2 : Ranging eD eV V2 n r (keepS (knD f) R (h n)) R1 := HR1.out.below (HbX.out.trans (hb2.mono HbX.out.size))
    have HR2 := hid hR2
    have HV2 := hid (HV1.out.trans (But.of_below (HbX.out.trans (hb2.mono HbX.out.size))))
    clear hb2 hR2 HR1 HV1 HBX HbX HVX HX
    cases hkn : knowsB f rr cc
    ·go_wp2
     go_roundw
     case rel => exact ⟨R1, by rw [← keepS_stays HP.out (show knD f ⟨rr, cc⟩ = false from hkn)]; exact HR2.out, HV2.out⟩
     case measure =>
      rw [HR2.out.left_eq, HL1.out, HP.out.length_eq]
      exact Nat.lt_succ_self _
    ·go_wp2_with (first
      | (refine wpList_load_if rfl 58 (.tmp 7) rfl V1.heap.size rfl _ _ _ _ HB2.out Tryz.underlying58 rfl (by kernel_rfl) ?_)
      | (at_delete; refine wpList_delete_is _ rfl _ _ 116 58 43 rfl keyD Tryz.underlying116 n r _ _ ⟨rr, cc⟩ rfl HR2.out rfl ?_; intro V3 hR3 hb3 hs3; go_frame)
      | go_in)
     have hR3' : Ranging eD eV V3 n r (keepS (knD f) R1 (h n)) R1 := by
      rw [← keepS_goes HN0.out HP.out (show knD f ⟨rr, cc⟩ = true from hkn)]
      have := delL_other HN0.out HP.out
      rw [this] at hR3
      exact hR3
     have HR3 := hid hR3'
     have HV3 := hid (HV2.out.trans hb3)
     clear hR3 hR3' hb3 hs3
     go_roundw
     case rel => exact ⟨R1, HR3.out, HV3.out⟩
     case measure =>
      rw [HR3.out.left_eq, HL1.out, HP.out.length_eq]
      exact Nat.lt_succ_self _
theorem undo_any (x : El) (f : Nat → Int) (sb : Nat) (F : Nat → Prop) (σ : List (El × List (Dt × Va))) (w : World) (hS : StoreIs w sb F σ) : Calls Tryz.prog 54 #[.pointer (some ⟨sb, 0, none⟩), eE x, .agg (vA f)] w fun e w' => e = .returned (.tuple #[]) ∧ StoreIs w' sb (Grow F w w') (undoS x (knD f) σ) ∧ Out F w w' := by
 obtain ⟨h1, h2, h3⟩ := hS
 rcases h3 with ⟨hb, hσ⟩ | ⟨ob, I, h, hb, hI, hσ⟩
 ·exact undo_none_w x f sb F w h1 h2 hb σ hσ
 ·cases hg : getL x I with
  | none => exact undo_gone_w x f sb F w ob I h h1 h2 hb hI hg σ hσ.symm
  | some n => exact undo_some_w x f sb F w ob n I h h1 h2 hb hI hg σ hσ.symm
theorem StoreIs.mono {w : World} {sb : Nat} {F G : Nat → Prop} {σ : List (El × List (Dt × Va))} (h : StoreIs w sb F σ) (hs : ∀ i, F i → G i) (hl : ∀ i, G i → i < w.heap.size) : StoreIs w sb G σ := by
 obtain ⟨h1, h2, h3⟩ := h
 refine ⟨hs _ h1, hl, ?_⟩
 rcases h3 with h3 | ⟨ob, I, h, hb, hI, hσ⟩
 ·exact Or.inl h3
 ·exact Or.inr ⟨ob, I, h, hb, hI.kept hs (fun _ _ => rfl), hσ⟩
theorem Grow.up {F : Nat → Prop} {w w1 w2 w3 : World} (h0 : w.heap.size ≤ w1.heap.size) (h1 : w1.heap.size ≤ w2.heap.size) (h2 : w2.heap.size ≤ w3.heap.size) : ∀ i, Grow (Grow F w1 w2) w2 w3 i → Grow F w w3 i := fun i hi => by
 rcases hi with (hi | hi) | hi
 ·exact Or.inl hi
 ·exact Or.inr ⟨by omega, by omega⟩
 ·exact Or.inr ⟨by omega, by omega⟩
theorem Grow.up1 {F : Nat → Prop} {w w1 w2 : World} (h0 : w.heap.size ≤ w1.heap.size) : ∀ i, Grow F w1 w2 i → Grow F w w2 i := fun i hi => by
 rcases hi with hi | hi
 ·exact Or.inl hi
 ·exact Or.inr ⟨by omega, hi.2⟩
theorem Grow.lt {F : Nat → Prop} {w w2 : World} (hl : ∀ i, F i → i < w.heap.size) (h : w.heap.size ≤ w2.heap.size) : ∀ i, Grow F w w2 i → i < w2.heap.size := fun i hi => by
 rcases hi with hi | hi
 ·exact Nat.lt_of_lt_of_le (hl i hi) h
 ·exact hi.2
def elOf (e : Ev) : El := ⟨e.ek, e.a, e.b, e.cc, e.d⟩
def dtOf (e : Ev) : Dt := ⟨e.r, e.c⟩
def vaOf (e : Ev) : Va := ⟨e.vk, e.vn, e.t⟩
def doS (e : Ev) (σ : List (El × List (Dt × Va))) : List (El × List (Dt × Va)) :=
 if e.op = 1 then comeS (elOf e) (dtOf e) (vaOf e) σ else if e.op = 3 then comeS (elOf e) (dtOf e) (vaOf e) (undoS (elOf e) (knD e.p) σ) else undoS (elOf e) (knD e.p) σ
theorem op_of_ok (e : Ev) (h : okB e = true) : e.op = 1 ∨ e.op = 2 ∨ e.op = 3 ∨ e.op = 4 := by
 unfold okB changeB fitsB at h
 simp only [Bool.and_eq_true] at h
 have h2 := h.2.2
 by_cases h1 : e.op = 1
 ·exact Or.inl h1
 ·by_cases h3 : e.op = 2
  ·exact Or.inr (Or.inl h3)
  ·by_cases h4 : e.op = 3
   ·exact Or.inr (Or.inr (Or.inl h4))
   ·by_cases h5 : e.op = 4
    ·exact Or.inr (Or.inr (Or.inr h5))
    ·rw [if_neg (by omega), if_neg h4, if_neg h5] at h2
     cases h2
theorem doright_is (e : Ev) (hl : Lens e) (b : Bool) (h : okB e = b) (w : World) (hw : CutOk w) : Calls Tryz.prog 52 #[evV e] w (Gives w (.int .i64 (codeI b))) := by
 have := eright_any e w hl hw; rwa [h] at this
theorem ptr_eql_nil (sb : Nat) (w : World) : (binOp .eql 61 (.pointer (some ⟨sb, 0, none⟩)) (.pointer none)).run Tryz.prog w = .ok (.bool false) w := by go_simp
theorem new_any (w : World) : Calls Tryz.prog 30 #[] w fun e w' => e = .returned (.pointer (some ⟨w.heap.size, 0, none⟩)) ∧ w' = w.alloc (.cells #[.map none] 91) := by
 go_enter Tryz.func30, Tryz.ntmps30
 go_wp2
 go_ret
 exact ⟨rfl, rfl⟩
theorem StoreIs.new_ (w : World) : StoreIs (w.alloc (.cells #[.map none] 91)) w.heap.size (fun i => i = w.heap.size) [] :=
 ⟨rfl, fun i hi => by rw [hi]; simp, Or.inl ⟨Blk.new w _ _, rfl⟩⟩
theorem do_any (e : Ev) (sb : Nat) (F : Nat → Prop) (σ : List (El × List (Dt × Va))) (w : World) (hS : StoreIs w sb F σ) (hl : Lens e) (hw : CutOk w) : Calls Tryz.prog 31 #[.pointer (some ⟨sb, 0, none⟩), evV e] w fun x w' =>
  x = .returned (.int .i64 (codeI (okB e))) ∧ StoreIs w' sb (Grow F w w') (if okB e then doS e σ else σ) ∧ Out F w w' := by
 have HR := hid (doright_is e hl)
 have HP := hid (op_of_ok e)
 obtain ⟨X, hX⟩ : ∃ X, X = w.alloc (.cells (evC e) 60) := ⟨_, rfl⟩
 obtain ⟨g, hg⟩ : ∃ g, w.heap.size = g := ⟨_, rfl⟩
 have HX := hid hX
 have HG := hid hg
 have hk : EB X g e := by rw [hX, ← hg]; exact EB.new_ w e
 have hy : Below w.heap.size w X := by rw [hX]; exact (Below.refl _ _).alloc (Nat.le_refl _) _
 have K := hid hk
 have HY := hid hy
 have HW := hid (hw.below hy)
 have H0 := hid hS
 have hpn := fun w => ptr_eql_nil sb w
 clear hX hg hk hy hl hw hS
 cases h0 : okB e
 ·have HR' := hid (HR.out _ h0)
  clear HR h0 HP
  unfold evV at *
  go_enter Tryz.func31, Tryz.ntmps31
  go_upto_region 1 with fail
  rw [← HX.out, HG.out]
  go_wp2_with (first | (refine wpList_load_if rfl 60 (.tmp 3) rfl g rfl _ _ _ _ K.out Tryz.underlying60 rfl (sizeE _) ?_))
  refine (HR'.out _ HW.out).mono ?_
  rintro e' w1 ⟨rfl, hb⟩
  have Y1 := hid (HY.out.trans (hb.mono HY.out.size))
  have hci : codeI false = 1 := rfl
  rw [hci]
  clear hb hci
  go_wp2
  go_ret
  refine ⟨rfl, ?_, Out.of_below Y1.out⟩
  exact (H0.out.below Y1.out).mono (fun i hi => Or.inl hi) (Grow.lt H0.out.2.1 Y1.out.size)
 ·have HR' := hid (HR.out _ h0)
  have hop := HP.out h0
  clear HR h0 HP
  have hci : codeI true = 0 := rfl
  rw [hci]
  have c18 : ∀ w, EB w g e → w.cell? ⟨g, 18, none⟩ = some (.int .i64 e.op) := fun w h => h.opc
  rcases hop with hop | hop | hop | hop
  ·unfold evV at *
   go_enter Tryz.func31, Tryz.ntmps31
   go_upto_region 1 with fail
   rw [← HX.out, HG.out]
   go_wp2_with (first | (refine wpList_load_if rfl 60 (.tmp 3) rfl g rfl _ _ _ _ K.out Tryz.underlying60 rfl (sizeE _) ?_))
   refine (HR'.out _ HW.out).mono ?_
   rintro e' w1 ⟨rfl, hb⟩
   have Y1 := hid (HY.out.trans (hb.mono HY.out.size))
   have K1 := hid (EB.keep K.out hb)
   have S1 := hid (H0.out.below (HY.out.trans (hb.mono HY.out.size)))
   have c1 : w1.cell? ⟨g, 18, none⟩ = some (.int .i64 1) := by rw [← hop]; exact K1.out.opc
   rw [hci]
   have HOP := hid hop
   clear hb hci c18 hop
   go_wp2_with (first
         | (refine wpList_load_midif rfl 38 (.tmp 17) rfl g 19 rfl _ _ K1.out.elem Tryz.underlying38 rfl (by kernel_rfl) ?_)
         | (refine wpList_load_midif rfl 58 (.tmp 19) rfl g 0 rfl _ _ K1.out.dot Tryz.underlying58 rfl (by kernel_rfl) ?_)
         | (refine wpList_load_midif rfl 43 (.tmp 21) rfl g 24 rfl _ _ K1.out.value Tryz.underlying43 rfl (by kernel_rfl) ?_)
         | (refine wpList_val (o := ⟨some 23, _, _, _, _, _⟩) rfl (enV (dtOf e) (vaOf e)) w1 (by kernel_rfl) ?_))
   refine (come_any (elOf e) (dtOf e) (vaOf e) sb F σ w1 S1.out).mono ?_
   rintro e' w2 ⟨rfl, hs2, ho2⟩
   have S2 := hid hs2
   have O2 := hid ho2
   clear hs2 ho2
   clear c1
   go_wp2
   go_ret
   refine ⟨rfl, ?_, ?_⟩
   ·unfold doS
    rw [if_pos HOP.out]
    exact S2.out.mono (Grow.up1 Y1.out.size) (Grow.lt H0.out.2.1 (Nat.le_trans Y1.out.size O2.out.size))
   ·exact (Out.of_below Y1.out).trans' O2.out
  ·unfold evV at *
   go_enter Tryz.func31, Tryz.ntmps31
   go_upto_region 1 with fail
   rw [← HX.out, HG.out]
   go_wp2_with (first | (refine wpList_load_if rfl 60 (.tmp 3) rfl g rfl _ _ _ _ K.out Tryz.underlying60 rfl (sizeE _) ?_))
   refine (HR'.out _ HW.out).mono ?_
   rintro e' w1 ⟨rfl, hb⟩
   have Y1 := hid (HY.out.trans (hb.mono HY.out.size))
   have K1 := hid (EB.keep K.out hb)
   have S1 := hid (H0.out.below (HY.out.trans (hb.mono HY.out.size)))
   have c1 : w1.cell? ⟨g, 18, none⟩ = some (.int .i64 2) := by rw [← hop]; exact K1.out.opc
   rw [hci]
   have HOP := hid hop
   clear hb hci c18 hop
   go_wp2_with (first
         | (refine wpList_load_midif rfl 38 (.tmp 29) rfl g 19 rfl _ _ K1.out.elem Tryz.underlying38 rfl (by kernel_rfl) ?_)
         | (refine wpList_load_midif rfl 26 (.tmp 31) rfl g 2 rfl _ _ K1.out.past Tryz.underlying26 rfl (by kernel_rfl) ?_))
   refine (undo_any (elOf e) e.p sb F σ w1 S1.out).mono ?_
   rintro e' w2 ⟨rfl, hs2, ho2⟩
   have S2 := hid hs2
   have O2 := hid ho2
   clear hs2 ho2
   clear c1
   go_wp2
   go_ret
   refine ⟨rfl, ?_, ?_⟩
   ·unfold doS
    rw [if_neg (by rw [HOP.out]; decide), if_neg (by rw [HOP.out]; decide)]
    exact S2.out.mono (Grow.up1 Y1.out.size) (Grow.lt H0.out.2.1 (Nat.le_trans Y1.out.size O2.out.size))
   ·exact (Out.of_below Y1.out).trans' O2.out
  ·unfold evV at *
   go_enter Tryz.func31, Tryz.ntmps31
   go_upto_region 1 with fail
   rw [← HX.out, HG.out]
   go_wp2_with (first | (refine wpList_load_if rfl 60 (.tmp 3) rfl g rfl _ _ _ _ K.out Tryz.underlying60 rfl (sizeE _) ?_))
   refine (HR'.out _ HW.out).mono ?_
   rintro e' w1 ⟨rfl, hb⟩
   have Y1 := hid (HY.out.trans (hb.mono HY.out.size))
   have K1 := hid (EB.keep K.out hb)
   have S1 := hid (H0.out.below (HY.out.trans (hb.mono HY.out.size)))
   have c1 : w1.cell? ⟨g, 18, none⟩ = some (.int .i64 3) := by rw [← hop]; exact K1.out.opc
   rw [hci]
   have HOP := hid hop
   clear hb hci c18 hop
   go_wp2_with (first
         | (refine wpList_load_midif rfl 38 (.tmp 37) rfl g 19 rfl _ _ K1.out.elem Tryz.underlying38 rfl (by kernel_rfl) ?_)
         | (refine wpList_load_midif rfl 26 (.tmp 39) rfl g 2 rfl _ _ K1.out.past Tryz.underlying26 rfl (by kernel_rfl) ?_))
   refine (undo_any (elOf e) e.p sb F σ w1 S1.out).mono ?_
   rintro e' w2 ⟨rfl, hs2, ho2⟩
   have S2 := hid hs2
   have O2 := hid ho2
   have K2 := hid (show EB w2 g e from (ho2.block g K1.out.lt (fun hf => by have := H0.out.2.1 g hf; have := HG.out; omega)).trans K1.out)
   clear hs2 ho2
   go_wp2_with (first
         | (refine wpList_load_midif rfl 38 (.tmp 43) rfl g 19 rfl _ _ K2.out.elem Tryz.underlying38 rfl (by kernel_rfl) ?_)
         | (refine wpList_load_midif rfl 58 (.tmp 45) rfl g 0 rfl _ _ K2.out.dot Tryz.underlying58 rfl (by kernel_rfl) ?_)
         | (refine wpList_load_midif rfl 43 (.tmp 47) rfl g 24 rfl _ _ K2.out.value Tryz.underlying43 rfl (by kernel_rfl) ?_)
         | (refine wpList_val (o := ⟨some 49, _, _, _, _, _⟩) rfl (enV (dtOf e) (vaOf e)) w2 (by kernel_rfl) ?_))
   refine (come_any (elOf e) (dtOf e) (vaOf e) sb _ _ w2 S2.out).mono ?_
   rintro e' w3 ⟨rfl, hs3, ho3⟩
   have S3 := hid hs3
   have O3 := hid ho3
   clear hs3 ho3
   clear c1
   go_wp2
   go_ret
   refine ⟨rfl, ?_, ?_⟩
   ·unfold doS
    rw [if_neg (by rw [HOP.out]; decide), if_pos HOP.out]
    exact S3.out.mono (Grow.up Y1.out.size O2.out.size O3.out.size) (Grow.lt H0.out.2.1 (Nat.le_trans Y1.out.size (Nat.le_trans O2.out.size O3.out.size)))
   ·exact (Out.of_below Y1.out).trans' (O2.out.trans O3.out)
  ·unfold evV at *
   go_enter Tryz.func31, Tryz.ntmps31
   go_upto_region 1 with fail
   rw [← HX.out, HG.out]
   go_wp2_with (first | (refine wpList_load_if rfl 60 (.tmp 3) rfl g rfl _ _ _ _ K.out Tryz.underlying60 rfl (sizeE _) ?_))
   refine (HR'.out _ HW.out).mono ?_
   rintro e' w1 ⟨rfl, hb⟩
   have Y1 := hid (HY.out.trans (hb.mono HY.out.size))
   have K1 := hid (EB.keep K.out hb)
   have S1 := hid (H0.out.below (HY.out.trans (hb.mono HY.out.size)))
   have c1 : w1.cell? ⟨g, 18, none⟩ = some (.int .i64 4) := by rw [← hop]; exact K1.out.opc
   rw [hci]
   have HOP := hid hop
   clear hb hci c18 hop
   go_wp2_with (first
         | (refine wpList_load_midif rfl 38 (.tmp 29) rfl g 19 rfl _ _ K1.out.elem Tryz.underlying38 rfl (by kernel_rfl) ?_)
         | (refine wpList_load_midif rfl 26 (.tmp 31) rfl g 2 rfl _ _ K1.out.past Tryz.underlying26 rfl (by kernel_rfl) ?_))
   refine (undo_any (elOf e) e.p sb F σ w1 S1.out).mono ?_
   rintro e' w2 ⟨rfl, hs2, ho2⟩
   have S2 := hid hs2
   have O2 := hid ho2
   clear hs2 ho2
   clear c1
   go_wp2
   go_ret
   refine ⟨rfl, ?_, ?_⟩
   ·unfold doS
    rw [if_neg (by rw [HOP.out]; decide), if_neg (by rw [HOP.out]; decide)]
    exact S2.out.mono (Grow.up1 Y1.out.size) (Grow.lt H0.out.2.1 (Nat.le_trans Y1.out.size O2.out.size))
   ·exact (Out.of_below Y1.out).trans' O2.out
end Go.Proofs.YtdgglhlofnigkaaGreatDoor
