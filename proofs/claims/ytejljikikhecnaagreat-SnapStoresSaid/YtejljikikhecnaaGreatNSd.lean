/-
  store.New: the contract. (*store.Store).Put: the contract, by a walk. Conditions: lengths.
-/
import Derived.Test.YtejljikikhecnaaGreatNSc
namespace Go.Proofs.YtejljikikhecnaaGreat
open Go.RowKit Go.MapKept Go.Sort
theorem blk_ne_map {α β : Type} {eK : α → Value} {eU : β → Value} {w : World} {g b : Nat} {t : TypeId} {cs : Array Value} {L : List (α × β)} (hb : Blk w g t cs) (hm : MapIs eK eU w b L) : g ≠ b := by
  intro e
  obtain ⟨es, c, ho, _⟩ := hm
  unfold Blk at hb
  rw [← e, hb] at ho
  cases ho
theorem But.trans_but {n r : Nat} {a b c : World} (h : But n a b) (k : But r b c) (hr : a.heap.size ≤ r) : But n a c :=
  ⟨k.os.trans h.os, k.tape.trans h.tape, k.output.trans h.output, Nat.le_trans h.size k.size, fun i hi hn => (k.block i (Nat.lt_of_lt_of_le hi h.size) (fun e => by have := Option.some.inj e; omega)).trans (h.block i hi hn)⟩
theorem StoreIs.mono {w : World} {sb : Nat} {F G : Nat → Prop} {σ : List (El × List (Dt × Va))} (h : StoreIs w sb F σ) (hs : ∀ i, F i → G i) (hl : ∀ i, G i → i < w.heap.size) : StoreIs w sb G σ := by
  obtain ⟨h1, h2, h3⟩ := h
  refine ⟨hs _ h1, hl, ?_⟩
  rcases h3 with h3 | ⟨ob, I, h, hb, hI, hσ⟩
  · exact Or.inl h3
  · exact Or.inr ⟨ob, I, h, hb, hI.kept hs (fun _ _ => rfl), hσ⟩
theorem Grow.up {F : Nat → Prop} {w w1 w2 w3 : World} (h0 : w.heap.size ≤ w1.heap.size) (h1 : w1.heap.size ≤ w2.heap.size) (h2 : w2.heap.size ≤ w3.heap.size) : ∀ i, Grow (Grow F w1 w2) w2 w3 i → Grow F w w3 i := fun i hi => by
  rcases hi with (hi | hi) | hi
  · exact Or.inl hi
  · exact Or.inr ⟨by omega, by omega⟩
  · exact Or.inr ⟨by omega, by omega⟩
theorem Grow.up1 {F : Nat → Prop} {w w1 w2 : World} (h0 : w.heap.size ≤ w1.heap.size) : ∀ i, Grow F w1 w2 i → Grow F w w2 i := fun i hi => by
  rcases hi with hi | hi
  · exact Or.inl hi
  · exact Or.inr ⟨by omega, hi.2⟩
theorem Grow.lt {F : Nat → Prop} {w w2 : World} (hl : ∀ i, F i → i < w.heap.size) (h : w.heap.size ≤ w2.heap.size) : ∀ i, Grow F w w2 i → i < w2.heap.size := fun i hi => by
  rcases hi with hi | hi
  · exact Nat.lt_of_lt_of_le (hl i hi) h
  · exact hi.2

theorem ptr_eql_nil (sb : Nat) (w : World) : (binOp .eql 53 (.pointer (some ⟨sb, 0, none⟩)) (.pointer none)).run Tryz.prog w = .ok (.bool false) w := by go_simp

theorem st_new_any (w : World) : Calls Tryz.prog 17 #[] w fun e w' => e = .returned (.pointer (some ⟨w.heap.size, 0, none⟩)) ∧ w' = w.alloc (.cells #[.map none] 98) := by
  go_enter Tryz.func17, Tryz.ntmps17
  go_wp2
  go_ret
  exact ⟨rfl, rfl⟩
theorem StoreIs.new_ (w : World) : StoreIs (w.alloc (.cells #[.map none] 98)) w.heap.size (fun i => i = w.heap.size) [] :=
  ⟨rfl, fun i hi => by rw [hi]; simp, Or.inl ⟨Blk.new w _ _, rfl⟩⟩


end Go.Proofs.YtejljikikhecnaaGreat

namespace Go.Proofs.YtejljikikhecnaaGreat
open Go.RowKit Go.MapKept Go.Sort

/-- What an item laid down leaves. -/
def fillS (x : El) (l : List (Dt × Va)) (σ : List (El × List (Dt × Va))) : List (El × List (Dt × Va)) := l.foldl (fun s q => comeS x q.1 q.2 s) σ
def putI (x : El) (l : List (Dt × Va)) (σ : List (El × List (Dt × Va))) : List (El × List (Dt × Va)) := fillS x l (delL x σ)
theorem fillS_snoc {x : El} {l : List (Dt × Va)} {q : Dt × Va} {σ : List (El × List (Dt × Va))} : fillS x (l ++ [q]) σ = comeS x q.1 q.2 (fillS x l σ) := by simp [fillS]
section
variable {w W w' : World} {F : Nat → Prop} {sb ob : Nat} {I : List (El × Nat)} {h : Nat → List (Dt × Va)} {x : El} {σ : List (El × List (Dt × Va))}
theorem drop_is (h1 : F sb) (h2 : ∀ i, F i → i < w.heap.size) (hb : Blk w sb 98 #[.map (some ob)]) (hI : InnerIs w F ob I h) (hW : Below w.heap.size w W) (hm : MapIs eE eM w' ob (delL x I)) (hbut : But ob W w') :
    StoreIs w' sb F (delL x (mapS h I)) ∧ Out F w w' := by
  have hz : w.heap.size ≤ w'.heap.size := Nat.le_trans hW.size hbut.size
  have hk : ∀ i, F i → i ≠ ob → w'.heap[i]? = w.heap[i]? := fun i hi hin => (hbut.block i (Nat.lt_of_lt_of_le (h2 i hi) hW.size) (fun e => hin (Option.some.inj e))).trans (hW.block i (h2 i hi))
  obtain ⟨hI', hσ⟩ := hI.drop hm (fun _ e => e) hk
  exact ⟨⟨h1, fun i hi => Nat.lt_of_lt_of_le (h2 i hi) hz, Or.inr ⟨ob, _, _, (hk sb h1 (blk_ne_map hb hI.2.1)).trans hb, hI', hσ.symm⟩⟩, (Out.of_below hW).trans' (Out.of_but hbut hI.1)⟩
/-- The map of a store, and what deleting a key of it leaves. -/
theorem StoreIs.dels (hS : StoreIs w sb F σ) (x : El) : ∃ m, Blk w sb 98 #[.map m] ∧ ∀ W ty, Below w.heap.size w W → ∃ w', (Builtin.delete_ #[96, 45] ty #[.map m, eE x]).run Tryz.prog W = .ok (.tuple #[]) w' ∧ StoreIs w' sb F (delL x σ) ∧ Out F w w' := by
  obtain ⟨h1, h2, h3⟩ := hS
  rcases h3 with ⟨hb, rfl⟩ | ⟨ob, I, h, hb, hI, rfl⟩
  · exact ⟨none, hb, fun W ty hW => ⟨W, del_nil_run keyE Tryz.underlying96 x, StoreIs.below ⟨h1, h2, .inl ⟨hb, rfl⟩⟩ hW, Out.of_below hW⟩⟩
  · refine ⟨some ob, hb, fun W ty hW => ?_⟩
    obtain ⟨w', hr, hm, hbut, _, _⟩ := del_run (ty := ty) (MapIs.same hI.2.1 (hW.block _ (MapIs.lt hI.2.1))) keyE Tryz.underlying96 x
    obtain ⟨q1, q2⟩ := drop_is h1 h2 hb hI hW hm hbut
    exact ⟨w', hr, q1, q2⟩
end
theorem Out.same {F : Nat → Prop} {w w' : World} (h : Out F w w') {k : Nat} (hk : k < w.heap.size) (hF : ¬ F k) : w'.heap[k]? = w.heap[k]? := h.block k hk hF
theorem iright_is (x : El) (l : List (Dt × Va)) (A : Option Addr) (N c : Nat) (hN : l.length = N) (hN2 : N ≤ 1000000) (hx : LenE x) (hv : ∀ q ∈ l, q.2.t.size ≤ 140737488355328) (b : Bool) (h : rightI x l = b) (w : World) (hs : SlK enN 5 w (.slice A N c) l) (hw : CutOk w) :
    Calls Tryz.prog 89 #[.agg #[.int .i64 x.k, .string x.a, .string x.b, .string x.c, .string x.d, .slice A N c]] w (Gives w (.bool b)) := by
  have := iright_any x l A N c w hs hN hN2 hx hv hw; rwa [h] at this

set_option maxRecDepth 100000 in
set_option maxHeartbeats 4000000 in
theorem st_put_any (x : El) (l : List (Dt × Va)) (A : Option Addr) (N c sb : Nat) (F : Nat → Prop) (σ : List (El × List (Dt × Va))) (w : World) (hS : StoreIs w sb F σ) (hs : SlK enN 5 w (.slice A N c) l) (hA : l ≠ [] → ∀ g o, A = some ⟨g, o, none⟩ → ¬ F g) (hN : l.length = N) (hN2 : N ≤ 1000000) (hx : LenE x) (hv : ∀ q ∈ l, q.2.t.size ≤ 140737488355328) (hw : CutOk w) :
    Calls Tryz.prog 55 #[.pointer (some ⟨sb, 0, none⟩), .agg #[.int .i64 x.k, .string x.a, .string x.b, .string x.c, .string x.d, .slice A N c]] w fun e w' =>
      e = .returned (.int .i64 (codeI (rightI x l))) ∧ StoreIs w' sb (Grow F w w') (if rightI x l then putI x l σ else σ) ∧ Out F w w' := by
  have hpn := fun w => ptr_eql_nil sb w
  obtain ⟨q0, hq0⟩ : ∃ q0, w.heap.size = q0 := ⟨_, rfl⟩
  obtain ⟨Y, hY⟩ : ∃ Y, Y = w.alloc (.cells #[.int .i64 x.k, .string x.a, .string x.b, .string x.c, .string x.d, .slice A N c] 61) := ⟨_, rfl⟩
  have hbY : Below w.heap.size w Y := by rw [hY]; exact (Below.refl _ _).alloc (Nat.le_refl _) _
  have hB0 : Blk Y q0 61 #[.int .i64 x.k, .string x.a, .string x.b, .string x.c, .string x.d, .slice A N c] := by rw [hY, ← hq0]; exact Blk.new _ _ _
  have hSY := hS.below hbY
  have hq0F : ¬ F q0 := fun e => by have := hS.2.1 _ e; omega
  have hql : q0 < Y.heap.size := hB0.lt
  obtain ⟨m, hbm, hdel⟩ := hSY.dels x
  have HW := Lib.hid (hw.below hbY)
  have HS := Lib.hid (hs.below hbY)
  have HSY := Lib.hid hSY
  have HSm := Lib.hid hbm
  have HDl := Lib.hid hdel
  have HY := Lib.hid hY
  have HbY := Lib.hid hbY
  have HB0 := Lib.hid hB0
  have HQ := Lib.hid hq0
  have HQF := Lib.hid hq0F
  have HQl := Lib.hid hql
  have HAF := Lib.hid hA
  have HN := Lib.hid hN
  have HN2 := Lib.hid hN2
  have HRt := Lib.hid (iright_is x l A N c hN hN2 hx hv)
  have HRa : Hid (∀ W, Below Y.heap.size Y W → W.rangeAt q0 0 [.int .i64 x.k, .string x.a, .string x.b, .string x.c, .string x.d]) := Lib.hid fun W h => rangeAt_below (World.rangeAt_of_block (C := #[.int .i64 x.k, .string x.a, .string x.b, .string x.c, .string x.d, .slice A N c]) hB0 0 5) hB0.lt h
  have HRo : Hid (∀ W : World, W.heap[q0]? = Y.heap[q0]? → W.rangeAt q0 0 [.int .i64 x.k, .string x.a, .string x.b, .string x.c, .string x.d] ∧ W.cell? ⟨q0, 5, none⟩ = some (.slice A N c)) := Lib.hid fun W h => ⟨rangeAt_same (World.rangeAt_of_block (C := #[.int .i64 x.k, .string x.a, .string x.b, .string x.c, .string x.d, .slice A N c]) hB0 0 5) h, (Blk.cell (show Blk W q0 61 _ from h.trans hB0) 5).trans rfl⟩
  clear hY hbY hB0 hS hs hA hx hv hw hN hN2 hq0 hSY hq0F hql hbm hdel
  cases hr : rightI x l
  · have HR := Lib.hid (HRt.out false hr Y HS.out HW.out)
    clear hr HRt
    go_enter Tryz.func55, Tryz.ntmps55
    go_upto_region 1 with fail
    rw [← HY.out, HQ.out]
    go_wp2_with (first
      | (refine wpList_load_if rfl 61 (.tmp 3) rfl q0 rfl _ _ _ _ HB0.out Tryz.underlying61 rfl (by kernel_rfl) ?_)
      | fail)
    refine HR.out.mono ?_
    rintro e w1 ⟨rfl, hb1⟩
    have HZ := Lib.hid (HbY.out.trans (hb1.mono HbY.out.size))
    have HZ1 := Lib.hid hb1
    clear hb1 hpn
    go_wp2
    go_ret
    exact ⟨rfl, StoreIs.mono (HSY.out.below HZ1.out) (fun i hi => .inl hi) (Grow.lt (fun i hi => by
      have := HSY.out.2.1 i hi
      rcases Nat.lt_or_ge i w.heap.size with h | h
      · exact h
      · have h3 : i = q0 := by
          have e1 : Y.heap.size = w.heap.size + 1 := by rw [HY.out]; simp
          have := HQ.out
          omega
        rw [h3] at hi
        exact absurd hi HQF.out) HZ.out.size), Out.of_below HZ.out⟩
  · have HR := Lib.hid (HRt.out true hr Y HS.out HW.out)
    clear hr HRt
    go_enter Tryz.func55, Tryz.ntmps55
    go_upto_region 1 with fail
    rw [← HY.out, HQ.out]
    go_wp2_with (first
      | (refine wpList_load_if rfl 61 (.tmp 3) rfl q0 rfl _ _ _ _ HB0.out Tryz.underlying61 rfl (by kernel_rfl) ?_)
      | fail)
    refine HR.out.mono ?_
    rintro e w1 ⟨rfl, hb1⟩
    have HZ1 := Lib.hid hb1
    clear hb1
    go_upto_region 3 with fail
    clear hpn
    refine wp_region_any (by kernel_rfl) ?_
    refine wpAny_last (fun i uq _ => uq = ([.pointer (some ⟨sb, 0, none⟩), .pointer (some ⟨sb, 0, none⟩), .pointer (some ⟨sb, 0, none⟩), .map m, .pointer (some ⟨q0, 0, none⟩), eE x, undef] : List Value).getD i undef) _ w1 6 _ (fun vals wq => (∀ j, j < 6 → vals j = ([.pointer (some ⟨sb, 0, none⟩), .pointer (some ⟨sb, 0, none⟩), .pointer (some ⟨sb, 0, none⟩), .map m, .pointer (some ⟨q0, 0, none⟩), eE x, undef] : List Value).getD j undef) ∧ (fun w' => StoreIs w' sb F (delL x σ) ∧ Out F Y w') wq) (by kernel_rfl) rfl (by kernel_rfl) (by kernel_rfl) (by kernel_rfl) (by kernel_rfl) (fun i v w w' _ h => h) ?_ ?_ ?_
    · refine ⟨?_, ?_, ?_, ?_, ?_, ?_, fun h => absurd h (Nat.lt_irrefl _), trivial⟩
      · intro _ a W hI hun haft hi
        have e0 : a.eval (.tmp 0) = .pointer (some ⟨sb, 0, none⟩) := hun 0 (by kernel_rfl)
        exact b_same hi hI rfl _ (run_move_op rfl e0) rfl
      · intro _ a W hI hun haft hi
        have f0 : a.eval (.tmp 14) = .pointer (some ⟨sb, 0, none⟩) := haft ⟨0, .data⟩ (by simp) rfl _ _ rfl rfl
        exact b_same hi hI rfl _ (run_nilCheck_op rfl f0) rfl
      · intro _ a W hI hun haft hi
        have f1 : a.eval (.tmp 15) = .pointer (some ⟨sb, 0, none⟩) := haft ⟨1, .data⟩ (by simp) rfl _ _ rfl rfl
        exact b_same hi hI rfl _ (run_fieldAddr_any rfl f1 (at_store0 _ 0 _)) rfl
      · intro _ a W hI hun haft hi
        have f2 : a.eval (.tmp 16) = .pointer (some ⟨sb, 0, none⟩) := haft ⟨2, .data⟩ (by simp) rfl _ _ rfl rfl
        exact b_same hi hI rfl _ (run_loadmap_op rfl f2 Tryz.underlying96 ((Blk.cell (Blk.below HSm.out (HZ1.out.trans (hI.mono HZ1.out.size)) (Blk.lt HSm.out)) 0).trans rfl)) rfl
      · intro _ a W hI hun haft hi
        have e3 : a.eval (.tmp 3) = .pointer (some ⟨q0, 0, none⟩) := hun 3 (by kernel_rfl)
        exact b_same hi hI rfl _ (run_fieldAddr_any rfl e3 (at_item0 _ 0 _)) rfl
      · intro _ a W hI hun haft hi
        have f4 : a.eval (.tmp 18) = .pointer (some ⟨q0, 0, none⟩) := haft ⟨4, .data⟩ (by simp) rfl _ _ rfl rfl
        exact b_same hi hI rfl _ (run_loadmid_op rfl f4 (HRa.out W (HZ1.out.trans (hI.mono HZ1.out.size))) Tryz.underlying45 rfl (by kernel_rfl)) rfl
    · intro vals a W hI hun hsl hp
      have f3 : a.eval (.tmp 17) = .map m := (hsl 3 _ _ rfl (by decide) rfl).trans (hp 3 (by decide))
      have f5 : a.eval (.tmp 19) = eE x := (hsl 5 _ _ rfl (by decide) rfl).trans (hp 5 (by decide))
      obtain ⟨w', hr, hj⟩ := HDl.out W _ (HZ1.out.trans (hI.mono HZ1.out.size))
      refine wpOp_val rfl rfl (.tuple #[]) w' (run_delete_op rfl f3 f5 hr) ⟨_, rfl, fun vals' h1 _ => ⟨fun j hj => (h1 j hj).trans (hp j hj), hj⟩⟩
    · rintro vals W ⟨hv, hJ⟩
      have hl0 : vals 0 = .pointer (some ⟨sb, 0, none⟩) := hv 0 (by decide)
      have hl1 : vals 1 = .pointer (some ⟨sb, 0, none⟩) := hv 1 (by decide)
      have hl2 : vals 2 = .pointer (some ⟨sb, 0, none⟩) := hv 2 (by decide)
      have hl3 : vals 3 = .map m := hv 3 (by decide)
      have hl4 : vals 4 = .pointer (some ⟨q0, 0, none⟩) := hv 4 (by decide)
      have hl5 : vals 5 = eE x := hv 5 (by decide)
      have HJ := Lib.hid hJ
      clear hv hJ
      simp only [layN, List.size_toArray, List.length_cons, List.length_nil, List.range, List.range.loop, if_true, List.getElem?_toArray, List.getElem?_cons_zero, List.getElem?_cons_succ, Act.put, List.setIfInBounds_toArray, List.set_cons_zero, List.set_cons_succ, Nat.zero_add, Nat.reduceAdd, hl0, hl1, hl2, hl3, hl4, hl5]
      clear hl0 hl1 hl2 hl3 hl4 hl5
      have HJ1 := Lib.hid HJ.out.1
      have HJ2 := Lib.hid HJ.out.2
      clear HJ
      have c5 := (HRo.out W (HJ2.out.same HQl.out HQF.out)).2
      go_wp2_with fail
      clear c5
      go_loopw [23] (fun v23 wr => ∃ (j : Nat) (G : Nat → Prop), v23 = .int .i64 j ∧ j ≤ N ∧ StoreIs wr sb G (fillS x (l.take j) (delL x σ)) ∧ (∀ i, G i → Grow F Y wr i) ∧ Out F Y wr) (fun v23 _ => N - (intOf v23).toNat)
      case atStart => exact ⟨0, F, rfl, Nat.zero_le _, HJ1.out, fun i hi => .inl hi, HJ2.out⟩
      case round =>
        obtain ⟨j, G, rfl, hj, hst, hG, hO⟩ := hrel
        have HSt := Lib.hid hst
        have HG' := Lib.hid hG
        have HO := Lib.hid hO
        clear hst hG hO HJ1 HJ2
        by_cases hlt : j < N
        · obtain ⟨y, hy⟩ : ∃ y, l[j]? = some y := ⟨l[j]'(by rw [HN.out]; exact hlt), List.getElem?_eq_getElem _⟩
          obtain ⟨A', c', hv', _, hcells⟩ := HS.out
          obtain ⟨g, o, rfl, hgl, hcell⟩ := hcells (fun e => by rw [e] at hy; cases hy)
          injection hv' with e1 e2 e3
          subst e1 e3
          have HAt := Lib.hid (at_N g o c N j hlt wr)
          have HCy := Lib.hid (rangeAt_same (hcell j y hy) (HO.out.same hgl (HAF.out (fun e => by rw [e] at hy; cases hy) g o rfl)))
          have Hy := Lib.hid hy
          have HSi := Lib.hid HS.out
          have hAl := fun c => World.setRow_alloc_new wr #[.int .i64 0, .int .i64 0, .int .i64 0, .int .i64 0, .string ⟨#[]⟩] c 63
          have hZ : Blk (wr.alloc (.cells #[.int .i64 0, .int .i64 0, .int .i64 0, .int .i64 0, .string ⟨#[]⟩] 63)) wr.heap.size 63 #[.int .i64 0, .int .i64 0, .int .i64 0, .int .i64 0, .string ⟨#[]⟩] := Blk.new _ _ _
          obtain ⟨X, hX⟩ : ∃ X, X = wr.alloc (.cells (enN y).toArray 63) := ⟨_, rfl⟩
          have hbX : Below wr.heap.size wr X := by rw [hX]; exact (Below.refl _ _).alloc (Nat.le_refl _) _
          have hBX : Blk X wr.heap.size 63 (enN y).toArray := by rw [hX]; exact Blk.new _ _ _
          have HXe := Lib.hid hX
          have HBX := Lib.hid hBX
          have HbX := Lib.hid hbX
          have hOX : Out F Y X := HO.out.trans' (Out.of_below hbX)
          have HOX := Lib.hid hOX
          have HRx := Lib.hid (HRo.out X (hOX.same HQl.out HQF.out)).1
          clear hX hbX hBX hcell hcells hgl hy hOX e2
          simp only [enN] at HXe HCy HBX
          go_wp2_with (first
            | (refine wpList_val (o := ⟨some 25, _, _, _, _, _⟩) rfl (.pointer (some ⟨g, o + j * 5, none⟩)) wr (run_indexAddr_op rfl rfl rfl HAt.out) ?_)
            | (refine wpList_load_midif rfl 63 (.tmp 25) rfl g (o + j * 5) rfl [.int .i64 y.1.r, .int .i64 y.1.c, .int .i64 y.2.k, .int .i64 y.2.n, .string y.2.t] _ HCy.out Tryz.underlying63 rfl (by kernel_rfl) ?_)
            | (refine wpList_store_row rfl 63 (.tmp 6) (.tmp 26) rfl wr.heap.size #[.int .i64 y.1.r, .int .i64 y.1.c, .int .i64 y.2.k, .int .i64 y.2.n, .string y.2.t] rfl rfl _ _ hZ (by kernel_rfl) rfl (by kernel_rfl) ?_; rw [hAl, ← HXe.out])
            | (refine wpList_load_midif rfl 45 (.tmp 28) rfl q0 0 rfl _ _ HRx.out Tryz.underlying45 rfl (by kernel_rfl) ?_)
            | (refine wpList_load_if rfl 63 (.tmp 6) rfl wr.heap.size rfl _ _ _ _ HBX.out Tryz.underlying63 rfl (by kernel_rfl) ?_)
            | fail)
          refine (come_any x y.1 y.2 sb G _ X (HSt.out.below HbX.out)).mono ?_
          rintro e w2 ⟨rfl, hs2, ho2⟩
          have hsz : Y.heap.size ≤ wr.heap.size := HO.out.size
          have hsX : wr.heap.size ≤ X.heap.size := HbX.out.size
          have hs22 : X.heap.size ≤ w2.heap.size := ho2.size
          have HSn := Lib.hid (show StoreIs w2 sb (Grow G X w2) (fillS x (l.take (j + 1)) (delL x σ)) by
            rw [List.take_add_one, Hy.out]
            exact (by rw [show (some y).toList = [y] from rfl, fillS_snoc]; exact hs2))
          have HGn : Hid (∀ i, Grow G X w2 i → Grow F Y w2 i) := Lib.hid fun i hi => by
            rcases hi with hi | ⟨h1, h2⟩
            · rcases HG'.out i hi with h | ⟨h1, h2⟩
              · exact .inl h
              · exact .inr ⟨h1, by omega⟩
            · exact .inr ⟨by omega, h2⟩
          have HOn := Lib.hid (HOX.out.trans (ho2.mono fun i hi => by
            rcases HG'.out i hi with h | ⟨h1, h2⟩
            · exact .inl h
            · exact .inr ⟨h1, by omega⟩))
          clear hs2 ho2 hsz hsX hs22 hZ hAl
          have hw := IntWalk.i64_in ((j : Int) + 1) (by have := HN2.out; omega)
          have hjm : ¬ 9223372036854775807 < j + 1 := by have := HN2.out; omega
          go_wp2
          go_roundw
          case rel => exact ⟨j + 1, _, by go_num, by omega, HSn.out, HGn.out, HOn.out⟩
          case measure => simp [intOf] <;> omega
        · have hjN : j = N := by omega
          subst hjN
          go_wp2
          go_ret
          have hfin := HSt.out
          rw [List.take_of_length_le (Nat.le_of_eq HN.out)] at hfin
          have hYw := HbY.out.size
          refine ⟨rfl, StoreIs.mono hfin (fun i hi => ?_) (Grow.lt (fun i hi => ?_) (Nat.le_trans hYw HO.out.size)), (Out.of_below HbY.out).trans (HO.out.mono fun i hi => .inl hi)⟩
          · rcases HG'.out i hi with h | ⟨h1, h2⟩
            · exact .inl h
            · exact .inr ⟨by omega, h2⟩
          · have := HSY.out.2.1 i hi
            rcases Nat.lt_or_ge i w.heap.size with h | h
            · exact h
            · have h3 : i = q0 := by
                have e1 : Y.heap.size = w.heap.size + 1 := by rw [HY.out]; simp
                have := HQ.out
                omega
              rw [h3] at hi
              exact absurd hi HQF.out

end Go.Proofs.YtejljikikhecnaaGreat
