/-
  (*store.Store).Put: the contract, by a walk. A store at its place: its blocks lie in one of their own and behind a bound. Do, Put, Has, Len, All there. hedgerowlaw07.fixed: the fixed facts of layer 7's statements hold, and nothing that was there turns. hedgerowlaw07.few: the contract, by a walk. Conditions: lengths.
-/
import Derived.Test.YtmhechlfpaciiaaStGG
import Derived.Test.YtmhechlfpaciiaaEvShort
namespace Go.Proofs.Ytmhechlfpaciiaa
open Go.RowKit Go.MapKept Go.Sort

/-- What an item laid down leaves. -/
def fillS (x : El) (l : List (Dt × Va)) (σ : List (El × List (Dt × Va))) : List (El × List (Dt × Va)) := l.foldl (fun s q => comeS x q.1 q.2 s) σ
def putI (x : El) (l : List (Dt × Va)) (σ : List (El × List (Dt × Va))) : List (El × List (Dt × Va)) := fillS x l (delL x σ)
theorem fillS_snoc {x : El} {l : List (Dt × Va)} {q : Dt × Va} {σ : List (El × List (Dt × Va))} : fillS x (l ++ [q]) σ = comeS x q.1 q.2 (fillS x l σ) := by simp [fillS]
section
variable {w W w' : World} {F : Nat → Prop} {sb ob : Nat} {I : List (El × Nat)} {h : Nat → List (Dt × Va)} {x : El} {σ : List (El × List (Dt × Va))}
theorem drop_is (h1 : F sb) (h2 : ∀ i, F i → i < w.heap.size) (hb : Blk w sb 78 #[.map (some ob)]) (hI : InnerIs w F ob I h) (hW : Below w.heap.size w W) (hm : MapIs eE eM w' ob (delL x I)) (hbut : But ob W w') :
    StoreIs w' sb F (delL x (mapS h I)) ∧ Out F w w' := by
  have hz : w.heap.size ≤ w'.heap.size := Nat.le_trans hW.size hbut.size
  have hk : ∀ i, F i → i ≠ ob → w'.heap[i]? = w.heap[i]? := fun i hi hin => (hbut.block i (Nat.lt_of_lt_of_le (h2 i hi) hW.size) (fun e => hin (Option.some.inj e))).trans (hW.block i (h2 i hi))
  obtain ⟨hI', hσ⟩ := hI.drop hm (fun _ e => e) hk
  exact ⟨⟨h1, fun i hi => Nat.lt_of_lt_of_le (h2 i hi) hz, Or.inr ⟨ob, _, _, (hk sb h1 (blk_ne_map hb hI.2.1)).trans hb, hI', hσ.symm⟩⟩, (Out.of_below hW).trans' (Out.of_but hbut hI.1)⟩
/-- The map of a store, and what deleting a key of it leaves. -/
theorem StoreIs.dels (hS : StoreIs w sb F σ) (x : El) : ∃ m, Blk w sb 78 #[.map m] ∧ ∀ W ty, Below w.heap.size w W → ∃ w', (Builtin.delete_ #[76, 35] ty #[.map m, eE x]).run Try.prog W = .ok (.tuple #[]) w' ∧ StoreIs w' sb F (delL x σ) ∧ Out F w w' := by
  obtain ⟨h1, h2, h3⟩ := hS
  rcases h3 with ⟨hb, rfl⟩ | ⟨ob, I, h, hb, hI, rfl⟩
  · exact ⟨none, hb, fun W ty hW => ⟨W, del_nil_run keyE Try.underlying76 x, StoreIs.below ⟨h1, h2, .inl ⟨hb, rfl⟩⟩ hW, Out.of_below hW⟩⟩
  · refine ⟨some ob, hb, fun W ty hW => ?_⟩
    obtain ⟨w', hr, hm, hbut, _, _⟩ := del_run (ty := ty) (MapIs.same hI.2.1 (hW.block _ (MapIs.lt hI.2.1))) keyE Try.underlying76 x
    obtain ⟨q1, q2⟩ := drop_is h1 h2 hb hI hW hm hbut
    exact ⟨w', hr, q1, q2⟩
end
theorem Out.same {F : Nat → Prop} {w w' : World} (h : Out F w w') {k : Nat} (hk : k < w.heap.size) (hF : ¬ F k) : w'.heap[k]? = w.heap[k]? := h.block k hk hF
theorem iright_is (x : El) (l : List (Dt × Va)) (A : Option Addr) (N c : Nat) (hN : l.length = N) (hN2 : N ≤ 1000000) (hx : LenE x) (hv : ∀ q ∈ l, q.2.t.size ≤ 140737488355328) (b : Bool) (h : rightI x l = b) (w : World) (hs : SlK enN 5 w (.slice A N c) l) (hw : CutOk w) :
    Calls Try.prog 53 #[.agg #[.int .i64 x.k, .string x.a, .string x.b, .string x.c, .string x.d, .slice A N c]] w (Gives w (.bool b)) := by
  have := iright_any x l A N c w hs hN hN2 hx hv hw; rwa [h] at this

set_option maxRecDepth 100000 in
set_option maxHeartbeats 4000000 in
theorem put_any (x : El) (l : List (Dt × Va)) (A : Option Addr) (N c sb : Nat) (F : Nat → Prop) (σ : List (El × List (Dt × Va))) (w : World) (hS : StoreIs w sb F σ) (hs : SlK enN 5 w (.slice A N c) l) (hA : l ≠ [] → ∀ g o, A = some ⟨g, o, none⟩ → ¬ F g) (hN : l.length = N) (hN2 : N ≤ 1000000) (hx : LenE x) (hv : ∀ q ∈ l, q.2.t.size ≤ 140737488355328) (hw : CutOk w) :
    Calls Try.prog 22 #[.pointer (some ⟨sb, 0, none⟩), .agg #[.int .i64 x.k, .string x.a, .string x.b, .string x.c, .string x.d, .slice A N c]] w fun e w' =>
      e = .returned (.int .i64 (codeI (rightI x l))) ∧ StoreIs w' sb (Grow F w w') (if rightI x l then putI x l σ else σ) ∧ Out F w w' := by
  have hpn := fun w => ptr_eql_nil sb w
  obtain ⟨q0, hq0⟩ : ∃ q0, w.heap.size = q0 := ⟨_, rfl⟩
  obtain ⟨Y, hY⟩ : ∃ Y, Y = w.alloc (.cells #[.int .i64 x.k, .string x.a, .string x.b, .string x.c, .string x.d, .slice A N c] 46) := ⟨_, rfl⟩
  have hbY : Below w.heap.size w Y := by rw [hY]; exact (Below.refl _ _).alloc (Nat.le_refl _) _
  have hB0 : Blk Y q0 46 #[.int .i64 x.k, .string x.a, .string x.b, .string x.c, .string x.d, .slice A N c] := by rw [hY, ← hq0]; exact Blk.new _ _ _
  have hSY := hS.below hbY
  have hq0F : ¬ F q0 := fun e => by have := hS.2.1 _ e; omega
  have hql : q0 < Y.heap.size := hB0.lt
  obtain ⟨m, hbm, hdel⟩ := hSY.dels x
  have HW := Lib.hid (hw.below hbY)
  have HS := Lib.hid (hs.below hbY)
  have HSY := Lib.hid hSY
  have HSm := Lib.hid hbm
  have HDl := Lib.hid hdel
  have HY := Lib.hid hY
  have HbY := Lib.hid hbY
  have HB0 := Lib.hid hB0
  have HQ := Lib.hid hq0
  have HQF := Lib.hid hq0F
  have HQl := Lib.hid hql
  have HAF := Lib.hid hA
  have HN := Lib.hid hN
  have HN2 := Lib.hid hN2
  have HRt := Lib.hid (iright_is x l A N c hN hN2 hx hv)
  have HRa : Hid (∀ W, Below Y.heap.size Y W → W.rangeAt q0 0 [.int .i64 x.k, .string x.a, .string x.b, .string x.c, .string x.d]) := Lib.hid fun W h => rangeAt_below (World.rangeAt_of_block (C := #[.int .i64 x.k, .string x.a, .string x.b, .string x.c, .string x.d, .slice A N c]) hB0 0 5) hB0.lt h
  have HRo : Hid (∀ W : World, W.heap[q0]? = Y.heap[q0]? → W.rangeAt q0 0 [.int .i64 x.k, .string x.a, .string x.b, .string x.c, .string x.d] ∧ W.cell? ⟨q0, 5, none⟩ = some (.slice A N c)) := Lib.hid fun W h => ⟨rangeAt_same (World.rangeAt_of_block (C := #[.int .i64 x.k, .string x.a, .string x.b, .string x.c, .string x.d, .slice A N c]) hB0 0 5) h, (Blk.cell (show Blk W q0 46 _ from h.trans hB0) 5).trans rfl⟩
  clear hY hbY hB0 hS hs hA hx hv hw hN hN2 hq0 hSY hq0F hql hbm hdel
  cases hr : rightI x l
  · have HR := Lib.hid (HRt.out false hr Y HS.out HW.out)
    clear hr HRt
    go_enter Try.func22, Try.ntmps22
    go_upto_region 1 with fail
    rw [← HY.out, HQ.out]
    go_wp2_with (first
      | (refine wpList_load_if rfl 46 (.tmp 3) rfl q0 rfl _ _ _ _ HB0.out Try.underlying46 rfl (by kernel_rfl) ?_)
      | fail)
    refine HR.out.mono ?_
    rintro e w1 ⟨rfl, hb1⟩
    have HZ := Lib.hid (HbY.out.trans (hb1.mono HbY.out.size))
    have HZ1 := Lib.hid hb1
    clear hb1 hpn
    go_wp2
    go_ret
    exact ⟨rfl, StoreIs.mono (HSY.out.below HZ1.out) (fun i hi => .inl hi) (Grow.lt (fun i hi => by
      have := HSY.out.2.1 i hi
      rcases Nat.lt_or_ge i w.heap.size with h | h
      · exact h
      · have h3 : i = q0 := by
          have e1 : Y.heap.size = w.heap.size + 1 := by rw [HY.out]; simp
          have := HQ.out
          omega
        rw [h3] at hi
        exact absurd hi HQF.out) HZ.out.size), Out.of_below HZ.out⟩
  · have HR := Lib.hid (HRt.out true hr Y HS.out HW.out)
    clear hr HRt
    go_enter Try.func22, Try.ntmps22
    go_upto_region 1 with fail
    rw [← HY.out, HQ.out]
    go_wp2_with (first
      | (refine wpList_load_if rfl 46 (.tmp 3) rfl q0 rfl _ _ _ _ HB0.out Try.underlying46 rfl (by kernel_rfl) ?_)
      | fail)
    refine HR.out.mono ?_
    rintro e w1 ⟨rfl, hb1⟩
    have HZ1 := Lib.hid hb1
    clear hb1
    go_upto_region 3 with fail
    clear hpn
    refine wp_region_any (by kernel_rfl) ?_
    refine wpAny_last (fun i uq _ => uq = ([.pointer (some ⟨sb, 0, none⟩), .pointer (some ⟨sb, 0, none⟩), .pointer (some ⟨sb, 0, none⟩), .map m, .pointer (some ⟨q0, 0, none⟩), eE x, undef] : List Value).getD i undef) _ w1 6 _ (fun vals wq => (∀ j, j < 6 → vals j = ([.pointer (some ⟨sb, 0, none⟩), .pointer (some ⟨sb, 0, none⟩), .pointer (some ⟨sb, 0, none⟩), .map m, .pointer (some ⟨q0, 0, none⟩), eE x, undef] : List Value).getD j undef) ∧ (fun w' => StoreIs w' sb F (delL x σ) ∧ Out F Y w') wq) (by kernel_rfl) rfl (by kernel_rfl) (by kernel_rfl) (by kernel_rfl) (by kernel_rfl) (fun i v w w' _ h => h) ?_ ?_ ?_
    · refine ⟨?_, ?_, ?_, ?_, ?_, ?_, fun h => absurd h (Nat.lt_irrefl _), trivial⟩
      · intro _ a W hI hun haft hi
        have e0 : a.eval (.tmp 0) = .pointer (some ⟨sb, 0, none⟩) := hun 0 (by kernel_rfl)
        exact b_same hi hI rfl _ (run_move_op rfl e0) rfl
      · intro _ a W hI hun haft hi
        have f0 : a.eval (.tmp 14) = .pointer (some ⟨sb, 0, none⟩) := haft ⟨0, .data⟩ (by simp) rfl _ _ rfl rfl
        exact b_same hi hI rfl _ (run_nilCheck_op rfl f0) rfl
      · intro _ a W hI hun haft hi
        have f1 : a.eval (.tmp 15) = .pointer (some ⟨sb, 0, none⟩) := haft ⟨1, .data⟩ (by simp) rfl _ _ rfl rfl
        exact b_same hi hI rfl _ (run_fieldAddr_any rfl f1 (at_store0 _ 0 _)) rfl
      · intro _ a W hI hun haft hi
        have f2 : a.eval (.tmp 16) = .pointer (some ⟨sb, 0, none⟩) := haft ⟨2, .data⟩ (by simp) rfl _ _ rfl rfl
        exact b_same hi hI rfl _ (run_loadmap_op rfl f2 Try.underlying76 ((Blk.cell (Blk.below HSm.out (HZ1.out.trans (hI.mono HZ1.out.size)) (Blk.lt HSm.out)) 0).trans rfl)) rfl
      · intro _ a W hI hun haft hi
        have e3 : a.eval (.tmp 3) = .pointer (some ⟨q0, 0, none⟩) := hun 3 (by kernel_rfl)
        exact b_same hi hI rfl _ (run_fieldAddr_any rfl e3 (at_item0 _ 0 _)) rfl
      · intro _ a W hI hun haft hi
        have f4 : a.eval (.tmp 18) = .pointer (some ⟨q0, 0, none⟩) := haft ⟨4, .data⟩ (by simp) rfl _ _ rfl rfl
        exact b_same hi hI rfl _ (run_loadmid_op rfl f4 (HRa.out W (HZ1.out.trans (hI.mono HZ1.out.size))) Try.underlying35 rfl (by kernel_rfl)) rfl
    · intro vals a W hI hun hsl hp
      have f3 : a.eval (.tmp 17) = .map m := (hsl 3 _ _ rfl (by decide) rfl).trans (hp 3 (by decide))
      have f5 : a.eval (.tmp 19) = eE x := (hsl 5 _ _ rfl (by decide) rfl).trans (hp 5 (by decide))
      obtain ⟨w', hr, hj⟩ := HDl.out W _ (HZ1.out.trans (hI.mono HZ1.out.size))
      refine wpOp_val rfl rfl (.tuple #[]) w' (run_delete_op rfl f3 f5 hr) ⟨_, rfl, fun vals' h1 _ => ⟨fun j hj => (h1 j hj).trans (hp j hj), hj⟩⟩
    · rintro vals W ⟨hv, hJ⟩
      have hl0 : vals 0 = .pointer (some ⟨sb, 0, none⟩) := hv 0 (by decide)
      have hl1 : vals 1 = .pointer (some ⟨sb, 0, none⟩) := hv 1 (by decide)
      have hl2 : vals 2 = .pointer (some ⟨sb, 0, none⟩) := hv 2 (by decide)
      have hl3 : vals 3 = .map m := hv 3 (by decide)
      have hl4 : vals 4 = .pointer (some ⟨q0, 0, none⟩) := hv 4 (by decide)
      have hl5 : vals 5 = eE x := hv 5 (by decide)
      have HJ := Lib.hid hJ
      clear hv hJ
      simp only [layN, List.size_toArray, List.length_cons, List.length_nil, List.range, List.range.loop, if_true, List.getElem?_toArray, List.getElem?_cons_zero, List.getElem?_cons_succ, Act.put, List.setIfInBounds_toArray, List.set_cons_zero, List.set_cons_succ, Nat.zero_add, Nat.reduceAdd, hl0, hl1, hl2, hl3, hl4, hl5]
      clear hl0 hl1 hl2 hl3 hl4 hl5
      have HJ1 := Lib.hid HJ.out.1
      have HJ2 := Lib.hid HJ.out.2
      clear HJ
      have c5 := (HRo.out W (HJ2.out.same HQl.out HQF.out)).2
      go_wp2_with fail
      clear c5
      go_loopw [23] (fun v23 wr => ∃ (j : Nat) (G : Nat → Prop), v23 = .int .i64 j ∧ j ≤ N ∧ StoreIs wr sb G (fillS x (l.take j) (delL x σ)) ∧ (∀ i, G i → Grow F Y wr i) ∧ Out F Y wr) (fun v23 _ => N - (intOf v23).toNat)
      case atStart => exact ⟨0, F, rfl, Nat.zero_le _, HJ1.out, fun i hi => .inl hi, HJ2.out⟩
      case round =>
        obtain ⟨j, G, rfl, hj, hst, hG, hO⟩ := hrel
        have HSt := Lib.hid hst
        have HG' := Lib.hid hG
        have HO := Lib.hid hO
        clear hst hG hO HJ1 HJ2
        by_cases hlt : j < N
        · obtain ⟨y, hy⟩ : ∃ y, l[j]? = some y := ⟨l[j]'(by rw [HN.out]; exact hlt), List.getElem?_eq_getElem _⟩
          obtain ⟨A', c', hv', _, hcells⟩ := HS.out
          obtain ⟨g, o, rfl, hgl, hcell⟩ := hcells (fun e => by rw [e] at hy; cases hy)
          injection hv' with e1 e2 e3
          subst e1 e3
          have HAt := Lib.hid (at_N g o c N j hlt wr)
          have HCy := Lib.hid (rangeAt_same (hcell j y hy) (HO.out.same hgl (HAF.out (fun e => by rw [e] at hy; cases hy) g o rfl)))
          have Hy := Lib.hid hy
          have HSi := Lib.hid HS.out
          have hAl := fun c => World.setRow_alloc_new wr #[.int .i64 0, .int .i64 0, .int .i64 0, .int .i64 0, .string ⟨#[]⟩] c 48
          have hZ : Blk (wr.alloc (.cells #[.int .i64 0, .int .i64 0, .int .i64 0, .int .i64 0, .string ⟨#[]⟩] 48)) wr.heap.size 48 #[.int .i64 0, .int .i64 0, .int .i64 0, .int .i64 0, .string ⟨#[]⟩] := Blk.new _ _ _
          obtain ⟨X, hX⟩ : ∃ X, X = wr.alloc (.cells (enN y).toArray 48) := ⟨_, rfl⟩
          have hbX : Below wr.heap.size wr X := by rw [hX]; exact (Below.refl _ _).alloc (Nat.le_refl _) _
          have hBX : Blk X wr.heap.size 48 (enN y).toArray := by rw [hX]; exact Blk.new _ _ _
          have HXe := Lib.hid hX
          have HBX := Lib.hid hBX
          have HbX := Lib.hid hbX
          have hOX : Out F Y X := HO.out.trans' (Out.of_below hbX)
          have HOX := Lib.hid hOX
          have HRx := Lib.hid (HRo.out X (hOX.same HQl.out HQF.out)).1
          clear hX hbX hBX hcell hcells hgl hy hOX e2
          simp only [enN] at HXe HCy HBX
          go_wp2_with (first
            | (refine wpList_val (o := ⟨some 25, _, _, _, _, _⟩) rfl (.pointer (some ⟨g, o + j * 5, none⟩)) wr (run_indexAddr_op rfl rfl rfl HAt.out) ?_)
            | (refine wpList_load_midif rfl 48 (.tmp 25) rfl g (o + j * 5) rfl [.int .i64 y.1.r, .int .i64 y.1.c, .int .i64 y.2.k, .int .i64 y.2.n, .string y.2.t] _ HCy.out Try.underlying48 rfl (by kernel_rfl) ?_)
            | (refine wpList_store_row rfl 48 (.tmp 6) (.tmp 26) rfl wr.heap.size #[.int .i64 y.1.r, .int .i64 y.1.c, .int .i64 y.2.k, .int .i64 y.2.n, .string y.2.t] rfl rfl _ _ hZ (by kernel_rfl) rfl (by kernel_rfl) ?_; rw [hAl, ← HXe.out])
            | (refine wpList_load_midif rfl 35 (.tmp 28) rfl q0 0 rfl _ _ HRx.out Try.underlying35 rfl (by kernel_rfl) ?_)
            | (refine wpList_load_if rfl 48 (.tmp 6) rfl wr.heap.size rfl _ _ _ _ HBX.out Try.underlying48 rfl (by kernel_rfl) ?_)
            | fail)
          refine (come_any x y.1 y.2 sb G _ X (HSt.out.below HbX.out)).mono ?_
          rintro e w2 ⟨rfl, hs2, ho2⟩
          have hsz : Y.heap.size ≤ wr.heap.size := HO.out.size
          have hsX : wr.heap.size ≤ X.heap.size := HbX.out.size
          have hs22 : X.heap.size ≤ w2.heap.size := ho2.size
          have HSn := Lib.hid (show StoreIs w2 sb (Grow G X w2) (fillS x (l.take (j + 1)) (delL x σ)) by
            rw [List.take_add_one, Hy.out]
            exact (by rw [show (some y).toList = [y] from rfl, fillS_snoc]; exact hs2))
          have HGn : Hid (∀ i, Grow G X w2 i → Grow F Y w2 i) := Lib.hid fun i hi => by
            rcases hi with hi | ⟨h1, h2⟩
            · rcases HG'.out i hi with h | ⟨h1, h2⟩
              · exact .inl h
              · exact .inr ⟨h1, by omega⟩
            · exact .inr ⟨by omega, h2⟩
          have HOn := Lib.hid (HOX.out.trans (ho2.mono fun i hi => by
            rcases HG'.out i hi with h | ⟨h1, h2⟩
            · exact .inl h
            · exact .inr ⟨h1, by omega⟩))
          clear hs2 ho2 hsz hsX hs22 hZ hAl
          have hw := IntWalk.i64_in ((j : Int) + 1) (by have := HN2.out; omega)
          have hjm : ¬ 9223372036854775807 < j + 1 := by have := HN2.out; omega
          go_wp2
          go_roundw
          case rel => exact ⟨j + 1, _, by go_num, by omega, HSn.out, HGn.out, HOn.out⟩
          case measure => simp [intOf] <;> omega
        · have hjN : j = N := by omega
          subst hjN
          go_wp2
          go_ret
          have hfin := HSt.out
          rw [List.take_of_length_le (Nat.le_of_eq HN.out)] at hfin
          have hYw := HbY.out.size
          refine ⟨rfl, StoreIs.mono hfin (fun i hi => ?_) (Grow.lt (fun i hi => ?_) (Nat.le_trans hYw HO.out.size)), (Out.of_below HbY.out).trans (HO.out.mono fun i hi => .inl hi)⟩
          · rcases HG'.out i hi with h | ⟨h1, h2⟩
            · exact .inl h
            · exact .inr ⟨by omega, h2⟩
          · have := HSY.out.2.1 i hi
            rcases Nat.lt_or_ge i w.heap.size with h | h
            · exact h
            · have h3 : i = q0 := by
                have e1 : Y.heap.size = w.heap.size + 1 := by rw [HY.out]; simp
                have := HQ.out
                omega
              rw [h3] at hi
              exact absurd hi HQF.out

end Go.Proofs.Ytmhechlfpaciiaa

namespace Go.Proofs.Ytmhechlfpaciiaa
open Go.RowKit Go.MapKept Go.Sort

/-- The store in block sb, all else of it behind B. -/
def StAt (w : World) (sb B : Nat) (σ : List (El × List (Dt × Va))) : Prop := ∃ F, StoreIs w sb F σ ∧ ∀ i, F i → i = sb ∨ B ≤ i
/-- All is as it was, but block sb, and what lies behind B. -/
def Kept (sb B : Nat) (w w' : World) : Prop := Out (fun i => i = sb ∨ B ≤ i) w w'
section
variable {w w' w'' : World} {sb B : Nat} {σ : List (El × List (Dt × Va))}
theorem Kept.refl : Kept sb B w w := Out.refl _ _
theorem Kept.trans (h : Kept sb B w w') (k : Kept sb B w' w'') : Kept sb B w w'' := Out.trans' h k
theorem Kept.of_below (h : Below w.heap.size w w') : Kept sb B w w' := Out.of_below h
theorem Kept.size (h : Kept sb B w w') : w.heap.size ≤ w'.heap.size := Out.size h
theorem Kept.same (h : Kept sb B w w') {k : Nat} (hk : k < w.heap.size) (h1 : k ≠ sb) (h2 : k < B) : w'.heap[k]? = w.heap[k]? := Out.block h k hk fun e => by
  rcases e with e | e
  · exact h1 e
  · omega
theorem Kept.cut (h : Kept sb B w w') (hs : 0 < sb) (hB : 0 < B) (hw : CutOk w) : CutOk w' := by
  obtain ⟨h0, m, hm⟩ := hw
  exact ⟨Nat.lt_of_lt_of_le h0 h.size, m, (World.cell?_of_block (h.same (k := 0) h0 (by omega) hB)).trans hm⟩
theorem Kept.below (h : Kept sb B w w') {C : Nat} (hs : C ≤ sb) (hB : C ≤ B) (hw : C ≤ w.heap.size) : Below C w w' := Out.below h hw fun i hi => by
  rcases hi with hi | hi <;> omega
theorem StAt.keep (h : StAt w sb B σ) (hb : Below w.heap.size w w') : StAt w' sb B σ := by
  obtain ⟨F, h1, h2⟩ := h
  exact ⟨F, h1.below hb, h2⟩
theorem StAt.lt (h : StAt w sb B σ) : sb < w.heap.size := by
  obtain ⟨F, h1, _⟩ := h
  exact h1.2.1 _ h1.1
/-- Another store's doings. -/
theorem StAt.apart (h : StAt w sb B σ) {sb' B' : Nat} (hk : Kept sb' B' w w') (h1 : sb ≠ sb') (h2 : w.heap.size ≤ B') (h3 : sb' < B) : StAt w' sb B σ := by
  obtain ⟨F, q1, q2⟩ := h
  refine ⟨F, q1.kept hk.size fun i hi => hk.same (q1.2.1 i hi) ?_ (Nat.lt_of_lt_of_le (q1.2.1 i hi) h2), q2⟩
  rcases q2 i hi with e | e <;> omega
theorem new_at (w : World) (B : Nat) : StAt (w.alloc (.cells #[.map none] 78)) w.heap.size B [] := ⟨_, StoreIs.new_ w, fun _ h => .inl h⟩
theorem do_at (h : StAt w sb B σ) (hB : B ≤ w.heap.size) (e : Ev) (hl : Lens e) (hw : CutOk w) : Calls Try.prog 14 #[.pointer (some ⟨sb, 0, none⟩), evV e] w fun x w' =>
    x = .returned (.int .i64 (codeI (okB e))) ∧ StAt w' sb B (if okB e then doS e σ else σ) ∧ Kept sb B w w' := by
  obtain ⟨F, h1, h2⟩ := h
  refine (do_any e sb F σ w h1 hl hw).mono ?_
  rintro x w' ⟨r1, r2, r3⟩
  exact ⟨r1, ⟨_, r2, fun i hi => by
    rcases hi with hi | hi
    · exact h2 i hi
    · exact .inr (Nat.le_trans hB hi.1)⟩, r3.mono h2⟩
theorem put_at (h : StAt w sb B σ) (hB : B ≤ w.heap.size) (x : El) (l : List (Dt × Va)) (A : Option Addr) (N c : Nat) (hs : SlK enN 5 w (.slice A N c) l) (hA : ∀ g o, A = some ⟨g, o, none⟩ → g ≠ sb ∧ g < B) (hN : l.length = N) (hN2 : N ≤ 1000000) (hx : LenE x) (hv : ∀ q ∈ l, q.2.t.size ≤ 140737488355328) (hw : CutOk w) :
    Calls Try.prog 22 #[.pointer (some ⟨sb, 0, none⟩), .agg #[.int .i64 x.k, .string x.a, .string x.b, .string x.c, .string x.d, .slice A N c]] w fun e w' =>
      e = .returned (.int .i64 (codeI (rightI x l))) ∧ StAt w' sb B (if rightI x l then putI x l σ else σ) ∧ Kept sb B w w' := by
  obtain ⟨F, h1, h2⟩ := h
  refine (put_any x l A N c sb F σ w h1 hs (fun _ g o e hF => by
    obtain ⟨q1, q2⟩ := hA g o e
    rcases h2 g hF with e | e
    · exact q1 e
    · omega) hN hN2 hx hv hw).mono ?_
  rintro y w' ⟨r1, r2, r3⟩
  exact ⟨r1, ⟨_, r2, fun i hi => by
    rcases hi with hi | hi
    · exact h2 i hi
    · exact .inr (Nat.le_trans hB hi.1)⟩, r3.mono h2⟩
theorem has_at (h : StAt w sb B σ) (x : El) (b : Bool) (hb : decide (0 < (entS x σ).length) = b) : Calls Try.prog 35 #[.pointer (some ⟨sb, 0, none⟩), eE x] w (Gives w (.bool b)) := by
  obtain ⟨F, h1, _⟩ := h
  rw [← hb]
  exact has_any x sb F σ w h1
theorem len_at (h : StAt w sb B σ) (n : Nat) (hn : totS σ = n) (hl : n ≤ 1000000) : Calls Try.prog 36 #[.pointer (some ⟨sb, 0, none⟩)] w (Gives w (.int .i64 n)) := by
  obtain ⟨F, h1, _⟩ := h
  rw [← hn] at hl ⊢
  exact len_any sb F σ w h1 hl
theorem all_at (h : StAt w sb B σ) (hl : σ.length ≤ 1000000) (hr : ∀ x, (entS x σ).length ≤ 1000000) :
    Calls Try.prog 15 #[.pointer (some ⟨sb, 0, none⟩)] w fun e w' => ∃ v es, e = .returned v ∧ es.Perm (keysL σ) ∧ (es.Pairwise fun x y => ltOf cfE y x = false) ∧ ItemsIs w' w.heap.size v σ es ∧ Below w.heap.size w w' := by
  obtain ⟨F, h1, _⟩ := h
  exact all_any sb F σ w h1 hl hr
end

end Go.Proofs.Ytmhechlfpaciiaa

namespace Go.Proofs.Ytmhechlfpaciiaa
open Go.RowKit Go.MapKept Go.Sort

section
variable {w : World} {sb B : Nat} {σ : List (El × List (Dt × Va))}
theorem do_yes (h : StAt w sb B σ) (hB : B ≤ w.heap.size) (e : Ev) (hl : Lens e) (hw : CutOk w) (ho : okB e = true) (τ : List (El × List (Dt × Va))) (hτ : doS e σ = τ) : Calls Try.prog 14 #[.pointer (some ⟨sb, 0, none⟩), evV e] w fun x w' =>
    x = .returned (.int .i64 0) ∧ StAt w' sb B τ ∧ Kept sb B w w' := by
  have := do_at h hB e hl hw
  rw [ho, if_pos rfl, hτ] at this
  exact this
theorem do_no (h : StAt w sb B σ) (hB : B ≤ w.heap.size) (e : Ev) (hl : Lens e) (hw : CutOk w) (ho : okB e = false) : Calls Try.prog 14 #[.pointer (some ⟨sb, 0, none⟩), evV e] w fun x w' =>
    x = .returned (.int .i64 1) ∧ StAt w' sb B σ ∧ Kept sb B w w' := by
  have := do_at h hB e hl hw
  rw [ho, if_neg Bool.false_ne_true] at this
  exact this
/-- An item whose entries were made behind all the store's blocks. -/
theorem put_new {w0 : World} (h : StAt w0 sb B σ) (hb : Below w0.heap.size w0 w) (hB : B ≤ w.heap.size) (x : El) (l : List (Dt × Va)) (A : Option Addr) (N c : Nat) (hs : SlK enN 5 w (.slice A N c) l) (hA : ∀ g o, A = some ⟨g, o, none⟩ → w0.heap.size ≤ g) (hN : l.length = N) (hN2 : N ≤ 1000000) (hx : LenE x) (hv : ∀ q ∈ l, q.2.t.size ≤ 4294967280) (hw : CutOk w) (hr : rightI x l = true) (τ : List (El × List (Dt × Va))) (hτ : putI x l σ = τ) :
    Calls Try.prog 22 #[.pointer (some ⟨sb, 0, none⟩), .agg #[.int .i64 x.k, .string x.a, .string x.b, .string x.c, .string x.d, .slice A N c]] w fun e w' =>
      e = .returned (.int .i64 0) ∧ StAt w' sb B τ ∧ Kept sb B w w' := by
  obtain ⟨F, h1, h2⟩ := h
  refine (put_any x l A N c sb F σ w (h1.below hb) hs (fun _ g o e hF => by
    have q1 := hA g o e
    have q2 := h1.2.1 g hF
    omega) hN hN2 hx (fun q hq => Nat.le_trans (hv q hq) (by decide)) hw).mono ?_
  rintro y w' ⟨r1, r2, r3⟩
  rw [hr, if_pos rfl, hτ] at r2
  rw [hr] at r1
  exact ⟨r1, ⟨_, r2, fun i hi => by
    rcases hi with hi | hi
    · exact h2 i hi
    · exact .inr (Nat.le_trans hB hi.1)⟩, r3.mono h2⟩
end
def nE : El := ⟨1, ⟨#[97]⟩, ⟨#[]⟩, ⟨#[]⟩, ⟨#[]⟩⟩
def vA0 : Va := ⟨0, 0, ⟨#[]⟩⟩
def mE : El := ⟨2, ⟨#[]⟩, ⟨#[]⟩, ⟨#[]⟩, ⟨#[]⟩⟩
def eA7 : Ev := ⟨0, 1, fun _ => 0, 1, 1, ⟨#[97]⟩, ⟨#[]⟩, ⟨#[]⟩, ⟨#[]⟩, 0, 0, ⟨#[]⟩⟩
def eB7 : Ev := ⟨1, 1, fun _ => 0, 2, 1, ⟨#[97]⟩, ⟨#[]⟩, ⟨#[]⟩, ⟨#[]⟩, 0, 0, ⟨#[]⟩⟩
def eC7 : Ev := ⟨1, 2, fun i => if i = 0 then 1 else if i = 1 then 1 else 0, 2, 1, ⟨#[97]⟩, ⟨#[]⟩, ⟨#[]⟩, ⟨#[]⟩, 0, 0, ⟨#[]⟩⟩
def s1 : List (El × List (Dt × Va)) := [(nE, [(⟨0, 1⟩, vA0)])]
theorem lenA7 : Lens eA7 := by unfold Lens eA7; decide
theorem lenB7 : Lens eB7 := by unfold Lens eB7; decide
theorem lenC7 : Lens eC7 := by unfold Lens eC7; decide
theorem len07 : Lens ev0 := by unfold Lens ev0; decide
theorem lenE7 : LenE nE := by unfold LenE nE; decide
theorem okA7 : okB eA7 = true := by decide +kernel
theorem okB7 : okB eB7 = true := by decide +kernel
theorem okC7 : okB eC7 = true := by decide +kernel
theorem ok07 : okB ev0 = false := by decide +kernel
theorem doA7 : doS eA7 [] = s1 := by decide +kernel
theorem doB7 : doS eB7 s1 = s1 := by decide +kernel
theorem doC7 : doS eC7 s1 = [] := by decide +kernel
theorem hasB7 : decide (0 < (entS nE s1).length) = true := by decide +kernel
theorem has07 : decide (0 < (entS nE []).length) = false := by decide +kernel
theorem put07 : putI nE [(⟨0, 1⟩, vA0)] [] = s1 := by decide +kernel
theorem rig7 : rightI nE [(⟨0, 1⟩, vA0)] = true := by decide +kernel
theorem cmp7 : cfE nE mE = -1 := by decide +kernel
theorem order7 (w : World) : Calls Try.prog 25 #[.agg #[.int .i64 1, .string ⟨#[97]⟩, .string ⟨#[]⟩, .string ⟨#[]⟩, .string ⟨#[]⟩], .agg #[.int .i64 2, .string ⟨#[]⟩, .string ⟨#[]⟩, .string ⟨#[]⟩, .string ⟨#[]⟩]] w fun e w' => e = .returned (.int .i64 (-1)) ∧ Below w.heap.size w w' :=
  (order_any nE mE w).mono fun e w' ⟨he, hg⟩ => ⟨by rw [he, cmp7], hg.below⟩

set_option maxRecDepth 100000 in
set_option maxHeartbeats 4000000 in
theorem fixed7 (w : World) (hw : CutOk w) : Calls Try.prog 10 #[] w (Gives w (.bool true)) := by
  have hAl := fun c => World.setRow_alloc_new w #[.int .i64 0, .string ⟨#[]⟩, .string ⟨#[]⟩, .string ⟨#[]⟩, .string ⟨#[]⟩] c 35
  have hZ : Blk (w.alloc (.cells #[.int .i64 0, .string ⟨#[]⟩, .string ⟨#[]⟩, .string ⟨#[]⟩, .string ⟨#[]⟩] 35)) w.heap.size 35 #[.int .i64 0, .string ⟨#[]⟩, .string ⟨#[]⟩, .string ⟨#[]⟩, .string ⟨#[]⟩] := Blk.new _ _ _
  obtain ⟨Y, hY⟩ : ∃ Y, Y = w.alloc (.cells #[.int .i64 1, .string ⟨#[97]⟩, .string ⟨#[]⟩, .string ⟨#[]⟩, .string ⟨#[]⟩] 35) := ⟨_, rfl⟩
  have hbY : Below w.heap.size w Y := by rw [hY]; exact (Below.refl _ _).alloc (Nat.le_refl _) _
  have hBY : Blk Y w.heap.size 35 #[.int .i64 1, .string ⟨#[97]⟩, .string ⟨#[]⟩, .string ⟨#[]⟩, .string ⟨#[]⟩] := by rw [hY]; exact Blk.new _ _ _
  have HY := Lib.hid hY
  have HbY := Lib.hid hbY
  have HBY := Lib.hid hBY
  have HWY := Lib.hid (hw.below hbY)
  have H0 := Lib.hid hw.1
  clear hY hbY hBY hw
  go_enter Try.func10, Try.ntmps10
  go_wp2_with (first
    | (refine wpList_store_row rfl 35 (.tmp 1) (.tmp 7) rfl w.heap.size #[.int .i64 1, .string ⟨#[97]⟩, .string ⟨#[]⟩, .string ⟨#[]⟩, .string ⟨#[]⟩] rfl rfl _ _ hZ (by kernel_rfl) rfl (by kernel_rfl) ?_; rw [hAl, ← HY.out])
    | fail)
  refine (new_any Y).mono ?_
  rintro e w1 ⟨rfl, hw1⟩
  obtain ⟨sb, hsb⟩ : ∃ sb, Y.heap.size = sb := ⟨_, rfl⟩
  have hsz : Y.heap.size < w1.heap.size := by rw [hw1]; simp
  have hst : StAt w1 sb (sb + 1) [] := by rw [hw1, ← hsb]; exact new_at Y _
  have hY1 : Below Y.heap.size Y w1 := by rw [hw1]; exact (Below.refl _ _).alloc (Nat.le_refl _) _
  rw [hsb] at hsz ⊢
  have hws : w.heap.size < sb := by rw [← hsb]; exact HBY.out.lt
  clear hw1 hZ hAl
  have HS1 := Lib.hid hst
  have HZ1 := Lib.hid (show sb + 1 ≤ w1.heap.size from hsz)
  have HC1 := Lib.hid (HWY.out.below hY1)
  have HB1 := Lib.hid (HBY.out.below hY1 HBY.out.lt)
  have Hw1 := Lib.hid (HbY.out.trans (hY1.mono HbY.out.size))
  have HWS := Lib.hid hws
  clear hst hsz hY1 hsb hws
  go_wp2_with (first
    | (refine wpList_load_if rfl 35 (.tmp 1) rfl w.heap.size rfl _ _ _ _ HB1.out Try.underlying35 rfl (by kernel_rfl) ?_)
    | (refine wpList_val (o := ⟨some 12, _, _, _, _, _⟩) rfl (evV eA7) w1 (by kernel_rfl) ?_)
    | fail)
  refine (do_yes HS1.out HZ1.out eA7 lenA7 HC1.out okA7 s1 doA7).mono ?_
  rintro e w2 ⟨rfl, hs, hk⟩
  have HS2 := Lib.hid hs
  have HZ2 := Lib.hid (Nat.le_trans HZ1.out hk.size)
  have HC2 := Lib.hid (hk.cut (by have := HWS.out; omega) (by omega) HC1.out)
  have HB2 := Lib.hid (show Blk w2 w.heap.size 35 _ from (hk.same HB1.out.lt (by have := HWS.out; omega) (by have := HWS.out; omega)).trans HB1.out)
  have Hw2 := Lib.hid (Hw1.out.trans (hk.below (C := w.heap.size) (by have := HWS.out; omega) (by have := HWS.out; omega) Hw1.out.size))
  clear hs hk
  go_wp2_with (first
    | (refine wpList_load_if rfl 35 (.tmp 1) rfl w.heap.size rfl _ _ _ _ HB2.out Try.underlying35 rfl (by kernel_rfl) ?_)
    | (refine wpList_val (o := ⟨some 17, _, _, _, _, _⟩) rfl (evV eB7) w2 (by kernel_rfl) ?_)
    | fail)
  refine (do_yes HS2.out HZ2.out eB7 lenB7 HC2.out okB7 s1 doB7).mono ?_
  rintro e w3 ⟨rfl, hs, hk⟩
  have HS3 := Lib.hid hs
  have HZ3 := Lib.hid (Nat.le_trans HZ2.out hk.size)
  have HC3 := Lib.hid (hk.cut (by have := HWS.out; omega) (by omega) HC2.out)
  have HB3 := Lib.hid (show Blk w3 w.heap.size 35 _ from (hk.same HB2.out.lt (by have := HWS.out; omega) (by have := HWS.out; omega)).trans HB2.out)
  have Hw3 := Lib.hid (Hw2.out.trans (hk.below (C := w.heap.size) (by have := HWS.out; omega) (by have := HWS.out; omega) Hw2.out.size))
  clear hs hk
  go_wp2_with (first
    | (refine wpList_load_if rfl 35 (.tmp 1) rfl w.heap.size rfl _ _ _ _ HB3.out Try.underlying35 rfl (by kernel_rfl) ?_)
    | fail)
  refine (has_at HS3.out nE true hasB7).mono ?_
  rintro e w4 ⟨rfl, hb⟩
  have HS4 := Lib.hid (HS3.out.keep hb)
  have HZ4 := Lib.hid (Nat.le_trans HZ3.out hb.size)
  have HC4 := Lib.hid (HC3.out.below hb)
  have HB4 := Lib.hid (HB3.out.below hb HB3.out.lt)
  have Hw4 := Lib.hid (Hw3.out.trans (hb.mono Hw3.out.size))
  clear hb
  go_wp2_with (first
    | (refine wpList_load_if rfl 35 (.tmp 1) rfl w.heap.size rfl _ _ _ _ HB4.out Try.underlying35 rfl (by kernel_rfl) ?_)
    | (refine wpList_val (o := ⟨some 26, _, _, _, _, _⟩) rfl (evV eC7) w4 (by kernel_rfl) ?_)
    | fail)
  refine (do_yes HS4.out HZ4.out eC7 lenC7 HC4.out okC7 [] doC7).mono ?_
  rintro e w5 ⟨rfl, hs, hk⟩
  have HS5 := Lib.hid hs
  have HZ5 := Lib.hid (Nat.le_trans HZ4.out hk.size)
  have HC5 := Lib.hid (hk.cut (by have := HWS.out; omega) (by omega) HC4.out)
  have HB5 := Lib.hid (show Blk w5 w.heap.size 35 _ from (hk.same HB4.out.lt (by have := HWS.out; omega) (by have := HWS.out; omega)).trans HB4.out)
  have Hw5 := Lib.hid (Hw4.out.trans (hk.below (C := w.heap.size) (by have := HWS.out; omega) (by have := HWS.out; omega) Hw4.out.size))
  clear hs hk
  go_wp2_with (first
    | (refine wpList_load_if rfl 35 (.tmp 1) rfl w.heap.size rfl _ _ _ _ HB5.out Try.underlying35 rfl (by kernel_rfl) ?_)
    | fail)
  refine (has_at HS5.out nE false has07).mono ?_
  rintro e w6 ⟨rfl, hb⟩
  have HS6 := Lib.hid (HS5.out.keep hb)
  have HZ6 := Lib.hid (Nat.le_trans HZ5.out hb.size)
  have HC6 := Lib.hid (HC5.out.below hb)
  have HB6 := Lib.hid (HB5.out.below hb HB5.out.lt)
  have Hw6 := Lib.hid (Hw5.out.trans (hb.mono Hw5.out.size))
  clear hb
  go_wp2_with (first
    | (refine wpList_load_if rfl 35 (.tmp 1) rfl w.heap.size rfl _ _ _ _ HB6.out Try.underlying35 rfl (by kernel_rfl) ?_)
    | fail)
  refine (len_at HS6.out 0 rfl (by decide)).mono ?_
  rintro e w7 ⟨rfl, hb⟩
  have HS7 := Lib.hid (HS6.out.keep hb)
  have HZ7 := Lib.hid (Nat.le_trans HZ6.out hb.size)
  have HC7 := Lib.hid (HC6.out.below hb)
  have HB7 := Lib.hid (HB6.out.below hb HB6.out.lt)
  have Hw7 := Lib.hid (Hw6.out.trans (hb.mono Hw6.out.size))
  clear hb
  go_wp2_with (first
    | (refine wpList_load_if rfl 35 (.tmp 1) rfl w.heap.size rfl _ _ _ _ HB7.out Try.underlying35 rfl (by kernel_rfl) ?_)
    | (refine wpList_val (o := ⟨some 54, _, _, _, _, _⟩) rfl (evV ev0) w7 (by kernel_rfl) ?_)
    | fail)
  refine (do_no HS7.out HZ7.out ev0 len07 HC7.out ok07).mono ?_
  rintro e w8 ⟨rfl, hs, hk⟩
  have HS8 := Lib.hid hs
  have HZ8 := Lib.hid (Nat.le_trans HZ7.out hk.size)
  have HC8 := Lib.hid (hk.cut (by have := HWS.out; omega) (by omega) HC7.out)
  have HB8 := Lib.hid (show Blk w8 w.heap.size 35 _ from (hk.same HB7.out.lt (by have := HWS.out; omega) (by have := HWS.out; omega)).trans HB7.out)
  have Hw8 := Lib.hid (Hw7.out.trans (hk.below (C := w.heap.size) (by have := HWS.out; omega) (by have := HWS.out; omega) Hw7.out.size))
  clear hs hk
  go_wp2_with (first
    | (refine wpList_load_if rfl 35 (.tmp 1) rfl w.heap.size rfl _ _ _ _ HB8.out Try.underlying35 rfl (by kernel_rfl) ?_)
    | fail)
  refine (order7 w8).mono ?_
  rintro e w9 ⟨rfl, hb⟩
  have HS9 := Lib.hid (HS8.out.keep hb)
  have HZ9 := Lib.hid (Nat.le_trans HZ8.out hb.size)
  have HC9 := Lib.hid (HC8.out.below hb)
  have HB9 := Lib.hid (HB8.out.below hb HB8.out.lt)
  have Hw9 := Lib.hid (Hw8.out.trans (hb.mono Hw8.out.size))
  clear hb
  obtain ⟨X, hX⟩ : ∃ X, X = w9.alloc (.cells #[.int .i64 0, .int .i64 1, .int .i64 0, .int .i64 0, .string ⟨#[]⟩] 48) := ⟨_, rfl⟩
  have hbX : Below w9.heap.size w9 X := by rw [hX]; exact (Below.refl _ _).alloc (Nat.le_refl _) _
  have hBX : Blk X w9.heap.size 48 #[.int .i64 0, .int .i64 1, .int .i64 0, .int .i64 0, .string ⟨#[]⟩] := by rw [hX]; exact Blk.new _ _ _
  have hsl : SlK enN 5 X (.slice (some ⟨w9.heap.size, 0, none⟩) 1 1) [(⟨0, 1⟩, vA0)] := by
    refine ⟨_, 1, rfl, Nat.le_refl _, fun _ => ⟨_, 0, rfl, hBX.lt, fun j x hj => ?_⟩⟩
    cases j with
    | zero =>
      have : x = (⟨0, 1⟩, vA0) := by simpa using hj.symm
      rw [this]
      exact World.rangeAt_of_block (C := #[.int .i64 0, .int .i64 1, .int .i64 0, .int .i64 0, .string ⟨#[]⟩]) hBX 0 5
    | succ j => cases j <;> cases hj
  have HX := Lib.hid hX
  have HSl := Lib.hid hsl
  have HbX := Lib.hid hbX
  have HBx := Lib.hid (HB9.out.below hbX HB9.out.lt)
  clear hX hBX hsl hbX
  go_wp2_with (first
    | (refine wpList_load_if rfl 35 (.tmp 1) rfl w.heap.size rfl _ _ _ _ HB9.out Try.underlying35 rfl (by kernel_rfl) ?_)
    | fail)
  rw [← HX.out]
  refine (put_new HS9.out HbX.out (Nat.le_trans HZ9.out HbX.out.size) nE [(⟨0, 1⟩, vA0)] _ 1 1 HSl.out (fun g o e => by cases e; exact Nat.le_refl _) rfl (by decide) lenE7 (fun q hq => by rw [List.mem_singleton.1 hq]; decide) (HC9.out.below HbX.out) rig7 s1 put07).mono ?_
  rintro e w10 ⟨rfl, hs, hk⟩
  have hZ10 := Nat.le_trans HZ9.out HbX.out.size
  have HS10 := Lib.hid hs
  have HB10 := Lib.hid (show Blk w10 w.heap.size 35 _ from (hk.same HBx.out.lt (by have := HWS.out; omega) (by have := HWS.out; omega)).trans HBx.out)
  have Hw10 := Lib.hid ((Hw9.out.trans (HbX.out.mono Hw9.out.size)).trans (hk.below (C := w.heap.size) (by have := HWS.out; omega) (by have := HWS.out; omega) (Nat.le_trans Hw9.out.size HbX.out.size)))
  clear hs hk hZ10
  go_wp2_with (first
    | (refine wpList_load_if rfl 35 (.tmp 1) rfl w.heap.size rfl _ _ _ _ HB10.out Try.underlying35 rfl (by kernel_rfl) ?_)
    | fail)
  refine (has_at HS10.out nE true hasB7).mono ?_
  rintro e w11 ⟨rfl, hb⟩
  have Hw11 := Lib.hid (Hw10.out.trans (hb.mono Hw10.out.size))
  clear hb
  go_wp2
  go_ret
  exact ⟨rfl, Hw11.out⟩

end Go.Proofs.Ytmhechlfpaciiaa

namespace Go.Proofs.Ytmhechlfpaciiaa
open Go.RowKit Go.MapKept Go.Sort

def encE (e : Ev) : List Value := (evC e).toList
theorem encE_len (e : Ev) : (encE e).length = 27 := rfl
theorem encE_one : ∀ e, ∀ v ∈ encE e, v.oneCell' = true := by
  intro e v hv
  simp only [encE, evC, List.mem_cons, List.not_mem_nil, or_false] at hv
  rcases hv with rfl | rfl | rfl | rfl | rfl | rfl | rfl | rfl | rfl | rfl | rfl | rfl | rfl | rfl | rfl | rfl | rfl | rfl | rfl | rfl | rfl | rfl | rfl | rfl | rfl | rfl | rfl <;> rfl
theorem at_Ev (g o c n k : Nat) (h : k < n) (w : World) : (Instr.indexAt 22 (.slice (some ⟨g, o, none⟩) n c) (.int .i64 k)).run Try.prog w = .ok (.pointer (some ⟨g, o + k * 27, none⟩)) w := by
  have h2 : (k : Int) < n := by omega
  go_simp
/-- An event of a slice. -/
theorem SlK.ev {w : World} {A : Option Addr} {n c j : Nat} {l : List Ev} {e : Ev} (h : SlK encE 27 w (.slice A n c) l) (hj : l[j]? = some e) : ∃ g o, A = some ⟨g, o, none⟩ ∧ g < w.heap.size ∧ w.rangeAt g (o + j * 27) (encE e) := by
  obtain ⟨A', c', hv', _, hcells⟩ := h
  obtain ⟨g, o, rfl, hgl, hcell⟩ := hcells (fun e => by rw [e] at hj; cases hj)
  injection hv' with e1 e2 e3
  exact ⟨g, o, e1, hgl, hcell j e hj⟩
def fewB (l : List Ev) : Bool := l.all shortB && decide (l.length ≤ 60)
theorem fewB_no {l : List Ev} {j : Nat} {e : Ev} (hj : l[j]? = some e) (h : shortB e = false) : fewB l = false := by
  unfold fewB
  rw [Bool.and_eq_false_iff]
  exact .inl (List.all_eq_false.2 ⟨e, List.mem_of_getElem? hj, by simp [h]⟩)
theorem fewB_yes {l : List Ev} (h : ∀ (k : Nat) (e : Ev), l[k]? = some e → shortB e = true) : fewB l = decide (l.length ≤ 60) := by
  unfold fewB
  rw [List.all_eq_true.2 (fun e he => by
    obtain ⟨k, hk⟩ := List.getElem?_of_mem he
    exact h k e hk), Bool.true_and]
theorem short_is7 (e : Ev) (hl : Fit e) (b : Bool) (h : shortB e = b) (w : World) : Calls Try.prog 37 #[evV e] w (Gives w (.bool b)) := by
  have := short_any e w hl; rwa [h] at this

set_option maxRecDepth 100000 in
set_option maxHeartbeats 2000000 in
theorem few_any (l : List Ev) (A : Option Addr) (N c : Nat) (w : World) (hs : SlK encE 27 w (.slice A N c) l) (hN : l.length = N) (hN2 : N ≤ 4611686018427387903) (hf : ∀ e ∈ l, Fit e) :
    Calls Try.prog 11 #[.slice A N c] w (Gives w (.bool (fewB l))) := by
  obtain ⟨b, hb⟩ : ∃ b, fewB l = b := ⟨_, rfl⟩
  rw [hb]
  have HB := Lib.hid hb
  have HS := Lib.hid hs
  have HN := Lib.hid hN
  have HN2 := Lib.hid hN2
  have HF := Lib.hid hf
  have HZe := Lib.hid (zero_of_info zeroE).1
  clear hb hs hN hN2 hf
  go_enter Try.func11, Try.ntmps11
  go_wp2_with fail
  go_loopw [7] (fun v7 wr => ∃ j : Nat, v7 = .int .i64 j ∧ j ≤ N ∧ (∀ k e, k < j → l[k]? = some e → shortB e = true) ∧ Below w.heap.size w wr) (fun v7 _ => N - (intOf v7).toNat)
  case atStart => exact ⟨0, rfl, Nat.zero_le _, fun k e hk => absurd hk (Nat.not_lt_zero _), Below.refl _ _⟩
  case round =>
    obtain ⟨j, rfl, hj, hok, hbw⟩ := hrel
    have HOk := Lib.hid hok
    have HBw := Lib.hid hbw
    clear hok hbw
    by_cases hlt : j < N
    · obtain ⟨e, he⟩ : ∃ e, l[j]? = some e := ⟨l[j]'(by rw [HN.out]; exact hlt), List.getElem?_eq_getElem _⟩
      obtain ⟨g, o, rfl, hgl, hce⟩ := (HS.out.below HBw.out).ev he
      have HCe := Lib.hid hce
      have HFe := Lib.hid (HF.out e (List.mem_of_getElem? he))
      have HAt := Lib.hid (at_Ev g o c N j hlt wr)
      have He := Lib.hid he
      have hAl := fun c => World.setRow_alloc_new wr (evC ev0) c 39
      have hZ : Blk (wr.alloc (.cells (evC ev0) 39)) wr.heap.size 39 (evC ev0) := Blk.new _ _ _
      obtain ⟨X, hX⟩ : ∃ X, X = wr.alloc (.cells (evC e) 39) := ⟨_, rfl⟩
      have hbX : Below wr.heap.size wr X := by rw [hX]; exact (Below.refl _ _).alloc (Nat.le_refl _) _
      have hBX : Blk X wr.heap.size 39 (evC e) := by rw [hX]; exact Blk.new _ _ _
      have HXe := Lib.hid hX
      have HBX := Lib.hid hBX
      have HbX := Lib.hid (HBw.out.trans (hbX.mono HBw.out.size))
      have HAl := Lib.hid hAl
      have HZz := Lib.hid hZ
      clear hX hbX hBX hce hgl he hAl hZ
      cases hsh : shortB e
      · have HSh := Lib.hid (short_is7 e HFe.out false hsh)
        have hbf : b = false := by rw [← HB.out]; exact fewB_no He.out hsh
        subst hbf
        clear hsh
        have hz := HZe.out
        go_wp2_with (first
          | (refine wpList_val (o := ⟨some 9, _, _, _, _, _⟩) rfl (.pointer (some ⟨g, o + j * 27, none⟩)) wr (run_indexAddr_op rfl rfl rfl HAt.out) ?_)
          | (refine wpList_load_midif rfl 39 (.tmp 9) rfl g (o + j * 27) rfl (encE e) _ HCe.out Try.underlying39 rfl (sizeE e) ?_)
          | (refine wpList_store_row rfl 39 (.tmp 4) (.tmp 10) rfl wr.heap.size (evC e) rfl rfl _ _ HZz.out (sizeE e) rfl (by kernel_rfl) ?_; rw [HAl.out, ← HXe.out])
          | (refine wpList_load_if rfl 39 (.tmp 4) rfl wr.heap.size rfl _ _ _ _ HBX.out Try.underlying39 rfl (sizeE e) ?_)
          | fail)
        clear hz
        refine (HSh.out X).mono ?_
        rintro e1 w2 ⟨rfl, hb2⟩
        have HE := Lib.hid (HbX.out.trans (hb2.mono HbX.out.size))
        clear hb2
        go_wp2
        go_ret
        exact ⟨rfl, HE.out⟩
      · have HSh := Lib.hid (short_is7 e HFe.out true hsh)
        have HSt := Lib.hid hsh
        clear hsh
        have hz := HZe.out
        go_wp2_with (first
          | (refine wpList_val (o := ⟨some 9, _, _, _, _, _⟩) rfl (.pointer (some ⟨g, o + j * 27, none⟩)) wr (run_indexAddr_op rfl rfl rfl HAt.out) ?_)
          | (refine wpList_load_midif rfl 39 (.tmp 9) rfl g (o + j * 27) rfl (encE e) _ HCe.out Try.underlying39 rfl (sizeE e) ?_)
          | (refine wpList_store_row rfl 39 (.tmp 4) (.tmp 10) rfl wr.heap.size (evC e) rfl rfl _ _ HZz.out (sizeE e) rfl (by kernel_rfl) ?_; rw [HAl.out, ← HXe.out])
          | (refine wpList_load_if rfl 39 (.tmp 4) rfl wr.heap.size rfl _ _ _ _ HBX.out Try.underlying39 rfl (sizeE e) ?_)
          | fail)
        clear hz
        refine (HSh.out X).mono ?_
        rintro e1 w2 ⟨rfl, hb2⟩
        have HE := Lib.hid (HbX.out.trans (hb2.mono HbX.out.size))
        clear hb2
        have hw := IntWalk.i64_in ((j : Int) + 1) (by have := HN2.out; omega)
        have hjm : ¬ 9223372036854775807 < j + 1 := by have := HN2.out; omega
        go_wp2
        go_roundw
        case rel => exact ⟨j + 1, by go_num, by omega, fun k f hk hf => by
          rcases Nat.lt_succ_iff_lt_or_eq.1 hk with h | h
          · exact HOk.out k f h hf
          · rw [h, He.out] at hf
            rw [← Option.some.inj hf]; exact HSt.out, HE.out⟩
        case measure => simp [intOf] <;> omega
    · have hjN : j = N := by omega
      subst hjN
      have hbe : decide ((j : Int) ≤ 60) = b := by
        rw [← HB.out, fewB_yes (fun k e hk => HOk.out k e (by rw [← HN.out]; exact (List.getElem?_eq_some_iff.1 hk).1) hk), HN.out]
        exact decide_eq_decide.2 (by omega)
      have HBe := Lib.hid hbe
      clear hbe
      go_wp2
      go_ret
      exact ⟨by first | (rw [HBe.out]; rfl) | (rw [← HBe.out]; rfl) | (rw [← HBe.out]; simp) | (simp [HBe.out]), HBw.out⟩

end Go.Proofs.Ytmhechlfpaciiaa
