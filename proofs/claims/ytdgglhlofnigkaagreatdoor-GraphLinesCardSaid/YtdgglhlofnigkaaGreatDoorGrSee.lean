/- (*graph.View).seePart. -/import Derived.Test.YtdgglhlofnigkaaGreatDoorJGrFn
namespace Go.Proofs.YtdgglhlofnigkaaGreatDoor
open Lib (hid)
open Go.RowKit Go.MapKept Go.Sort
set_option maxRecDepth 100000 in
set_option maxHeartbeats 4000000 in
theorem seePart_any {own : Nat → Option Tg} {R vb b1 b2 b3 b4 b5 : Nat} {V : Vw} {nv lv : Value} (x y : El) (sb : Nat) (F : Nat → Prop) (σ : List (El × List (Dt × Va))) (w : World) (hV : VIs own R w vb V nv lv b1 b2 b3 b4 b5) (hS : StoreIs w sb F σ) (hF : ∀ i, F i → own i = none)
  (hent : (entS y σ).length ≤ 1000000) (hlen : ∀ x l, V.part x = some l → l.length ≤ 1000000) :
  Calls Tryz.prog 75 #[.pointer (some ⟨vb, 0, none⟩), eE x, eE y, .pointer (some ⟨sb, 0, none⟩)] w fun e w' => e = .returned (.tuple #[]) ∧ ∃ own', VIs own' R w' vb (partW (valsS σ) V x y) nv lv b1 b2 b3 b4 b5 ∧ Turns own own' (fun _ => True) w w' := by
 obtain ⟨p, hp⟩ : ∃ p, w.heap.size = p := ⟨_, rfl⟩
 obtain ⟨X0, hX0⟩ : ∃ X, X = w.alloc (.cells #[.int .i64 x.k, .string x.a, .string x.b, .string x.c, .string x.d] 38) := ⟨_, rfl⟩
 have hb0 : Below w.heap.size w X0 := by rw [hX0]; exact (Below.refl _ _).alloc (Nat.le_refl _) _
 have hE0 : Blk X0 p 38 #[.int .i64 x.k, .string x.a, .string x.b, .string x.c, .string x.d] := by rw [hX0, ← hp]; exact Blk.new w _ _
 have hs0 : X0.heap.size = p + 1 := by rw [hX0, ← hp]; simp
 obtain ⟨X, hX⟩ : ∃ X, X = X0.alloc (.cells #[.int .i64 y.k, .string y.a, .string y.b, .string y.c, .string y.d] 38) := ⟨_, rfl⟩
 have hb1 : Below X0.heap.size X0 X := by rw [hX]; exact (Below.refl _ _).alloc (Nat.le_refl _) _
 have hb : Below w.heap.size w X := hb0.trans (hb1.mono hb0.size)
 have hE : Blk X p 38 #[.int .i64 x.k, .string x.a, .string x.b, .string x.c, .string x.d] := hE0.below hb1 hE0.lt
 have hG : Blk X (p + 1) 38 #[.int .i64 y.k, .string y.a, .string y.b, .string y.c, .string y.d] := by rw [hX, ← hs0]; exact Blk.new X0 _ _
 have hVX := hV.keep hb
 obtain ⟨pv, hpo, hlk⟩ := hVX.part.look_ok keyE.toF Tryz.underlying75 zero_Es x
 obtain ⟨A, c, rfl, _⟩ := hpo.1.read enL_len
 obtain ⟨n, hn⟩ : ∃ n, ((V.part x).getD []).length = n := ⟨_, rfl⟩
 rw [hn] at hpo hlk
 obtain ⟨q, hq⟩ : ∃ q, (V.part x).isSome = q := ⟨_, rfl⟩
 rw [hq] at hlk
 have HLk := hid hlk
 have HO := hid hpo
 have HC0 := hid (show ∀ W, Below X.heap.size X W → Blk W vb 78 #[nv, lv, .map (some b1), .map (some b2), .map (some b3), .map (some b4), .map (some b5)] ∧ Blk W p 38 #[.int .i64 x.k, .string x.a, .string x.b, .string x.c, .string x.d] ∧ Blk W (p + 1) 38 #[.int .i64 y.k, .string y.a, .string y.b, .string y.c, .string y.d] from fun W hW => ⟨hVX.blk.below hW hVX.blk.lt, hE.below hW hE.lt, hG.below hW hG.lt⟩)
 have HNp := hid (show own p = none from Classical.byContradiction fun e => by have := (hV.lt p e).2; omega)
 have HNq := hid (show own (p + 1) = none from Classical.byContradiction fun e => by have := (hV.lt (p + 1) e).2; omega)
 have HV := hid hVX
 have HV0 := hid hV
 have HSs := hid (hS.below hb)
 have HF := hid hF
 have HEn := hid hent
 have HLn := hid hlen
 have HB := hid hb
 have HX0 := hid hX0
 have HX := hid hX
 have HS0 := hid hs0
 have HP := hid hp
 have HQs := hid hq
 have HNn := hid hn
 clear hV hVX hb hb0 hb1 hE hE0 hG hX hX0 hp hs0 hlk hpo hq hn hS hF hent hlen
 have HC := HC0
 unfold eE elV at *
 go_enter Tryz.func75, Tryz.ntmps75
 go_upto_region 1 with fail
 rw [← HX0.out, HP.out, ← HX.out]
 refine wp_region_any (by kernel_rfl) ?_
 refine wpAny_below (fun i uq wq => uq = ([.pointer (some ⟨vb, 0, none⟩), .pointer (some ⟨vb, 0, none⟩), .pointer (some ⟨vb, 5, none⟩), .map (some b4), .agg #[.int .i64 x.k, .string x.a, .string x.b, .string x.c, .string x.d], .tuple #[.slice A n c, .bool q], .tuple #[.slice A n c, .bool q], .slice A n c, .bool q, .slice A n c, .bool q] : List Value).getD i undef) _ X (by kernel_rfl) (by kernel_rfl) (by kernel_rfl) (fun i v w w' _ h => h) ?_ ?_
 ·refine ⟨?_, ?_, ?_, ?_, ?_, ?_, ?_, ?_, ?_, ?_, ?_, trivial⟩
  ·intro a W hI hun haft hi
   have e0 := hun 0 (by kernel_rfl)
   exact b_same hi hI rfl _ (run_move_op rfl e0) rfl
  ·intro a W hI hun haft hi
   have f0 := haft ⟨0, .data⟩ (by simp) rfl _ _ rfl rfl
   exact b_same hi hI rfl _ (run_nilCheck_op rfl f0) rfl
  ·intro a W hI hun haft hi
   have f1 := haft ⟨1, .data⟩ (by simp) rfl _ _ rfl rfl
   exact b_same hi hI rfl _ (run_fieldAddr_any rfl f1 (at_view5 _ 0 _)) rfl
  ·intro a W hI hun haft hi
   obtain ⟨kv, kw, kp⟩ := HC.out W hI
   have f2 : a.eval (.tmp 13) = .pointer (some ⟨vb, 5, none⟩) := haft ⟨2, .data⟩ (by simp) rfl _ _ rfl rfl
   exact b_same hi hI rfl _ (run_loadmap_op rfl f2 Tryz.underlying75 ((Blk.cell kv 5).trans rfl)) rfl
  ·intro a W hI hun haft hi
   obtain ⟨kv, kw, kp⟩ := HC.out W hI
   have e5 := hun 5 (by kernel_rfl)
   exact b_same hi hI rfl _ (run_load_op rfl e5 (kw) Tryz.underlying38 rfl (by kernel_rfl)) rfl
  ·intro a W hI hun haft hi
   obtain ⟨kv, kw, kp⟩ := HC.out W hI
   have f3 := haft ⟨3, .data⟩ (by simp) rfl _ _ rfl rfl
   have f4 := haft ⟨4, .data⟩ (by simp) rfl _ _ rfl rfl
   exact b_same hi hI rfl _ (run_lookok_op rfl f3 f4 (HLk.out W hI)) rfl
  ·intro a W hI hun haft hi
   have f5 := haft ⟨5, .data⟩ (by simp) rfl _ _ rfl rfl
   exact b_same hi hI rfl _ (run_move_op rfl f5) rfl
  ·intro a W hI hun haft hi
   have f6 := haft ⟨6, .data⟩ (by simp) rfl _ _ rfl rfl
   exact b_same hi hI rfl _ (run_extract2_op rfl f6 rfl) rfl
  ·intro a W hI hun haft hi
   have f6 := haft ⟨6, .data⟩ (by simp) rfl _ _ rfl rfl
   exact b_same hi hI rfl _ (run_extract2_op rfl f6 rfl) rfl
  ·intro a W hI hun haft hi
   have f7 := haft ⟨7, .data⟩ (by simp) rfl _ _ rfl rfl
   exact b_same hi hI rfl _ (run_assign_op rfl f7) rfl
  ·intro a W hI hun haft hi
   have f8 := haft ⟨8, .data⟩ (by simp) rfl _ _ rfl rfl
   exact b_same hi hI rfl _ (run_assign_op rfl f8) rfl
 ·intro vals W hI hp
  have hl9 : vals 9 = .slice A n c := hp 9 (by decide)
  have hl10 : vals 10 = .bool q := hp 10 (by decide)
  have HI := hid hI
  clear hp hI
  simp only [layN, layS, List.range, List.range.loop, if_true, Act.put, Nat.zero_add, Nat.reduceAdd, hl9, hl10]
  clear hl9 hl10
  cases hv : V.part x with
  | none =>
   have hq2 : q = false := by rw [← HQs.out, hv]; rfl
   subst hq2
   have HVx := hid hv
   clear hv
   go_wp2_with fail
   (first
    | go_end0
    | refine bodyPost_ret (results_none rfl _ _ _) rfl ?_)
   refine ⟨rfl, own, ?_, ((Turns.below own HV0.out.bound (HB.out.trans (HI.out.mono HB.out.size))).mono fun _ h => h.elim)⟩
   unfold partW
   rw [HVx.out]
   exact HV.out.keep HI.out
  | some ps =>
   have hq2 : q = true := by rw [← HQs.out, hv]; rfl
   subst hq2
   have HQ := hid hv
   have hps : n = ps.length := by rw [← HNn.out, hv]; rfl
   have HN := hid (show ps.length ≤ 1000000 from HLn.out x ps hv)
   have HO1 := HO.out
   rw [show (V.part x).getD [] = ps from by rw [hv]; rfl] at HO1
   clear hv
   have HOw := hid (show OwnT own (.part x) enL R 38 5 W (.slice A n c) ps from HO1.turned (Turns.below own HV.out.bound HI.out) id)
   have HVW := hid (HV.out.keep HI.out)
   have HSW := hid (HSs.out.below HI.out)
   have HTW := hid ((Turns.below own HV0.out.bound (HB.out.trans (HI.out.mono HB.out.size))))
   obtain ⟨kv0, kw0, kp0⟩ := HC.out W HI.out
   have HK0 := hid (And.intro kv0 (And.intro kw0 kp0))
   clear kv0 kw0 kp0 HO1 HO HLk HC HC0 HV HSs HI HX HX0 HS0 HQs HNn HLn hps
   obtain ⟨X, rfl⟩ : ∃ X', X' = W := ⟨_, rfl⟩
   have HO := HOw
   have HV := HVW
   go_upto_region 3 with fail
   have HC := hid (show ∀ W, (Below X.heap.size X W ∨ ∃ v, (fun v W => (Blk W vb 78 #[nv, lv, .map (some b1), .map (some b2), .map (some b3), .map (some b4), .map (some b5)] ∧ Blk W p 38 #[.int .i64 x.k, .string x.a, .string x.b, .string x.c, .string x.d] ∧ Blk W (p + 1) 38 #[.int .i64 y.k, .string y.a, .string y.b, .string y.c, .string y.d]) ∧ ∃ own', OwnT own' (.part x) enL R 38 5 W v (ps ++ [y]) ∧ Turns own own' (fun u => u = .part x) X W) v W) → Blk W vb 78 #[nv, lv, .map (some b1), .map (some b2), .map (some b3), .map (some b4), .map (some b5)] ∧ Blk W p 38 #[.int .i64 x.k, .string x.a, .string x.b, .string x.c, .string x.d] ∧ Blk W (p + 1) 38 #[.int .i64 y.k, .string y.a, .string y.b, .string y.c, .string y.d] from fun W hW => hW.elim (fun h => ⟨HK0.out.1.below h HK0.out.1.lt, HK0.out.2.1.below h HK0.out.2.1.lt, HK0.out.2.2.below h HK0.out.2.2.lt⟩) fun ⟨_, h, _⟩ => h)
   refine wp_region_any (by kernel_rfl) ?_
   refine Lt.wpAny_chg (fun i => [0, 1, 2, 3, 4].contains i) (fun i uq wq => if i = 7 then SlK enL 5 wq uq [y] else uq = ([.pointer (some ⟨vb, 0, none⟩), .pointer (some ⟨vb, 0, none⟩), .pointer (some ⟨vb, 5, none⟩), .map (some b4), .agg #[.int .i64 x.k, .string x.a, .string x.b, .string x.c, .string x.d], .slice A n c, .agg #[.int .i64 y.k, .string y.a, .string y.b, .string y.c, .string y.d], undef, undef, undef] : List Value).getD i undef) _ X 8 9 _ _ (fun v W => (Blk W vb 78 #[nv, lv, .map (some b1), .map (some b2), .map (some b3), .map (some b4), .map (some b5)] ∧ Blk W p 38 #[.int .i64 x.k, .string x.a, .string x.b, .string x.c, .string x.d] ∧ Blk W (p + 1) 38 #[.int .i64 y.k, .string y.a, .string y.b, .string y.c, .string y.d]) ∧ ∃ own', OwnT own' (.part x) enL R 38 5 W v (ps ++ [y]) ∧ Turns own own' (fun u => u = .part x) X W) (fun W => ∃ own', VIs own' R W vb { V with part := updG V.part x (some (ps ++ [y])) } nv lv b1 b2 b3 b4 b5 ∧ Turns own own' (fun u => u = .part x ∨ u = .mpart) X W ∧ Blk W (p + 1) 38 #[.int .i64 y.k, .string y.a, .string y.b, .string y.c, .string y.d]) (by kernel_rfl) (by decide) rfl rfl rfl (by kernel_rfl) (by kernel_rfl) (by kernel_rfl) (by kernel_rfl) (by kernel_rfl) (fun i v w w' hb h => by
     by_cases h7 : i = 7
     ·rw [if_pos h7] at h ⊢; exact SlK.below h hb
     rw [if_neg h7] at h ⊢
     exact h) (fun i v w w' hp h => ?_) ?_ ?_ ?_ ?_ ?_
   ·have : i = 0 ∨ i = 1 ∨ i = 2 ∨ i = 3 ∨ i = 4 := by simpa using hp
    rcases this with rfl | rfl | rfl | rfl | rfl <;> exact h
   ·refine ⟨?_, ?_, ?_, ?_, ?_, ?_, ?_, ?_, ?_, ?_, trivial⟩
    ·exact fun _ _ h => absurd h (by decide)
    ·exact fun _ _ h => absurd h (by decide)
    ·exact fun _ _ h => absurd h (by decide)
    ·exact fun _ _ h => absurd h (by decide)
    ·exact fun _ _ h => absurd h (by decide)
    ·intro _ _ _ a W hI hun haft hi
     have e8 := hun 8 (by kernel_rfl)
     exact b_same hi hI rfl _ (run_move_op rfl e8) rfl
    ·intro _ _ _ a W hI hun haft hi
     obtain ⟨kv, kw, kp⟩ := HC.out W (.inl hI)
     have e6 := hun 6 (by kernel_rfl)
     exact b_same hi hI rfl _ (run_load_op rfl e6 (kp) Tryz.underlying38 rfl (by kernel_rfl)) rfl
    ·intro _ _ _ a W hI hun haft hi
     have f6 : a.eval (.tmp 27) = .agg #[.int .i64 y.k, .string y.a, .string y.b, .string y.c, .string y.d] := haft ⟨6, .data⟩ (by simp) rfl _ _ rfl rfl
     exact b_val hi hI rfl _ _ (run_buildSlice_op (vs := #[(0, .agg #[.int .i64 y.k, .string y.a, .string y.b, .string y.c, .string y.d])]) rfl (by simp only [List.map_toArray, List.map_cons, List.map_nil, f6]) (bsEl _ W)) ((Below.refl _ _).alloc (Nat.le_refl _) _) (sl_oneL _ W)
    ·exact fun _ h => absurd rfl h
    ·exact fun h => absurd h (Nat.lt_irrefl _)
   ·refine ⟨?_, ?_, ?_, ?_, ?_, ?_, ?_, ?_, ?_, ?_, trivial⟩
    ·intro _ _ a W hor hun haft hi
     have e0 := hun 0 (by kernel_rfl)
     exact wpOp_val hi rfl _ _ (run_move_op rfl e0) ⟨_, rfl, rfl, rfl⟩
    ·intro _ _ a W hor hun haft hi
     have f0 := haft ⟨0, .data⟩ (by simp) rfl rfl _ _ rfl rfl
     exact wpOp_val hi rfl _ _ (run_nilCheck_op rfl f0) ⟨_, rfl, rfl, rfl⟩
    ·intro _ _ a W hor hun haft hi
     have f1 := haft ⟨1, .data⟩ (by simp) rfl rfl _ _ rfl rfl
     exact wpOp_val hi rfl _ _ (run_fieldAddr_any rfl f1 (at_view5 _ 0 _)) ⟨_, rfl, rfl, rfl⟩
    ·intro _ _ a W hor hun haft hi
     obtain ⟨kv, kw, kp⟩ := HC.out W hor
     have f2 : a.eval (.tmp 23) = .pointer (some ⟨vb, 5, none⟩) := haft ⟨2, .data⟩ (by simp) rfl rfl _ _ rfl rfl
     exact wpOp_val hi rfl _ _ (run_loadmap_op rfl f2 Tryz.underlying75 ((Blk.cell kv 5).trans rfl)) ⟨_, rfl, rfl, rfl⟩
    ·intro _ _ a W hor hun haft hi
     obtain ⟨kv, kw, kp⟩ := HC.out W hor
     have e5 := hun 5 (by kernel_rfl)
     exact wpOp_val hi rfl _ _ (run_load_op rfl e5 (kw) Tryz.underlying38 rfl (by kernel_rfl)) ⟨_, rfl, rfl, rfl⟩
    ·exact fun _ h => absurd h (by decide)
    ·exact fun _ h => absurd h (by decide)
    ·exact fun _ h => absurd h (by decide)
    ·exact fun _ h => absurd h (by decide)
    ·exact fun h => absurd h (Nat.lt_irrefl _)
   ·intro a W hI hun haft
    have f5 : a.eval (.tmp 26) = .slice A n c := haft ⟨5, .data⟩ (by simp) rfl _ _ rfl rfl
    have f7 : SlK enL 5 W (a.eval (.tmp 28)) [y] := haft ⟨7, .data⟩ (by simp) rfl _ _ rfl rfl
    obtain ⟨kv, kw, kp⟩ := HC.out W (.inl hI)
    obtain ⟨v', w', hr, _, ⟨own', h1, h2⟩, hk⟩ := HO.out.app (ty := 80) apE HV.out.bound HV.out.above hI f7 (by have := HN.out; simp only [List.length_cons, List.length_nil]; omega) (by have := HN.out; simp only [List.length_cons, List.length_nil]; omega)
    exact wpOp_val rfl rfl v' w' (run_append_op rfl f5 rfl hr) ⟨_, rfl, ⟨(hk vb kv.lt (by rw [HV.out.self]; simp)).trans kv, (hk p kw.lt (by rw [HNp.out]; simp)).trans kw, (hk (p + 1) kp.lt (by rw [HNq.out]; simp)).trans kp⟩, own', h1, h2⟩
   ·intro vals a W hJ hsl hp
    obtain ⟨⟨kv, kw, kp⟩, own', h1, h2⟩ := hJ
    have f3 : a.eval (.tmp 24) = .map (some b4) := (hsl 3 _ _ rfl (by decide) rfl).trans (hp 3 (by decide) (by decide))
    have f4 : a.eval (.tmp 25) = eE x := (hsl 4 _ _ rfl (by decide) rfl).trans (hp 4 (by decide) (by decide))
    have f8 : a.eval (.tmp 29) = vals 8 := hsl 8 _ _ rfl (by decide) rfl
    obtain ⟨w2, hr, hV2, hT2, hbut⟩ := HV.out.putPart h2 h1
    have hm := HV.out.part.1
    exact l_skip rfl rfl w2 (run_mapUpdate_op rfl f3 f4 f8 hr) ⟨_, rfl, own', hV2, hT2, hbut.blk kp fun e => by rw [← e, HNq.out] at hm; cases hm⟩
   ·intro vals W hK
    have HK := hid hK
    clear hK
    simp only [layN, layS, List.range, List.range.loop, if_true, Act.put, Nat.zero_add, Nat.reduceAdd]
    obtain ⟨own1, hV4, hT4, kp4⟩ := HK.out
    have HV4 := hid hV4
    have HT4 := hid (HTW.out.trans hT4)
    have HS4 := hid (show StoreIs W sb F σ from HSW.out.kept hT4.out.size fun i hi => (hT4.other (HSW.out.2.1 i hi) (HF.out i hi)).1)
    have HC4 := hid (show ∀ W', Below W.heap.size W W' → Blk W' vb 78 #[nv, lv, .map (some b1), .map (some b2), .map (some b3), .map (some b4), .map (some b5)] ∧ Blk W' (p + 1) 38 #[.int .i64 y.k, .string y.a, .string y.b, .string y.c, .string y.d] from fun W' h => ⟨hV4.blk.below h hV4.blk.lt, kp4.below h kp4.lt⟩)
    clear hV4 hT4 kp4 HK
    obtain ⟨X4, rfl⟩ : ∃ X4, X4 = W := ⟨_, rfl⟩
    go_upto_region 4 with fail
    refine wp_region_any (by kernel_rfl) ?_
    refine wpAny_last (fun i uq wq => if i = 7 then OwnK enW X4.heap.size 43 3 wq uq (valsS σ y) else uq = ([.pointer (some ⟨vb, 0, none⟩), .pointer (some ⟨vb, 0, none⟩), .pointer (some ⟨vb, 6, none⟩), .map (some b5), .agg #[.int .i64 y.k, .string y.a, .string y.b, .string y.c, .string y.d], .pointer (some ⟨sb, 0, none⟩), .agg #[.int .i64 y.k, .string y.a, .string y.b, .string y.c, .string y.d], undef, undef] : List Value).getD i undef) _ X4 8 _ (fun _ wq => (fun W => ∃ own', VIs own' R W vb (partW (valsS σ) V x y) nv lv b1 b2 b3 b4 b5 ∧ Turns own own' (fun _ => True) w W) wq) (by kernel_rfl) rfl (by kernel_rfl) (by kernel_rfl) (by kernel_rfl) (by kernel_rfl) (fun i v w w' hb h => by
      by_cases h7 : i = 7
      ·rw [if_pos h7] at h ⊢; exact OwnK.keep h hb
      rw [if_neg h7] at h ⊢
      exact h) ?_ ?_ ?_
    ·refine ⟨?_, ?_, ?_, ?_, ?_, ?_, ?_, ?_, fun h => absurd h (Nat.lt_irrefl _), trivial⟩
     ·intro _ a W hI hun haft hi
      have e0 := hun 0 (by kernel_rfl)
      exact b_same hi hI rfl _ (run_move_op rfl e0) rfl
     ·intro _ a W hI hun haft hi
      have f0 := haft ⟨0, .data⟩ (by simp) rfl _ _ rfl rfl
      exact b_same hi hI rfl _ (run_nilCheck_op rfl f0) rfl
     ·intro _ a W hI hun haft hi
      have f1 := haft ⟨1, .data⟩ (by simp) rfl _ _ rfl rfl
      exact b_same hi hI rfl _ (run_fieldAddr_any rfl f1 (at_view6 _ 0 _)) rfl
     ·intro _ a W hI hun haft hi
      obtain ⟨kv, kp⟩ := HC4.out W hI
      have f2 : a.eval (.tmp 32) = .pointer (some ⟨vb, 6, none⟩) := haft ⟨2, .data⟩ (by simp) rfl _ _ rfl rfl
      exact b_same hi hI rfl _ (run_loadmap_op rfl f2 Tryz.underlying76 ((Blk.cell kv 6).trans rfl)) rfl
     ·intro _ a W hI hun haft hi
      obtain ⟨kv, kp⟩ := HC4.out W hI
      have e6 := hun 6 (by kernel_rfl)
      exact b_same hi hI rfl _ (run_load_op rfl e6 (kp) Tryz.underlying38 rfl (by kernel_rfl)) rfl
     ·intro _ a W hI hun haft hi
      have e3 := hun 3 (by kernel_rfl)
      exact b_same hi hI rfl _ (run_move_op rfl e3) rfl
     ·intro _ a W hI hun haft hi
      obtain ⟨kv, kp⟩ := HC4.out W hI
      have e6 := hun 6 (by kernel_rfl)
      exact b_same hi hI rfl _ (run_load_op rfl e6 (kp) Tryz.underlying38 rfl (by kernel_rfl)) rfl
     ·intro _ a W hI hun haft hi
      have f5 : a.eval (.tmp 35) = .pointer (some ⟨sb, 0, none⟩) := haft ⟨5, .data⟩ (by simp) rfl _ _ rfl rfl
      have f6 : a.eval (.tmp 36) = .agg #[.int .i64 y.k, .string y.a, .string y.b, .string y.c, .string y.d] := haft ⟨6, .data⟩ (by simp) rfl _ _ rfl rfl
      refine b_call hi hI rfl _ _ (run_call_op (args := #[.pointer (some ⟨sb, 0, none⟩), .agg #[.int .i64 y.k, .string y.a, .string y.b, .string y.c, .string y.d]]) rfl (by simp [f5, f6]) (by kernel_rfl)) ?_
      exact (values_any y sb F σ W (HS4.out.below hI) HEn.out).mono fun e w' H => by
       obtain ⟨u, ss, e1, h1, h2, h3, h4⟩ := H
       exact ⟨u, e1, by rw [← compact_is h1 h2]; exact h3.base_ hI.size, h4⟩
    ·intro vals a W hI hun hsl hp
     have f3 : a.eval (.tmp 33) = .map (some b5) := (hsl 3 _ _ rfl (by decide) rfl).trans (hp 3 (by decide))
     have f4 : a.eval (.tmp 34) = eE y := (hsl 4 _ _ rfl (by decide) rfl).trans (hp 4 (by decide))
     have f7 : a.eval (.tmp 37) = vals 7 := hsl 7 _ _ rfl (by decide) rfl
     have h7 : OwnK enW X4.heap.size 43 3 W (vals 7) (valsS σ y) := hp 7 (by decide)
     obtain ⟨own2, h1, h2⟩ := own_made HV4.out.bound hI (.val y) (h7.base_ HV4.out.above) (fun g hg => (h7.lt g hg).1)
     obtain ⟨w2, hr, hV2, hT2, hbut⟩ := HV4.out.putVal h2 h1
     refine l_skip rfl rfl w2 (run_mapUpdate_op rfl f3 f4 f7 hr) ⟨_, rfl, fun _ _ _ => ⟨own2, ?_, ((HT4.out.trans hT2).mono fun _ _ => trivial)⟩⟩
     have hp2 : partW (valsS σ) V x y = { V with part := updG V.part x (some (ps ++ [y])), val := updG V.val y (valsS σ y) } := by unfold partW; rw [HQ.out]
     rw [hp2]; exact hV2
    ·intro vals W hK
     have HK := hid hK
     clear hK
     simp only [layN, layS, List.range, List.range.loop, if_true, Act.put, Nat.zero_add, Nat.reduceAdd]
     have HK2 := HK
     go_wp2_with fail
     (first
      | go_end0
      | refine bodyPost_ret (results_none rfl _ _ _) rfl ?_)
     exact ⟨rfl, HK2.out⟩
end Go.Proofs.YtdgglhlofnigkaaGreatDoor
