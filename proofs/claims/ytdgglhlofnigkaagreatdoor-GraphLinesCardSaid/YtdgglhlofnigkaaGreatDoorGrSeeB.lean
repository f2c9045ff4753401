/- (*graph.View).see. -/import Derived.Test.YtdgglhlofnigkaaGreatDoorGrSee
set_option maxHeartbeats 4000000
set_option maxRecDepth 100000
namespace Go.Proofs.YtdgglhlofnigkaaGreatDoor
open Lib (hid)
open Go.RowKit Go.MapKept Go.Sort
def FewV (V : Vw) : Prop := V.nodes.length ≤ 1000000 ∧ V.links.length ≤ 1000000 ∧ (∀ key, (V.lab key).length ≤ 1000000) ∧ ∀ x l, V.part x = some l → l.length ≤ 1000000
def ViewT (own : Nat → Option Tg) (R vb : Nat) (V : Vw) (b1 b2 b3 b4 b5 : Nat) (w w' : World) : Prop := ∃ own' nv' lv', VIs own' R w' vb V nv' lv' b1 b2 b3 b4 b5 ∧ Turns own own' (fun _ => True) w w'
def SeeQ (own : Nat → Option Tg) (R vb : Nat) (V : Vw) (b1 b2 b3 b4 b5 sb : Nat) (σ : List (El × List (Dt × Va))) (x : El) (w : World) : Prop :=
 Calls Tryz.prog 56 #[.pointer (some ⟨vb, 0, none⟩), eE x, .pointer (some ⟨sb, 0, none⟩)] w fun e w' => e = .returned (.tuple #[]) ∧ ViewT own R vb (seeV (valsS σ) V x) b1 b2 b3 b4 b5 w w'
theorem see1_any {own : Nat → Option Tg} {R vb b1 b2 b3 b4 b5 : Nat} {V : Vw} {nv lv : Value} (xa xb xc xd : ByteArray) (sb : Nat) (F : Nat → Prop) (σ : List (El × List (Dt × Va))) (w : World) (hV : VIs own R w vb V nv lv b1 b2 b3 b4 b5) (hS : StoreIs w sb F σ) (hF : ∀ i, F i → own i = none) (hent : (entS (⟨1, xa, xb, xc, xd⟩ : El) σ).length ≤ 1000000) (hlen : FewV V) :
  SeeQ own R vb V b1 b2 b3 b4 b5 sb σ (⟨1, xa, xb, xc, xd⟩ : El) w := by
 unfold SeeQ
 obtain ⟨p, hp⟩ : ∃ p, w.heap.size = p := ⟨_, rfl⟩
 obtain ⟨X, hX⟩ : ∃ X, X = w.alloc (.cells #[.int .i64 1, .string xa, .string xb, .string xc, .string xd] 38) := ⟨_, rfl⟩
 have hb : Below w.heap.size w X := by rw [hX]; exact (Below.refl _ _).alloc (Nat.le_refl _) _
 have hE : Blk X p 38 #[.int .i64 1, .string xa, .string xb, .string xc, .string xd] := by rw [hX, ← hp]; exact Blk.new w _ _
 have hNp : own p = none := Classical.byContradiction fun e => by have := (hV.lt p e).2; omega
 have HNp := hid hNp
 have HNe := hid (show p ≠ vb from fun e => by rw [e, hV.self] at hNp; cases hNp)
 have hVX := hV.keep hb
 obtain ⟨A, cp, rfl, _⟩ := hV.nodes.1.read enS_len
 obtain ⟨n, hn⟩ : ∃ n, V.nodes.length = n := ⟨_, rfl⟩
 rw [hn] at hV hVX
 have HV := hid hVX
 have HE := hid hE
 have HSX := hid (hS.below hb)
 have HF := hid hF
 have HEn := hid hent
 have HLn := hid hlen
 have HB := hid hb
 have HT0 := hid (Turns.below own hV.bound hb)
 have HX := hid hX
 have HP := hid hp
 have c0 : X.cell? ⟨p, 0, none⟩ = some (.int .i64 1) := (Blk.cell hE 0).trans rfl
 clear hn
 clear hV hVX hb hE hX hp hS hF hent hlen hNp
 unfold eE elV at *
 dsimp only at *
 go_enter Tryz.func56, Tryz.ntmps56
 go_upto_region 3 with fail
 rw [← HX.out, HP.out]
 have HC := hid (show ∀ W, (Below X.heap.size X W ∨ ∃ v, (fun v W => (Blk W vb 78 #[.slice A n cp, lv, .map (some b1), .map (some b2), .map (some b3), .map (some b4), .map (some b5)] ∧ Blk W p 38 #[.int .i64 1, .string xa, .string xb, .string xc, .string xd]) ∧ ∃ own', OwnT own' .nodes enS R 9 1 W v (V.nodes ++ [xa]) ∧ Turns own own' (fun u => u = .nodes) X W) v W) → Blk W vb 78 #[.slice A n cp, lv, .map (some b1), .map (some b2), .map (some b3), .map (some b4), .map (some b5)] ∧ Blk W p 38 #[.int .i64 1, .string xa, .string xb, .string xc, .string xd] from fun W hW => hW.elim (fun h => ⟨(HV.out.blk).below h (HV.out.blk).lt, (HE.out).below h (HE.out).lt⟩) fun ⟨_, h, _⟩ => h)
 refine wp_region_any (by kernel_rfl) ?_
 refine Lt.wpAny_chg (fun i => [0, 9, 10].contains i) (fun i uq wq => if i = 7 then SlK enS 1 wq uq [xa] else uq = ([.pointer (some ⟨vb, 0, none⟩), .pointer (some ⟨vb, 0, none⟩), .pointer (some ⟨vb, 0, none⟩), .pointer (some ⟨vb, 0, none⟩), .slice A n cp, .pointer (some ⟨p, 1, none⟩), .string xa, undef, undef, .pointer (some ⟨vb, 0, none⟩), .pointer (some ⟨vb, 0, none⟩), undef] : List Value).getD i undef) _ X 8 11 _ _ (fun v W => (Blk W vb 78 #[.slice A n cp, lv, .map (some b1), .map (some b2), .map (some b3), .map (some b4), .map (some b5)] ∧ Blk W p 38 #[.int .i64 1, .string xa, .string xb, .string xc, .string xd]) ∧ ∃ own', OwnT own' .nodes enS R 9 1 W v (V.nodes ++ [xa]) ∧ Turns own own' (fun u => u = .nodes) X W) (fun W => ∃ own' nv', VIs own' R W vb { V with nodes := V.nodes ++ [xa] } nv' lv b1 b2 b3 b4 b5 ∧ Turns own own' (fun u => u = .nodes ∨ u = .self) X W ∧ Blk W p 38 #[.int .i64 1, .string xa, .string xb, .string xc, .string xd]) (by kernel_rfl) (by decide) rfl rfl rfl (by kernel_rfl) (by kernel_rfl) (by kernel_rfl) (by kernel_rfl) (by kernel_rfl) (fun i v w w' hb h => by
   by_cases h7 : i = 7
   ·rw [if_pos h7] at h ⊢; exact SlK.below h hb
   rw [if_neg h7] at h ⊢
   exact h) (fun i v w w' hp h => ?_) ?_ ?_ ?_ ?_ ?_
 ·have : i = 0 ∨ i = 9 ∨ i = 10 := by simpa using hp
  rcases this with rfl | rfl | rfl <;> exact h
 ·refine ⟨?_, ?_, ?_, ?_, ?_, ?_, ?_, ?_, ?_, ?_, ?_, ?_, trivial⟩
  ·exact fun _ _ h => absurd h (by decide)
  ·intro _ _ _ a W hI hun haft hi
   have e0 := hun 0 (by kernel_rfl)
   exact b_same hi hI rfl _ (run_move_op rfl e0) rfl
  ·intro _ _ _ a W hI hun haft hi
   have f1 := haft ⟨1, .data⟩ (by simp) rfl _ _ rfl rfl
   exact b_same hi hI rfl _ (run_nilCheck_op rfl f1) rfl
  ·intro _ _ _ a W hI hun haft hi
   have f2 := haft ⟨2, .data⟩ (by simp) rfl _ _ rfl rfl
   exact b_same hi hI rfl _ (run_fieldAddr_any rfl f2 (at_view0 _ 0 _)) rfl
  ·intro _ _ _ a W hI hun haft hi
   obtain ⟨kv, ke⟩ := HC.out W (.inl hI)
   have f3 : a.eval (.tmp 13) = .pointer (some ⟨vb, 0, none⟩) := haft ⟨3, .data⟩ (by simp) rfl _ _ rfl rfl
   exact b_same hi hI rfl _ (run_loadsl_op rfl f3 Tryz.underlying32 ((Blk.cell kv 0).trans rfl)) rfl
  ·intro _ _ _ a W hI hun haft hi
   have e4 := hun 4 (by kernel_rfl)
   exact b_same hi hI rfl _ (run_fieldAddr_any rfl e4 (at_elem1 _ 0 _)) rfl
  ·intro _ _ _ a W hI hun haft hi
   obtain ⟨kv, ke⟩ := HC.out W (.inl hI)
   have f5 : a.eval (.tmp 15) = .pointer (some ⟨p, 1, none⟩) := haft ⟨5, .data⟩ (by simp) rfl _ _ rfl rfl
   exact b_same hi hI rfl _ (run_loadstr_op rfl f5 Tryz.underlying9 ((Blk.cell ke 1).trans rfl)) rfl
  ·intro _ _ _ a W hI hun haft hi
   have f6 : a.eval (.tmp 16) = .string xa := haft ⟨6, .data⟩ (by simp) rfl _ _ rfl rfl
   exact b_val hi hI rfl _ _ (run_buildSlice_op (vs := #[(0, .string xa)]) rfl (by simp only [List.map_toArray, List.map_cons, List.map_nil, f6]) (bs_S _ W)) ((Below.refl _ _).alloc (Nat.le_refl _) _) (sl_S _ W)
  ·exact fun _ h => absurd rfl h
  ·exact fun _ _ h => absurd h (by decide)
  ·exact fun _ _ h => absurd h (by decide)
  ·exact fun h => absurd h (Nat.lt_irrefl _)
 ·refine ⟨?_, ?_, ?_, ?_, ?_, ?_, ?_, ?_, ?_, ?_, ?_, ?_, trivial⟩
  ·intro _ _ a W hor hun haft hi
   have e0 := hun 0 (by kernel_rfl)
   exact wpOp_val hi rfl _ _ (run_move_op rfl e0) ⟨_, rfl, rfl, rfl⟩
  ·exact fun _ h => absurd h (by decide)
  ·exact fun _ h => absurd h (by decide)
  ·exact fun _ h => absurd h (by decide)
  ·exact fun _ h => absurd h (by decide)
  ·exact fun _ h => absurd h (by decide)
  ·exact fun _ h => absurd h (by decide)
  ·exact fun _ h => absurd h (by decide)
  ·exact fun _ h => absurd h (by decide)
  ·intro _ _ a W hor hun haft hi
   have f0 := haft ⟨0, .data⟩ (by simp) rfl rfl _ _ rfl rfl
   exact wpOp_val hi rfl _ _ (run_nilCheck_op rfl f0) ⟨_, rfl, rfl, rfl⟩
  ·intro _ _ a W hor hun haft hi
   have f9 := haft ⟨9, .data⟩ (by simp) rfl rfl _ _ rfl rfl
   exact wpOp_val hi rfl _ _ (run_fieldAddr_any rfl f9 (at_view0 _ 0 _)) ⟨_, rfl, rfl, rfl⟩
  ·exact fun h => absurd h (Nat.lt_irrefl _)
 ·intro a0 W hI hun haft
  have f4 : a0.eval (.tmp 14) = .slice A n cp := haft ⟨4, .data⟩ (by simp) rfl _ _ rfl rfl
  have f7 : SlK enS 1 W (a0.eval (.tmp 17)) [xa] := haft ⟨7, .data⟩ (by simp) rfl _ _ rfl rfl
  obtain ⟨kv, ke⟩ := HC.out W (.inl hI)
  obtain ⟨v', w', hr, _, ⟨own', h1, h2⟩, hk⟩ := HV.out.nodes.app (ty := 32) apS HV.out.bound HV.out.above hI f7 (by have := HLn.out.1; simp only [List.length_cons, List.length_nil]; omega) (by have := HLn.out.1; simp only [List.length_cons, List.length_nil]; omega)
  exact wpOp_val rfl rfl v' w' (run_append_op rfl f4 rfl hr) ⟨_, rfl, ⟨(hk vb kv.lt (by rw [HV.out.self]; simp)).trans kv, (hk p ke.lt (by rw [HNp.out]; simp)).trans ke⟩, own', h1, h2⟩
 ·intro vals a0 W hJ hsl hp
  obtain ⟨⟨kv, ke⟩, own', h1, h2⟩ := hJ
  have f10 : a0.eval (.tmp 20) = .pointer (some ⟨vb, 0, none⟩) := (hsl 10 _ _ rfl (by decide) rfl).trans (hp 10 (by decide) (by decide))
  have f8 : a0.eval (.tmp 18) = vals 8 := hsl 8 _ _ rfl (by decide) rfl
  obtain ⟨A', c2, hv, _, _⟩ := h1.1.read enS_len
  obtain ⟨hV2, hT2⟩ := HV.out.setNodes h2 h1
  rw [hv] at f8 hV2 hT2
  exact l_skip rfl rfl _ (run_store1_op rfl f10 f8 rfl rfl sizeRowS ((kv.cell 0).trans rfl) (kv.free 0)) ⟨_, rfl, own', _, hV2, hT2, ke.far HNe.out _⟩
 ·intro vals W hK
  have HK := hid hK
  clear hK
  simp only [layN, layS, List.range, List.range.loop, if_true, Act.put, Nat.zero_add, Nat.reduceAdd]
  obtain ⟨own1, nv1, hV4, hT4, ke4⟩ := HK.out
  have HV4 := hid hV4
  have HT4 := hid (HT0.out.trans hT4)
  have HC4 := hid (show ∀ W', Below W.heap.size W W' → Blk W' vb 78 #[nv1, lv, .map (some b1), .map (some b2), .map (some b3), .map (some b4), .map (some b5)] ∧ Blk W' p 38 #[.int .i64 1, .string xa, .string xb, .string xc, .string xd] from fun W' h => ⟨hV4.blk.below h hV4.blk.lt, ke4.below h ke4.lt⟩)
  clear hV4 hT4 ke4 HK HC HE HV c0
  obtain ⟨X4, rfl⟩ : ∃ X4, X4 = W := ⟨_, rfl⟩
  go_upto_region 4 with fail
  refine wp_region_any (by kernel_rfl) ?_
  refine wpAny_last (fun i uq wq => uq = ([.pointer (some ⟨vb, 0, none⟩), .pointer (some ⟨vb, 0, none⟩), .pointer (some ⟨vb, 5, none⟩), .map (some b4), .agg #[.int .i64 1, .string xa, .string xb, .string xc, .string xd], undef] : List Value).getD i undef) _ X4 5 _ (fun _ wq => (fun W => ViewT own R vb (seeV (valsS σ) V (⟨1, xa, xb, xc, xd⟩ : El)) b1 b2 b3 b4 b5 w W) wq) (by kernel_rfl) rfl (by kernel_rfl) (by kernel_rfl) (by kernel_rfl) (by kernel_rfl) (fun i v w w' _ h => h) ?_ ?_ ?_
  ·refine ⟨?_, ?_, ?_, ?_, ?_, fun h => absurd h (Nat.lt_irrefl _), trivial⟩
   ·intro _ a W hI hun haft hi
    have e0 := hun 0 (by kernel_rfl)
    exact b_same hi hI rfl _ (run_move_op rfl e0) rfl
   ·intro _ a W hI hun haft hi
    have f0 := haft ⟨0, .data⟩ (by simp) rfl _ _ rfl rfl
    exact b_same hi hI rfl _ (run_nilCheck_op rfl f0) rfl
   ·intro _ a W hI hun haft hi
    have f1 := haft ⟨1, .data⟩ (by simp) rfl _ _ rfl rfl
    exact b_same hi hI rfl _ (run_fieldAddr_any rfl f1 (at_view5 _ 0 _)) rfl
   ·intro _ a W hI hun haft hi
    obtain ⟨kv, ke⟩ := HC4.out W hI
    have f2 : a.eval (.tmp 23) = .pointer (some ⟨vb, 5, none⟩) := haft ⟨2, .data⟩ (by simp) rfl _ _ rfl rfl
    exact b_same hi hI rfl _ (run_loadmap_op rfl f2 Tryz.underlying75 ((Blk.cell kv 5).trans rfl)) rfl
   ·intro _ a W hI hun haft hi
    obtain ⟨kv, ke⟩ := HC4.out W hI
    have e4 := hun 4 (by kernel_rfl)
    exact b_same hi hI rfl _ (run_load_op rfl e4 (ke) Tryz.underlying38 rfl (by kernel_rfl)) rfl
  ·intro vals a0 W hI hun hsl hp
   have f3 : a0.eval (.tmp 24) = .map (some b4) := (hsl 3 _ _ rfl (by decide) rfl).trans (hp 3 (by decide))
   have f4 : a0.eval (.tmp 25) = eE (⟨1, xa, xb, xc, xd⟩ : El) := (hsl 4 _ _ rfl (by decide) rfl).trans (hp 4 (by decide))
   obtain ⟨w2, hr, hV2, hT2, _⟩ := HV4.out.putPart (x := (⟨1, xa, xb, xc, xd⟩ : El)) ((Turns.below own1 HV4.out.bound hI).mono fun _ h => h.elim) (OwnT.nil_ own1 (.part (⟨1, xa, xb, xc, xd⟩ : El)) enL R 38 5 W)
   exact l_skip rfl rfl w2 (run_mapUpdate_op rfl f3 f4 rfl hr) ⟨_, rfl, fun _ _ _ => ⟨own1, _, _, (by unfold seeV; dsimp only; rw [if_pos rfl]; exact hV2), (HT4.out.trans hT2).mono fun _ _ => trivial⟩⟩
  ·intro vals W hK
   have HK := hid hK
   clear hK
   simp only [layN, layS, List.range, List.range.loop, if_true, Act.put, Nat.zero_add, Nat.reduceAdd]
   have HK2 := HK
   go_wp2_with fail
   (first
    | go_end0
    | refine bodyPost_ret (results_none rfl _ _ _) rfl ?_)
   exact ⟨rfl, HK2.out⟩
theorem see2_any {own : Nat → Option Tg} {R vb b1 b2 b3 b4 b5 : Nat} {V : Vw} {nv lv : Value} (xa xb xc xd : ByteArray) (sb : Nat) (F : Nat → Prop) (σ : List (El × List (Dt × Va))) (w : World) (hV : VIs own R w vb V nv lv b1 b2 b3 b4 b5) (hS : StoreIs w sb F σ) (hF : ∀ i, F i → own i = none) (hent : (entS (⟨2, xa, xb, xc, xd⟩ : El) σ).length ≤ 1000000) (hlen : FewV V) :
  SeeQ own R vb V b1 b2 b3 b4 b5 sb σ (⟨2, xa, xb, xc, xd⟩ : El) w := by
 unfold SeeQ
 obtain ⟨p, hp⟩ : ∃ p, w.heap.size = p := ⟨_, rfl⟩
 obtain ⟨X, hX⟩ : ∃ X, X = w.alloc (.cells #[.int .i64 2, .string xa, .string xb, .string xc, .string xd] 38) := ⟨_, rfl⟩
 have hb : Below w.heap.size w X := by rw [hX]; exact (Below.refl _ _).alloc (Nat.le_refl _) _
 have hE : Blk X p 38 #[.int .i64 2, .string xa, .string xb, .string xc, .string xd] := by rw [hX, ← hp]; exact Blk.new w _ _
 have hNp : own p = none := Classical.byContradiction fun e => by have := (hV.lt p e).2; omega
 have HNp := hid hNp
 have HNe := hid (show p ≠ vb from fun e => by rw [e, hV.self] at hNp; cases hNp)
 have hVX := hV.keep hb
 obtain ⟨q, hq⟩ : ∃ q, hasV V xa = q := ⟨_, rfl⟩
 have HHas := hid (hasP_any xa X hVX)
 rw [hq] at HHas
 have HQ := hid hq
 clear hq
 have HV := hid hVX
 have HE := hid hE
 have HSX := hid (hS.below hb)
 have HF := hid hF
 have HEn := hid hent
 have HLn := hid hlen
 have HB := hid hb
 have HT0 := hid (Turns.below own hV.bound hb)
 have HX := hid hX
 have HP := hid hp
 have c0 : X.cell? ⟨p, 0, none⟩ = some (.int .i64 2) := (Blk.cell hE 0).trans rfl
 have c1 : X.cell? ⟨p, 1, none⟩ = some (.string xa) := (Blk.cell hE 1).trans rfl
 clear hV hVX hb hE hX hp hS hF hent hlen hNp
 unfold eE elV at *
 dsimp only at *
 go_enter Tryz.func56, Tryz.ntmps56
 go_upto_region 6 with fail
 rw [← HX.out, HP.out]
 go_wp2_with fail
 refine HHas.out.mono ?_
 rintro e W ⟨rfl, hb1⟩
 have HB1 := hid hb1
 have HVW := hid (HV.out.keep hb1)
 have HEW := hid (HE.out.below hb1 HE.out.lt)
 have HTX := hid (HT0.out.trans (Turns.below own HV.out.bound hb1))
 clear hb1 c0 c1 HHas HX HP HV HE HSX HT0 HB
 obtain ⟨X, rfl⟩ : ∃ X', X' = W := ⟨_, rfl⟩
 cases q with
 | false =>
  go_wp2_with fail
  (first
   | go_end0
   | refine bodyPost_ret (results_none rfl _ _ _) rfl ?_)
  refine ⟨rfl, own, nv, lv, ?_, HTX.out.mono fun _ _ => trivial⟩
  unfold seeV; dsimp only
  rw [if_neg (by decide), if_pos rfl, HQ.out]
  exact HVW.out
 | true =>
  have HV := HVW
  have HE := HEW
  obtain ⟨v, hvo, hlk⟩ := HV.out.lookLab xa
  obtain ⟨A, cp, rfl, _⟩ := hvo.1.read enS_len
  obtain ⟨n, hn⟩ : ∃ n, (V.lab xa).length = n := ⟨_, rfl⟩
  rw [hn] at hvo hlk
  have HLk := hid hlk
  have HO := hid hvo
  clear hvo hlk hn
  go_upto_region 7 with fail
  have HC := hid (show ∀ W, (Below X.heap.size X W ∨ ∃ v, (fun v W => (Blk W vb 78 #[nv, lv, .map (some b1), .map (some b2), .map (some b3), .map (some b4), .map (some b5)] ∧ Blk W p 38 #[.int .i64 2, .string xa, .string xb, .string xc, .string xd]) ∧ ∃ own', OwnT own' (.lab xa) enS R 9 1 W v (V.lab xa ++ [xd]) ∧ Turns own own' (fun u => u = .lab xa) X W) v W) → Blk W vb 78 #[nv, lv, .map (some b1), .map (some b2), .map (some b3), .map (some b4), .map (some b5)] ∧ Blk W p 38 #[.int .i64 2, .string xa, .string xb, .string xc, .string xd] from fun W hW => hW.elim (fun h => ⟨(HV.out.blk).below h (HV.out.blk).lt, (HE.out).below h (HE.out).lt⟩) fun ⟨_, h, _⟩ => h)
  refine wp_region_any (by kernel_rfl) ?_
  refine Lt.wpAny_chg (fun i => [0, 1, 2, 3, 4, 5].contains i) (fun i uq wq => if i = 15 then SlK enS 1 wq uq [xd] else uq = ([.pointer (some ⟨vb, 0, none⟩), .pointer (some ⟨vb, 0, none⟩), .pointer (some ⟨vb, 2, none⟩), .map (some b1), .pointer (some ⟨p, 1, none⟩), .string xa, .pointer (some ⟨vb, 0, none⟩), .pointer (some ⟨vb, 0, none⟩), .pointer (some ⟨vb, 2, none⟩), .map (some b1), .pointer (some ⟨p, 1, none⟩), .string xa, .slice A n cp, .pointer (some ⟨p, 4, none⟩), .string xd, undef, undef, undef] : List Value).getD i undef) _ X 16 17 _ _ (fun v W => (Blk W vb 78 #[nv, lv, .map (some b1), .map (some b2), .map (some b3), .map (some b4), .map (some b5)] ∧ Blk W p 38 #[.int .i64 2, .string xa, .string xb, .string xc, .string xd]) ∧ ∃ own', OwnT own' (.lab xa) enS R 9 1 W v (V.lab xa ++ [xd]) ∧ Turns own own' (fun u => u = .lab xa) X W) (fun W => ViewT own R vb (seeV (valsS σ) V (⟨2, xa, xb, xc, xd⟩ : El)) b1 b2 b3 b4 b5 w W) (by kernel_rfl) (by decide) rfl rfl rfl (by kernel_rfl) (by kernel_rfl) (by kernel_rfl) (by kernel_rfl) (by kernel_rfl) (fun i v w w' hb h => by
    by_cases h15 : i = 15
    ·rw [if_pos h15] at h ⊢; exact SlK.below h hb
    rw [if_neg h15] at h ⊢
    exact h) (fun i v w w' hp h => ?_) ?_ ?_ ?_ ?_ ?_
  ·have : i = 0 ∨ i = 1 ∨ i = 2 ∨ i = 3 ∨ i = 4 ∨ i = 5 := by simpa using hp
   rcases this with rfl | rfl | rfl | rfl | rfl | rfl <;> exact h
  ·refine ⟨?_, ?_, ?_, ?_, ?_, ?_, ?_, ?_, ?_, ?_, ?_, ?_, ?_, ?_, ?_, ?_, ?_, ?_, trivial⟩
   ·exact fun _ _ h => absurd h (by decide)
   ·exact fun _ _ h => absurd h (by decide)
   ·exact fun _ _ h => absurd h (by decide)
   ·exact fun _ _ h => absurd h (by decide)
   ·exact fun _ _ h => absurd h (by decide)
   ·exact fun _ _ h => absurd h (by decide)
   ·intro _ _ _ a W hI hun haft hi
    have e0 := hun 0 (by kernel_rfl)
    exact b_same hi hI rfl _ (run_move_op rfl e0) rfl
   ·intro _ _ _ a W hI hun haft hi
    have f6 := haft ⟨6, .data⟩ (by simp) rfl _ _ rfl rfl
    exact b_same hi hI rfl _ (run_nilCheck_op rfl f6) rfl
   ·intro _ _ _ a W hI hun haft hi
    have f7 := haft ⟨7, .data⟩ (by simp) rfl _ _ rfl rfl
    exact b_same hi hI rfl _ (run_fieldAddr_any rfl f7 (at_view2 _ 0 _)) rfl
   ·intro _ _ _ a W hI hun haft hi
    obtain ⟨kv, ke⟩ := HC.out W (.inl hI)
    have f8 : a.eval (.tmp 40) = .pointer (some ⟨vb, 2, none⟩) := haft ⟨8, .data⟩ (by simp) rfl _ _ rfl rfl
    exact b_same hi hI rfl _ (run_loadmap_op rfl f8 Tryz.underlying73 ((Blk.cell kv 2).trans rfl)) rfl
   ·intro _ _ _ a W hI hun haft hi
    have e4 := hun 4 (by kernel_rfl)
    exact b_same hi hI rfl _ (run_fieldAddr_any rfl e4 (at_elem1 _ 0 _)) rfl
   ·intro _ _ _ a W hI hun haft hi
    obtain ⟨kv, ke⟩ := HC.out W (.inl hI)
    have f10 : a.eval (.tmp 42) = .pointer (some ⟨p, 1, none⟩) := haft ⟨10, .data⟩ (by simp) rfl _ _ rfl rfl
    exact b_same hi hI rfl _ (run_loadstr_op rfl f10 Tryz.underlying9 ((Blk.cell ke 1).trans rfl)) rfl
   ·intro _ _ _ a W hI hun haft hi
    obtain ⟨kv, ke⟩ := HC.out W (.inl hI)
    have f9 := haft ⟨9, .data⟩ (by simp) rfl _ _ rfl rfl
    have f11 := haft ⟨11, .data⟩ (by simp) rfl _ _ rfl rfl
    exact b_same hi hI rfl _ (run_lookup_op rfl f9 f11 (HLk.out W hI)) rfl
   ·intro _ _ _ a W hI hun haft hi
    have e4 := hun 4 (by kernel_rfl)
    exact b_same hi hI rfl _ (run_fieldAddr_any rfl e4 (at_elem4 _ 0 _)) rfl
   ·intro _ _ _ a W hI hun haft hi
    obtain ⟨kv, ke⟩ := HC.out W (.inl hI)
    have f13 : a.eval (.tmp 45) = .pointer (some ⟨p, 4, none⟩) := haft ⟨13, .data⟩ (by simp) rfl _ _ rfl rfl
    exact b_same hi hI rfl _ (run_loadstr_op rfl f13 Tryz.underlying9 ((Blk.cell ke 4).trans rfl)) rfl
   ·intro _ _ _ a W hI hun haft hi
    have f14 : a.eval (.tmp 46) = .string xd := haft ⟨14, .data⟩ (by simp) rfl _ _ rfl rfl
    exact b_val hi hI rfl _ _ (run_buildSlice_op (vs := #[(0, .string xd)]) rfl (by simp only [List.map_toArray, List.map_cons, List.map_nil, f14]) (bs_S _ W)) ((Below.refl _ _).alloc (Nat.le_refl _) _) (sl_S _ W)
   ·exact fun _ h => absurd rfl h
   ·exact fun h => absurd h (Nat.lt_irrefl _)
  ·refine ⟨?_, ?_, ?_, ?_, ?_, ?_, ?_, ?_, ?_, ?_, ?_, ?_, ?_, ?_, ?_, ?_, ?_, ?_, trivial⟩
   ·intro _ _ a W hor hun haft hi
    have e0 := hun 0 (by kernel_rfl)
    exact wpOp_val hi rfl _ _ (run_move_op rfl e0) ⟨_, rfl, rfl, rfl⟩
   ·intro _ _ a W hor hun haft hi
    have f0 := haft ⟨0, .data⟩ (by simp) rfl rfl _ _ rfl rfl
    exact wpOp_val hi rfl _ _ (run_nilCheck_op rfl f0) ⟨_, rfl, rfl, rfl⟩
   ·intro _ _ a W hor hun haft hi
    have f1 := haft ⟨1, .data⟩ (by simp) rfl rfl _ _ rfl rfl
    exact wpOp_val hi rfl _ _ (run_fieldAddr_any rfl f1 (at_view2 _ 0 _)) ⟨_, rfl, rfl, rfl⟩
   ·intro _ _ a W hor hun haft hi
    obtain ⟨kv, ke⟩ := HC.out W hor
    have f2 : a.eval (.tmp 34) = .pointer (some ⟨vb, 2, none⟩) := haft ⟨2, .data⟩ (by simp) rfl rfl _ _ rfl rfl
    exact wpOp_val hi rfl _ _ (run_loadmap_op rfl f2 Tryz.underlying73 ((Blk.cell kv 2).trans rfl)) ⟨_, rfl, rfl, rfl⟩
   ·intro _ _ a W hor hun haft hi
    have e4 := hun 4 (by kernel_rfl)
    exact wpOp_val hi rfl _ _ (run_fieldAddr_any rfl e4 (at_elem1 _ 0 _)) ⟨_, rfl, rfl, rfl⟩
   ·intro _ _ a W hor hun haft hi
    obtain ⟨kv, ke⟩ := HC.out W hor
    have f4 : a.eval (.tmp 36) = .pointer (some ⟨p, 1, none⟩) := haft ⟨4, .data⟩ (by simp) rfl rfl _ _ rfl rfl
    exact wpOp_val hi rfl _ _ (run_loadstr_op rfl f4 Tryz.underlying9 ((Blk.cell ke 1).trans rfl)) ⟨_, rfl, rfl, rfl⟩
   ·exact fun _ h => absurd h (by decide)
   ·exact fun _ h => absurd h (by decide)
   ·exact fun _ h => absurd h (by decide)
   ·exact fun _ h => absurd h (by decide)
   ·exact fun _ h => absurd h (by decide)
   ·exact fun _ h => absurd h (by decide)
   ·exact fun _ h => absurd h (by decide)
   ·exact fun _ h => absurd h (by decide)
   ·exact fun _ h => absurd h (by decide)
   ·exact fun _ h => absurd h (by decide)
   ·exact fun _ h => absurd h (by decide)
   ·exact fun h => absurd h (Nat.lt_irrefl _)
  ·intro a0 W hI hun haft
   have f12 : a0.eval (.tmp 44) = .slice A n cp := haft ⟨12, .data⟩ (by simp) rfl _ _ rfl rfl
   have f15 : SlK enS 1 W (a0.eval (.tmp 47)) [xd] := haft ⟨15, .data⟩ (by simp) rfl _ _ rfl rfl
   obtain ⟨kv, ke⟩ := HC.out W (.inl hI)
   obtain ⟨v', w', hr, _, ⟨own', h1, h2⟩, hk⟩ := HO.out.app (ty := 32) apS HV.out.bound HV.out.above hI f15 (by have := HLn.out.2.2.1 xa; simp only [List.length_cons, List.length_nil]; omega) (by have := HLn.out.2.2.1 xa; simp only [List.length_cons, List.length_nil]; omega)
   exact wpOp_val rfl rfl v' w' (run_append_op rfl f12 rfl hr) ⟨_, rfl, ⟨(hk vb kv.lt (by rw [HV.out.self]; simp)).trans kv, (hk p ke.lt (by rw [HNp.out]; simp)).trans ke⟩, own', h1, h2⟩
  ·intro vals a0 W hJ hsl hp
   obtain ⟨⟨kv, ke⟩, own', h1, h2⟩ := hJ
   have f3 : a0.eval (.tmp 35) = .map (some b1) := (hsl 3 _ _ rfl (by decide) rfl).trans (hp 3 (by decide) (by decide))
   have f5 : a0.eval (.tmp 37) = eS xa := (hsl 5 _ _ rfl (by decide) rfl).trans (hp 5 (by decide) (by decide))
   have f16 : a0.eval (.tmp 48) = vals 16 := hsl 16 _ _ rfl (by decide) rfl
   obtain ⟨w2, hr, hV2, hT2, _⟩ := HV.out.putLab h2 h1
   refine l_skip rfl rfl w2 (run_mapUpdate_op rfl f3 f5 f16 hr) ⟨_, rfl, own', nv, lv, ?_, (HTX.out.trans hT2).mono fun _ _ => trivial⟩
   unfold seeV; dsimp only
   rw [if_neg (by decide), if_pos rfl, HQ.out]
   exact hV2
  ·intro vals W hK
   have HK := hid hK
   clear hK
   simp only [layN, layS, List.range, List.range.loop, if_true, Act.put, Nat.zero_add, Nat.reduceAdd]
   have HK2 := HK
   go_wp2_with fail
   (first
    | go_end0
    | refine bodyPost_ret (results_none rfl _ _ _) rfl ?_)
   exact ⟨rfl, HK2.out⟩
theorem see3_any {own : Nat → Option Tg} {R vb b1 b2 b3 b4 b5 : Nat} {V : Vw} {nv lv : Value} (xa xb xc xd : ByteArray) (sb : Nat) (F : Nat → Prop) (σ : List (El × List (Dt × Va))) (w : World) (hV : VIs own R w vb V nv lv b1 b2 b3 b4 b5) (hS : StoreIs w sb F σ) (hF : ∀ i, F i → own i = none) (hent : (entS (⟨3, xa, xb, xc, xd⟩ : El) σ).length ≤ 1000000) (hlen : FewV V) :
  SeeQ own R vb V b1 b2 b3 b4 b5 sb σ (⟨3, xa, xb, xc, xd⟩ : El) w := by
 unfold SeeQ
 obtain ⟨p, hp⟩ : ∃ p, w.heap.size = p := ⟨_, rfl⟩
 obtain ⟨X, hX⟩ : ∃ X, X = w.alloc (.cells #[.int .i64 3, .string xa, .string xb, .string xc, .string xd] 38) := ⟨_, rfl⟩
 have hb : Below w.heap.size w X := by rw [hX]; exact (Below.refl _ _).alloc (Nat.le_refl _) _
 have hE : Blk X p 38 #[.int .i64 3, .string xa, .string xb, .string xc, .string xd] := by rw [hX, ← hp]; exact Blk.new w _ _
 have hNp : own p = none := Classical.byContradiction fun e => by have := (hV.lt p e).2; omega
 have HNp := hid hNp
 have HNe := hid (show p ≠ vb from fun e => by rw [e, hV.self] at hNp; cases hNp)
 have hVX := hV.keep hb
 obtain ⟨A, cp, rfl, _⟩ := hV.links.1.read enK_len
 obtain ⟨n, hn⟩ : ∃ n, V.links.length = n := ⟨_, rfl⟩
 rw [hn] at hV hVX
 obtain ⟨q1, hq1⟩ : ∃ q, hasV V xa = q := ⟨_, rfl⟩
 obtain ⟨q2, hq2⟩ : ∃ q, hasV V xb = q := ⟨_, rfl⟩
 have HHas := hid (hasP_any xa X hVX)
 have HHbs := hid (fun W (h : Below X.heap.size X W) => hasP_any xb W (hVX.keep h))
 rw [hq1] at HHas
 rw [hq2] at HHbs
 have HQ1 := hid hq1
 have HQ2 := hid hq2
 clear hq1 hq2 hn
 have HV := hid hVX
 have HE := hid hE
 have HSX := hid (hS.below hb)
 have HF := hid hF
 have HEn := hid hent
 have HLn := hid hlen
 have HB := hid hb
 have HT0 := hid (Turns.below own hV.bound hb)
 have HX := hid hX
 have HP := hid hp
 have c0 : X.cell? ⟨p, 0, none⟩ = some (.int .i64 3) := (Blk.cell hE 0).trans rfl
 have c1 : X.cell? ⟨p, 1, none⟩ = some (.string xa) := (Blk.cell hE 1).trans rfl
 clear hV hVX hb hE hX hp hS hF hent hlen hNp
 unfold eE elV at *
 dsimp only at *
 go_enter Tryz.func56, Tryz.ntmps56
 go_upto_region 9 with fail
 rw [← HX.out, HP.out]
 go_wp2_with fail
 refine HHas.out.mono ?_
 rintro e W1 ⟨rfl, hb1⟩
 have HB1 := hid hb1
 have c2 : W1.cell? ⟨p, 2, none⟩ = some (.string xb) := (Blk.cell (HE.out.below hb1 HE.out.lt) 2).trans rfl
 clear hb1 c0 c1 HHas
 cases q1 with
 | false =>
  go_wp2_with fail
  (first
   | go_end0
   | refine bodyPost_ret (results_none rfl _ _ _) rfl ?_)
  refine ⟨rfl, own, nv, .slice A n cp, ?_, (HT0.out.trans (Turns.below own HV.out.bound HB1.out)).mono fun _ _ => trivial⟩
  unfold seeV; dsimp only
  rw [if_neg (by decide), if_neg (by decide), if_pos rfl, HQ1.out]
  exact HV.out.keep HB1.out
 | true =>
  go_wp2_with fail
  refine (HHbs.out W1 HB1.out).mono ?_
  rintro e W ⟨rfl, hb2⟩
  have HB2 := hid (HB1.out.trans (hb2.mono HB1.out.size))
  have HVW := hid (HV.out.keep HB2.out)
  have HEW := hid (HE.out.below HB2.out HE.out.lt)
  have HTX := hid (HT0.out.trans (Turns.below own HV.out.bound HB2.out))
  clear hb2 c2 HHbs HX HP HV HE HSX HT0 HB HB1 HB2
  obtain ⟨X, rfl⟩ : ∃ X', X' = W := ⟨_, rfl⟩
  cases q2 with
  | false =>
   go_wp2_with fail
   (first
    | go_end0
    | refine bodyPost_ret (results_none rfl _ _ _) rfl ?_)
   refine ⟨rfl, own, nv, .slice A n cp, ?_, HTX.out.mono fun _ _ => trivial⟩
   unfold seeV; dsimp only
   rw [if_neg (by decide), if_neg (by decide), if_pos rfl, HQ1.out, HQ2.out]
   exact HVW.out
  | true =>
   have HV := HVW
   have HE := HEW
   go_upto_region 10 with fail
   have HC := hid (show ∀ W, (Below X.heap.size X W ∨ ∃ v, (fun v W => (Blk W vb 78 #[nv, .slice A n cp, .map (some b1), .map (some b2), .map (some b3), .map (some b4), .map (some b5)] ∧ Blk W p 38 #[.int .i64 3, .string xa, .string xb, .string xc, .string xd]) ∧ ∃ own', OwnT own' .links enK R 36 3 W v (V.links ++ [⟨xa, xb, xc⟩]) ∧ Turns own own' (fun u => u = .links) X W) v W) → Blk W vb 78 #[nv, .slice A n cp, .map (some b1), .map (some b2), .map (some b3), .map (some b4), .map (some b5)] ∧ Blk W p 38 #[.int .i64 3, .string xa, .string xb, .string xc, .string xd] from fun W hW => hW.elim (fun h => ⟨(HV.out.blk).below h (HV.out.blk).lt, (HE.out).below h (HE.out).lt⟩) fun ⟨_, h, _⟩ => h)
   refine wp_region_any (by kernel_rfl) ?_
   refine Lt.wpAny_chg (fun i => [0, 9, 10].contains i) (fun i uq wq => if i = 7 then SlK enK 3 wq uq [⟨xa, xb, xc⟩] else uq = ([.pointer (some ⟨vb, 0, none⟩), .pointer (some ⟨vb, 0, none⟩), .pointer (some ⟨vb, 0, none⟩), .pointer (some ⟨vb, 1, none⟩), .slice A n cp, .agg #[.int .i64 3, .string xa, .string xb, .string xc, .string xd], eK ⟨xa, xb, xc⟩, undef, undef, .pointer (some ⟨vb, 0, none⟩), .pointer (some ⟨vb, 1, none⟩), undef] : List Value).getD i undef) _ X 8 11 _ _ (fun v W => (Blk W vb 78 #[nv, .slice A n cp, .map (some b1), .map (some b2), .map (some b3), .map (some b4), .map (some b5)] ∧ Blk W p 38 #[.int .i64 3, .string xa, .string xb, .string xc, .string xd]) ∧ ∃ own', OwnT own' .links enK R 36 3 W v (V.links ++ [⟨xa, xb, xc⟩]) ∧ Turns own own' (fun u => u = .links) X W) (fun W => ∃ own' lv', VIs own' R W vb { V with links := V.links ++ [⟨xa, xb, xc⟩] } nv lv' b1 b2 b3 b4 b5 ∧ Turns own own' (fun u => u = .links ∨ u = .self) X W ∧ Blk W p 38 #[.int .i64 3, .string xa, .string xb, .string xc, .string xd]) (by kernel_rfl) (by decide) rfl rfl rfl (by kernel_rfl) (by kernel_rfl) (by kernel_rfl) (by kernel_rfl) (by kernel_rfl) (fun i v w w' hb h => by
     by_cases h7 : i = 7
     ·rw [if_pos h7] at h ⊢; exact SlK.below h hb
     rw [if_neg h7] at h ⊢
     exact h) (fun i v w w' hp h => ?_) ?_ ?_ ?_ ?_ ?_
   ·have : i = 0 ∨ i = 9 ∨ i = 10 := by simpa using hp
    rcases this with rfl | rfl | rfl <;> exact h
   ·refine ⟨?_, ?_, ?_, ?_, ?_, ?_, ?_, ?_, ?_, ?_, ?_, ?_, trivial⟩
    ·exact fun _ _ h => absurd h (by decide)
    ·intro _ _ _ a W hI hun haft hi
     have e0 := hun 0 (by kernel_rfl)
     exact b_same hi hI rfl _ (run_move_op rfl e0) rfl
    ·intro _ _ _ a W hI hun haft hi
     have f1 := haft ⟨1, .data⟩ (by simp) rfl _ _ rfl rfl
     exact b_same hi hI rfl _ (run_nilCheck_op rfl f1) rfl
    ·intro _ _ _ a W hI hun haft hi
     have f2 := haft ⟨2, .data⟩ (by simp) rfl _ _ rfl rfl
     exact b_same hi hI rfl _ (run_fieldAddr_any rfl f2 (at_view1 _ 0 _)) rfl
    ·intro _ _ _ a W hI hun haft hi
     obtain ⟨kv, ke⟩ := HC.out W (.inl hI)
     have f3 : a.eval (.tmp 64) = .pointer (some ⟨vb, 1, none⟩) := haft ⟨3, .data⟩ (by simp) rfl _ _ rfl rfl
     exact b_same hi hI rfl _ (run_loadsl_op rfl f3 Tryz.underlying53 ((Blk.cell kv 1).trans rfl)) rfl
    ·intro _ _ _ a W hI hun haft hi
     obtain ⟨kv, ke⟩ := HC.out W (.inl hI)
     have e4 := hun 4 (by kernel_rfl)
     exact b_same hi hI rfl _ (run_load_op rfl e4 (ke) Tryz.underlying38 rfl (by kernel_rfl)) rfl
    ·intro _ _ _ a W hI hun haft hi
     obtain ⟨kv, ke⟩ := HC.out W (.inl hI)
     have f5 : a.eval (.tmp 66) = .agg #[.int .i64 3, .string xa, .string xb, .string xc, .string xd] := haft ⟨5, .data⟩ (by simp) rfl _ _ rfl rfl
     refine b_call hi hI rfl _ _ (run_call_op (args := #[.agg #[.int .i64 3, .string xa, .string xb, .string xc, .string xd]]) rfl (by simp [f5]) (by kernel_rfl)) ?_
     exact (linkP_any (⟨3, xa, xb, xc, xd⟩ : El) W).mono fun e w' H => ⟨_, H.1, rfl, H.2⟩
    ·intro _ _ _ a W hI hun haft hi
     have f6 : a.eval (.tmp 67) = eK ⟨xa, xb, xc⟩ := haft ⟨6, .data⟩ (by simp) rfl _ _ rfl rfl
     exact b_val hi hI rfl _ _ (run_buildSlice_op (vs := #[(0, eK ⟨xa, xb, xc⟩)]) rfl (by simp only [List.map_toArray, List.map_cons, List.map_nil, f6]) (bs_K _ W)) ((Below.refl _ _).alloc (Nat.le_refl _) _) (sl_Kn _ W)
    ·exact fun _ h => absurd rfl h
    ·exact fun _ _ h => absurd h (by decide)
    ·exact fun _ _ h => absurd h (by decide)
    ·exact fun h => absurd h (Nat.lt_irrefl _)
   ·refine ⟨?_, ?_, ?_, ?_, ?_, ?_, ?_, ?_, ?_, ?_, ?_, ?_, trivial⟩
    ·intro _ _ a W hor hun haft hi
     have e0 := hun 0 (by kernel_rfl)
     exact wpOp_val hi rfl _ _ (run_move_op rfl e0) ⟨_, rfl, rfl, rfl⟩
    ·exact fun _ h => absurd h (by decide)
    ·exact fun _ h => absurd h (by decide)
    ·exact fun _ h => absurd h (by decide)
    ·exact fun _ h => absurd h (by decide)
    ·exact fun _ h => absurd h (by decide)
    ·exact fun _ h => absurd h (by decide)
    ·exact fun _ h => absurd h (by decide)
    ·exact fun _ h => absurd h (by decide)
    ·intro _ _ a W hor hun haft hi
     have f0 := haft ⟨0, .data⟩ (by simp) rfl rfl _ _ rfl rfl
     exact wpOp_val hi rfl _ _ (run_nilCheck_op rfl f0) ⟨_, rfl, rfl, rfl⟩
    ·intro _ _ a W hor hun haft hi
     have f9 := haft ⟨9, .data⟩ (by simp) rfl rfl _ _ rfl rfl
     exact wpOp_val hi rfl _ _ (run_fieldAddr_any rfl f9 (at_view1 _ 0 _)) ⟨_, rfl, rfl, rfl⟩
    ·exact fun h => absurd h (Nat.lt_irrefl _)
   ·intro a0 W hI hun haft
    have f4 : a0.eval (.tmp 65) = .slice A n cp := haft ⟨4, .data⟩ (by simp) rfl _ _ rfl rfl
    have f7 : SlK enK 3 W (a0.eval (.tmp 68)) [⟨xa, xb, xc⟩] := haft ⟨7, .data⟩ (by simp) rfl _ _ rfl rfl
    obtain ⟨kv, ke⟩ := HC.out W (.inl hI)
    obtain ⟨v', w', hr, _, ⟨own', h1, h2⟩, hk⟩ := HV.out.links.app (ty := 53) apK HV.out.bound HV.out.above hI f7 (by have := HLn.out.2.1; simp only [List.length_cons, List.length_nil]; omega) (by have := HLn.out.2.1; simp only [List.length_cons, List.length_nil]; omega)
    exact wpOp_val rfl rfl v' w' (run_append_op rfl f4 rfl hr) ⟨_, rfl, ⟨(hk vb kv.lt (by rw [HV.out.self]; simp)).trans kv, (hk p ke.lt (by rw [HNp.out]; simp)).trans ke⟩, own', h1, h2⟩
   ·intro vals a0 W hJ hsl hp
    obtain ⟨⟨kv, ke⟩, own', h1, h2⟩ := hJ
    have f10 : a0.eval (.tmp 71) = .pointer (some ⟨vb, 1, none⟩) := (hsl 10 _ _ rfl (by decide) rfl).trans (hp 10 (by decide) (by decide))
    have f8 : a0.eval (.tmp 69) = vals 8 := hsl 8 _ _ rfl (by decide) rfl
    obtain ⟨A', c2, hv, _, _⟩ := h1.1.read enK_len
    obtain ⟨hV2, hT2⟩ := HV.out.setLinks h2 h1
    rw [hv] at f8 hV2 hT2
    exact l_skip rfl rfl _ (run_store1_op rfl f10 f8 rfl rfl sizeRowK ((kv.cell 1).trans rfl) (kv.free 1)) ⟨_, rfl, own', _, hV2, hT2, ke.far HNe.out _⟩
   ·intro vals W hK
    have HK := hid hK
    clear hK
    simp only [layN, layS, List.range, List.range.loop, if_true, Act.put, Nat.zero_add, Nat.reduceAdd]
    obtain ⟨own1, lv1, hV4, hT4, ke4⟩ := HK.out
    have HV4 := hid hV4
    have HT4 := hid (HTX.out.trans hT4)
    have HC4 := hid (show ∀ W', Below W.heap.size W W' → Blk W' vb 78 #[nv, lv1, .map (some b1), .map (some b2), .map (some b3), .map (some b4), .map (some b5)] ∧ Blk W' p 38 #[.int .i64 3, .string xa, .string xb, .string xc, .string xd] from fun W' h => ⟨hV4.blk.below h hV4.blk.lt, ke4.below h ke4.lt⟩)
    clear hV4 hT4 ke4 HK HC HE HV
    obtain ⟨X4, rfl⟩ : ∃ X4, X4 = W := ⟨_, rfl⟩
    go_upto_region 11 with fail
    refine wp_region_any (by kernel_rfl) ?_
    refine wpAny_last (fun i uq wq => uq = ([.pointer (some ⟨vb, 0, none⟩), .pointer (some ⟨vb, 0, none⟩), .pointer (some ⟨vb, 5, none⟩), .map (some b4), .agg #[.int .i64 3, .string xa, .string xb, .string xc, .string xd], undef] : List Value).getD i undef) _ X4 5 _ (fun _ wq => (fun W => ViewT own R vb (seeV (valsS σ) V (⟨3, xa, xb, xc, xd⟩ : El)) b1 b2 b3 b4 b5 w W) wq) (by kernel_rfl) rfl (by kernel_rfl) (by kernel_rfl) (by kernel_rfl) (by kernel_rfl) (fun i v w w' _ h => h) ?_ ?_ ?_
    ·refine ⟨?_, ?_, ?_, ?_, ?_, fun h => absurd h (Nat.lt_irrefl _), trivial⟩
     ·intro _ a W hI hun haft hi
      have e0 := hun 0 (by kernel_rfl)
      exact b_same hi hI rfl _ (run_move_op rfl e0) rfl
     ·intro _ a W hI hun haft hi
      have f0 := haft ⟨0, .data⟩ (by simp) rfl _ _ rfl rfl
      exact b_same hi hI rfl _ (run_nilCheck_op rfl f0) rfl
     ·intro _ a W hI hun haft hi
      have f1 := haft ⟨1, .data⟩ (by simp) rfl _ _ rfl rfl
      exact b_same hi hI rfl _ (run_fieldAddr_any rfl f1 (at_view5 _ 0 _)) rfl
     ·intro _ a W hI hun haft hi
      obtain ⟨kv, ke⟩ := HC4.out W hI
      have f2 : a.eval (.tmp 74) = .pointer (some ⟨vb, 5, none⟩) := haft ⟨2, .data⟩ (by simp) rfl _ _ rfl rfl
      exact b_same hi hI rfl _ (run_loadmap_op rfl f2 Tryz.underlying75 ((Blk.cell kv 5).trans rfl)) rfl
     ·intro _ a W hI hun haft hi
      obtain ⟨kv, ke⟩ := HC4.out W hI
      have e4 := hun 4 (by kernel_rfl)
      exact b_same hi hI rfl _ (run_load_op rfl e4 (ke) Tryz.underlying38 rfl (by kernel_rfl)) rfl
    ·intro vals a0 W hI hun hsl hp
     have f3 : a0.eval (.tmp 75) = .map (some b4) := (hsl 3 _ _ rfl (by decide) rfl).trans (hp 3 (by decide))
     have f4 : a0.eval (.tmp 76) = eE (⟨3, xa, xb, xc, xd⟩ : El) := (hsl 4 _ _ rfl (by decide) rfl).trans (hp 4 (by decide))
     obtain ⟨w2, hr, hV2, hT2, _⟩ := HV4.out.putPart (x := (⟨3, xa, xb, xc, xd⟩ : El)) ((Turns.below own1 HV4.out.bound hI).mono fun _ h => h.elim) (OwnT.nil_ own1 (.part (⟨3, xa, xb, xc, xd⟩ : El)) enL R 38 5 W)
     exact l_skip rfl rfl w2 (run_mapUpdate_op rfl f3 f4 rfl hr) ⟨_, rfl, fun _ _ _ => ⟨own1, _, _, (by unfold seeV; dsimp only; rw [if_neg (by decide), if_neg (by decide), if_pos rfl, HQ1.out, HQ2.out]; exact hV2), (HT4.out.trans hT2).mono fun _ _ => trivial⟩⟩
    ·intro vals W hK
     have HK := hid hK
     clear hK
     simp only [layN, layS, List.range, List.range.loop, if_true, Act.put, Nat.zero_add, Nat.reduceAdd]
     have HK2 := HK
     go_wp2_with fail
     (first
      | go_end0
      | refine bodyPost_ret (results_none rfl _ _ _) rfl ?_)
     exact ⟨rfl, HK2.out⟩
theorem see4_any {own : Nat → Option Tg} {R vb b1 b2 b3 b4 b5 : Nat} {V : Vw} {nv lv : Value} (xa xb xc xd : ByteArray) (sb : Nat) (F : Nat → Prop) (σ : List (El × List (Dt × Va))) (w : World) (hV : VIs own R w vb V nv lv b1 b2 b3 b4 b5) (hS : StoreIs w sb F σ) (hF : ∀ i, F i → own i = none) (hent : (entS (⟨4, xa, xb, xc, xd⟩ : El) σ).length ≤ 1000000) (hlen : FewV V) :
  SeeQ own R vb V b1 b2 b3 b4 b5 sb σ (⟨4, xa, xb, xc, xd⟩ : El) w := by
 unfold SeeQ
 obtain ⟨p, hp⟩ : ∃ p, w.heap.size = p := ⟨_, rfl⟩
 obtain ⟨X, hX⟩ : ∃ X, X = w.alloc (.cells #[.int .i64 4, .string xa, .string xb, .string xc, .string xd] 38) := ⟨_, rfl⟩
 have hb : Below w.heap.size w X := by rw [hX]; exact (Below.refl _ _).alloc (Nat.le_refl _) _
 have hE : Blk X p 38 #[.int .i64 4, .string xa, .string xb, .string xc, .string xd] := by rw [hX, ← hp]; exact Blk.new w _ _
 have hNp : own p = none := Classical.byContradiction fun e => by have := (hV.lt p e).2; omega
 have HNp := hid hNp
 have HNe := hid (show p ≠ vb from fun e => by rw [e, hV.self] at hNp; cases hNp)
 have hVX := hV.keep hb
 have HV := hid hVX
 have HE := hid hE
 have HSX := hid (hS.below hb)
 have HF := hid hF
 have HEn := hid hent
 have HLn := hid hlen
 have HB := hid hb
 have HT0 := hid (Turns.below own hV.bound hb)
 have HX := hid hX
 have HP := hid hp
 have c0 : X.cell? ⟨p, 0, none⟩ = some (.int .i64 4) := (Blk.cell hE 0).trans rfl
 clear hV hVX hb hE hX hp hS hF hent hlen hNp
 unfold eE elV at *
 dsimp only at *
 go_enter Tryz.func56, Tryz.ntmps56
 go_upto_region 13 with fail
 rw [← HX.out, HP.out]
 have HC4 := hid (show ∀ W', Below X.heap.size X W' → Blk W' vb 78 #[nv, lv, .map (some b1), .map (some b2), .map (some b3), .map (some b4), .map (some b5)] ∧ Blk W' p 38 #[.int .i64 4, .string xa, .string xb, .string xc, .string xd] from fun W' h => ⟨HV.out.blk.below h HV.out.blk.lt, HE.out.below h HE.out.lt⟩)
 refine wp_region_any (by kernel_rfl) ?_
 refine wpAny_last (fun i uq wq => uq = ([.pointer (some ⟨vb, 0, none⟩), .pointer (some ⟨p, 1, none⟩), .string xa, eE (nodeE xa), .agg #[.int .i64 4, .string xa, .string xb, .string xc, .string xd], .pointer (some ⟨sb, 0, none⟩), undef] : List Value).getD i undef) _ X 6 _ (fun _ wq => (fun W => ViewT own R vb (seeV (valsS σ) V (⟨4, xa, xb, xc, xd⟩ : El)) b1 b2 b3 b4 b5 w W) wq) (by kernel_rfl) rfl (by kernel_rfl) (by kernel_rfl) (by kernel_rfl) (by kernel_rfl) (fun i v w w' _ h => h) ?_ ?_ ?_
 ·refine ⟨?_, ?_, ?_, ?_, ?_, ?_, fun h => absurd h (Nat.lt_irrefl _), trivial⟩
  ·intro _ a W hI hun haft hi
   have e0 := hun 0 (by kernel_rfl)
   exact b_same hi hI rfl _ (run_move_op rfl e0) rfl
  ·intro _ a W hI hun haft hi
   have e4 := hun 4 (by kernel_rfl)
   exact b_same hi hI rfl _ (run_fieldAddr_any rfl e4 (at_elem1 _ 0 _)) rfl
  ·intro _ a W hI hun haft hi
   obtain ⟨kv, ke⟩ := HC4.out W hI
   have f1 : a.eval (.tmp 80) = .pointer (some ⟨p, 1, none⟩) := haft ⟨1, .data⟩ (by simp) rfl _ _ rfl rfl
   exact b_same hi hI rfl _ (run_loadstr_op rfl f1 Tryz.underlying9 ((Blk.cell ke 1).trans rfl)) rfl
  ·intro _ a W hI hun haft hi
   obtain ⟨kv, ke⟩ := HC4.out W hI
   have f2 : a.eval (.tmp 81) = .string xa := haft ⟨2, .data⟩ (by simp) rfl _ _ rfl rfl
   refine b_call hi hI rfl _ _ (run_call_op (args := #[.string xa]) rfl (by simp [f2]) (by kernel_rfl)) ?_
   exact (nodeP_any xa W).mono fun e w' H => ⟨_, H.1, rfl, H.2⟩
  ·intro _ a W hI hun haft hi
   obtain ⟨kv, ke⟩ := HC4.out W hI
   have e4 := hun 4 (by kernel_rfl)
   exact b_same hi hI rfl _ (run_load_op rfl e4 (ke) Tryz.underlying38 rfl (by kernel_rfl)) rfl
  ·intro _ a W hI hun haft hi
   have e2 := hun 2 (by kernel_rfl)
   exact b_same hi hI rfl _ (run_move_op rfl e2) rfl
 ·intro vals a0 W hI hun hsl hp
  have g0 : a0.eval (.tmp 79) = .pointer (some ⟨vb, 0, none⟩) := (hsl 0 _ _ rfl (by decide) rfl).trans (hp 0 (by decide))
  have g1 : a0.eval (.tmp 82) = eE (nodeE xa) := (hsl 3 _ _ rfl (by decide) rfl).trans (hp 3 (by decide))
  have g2 : a0.eval (.tmp 83) = eE (⟨4, xa, xb, xc, xd⟩ : El) := (hsl 4 _ _ rfl (by decide) rfl).trans (hp 4 (by decide))
  have g3 : a0.eval (.tmp 84) = .pointer (some ⟨sb, 0, none⟩) := (hsl 5 _ _ rfl (by decide) rfl).trans (hp 5 (by decide))
  refine wpOp_enter rfl rfl _ _ (run_call_op (args := #[.pointer (some ⟨vb, 0, none⟩), eE (nodeE xa), eE (⟨4, xa, xb, xc, xd⟩ : El), .pointer (some ⟨sb, 0, none⟩)]) rfl (by simp [g0, g1, g2, g3]) (by kernel_rfl)) ?_
  exact (seePart_any (nodeE xa) (⟨4, xa, xb, xc, xd⟩ : El) sb F σ W (HV.out.keep hI) (HSX.out.below hI) HF.out HEn.out HLn.out.2.2.2).mono fun e w' H => by
   obtain ⟨rfl, own', h1, h2⟩ := H
   refine ⟨_, rfl, _, rfl, fun _ _ _ => ⟨own', nv, lv, ?_, ((HT0.out.trans (Turns.below own HV.out.bound hI)).trans h2).mono fun _ _ => trivial⟩⟩
   unfold seeV; dsimp only
   rw [if_neg (by decide), if_neg (by decide), if_neg (by decide), if_pos rfl]
   exact h1
 ·intro vals W hK
  have HK := hid hK
  clear hK
  simp only [layN, layS, List.range, List.range.loop, if_true, Act.put, Nat.zero_add, Nat.reduceAdd]
  have HK2 := HK
  go_wp2_with fail
  (first
   | go_end0
   | refine bodyPost_ret (results_none rfl _ _ _) rfl ?_)
  exact ⟨rfl, HK2.out⟩
theorem see5_any {own : Nat → Option Tg} {R vb b1 b2 b3 b4 b5 : Nat} {V : Vw} {nv lv : Value} (xa xb xc xd : ByteArray) (sb : Nat) (F : Nat → Prop) (σ : List (El × List (Dt × Va))) (w : World) (hV : VIs own R w vb V nv lv b1 b2 b3 b4 b5) (hS : StoreIs w sb F σ) (hF : ∀ i, F i → own i = none) (hent : (entS (⟨5, xa, xb, xc, xd⟩ : El) σ).length ≤ 1000000) (hlen : FewV V) :
  SeeQ own R vb V b1 b2 b3 b4 b5 sb σ (⟨5, xa, xb, xc, xd⟩ : El) w := by
 unfold SeeQ
 obtain ⟨p, hp⟩ : ∃ p, w.heap.size = p := ⟨_, rfl⟩
 obtain ⟨X, hX⟩ : ∃ X, X = w.alloc (.cells #[.int .i64 5, .string xa, .string xb, .string xc, .string xd] 38) := ⟨_, rfl⟩
 have hb : Below w.heap.size w X := by rw [hX]; exact (Below.refl _ _).alloc (Nat.le_refl _) _
 have hE : Blk X p 38 #[.int .i64 5, .string xa, .string xb, .string xc, .string xd] := by rw [hX, ← hp]; exact Blk.new w _ _
 have hNp : own p = none := Classical.byContradiction fun e => by have := (hV.lt p e).2; omega
 have HNp := hid hNp
 have HNe := hid (show p ≠ vb from fun e => by rw [e, hV.self] at hNp; cases hNp)
 have hVX := hV.keep hb
 have HV := hid hVX
 have HE := hid hE
 have HSX := hid (hS.below hb)
 have HF := hid hF
 have HEn := hid hent
 have HLn := hid hlen
 have HB := hid hb
 have HT0 := hid (Turns.below own hV.bound hb)
 have HX := hid hX
 have HP := hid hp
 have c0 : X.cell? ⟨p, 0, none⟩ = some (.int .i64 5) := (Blk.cell hE 0).trans rfl
 clear hV hVX hb hE hX hp hS hF hent hlen hNp
 unfold eE elV at *
 dsimp only at *
 go_enter Tryz.func56, Tryz.ntmps56
 go_upto_region 15 with fail
 rw [← HX.out, HP.out]
 have HC4 := hid (show ∀ W', Below X.heap.size X W' → Blk W' vb 78 #[nv, lv, .map (some b1), .map (some b2), .map (some b3), .map (some b4), .map (some b5)] ∧ Blk W' p 38 #[.int .i64 5, .string xa, .string xb, .string xc, .string xd] from fun W' h => ⟨HV.out.blk.below h HV.out.blk.lt, HE.out.below h HE.out.lt⟩)
 refine wp_region_any (by kernel_rfl) ?_
 refine wpAny_last (fun i uq wq => uq = ([.pointer (some ⟨vb, 0, none⟩), .agg #[.int .i64 5, .string xa, .string xb, .string xc, .string xd], eK ⟨xa, xb, xc⟩, eE (linkE ⟨xa, xb, xc⟩), .agg #[.int .i64 5, .string xa, .string xb, .string xc, .string xd], .pointer (some ⟨sb, 0, none⟩), undef] : List Value).getD i undef) _ X 6 _ (fun _ wq => (fun W => ViewT own R vb (seeV (valsS σ) V (⟨5, xa, xb, xc, xd⟩ : El)) b1 b2 b3 b4 b5 w W) wq) (by kernel_rfl) rfl (by kernel_rfl) (by kernel_rfl) (by kernel_rfl) (by kernel_rfl) (fun i v w w' _ h => h) ?_ ?_ ?_
 ·refine ⟨?_, ?_, ?_, ?_, ?_, ?_, fun h => absurd h (Nat.lt_irrefl _), trivial⟩
  ·intro _ a W hI hun haft hi
   have e0 := hun 0 (by kernel_rfl)
   exact b_same hi hI rfl _ (run_move_op rfl e0) rfl
  ·intro _ a W hI hun haft hi
   obtain ⟨kv, ke⟩ := HC4.out W hI
   have e4 := hun 4 (by kernel_rfl)
   exact b_same hi hI rfl _ (run_load_op rfl e4 (ke) Tryz.underlying38 rfl (by kernel_rfl)) rfl
  ·intro _ a W hI hun haft hi
   obtain ⟨kv, ke⟩ := HC4.out W hI
   have f1 : a.eval (.tmp 89) = .agg #[.int .i64 5, .string xa, .string xb, .string xc, .string xd] := haft ⟨1, .data⟩ (by simp) rfl _ _ rfl rfl
   refine b_call hi hI rfl _ _ (run_call_op (args := #[.agg #[.int .i64 5, .string xa, .string xb, .string xc, .string xd]]) rfl (by simp [f1]) (by kernel_rfl)) ?_
   exact (linkP_any (⟨5, xa, xb, xc, xd⟩ : El) W).mono fun e w' H => ⟨_, H.1, rfl, H.2⟩
  ·intro _ a W hI hun haft hi
   obtain ⟨kv, ke⟩ := HC4.out W hI
   have f2 : a.eval (.tmp 90) = eK ⟨xa, xb, xc⟩ := haft ⟨2, .data⟩ (by simp) rfl _ _ rfl rfl
   refine b_call hi hI rfl _ _ (run_call_op (args := #[eK ⟨xa, xb, xc⟩]) rfl (by simp [f2]) (by kernel_rfl)) ?_
   exact (elemP_any ⟨xa, xb, xc⟩ W).mono fun e w' H => ⟨_, H.1, rfl, H.2⟩
  ·intro _ a W hI hun haft hi
   obtain ⟨kv, ke⟩ := HC4.out W hI
   have e4 := hun 4 (by kernel_rfl)
   exact b_same hi hI rfl _ (run_load_op rfl e4 (ke) Tryz.underlying38 rfl (by kernel_rfl)) rfl
  ·intro _ a W hI hun haft hi
   have e2 := hun 2 (by kernel_rfl)
   exact b_same hi hI rfl _ (run_move_op rfl e2) rfl
 ·intro vals a0 W hI hun hsl hp
  have g0 : a0.eval (.tmp 88) = .pointer (some ⟨vb, 0, none⟩) := (hsl 0 _ _ rfl (by decide) rfl).trans (hp 0 (by decide))
  have g1 : a0.eval (.tmp 91) = eE (linkE ⟨xa, xb, xc⟩) := (hsl 3 _ _ rfl (by decide) rfl).trans (hp 3 (by decide))
  have g2 : a0.eval (.tmp 92) = eE (⟨5, xa, xb, xc, xd⟩ : El) := (hsl 4 _ _ rfl (by decide) rfl).trans (hp 4 (by decide))
  have g3 : a0.eval (.tmp 93) = .pointer (some ⟨sb, 0, none⟩) := (hsl 5 _ _ rfl (by decide) rfl).trans (hp 5 (by decide))
  refine wpOp_enter rfl rfl _ _ (run_call_op (args := #[.pointer (some ⟨vb, 0, none⟩), eE (linkE ⟨xa, xb, xc⟩), eE (⟨5, xa, xb, xc, xd⟩ : El), .pointer (some ⟨sb, 0, none⟩)]) rfl (by simp [g0, g1, g2, g3]) (by kernel_rfl)) ?_
  exact (seePart_any (linkE ⟨xa, xb, xc⟩) (⟨5, xa, xb, xc, xd⟩ : El) sb F σ W (HV.out.keep hI) (HSX.out.below hI) HF.out HEn.out HLn.out.2.2.2).mono fun e w' H => by
   obtain ⟨rfl, own', h1, h2⟩ := H
   refine ⟨_, rfl, _, rfl, fun _ _ _ => ⟨own', nv, lv, ?_, ((HT0.out.trans (Turns.below own HV.out.bound hI)).trans h2).mono fun _ _ => trivial⟩⟩
   unfold seeV; dsimp only
   rw [if_neg (by decide), if_neg (by decide), if_neg (by decide), if_neg (by decide), if_pos rfl]
   exact h1
 ·intro vals W hK
  have HK := hid hK
  clear hK
  simp only [layN, layS, List.range, List.range.loop, if_true, Act.put, Nat.zero_add, Nat.reduceAdd]
  have HK2 := HK
  go_wp2_with fail
  (first
   | go_end0
   | refine bodyPost_ret (results_none rfl _ _ _) rfl ?_)
  exact ⟨rfl, HK2.out⟩
theorem see_any {own : Nat → Option Tg} {R vb b1 b2 b3 b4 b5 : Nat} {V : Vw} {nv lv : Value} (x : El) (h1 : 1 ≤ x.k) (h5 : x.k ≤ 5) (sb : Nat) (F : Nat → Prop) (σ : List (El × List (Dt × Va))) (w : World) (hV : VIs own R w vb V nv lv b1 b2 b3 b4 b5) (hS : StoreIs w sb F σ) (hF : ∀ i, F i → own i = none) (hent : (entS x σ).length ≤ 1000000) (hlen : FewV V) :
  SeeQ own R vb V b1 b2 b3 b4 b5 sb σ x w := by
 obtain ⟨k, a, b, c, d⟩ := x
 dsimp only at h1 h5
 have hk : k = 1 ∨ k = 2 ∨ k = 3 ∨ k = 4 ∨ k = 5 := by omega
 rcases hk with rfl | rfl | rfl | rfl | rfl
 ·exact see1_any a b c d sb F σ w hV hS hF hent hlen
 ·exact see2_any a b c d sb F σ w hV hS hF hent hlen
 ·exact see3_any a b c d sb F σ w hV hS hF hent hlen
 ·exact see4_any a b c d sb F σ w hV hS hF hent hlen
 ·exact see5_any a b c d sb F σ w hV hS hF hent hlen
end Go.Proofs.YtdgglhlofnigkaaGreatDoor
