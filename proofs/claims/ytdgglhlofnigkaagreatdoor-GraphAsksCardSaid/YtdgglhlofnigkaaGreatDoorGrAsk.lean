/-
  (*graph.View).Nodes, Links, Labels, Out, In, Values, Names: the contracts, by walks. Conditions: lengths.
-/
import Derived.Test.YtdgglhlofnigkaaGreatDoorGrOf
namespace Go.Proofs.YtdgglhlofnigkaaGreatDoor
open Lib (hid)
open Go.RowKit Go.MapKept Go.Sort
set_option maxRecDepth 100000 in
set_option maxHeartbeats 1000000 in
theorem nodesP_any {own : Nat → Option Tg} {R vb b1 b2 b3 b4 b5 : Nat} {V : Vw} {nv lv : Value} (w : World) (hV : VIs own R w vb V nv lv b1 b2 b3 b4 b5) (hn : V.nodes.length ≤ 1000000) :
  Calls Tryz.prog 14 #[.pointer (some ⟨vb, 0, none⟩)] w fun e w' => ∃ u, e = .returned u ∧ OwnK enS w.heap.size 9 1 w' u V.nodes ∧ Below w.heap.size w w' := by
 obtain ⟨A, c, rfl, _, _⟩ := hV.nodes.1.read enS_len
 have HS := hid (seen_any vb w)
 have HC := hid (fun W (h : Below w.heap.size w W) => cloneS_any V.nodes (.slice A V.nodes.length c) W (((hV.keep h).nodes.1).read enS_len) hn)
 obtain ⟨n, hn2⟩ : ∃ n, V.nodes.length = n := ⟨_, rfl⟩
 rw [hn2] at HC hV
 have HV := hid hV
 clear hV hn hn2
 go_enter Tryz.func14, Tryz.ntmps14
 go_wp2_with fail
 refine HS.out.mono ?_
 rintro e w1 ⟨rfl, hb1⟩
 have HB1 := hid hb1
 have c0 : w1.cell? ⟨vb, 0, none⟩ = some (.slice A n c) := (Blk.cell (HV.out.keep hb1).blk 0).trans rfl
 clear hb1
 go_wp2_with fail
 refine (HC.out w1 HB1.out).mono ?_
 rintro e w2 ⟨u, rfl, ho, hb2⟩
 have HO := hid (ho.base_ HB1.out.size)
 have HB2 := hid (HB1.out.trans (hb2.mono HB1.out.size))
 clear ho hb2 c0
 go_wp2_with fail
 go_ret
 exact ⟨u, rfl, HO.out, HB2.out⟩
set_option maxRecDepth 100000 in
set_option maxHeartbeats 1000000 in
theorem linksP_any {own : Nat → Option Tg} {R vb b1 b2 b3 b4 b5 : Nat} {V : Vw} {nv lv : Value} (w : World) (hV : VIs own R w vb V nv lv b1 b2 b3 b4 b5) (hn : V.links.length ≤ 1000000) :
  Calls Tryz.prog 26 #[.pointer (some ⟨vb, 0, none⟩)] w fun e w' => ∃ u, e = .returned u ∧ OwnK enK w.heap.size 36 3 w' u V.links ∧ Below w.heap.size w w' := by
 obtain ⟨A, c, rfl, _, _⟩ := hV.links.1.read enK_len
 have HS := hid (seen_any vb w)
 have HC := hid (fun W (h : Below w.heap.size w W) => cloneK_any V.links (.slice A V.links.length c) W (((hV.keep h).links.1).read enK_len) hn)
 obtain ⟨n, hn2⟩ : ∃ n, V.links.length = n := ⟨_, rfl⟩
 rw [hn2] at HC hV
 have HV := hid hV
 clear hV hn hn2
 go_enter Tryz.func26, Tryz.ntmps26
 go_wp2_with fail
 refine HS.out.mono ?_
 rintro e w1 ⟨rfl, hb1⟩
 have HB1 := hid hb1
 have c0 : w1.cell? ⟨vb, 1, none⟩ = some (.slice A n c) := (Blk.cell (HV.out.keep hb1).blk 1).trans rfl
 clear hb1
 go_wp2_with fail
 refine (HC.out w1 HB1.out).mono ?_
 rintro e w2 ⟨u, rfl, ho, hb2⟩
 have HO := hid (ho.base_ HB1.out.size)
 have HB2 := hid (HB1.out.trans (hb2.mono HB1.out.size))
 clear ho hb2 c0
 go_wp2_with fail
 go_ret
 exact ⟨u, rfl, HO.out, HB2.out⟩
set_option maxRecDepth 100000 in
set_option maxHeartbeats 1000000 in
theorem labelsP_any {own : Nat → Option Tg} {R vb b1 b2 b3 b4 b5 : Nat} {V : Vw} {nv lv : Value} (key : ByteArray) (w : World) (hV : VIs own R w vb V nv lv b1 b2 b3 b4 b5) (hn : (V.lab key).length ≤ 1000000) :
  Calls Tryz.prog 20 #[.pointer (some ⟨vb, 0, none⟩), .string key] w fun e w' => ∃ u, e = .returned u ∧ OwnK enS w.heap.size 9 1 w' u (V.lab key) ∧ Below w.heap.size w w' := by
 obtain ⟨v, hvo, hlk⟩ := hV.lookLab key
 have HS := hid (seen_any vb w)
 have HC := hid (fun W (h : Below w.heap.size w W) => cloneS_any (V.lab key) v W ((hvo.1.keep h).read enS_len) hn)
 have HLk := hid hlk
 have HV := hid hV
 clear hV hn hvo hlk
 go_enter Tryz.func20, Tryz.ntmps20
 go_wp2_with fail
 refine HS.out.mono ?_
 rintro e w1 ⟨rfl, hb1⟩
 have HB1 := hid hb1
 have c0 : w1.cell? ⟨vb, 2, none⟩ = some (.map (some b1)) := (Blk.cell (HV.out.keep hb1).blk 2).trans rfl
 have HL1 := hid (HLk.out w1 hb1)
 clear hb1
 go_wp2_with (first
  | (refine wpList_val (o := ⟨some 11, _, _, _, _, _⟩) rfl v w1 (run_lookup_op rfl rfl rfl HL1.out) ?_)
  | fail)
 refine (HC.out w1 HB1.out).mono ?_
 rintro e w2 ⟨u, rfl, ho, hb2⟩
 have HO := hid (ho.base_ HB1.out.size)
 have HB2 := hid (HB1.out.trans (hb2.mono HB1.out.size))
 clear ho hb2 c0
 go_wp2_with fail
 go_ret
 exact ⟨u, rfl, HO.out, HB2.out⟩
set_option maxRecDepth 100000 in
set_option maxHeartbeats 2000000 in
theorem valuesP_any {own : Nat → Option Tg} {R vb b1 b2 b3 b4 b5 : Nat} {V : Vw} {nv lv : Value} (x : El) (w : World) (hV : VIs own R w vb V nv lv b1 b2 b3 b4 b5) (hn : (V.val x).length ≤ 1000000) :
  Calls Tryz.prog 16 #[.pointer (some ⟨vb, 0, none⟩), eE x] w fun e w' => ∃ u, e = .returned u ∧ OwnK enW w.heap.size 43 3 w' u (V.val x) ∧ Below w.heap.size w w' := by
 obtain ⟨q, hq⟩ : ∃ q, w.heap.size = q := ⟨_, rfl⟩
 obtain ⟨X, hX⟩ : ∃ X, X = w.alloc (.cells #[.int .i64 x.k, .string x.a, .string x.b, .string x.c, .string x.d] 38) := ⟨_, rfl⟩
 have hb : Below w.heap.size w X := by rw [hX]; exact (Below.refl _ _).alloc (Nat.le_refl _) _
 have hE : Blk X q 38 #[.int .i64 x.k, .string x.a, .string x.b, .string x.c, .string x.d] := by rw [hX, ← hq]; exact Blk.new w _ _
 have hVX := hV.keep hb
 obtain ⟨v, hvo, hlk⟩ := hVX.lookVal x
 have HCl := hid (fun W (h : Below X.heap.size X W) => cloneV_any (V.val x) v W ((hvo.1.keep h).read enW_len) hn)
 have HLk := hid hlk
 have HC := hid (show ∀ W, Below X.heap.size X W → Blk W vb 78 #[nv, lv, .map (some b1), .map (some b2), .map (some b3), .map (some b4), .map (some b5)] ∧ Blk W q 38 #[.int .i64 x.k, .string x.a, .string x.b, .string x.c, .string x.d] from fun W hW => ⟨hVX.blk.below hW hVX.blk.lt, hE.below hW hE.lt⟩)
 have HB := hid hb
 have HX := hid hX
 have HQ := hid hq
 clear hV hVX hb hE hX hq hvo hlk hn
 unfold eE elV at *
 go_enter Tryz.func16, Tryz.ntmps16
 go_upto_region 1 with fail
 rw [← HX.out, HQ.out]
 refine wp_region_any (by kernel_rfl) ?_
 refine wpAny_below (fun i uq wq => if i = 7 then OwnK enW X.heap.size 43 3 wq uq (V.val x) else if i = 8 then OwnK enW X.heap.size 43 3 wq uq (V.val x) else uq = ([.pointer (some ⟨vb, 0, none⟩), .pointer (some ⟨vb, 0, none⟩), .pointer (some ⟨vb, 0, none⟩), .pointer (some ⟨vb, 6, none⟩), .map (some b5), .agg #[.int .i64 x.k, .string x.a, .string x.b, .string x.c, .string x.d], v, undef, undef] : List Value).getD i undef) _ X (by kernel_rfl) (by kernel_rfl) (by kernel_rfl) (fun i v w w' hb h => by
   by_cases h7 : i = 7
   ·rw [if_pos h7] at h ⊢; exact OwnK.keep h hb
   rw [if_neg h7] at h ⊢
   by_cases h8 : i = 8
   ·rw [if_pos h8] at h ⊢; exact OwnK.keep h hb
   rw [if_neg h8] at h ⊢
   exact h) ?_ ?_
 ·refine ⟨?_, ?_, ?_, ?_, ?_, ?_, ?_, ?_, ?_, trivial⟩
  ·intro a W hI hun haft hi
   have e0 : a.eval (.tmp 0) = .pointer (some ⟨vb, 0, none⟩) := hun 0 (by kernel_rfl)
   exact b_same hi hI rfl _ (run_move_op rfl e0) rfl
  ·intro a W hI hun haft hi
   obtain ⟨kv, ke⟩ := HC.out W hI
   have f0 : a.eval (.tmp 5) = .pointer (some ⟨vb, 0, none⟩) := haft ⟨0, .data⟩ (by simp) rfl _ _ rfl rfl
   refine b_call hi hI rfl _ _ (run_call_op (args := #[.pointer (some ⟨vb, 0, none⟩)]) rfl (by simp [f0]) (by kernel_rfl)) ?_
   exact (seen_any vb W).mono fun e w' H => ⟨_, H.1, rfl, H.2⟩
  ·intro a W hI hun haft hi
   have f1 : a.eval (.tmp 6) = .pointer (some ⟨vb, 0, none⟩) := haft ⟨1, .data⟩ (by simp) rfl _ _ rfl rfl
   exact b_same hi hI rfl _ (run_nilCheck_op rfl f1) rfl
  ·intro a W hI hun haft hi
   have f2 : a.eval (.tmp 7) = .pointer (some ⟨vb, 0, none⟩) := haft ⟨2, .data⟩ (by simp) rfl _ _ rfl rfl
   exact b_same hi hI rfl _ (run_fieldAddr_any rfl f2 (at_view6 _ 0 _)) rfl
  ·intro a W hI hun haft hi
   obtain ⟨kv, ke⟩ := HC.out W hI
   have f3 : a.eval (.tmp 8) = .pointer (some ⟨vb, 6, none⟩) := haft ⟨3, .data⟩ (by simp) rfl _ _ rfl rfl
   exact b_same hi hI rfl _ (run_loadmap_op rfl f3 Tryz.underlying76 ((Blk.cell kv 6).trans rfl)) rfl
  ·intro a W hI hun haft hi
   obtain ⟨kv, ke⟩ := HC.out W hI
   have e3 : a.eval (.tmp 3) = .pointer (some ⟨q, 0, none⟩) := hun 3 (by kernel_rfl)
   exact b_same hi hI rfl _ (run_load_op rfl e3 (ke) Tryz.underlying38 rfl (by kernel_rfl)) rfl
  ·intro a W hI hun haft hi
   obtain ⟨kv, ke⟩ := HC.out W hI
   have f4 : a.eval (.tmp 9) = .map (some b5) := haft ⟨4, .data⟩ (by simp) rfl _ _ rfl rfl
   have f5 : a.eval (.tmp 10) = .agg #[.int .i64 x.k, .string x.a, .string x.b, .string x.c, .string x.d] := haft ⟨5, .data⟩ (by simp) rfl _ _ rfl rfl
   exact b_same hi hI rfl _ (run_lookup_op rfl f4 f5 (HLk.out W hI)) rfl
  ·intro a W hI hun haft hi
   have f6 : a.eval (.tmp 11) = v := haft ⟨6, .data⟩ (by simp) rfl _ _ rfl rfl
   refine b_call hi hI rfl _ _ (run_call_op (args := #[v]) rfl (by simp [f6]) (by kernel_rfl)) ?_
   exact (HCl.out W hI).mono fun e w' H => by
    obtain ⟨u, e1, h1, h2⟩ := H
    exact ⟨u, e1, h1.base_ hI.size, h2⟩
  ·intro a W hI hun haft hi
   have f7 : OwnK enW X.heap.size 43 3 W (a.eval (.tmp 12)) (V.val x) := haft ⟨7, .data⟩ (by simp) rfl _ _ rfl rfl
   exact b_same hi hI rfl _ (run_assign_op rfl rfl) f7
 ·intro vals W hI hp
  have hl8 : OwnK enW X.heap.size 43 3 W (vals 8) (V.val x) := hp 8 (by decide)
  have HI := hid hI
  clear hp hI
  simp only [layN, layS, List.range, List.range.loop, if_true, Act.put, Nat.zero_add, Nat.reduceAdd]
  have HO := hid (hl8.base_ HB.out.size)
  have HB2 := hid (HB.out.trans (HI.out.mono HB.out.size))
  obtain ⟨u, hu⟩ : ∃ u, vals 8 = u := ⟨_, rfl⟩
  rw [hu] at HO ⊢
  clear HI hl8 hu
  go_wp2_with fail
  go_ret
  exact ⟨u, rfl, HO.out, HB2.out⟩
theorem at_Es (g c n k : Nat) (h : k < n) (w : World) : (Instr.indexAt 80 (.slice (some ⟨g, 0, none⟩) n c) (.int .i64 k)).run Tryz.prog w = .ok (.pointer (some ⟨g, k * 5, none⟩)) w := by
 have h2 : (k : Int) < n := by omega
 go_simp
theorem own_app {P : Program} {α : Type} {enc : α → List Value} {k bytes : Nat} {e st ty : TypeId} (T : ApT P enc k e st bytes) {R : Nat} {W : World} {v v2 : Value} {l l2 : List α} (ho : OwnK enc R e k W v l) (hR : R ≤ W.heap.size) (hs : SlK enc k W v2 l2)
  (hy : (l.length + l2.length) * bytes ≤ 140737488355328) (hn : l.length + l2.length ≤ 140737488355328) : ∃ v' w', (Builtin.append_ #[st, st] ty #[v, v2]).run P W = .ok v' w' ∧ OwnK enc R e k w' v' (l ++ l2) ∧ Below R W w' := by
 obtain ⟨i, z, h1, h2, h3, h4, h5⟩ := T.info
 obtain ⟨v', w', hr, h, hg⟩ := run_append_K (P := P) T.len T.pos W R st ty e i z bytes T.under h1 h2 h3 h4 h5 v l ho v2 l2 hs T.one hy hn hR
 exact ⟨v', w', hr, h, (Below.refl R W).grown hg hR fun k hk => (ho.lt k hk).1⟩
set_option maxRecDepth 100000 in
set_option maxHeartbeats 2000000 in
theorem namesP_any {own : Nat → Option Tg} {R vb b1 b2 b3 b4 b5 : Nat} {V : Vw} {nv lv : Value} (x : El) (w : World) (hV : VIs own R w vb V nv lv b1 b2 b3 b4 b5) (hn : ((V.part x).getD []).length ≤ 1000000) :
  Calls Tryz.prog 24 #[.pointer (some ⟨vb, 0, none⟩), eE x] w fun e w' => ∃ u, e = .returned u ∧ OwnK enS w.heap.size 9 1 w' u (((V.part x).getD []).map (·.d)) ∧ Below w.heap.size w w' := by
 obtain ⟨q, hq⟩ : ∃ q, w.heap.size = q := ⟨_, rfl⟩
 obtain ⟨X, hX⟩ : ∃ X, X = w.alloc (.cells #[.int .i64 x.k, .string x.a, .string x.b, .string x.c, .string x.d] 38) := ⟨_, rfl⟩
 have hb : Below w.heap.size w X := by rw [hX]; exact (Below.refl _ _).alloc (Nat.le_refl _) _
 have hE : Blk X q 38 #[.int .i64 x.k, .string x.a, .string x.b, .string x.c, .string x.d] := by rw [hX, ← hq]; exact Blk.new w _ _
 have hVX := hV.keep hb
 obtain ⟨v, hvo, hlk⟩ := hVX.lookPart x
 obtain ⟨A, c, rfl, _⟩ := hvo.1.read enL_len
 obtain ⟨ps, hps⟩ : ∃ ps, (V.part x).getD [] = ps := ⟨_, rfl⟩
 rw [hps] at hvo hlk hn ⊢
 obtain ⟨n, hn2⟩ : ∃ n, ps.length = n := ⟨_, rfl⟩
 rw [hn2] at hvo hlk hn
 have HPs := hid hn2
 have HN := hid hn
 have HOw := hid (show ∀ wr, Below q w wr → OwnK enL R 38 5 wr (.slice A n c) ps from fun wr hr => hvo.1.same fun g hg => by
  have hgl := hV.bound g (by rw [hvo.2 g hg]; simp)
  rw [hr.block g (by omega), hb.block g hgl])
 have HLk := hid hlk
 have HC := hid (show ∀ W, Below X.heap.size X W → Blk W vb 78 #[nv, lv, .map (some b1), .map (some b2), .map (some b3), .map (some b4), .map (some b5)] ∧ Blk W q 38 #[.int .i64 x.k, .string x.a, .string x.b, .string x.c, .string x.d] from fun W hW => ⟨hVX.blk.below hW hVX.blk.lt, hE.below hW hE.lt⟩)
 have HB := hid hb
 have HX := hid hX
 have HQ := hid hq
 clear hV hVX hb hE hX hq hvo hlk hn hps hn2
 unfold eE elV at *
 go_enter Tryz.func24, Tryz.ntmps24
 go_upto_region 2 with fail
 rw [← HX.out, HQ.out]
 refine wp_region_any (by kernel_rfl) ?_
 refine wpAny_below (fun i uq wq => uq = ([.pointer (some ⟨vb, 0, none⟩), .pointer (some ⟨vb, 0, none⟩), .pointer (some ⟨vb, 0, none⟩), .pointer (some ⟨vb, 5, none⟩), .map (some b4), .agg #[.int .i64 x.k, .string x.a, .string x.b, .string x.c, .string x.d], .slice A n c, .int .i64 n, .int .i64 0] : List Value).getD i undef) _ X (by kernel_rfl) (by kernel_rfl) (by kernel_rfl) (fun i v w w' _ h => h) ?_ ?_
 ·refine ⟨?_, ?_, ?_, ?_, ?_, ?_, ?_, ?_, ?_, trivial⟩
  ·intro a W hI hun haft hi
   have e0 : a.eval (.tmp 0) = .pointer (some ⟨vb, 0, none⟩) := hun 0 (by kernel_rfl)
   exact b_same hi hI rfl _ (run_move_op rfl e0) rfl
  ·intro a W hI hun haft hi
   obtain ⟨kv, ke⟩ := HC.out W hI
   have f0 : a.eval (.tmp 8) = .pointer (some ⟨vb, 0, none⟩) := haft ⟨0, .data⟩ (by simp) rfl _ _ rfl rfl
   refine b_call hi hI rfl _ _ (run_call_op (args := #[.pointer (some ⟨vb, 0, none⟩)]) rfl (by simp [f0]) (by kernel_rfl)) ?_
   exact (seen_any vb W).mono fun e w' H => ⟨_, H.1, rfl, H.2⟩
  ·intro a W hI hun haft hi
   have f1 : a.eval (.tmp 9) = .pointer (some ⟨vb, 0, none⟩) := haft ⟨1, .data⟩ (by simp) rfl _ _ rfl rfl
   exact b_same hi hI rfl _ (run_nilCheck_op rfl f1) rfl
  ·intro a W hI hun haft hi
   have f2 : a.eval (.tmp 10) = .pointer (some ⟨vb, 0, none⟩) := haft ⟨2, .data⟩ (by simp) rfl _ _ rfl rfl
   exact b_same hi hI rfl _ (run_fieldAddr_any rfl f2 (at_view5 _ 0 _)) rfl
  ·intro a W hI hun haft hi
   obtain ⟨kv, ke⟩ := HC.out W hI
   have f3 : a.eval (.tmp 11) = .pointer (some ⟨vb, 5, none⟩) := haft ⟨3, .data⟩ (by simp) rfl _ _ rfl rfl
   exact b_same hi hI rfl _ (run_loadmap_op rfl f3 Tryz.underlying75 ((Blk.cell kv 5).trans rfl)) rfl
  ·intro a W hI hun haft hi
   obtain ⟨kv, ke⟩ := HC.out W hI
   have e3 : a.eval (.tmp 3) = .pointer (some ⟨q, 0, none⟩) := hun 3 (by kernel_rfl)
   exact b_same hi hI rfl _ (run_load_op rfl e3 (ke) Tryz.underlying38 rfl (by kernel_rfl)) rfl
  ·intro a W hI hun haft hi
   obtain ⟨kv, ke⟩ := HC.out W hI
   have f4 : a.eval (.tmp 12) = .map (some b4) := haft ⟨4, .data⟩ (by simp) rfl _ _ rfl rfl
   have f5 : a.eval (.tmp 13) = .agg #[.int .i64 x.k, .string x.a, .string x.b, .string x.c, .string x.d] := haft ⟨5, .data⟩ (by simp) rfl _ _ rfl rfl
   exact b_same hi hI rfl _ (run_lookup_op rfl f4 f5 (HLk.out W hI)) rfl
  ·intro a W hI hun haft hi
   have f6 : a.eval (.tmp 14) = .slice A n c := haft ⟨6, .data⟩ (by simp) rfl _ _ rfl rfl
   exact b_same hi hI rfl _ (run_len_op Tryz.underlying80 rfl f6) rfl
  ·intro a W hI hun haft hi
   exact b_same hi hI rfl _ (run_move_op rfl rfl) rfl
 ·intro vals W hI hp
  have hl6 : vals 6 = .slice A n c := hp 6 (by decide)
  have hl7 : vals 7 = .int .i64 n := hp 7 (by decide)
  have hl8 : vals 8 = .int .i64 0 := hp 8 (by decide)
  have HI := hid hI
  clear hp hI
  simp only [layN, layS, List.range, List.range.loop, if_true, Act.put, Nat.zero_add, Nat.reduceAdd, hl6, hl7, hl8]
  clear hl6 hl7 hl8
  have HB2 := hid (show Below q w W by have h := HB.out.trans (HI.out.mono HB.out.size); rw [HQ.out] at h; exact h)
  clear HI HLk HC HB
  go_wp2_with fail
  go_loopw [5, 16] (fun v5 v16 wr => ∃ j : Nat, v16 = .int .i64 j ∧ j ≤ n ∧ OwnK enS q 9 1 wr v5 ((ps.take j).map (·.d)) ∧ Below q w wr) (fun _ v16 _ => n - (intOf v16).toNat)
  case atStart => exact ⟨0, rfl, Nat.zero_le _, OwnK.nil_ _ _ _ _ _, HB2.out⟩
  case round =>
   obtain ⟨j, rfl, hj, ho, hbw⟩ := hrel
   obtain ⟨wp, rfl⟩ : ∃ wp, wp = wr := ⟨_, rfl⟩
   by_cases hlt : j < n
   ·obtain ⟨y, hy⟩ : ∃ y, ps[j]? = some y := ⟨ps[j]'(by rw [HPs.out]; exact hlt), List.getElem?_eq_getElem _⟩
    obtain ⟨g, rfl, _, _, hce⟩ := (HOw.out wp hbw).at_ enL_len hy
    have HAt := hid (at_Es g c n j hlt wp)
    have HCe := hid (show wp.rangeAt g (j * 5) [.int .i64 y.k, .string y.a, .string y.b, .string y.c, .string y.d] from hce)
    have hqw : q ≤ wp.heap.size := by have h1 := hbw.size; have h2 := HQ.out; omega
    obtain ⟨Y, hY⟩ : ∃ Y, Y = wp.alloc (.cells #[.int .i64 y.k, .string y.a, .string y.b, .string y.c, .string y.d] 38) := ⟨_, rfl⟩
    have hbY : Below wp.heap.size wp Y := by rw [hY]; exact (Below.refl _ _).alloc (Nat.le_refl _) _
    obtain ⟨Z, hZ⟩ : ∃ Z, Z = Y.alloc (.cells #[.string y.d] 9) := ⟨_, rfl⟩
    have hbZ : Below wp.heap.size wp Z := by rw [hZ]; exact hbY.alloc hbY.size _
    have hsl := sl_S y.d Y
    obtain ⟨v', w', hr, ho', hb'⟩ := own_app (ty := 32) apS (ho.keep hbZ) (Nat.le_trans hqw hbZ.size) (by rw [hZ]; exact hsl) (by have h1 := HN.out; have h2 := List.length_take_le j ps; simp only [List.length_map, List.length_cons, List.length_nil]; omega) (by have h1 := HN.out; have h2 := List.length_take_le j ps; simp only [List.length_map, List.length_cons, List.length_nil]; omega)
    have htk : (ps.take (j + 1)).map (·.d) = (ps.take j).map (·.d) ++ [y.d] := by rw [List.take_add_one, hy, List.map_append]; rfl
    rw [← htk] at ho'
    obtain ⟨i, hi⟩ : ∃ i, wp.heap.size = i := ⟨_, rfl⟩
    obtain ⟨m, hm⟩ : ∃ m, Y.heap.size = m := ⟨_, rfl⟩
    rw [hm] at hr
    have c4 : Y.cell? ⟨i, 4, none⟩ = some (.string y.d) := by rw [hY, ← hi]; exact (Blk.cell (Blk.new wp _ _) 4).trans rfl
    have HR := hid hr
    have HO' := hid ho'
    have HB' := hid (hbw.trans ((hbZ.mono hqw).trans hb'))
    have HYe := hid hY
    have HZe := hid hZ
    have HI := hid hi
    have HM := hid hm
    have hz := (zero_of_info infoElG).1
    have hw := IntWalk.i64_in ((j : Int) + 1) (by have := HN.out; omega)
    have hjm : ¬ 9223372036854775807 < j + 1 := by have := HN.out; omega
    have HJ1 := hid hjm
    have HW1 := hid hw
    clear hw hjm hY hZ hi hm hr ho' hb' htk hbY hbZ hsl hce hy ho hbw hqw
    go_upto_region 5 with (first
     | (refine wpList_val (o := ⟨some 18, _, _, _, _, _⟩) rfl (.pointer (some ⟨g, j * 5, none⟩)) wp (run_indexAddr_op rfl rfl rfl HAt.out) ?_)
     | (refine wpList_load_midif rfl 38 (.tmp 18) rfl g (j * 5) rfl [.int .i64 y.k, .string y.a, .string y.b, .string y.c, .string y.d] _ HCe.out Tryz.underlying38 rfl (by kernel_rfl) ?_)
     | fail)
    clear hz
    rw [HI.out, ← HYe.out]
    have hw := HW1.out
    have hjm := HJ1.out
    go_wp2_with (first
     | (at_builtin; rw [← HZe.out, HM.out]; refine Lib.wpList_append_run (o := ⟨some 24, _, _, _, _, _⟩) _ rfl _ _ _ _ rfl _ _ rfl rfl _ _ HR.out ?_)
     | fail)
    go_roundw
    case rel => exact ⟨j + 1, by go_num, by omega, HO'.out, HB'.out⟩
    case measure => simp [intOf] <;> omega
   ·have hjn : n = j := by omega
    subst hjn
    have htk : ps.take n = ps := by rw [← HPs.out, List.take_length]
    rw [htk] at ho
    have HO := hid ho
    have HB' := hid hbw
    clear ho hbw htk hlt hj
    go_wp2_with fail
    go_ret
    exact ⟨_, rfl, by rw [HQ.out]; exact HO.out, by rw [HQ.out]; exact HB'.out⟩
end Go.Proofs.YtdgglhlofnigkaaGreatDoor
