/- (*graph.View).Nodes, Links, Labels, Out, In, Values, Names. -/import Derived.Test.YtdgglhlofnigkaaGreatDoorGrOf
set_option maxHeartbeats 2000000
set_option maxRecDepth 100000
namespace Go.Proofs.YtdgglhlofnigkaaGreatDoor
open Lib (hid)
open Go.RowKit Go.MapKept Go.Sort
theorem nodesP_any {own : Nat → Option Tg} {R vb b1 b2 b3 b4 b5 : Nat} {V : Vw} {nv lv : Value} (w : World) (hV : VIs own R w vb V nv lv b1 b2 b3 b4 b5) (hn : V.nodes.length ≤ 1000000) :
  Calls Tryz.prog 14 #[.pointer (some ⟨vb, 0, none⟩)] w fun e w' => ∃ u, e = .returned u ∧ OwnK enS w.heap.size 9 1 w' u V.nodes ∧ Below w.heap.size w w' := by
 obtain ⟨A, c, rfl, _, _⟩ := hV.nodes.1.read enS_len
 have HS := hid (seen_any vb w)
 have HC := hid (fun W (h : Below w.heap.size w W) => cloneS_any V.nodes (.slice A V.nodes.length c) W (((hV.keep h).nodes.1).read enS_len) hn)
 obtain ⟨n, hn2⟩ : ∃ n, V.nodes.length = n := ⟨_, rfl⟩
 rw [hn2] at HC hV
 have HV := hid hV
 clear hV hn hn2
 go_enter Tryz.func14, Tryz.ntmps14
 go_wp2_with fail
 refine HS.out.mono ?_
 rintro e w1 ⟨rfl, hb1⟩
 have HB1 := hid hb1
 have c0 : w1.cell? ⟨vb, 0, none⟩ = some (.slice A n c) := (Blk.cell (HV.out.keep hb1).blk 0).trans rfl
 clear hb1
 go_wp2_with fail
 refine (HC.out w1 HB1.out).mono ?_
 rintro e w2 ⟨u, rfl, ho, hb2⟩
 have HO := hid (ho.base_ HB1.out.size)
 have HB2 := hid (HB1.out.trans (hb2.mono HB1.out.size))
 clear ho hb2 c0
 go_wp2_with fail
 go_ret
 exact ⟨u, rfl, HO.out, HB2.out⟩
theorem linksP_any {own : Nat → Option Tg} {R vb b1 b2 b3 b4 b5 : Nat} {V : Vw} {nv lv : Value} (w : World) (hV : VIs own R w vb V nv lv b1 b2 b3 b4 b5) (hn : V.links.length ≤ 1000000) :
  Calls Tryz.prog 26 #[.pointer (some ⟨vb, 0, none⟩)] w fun e w' => ∃ u, e = .returned u ∧ OwnK enK w.heap.size 36 3 w' u V.links ∧ Below w.heap.size w w' := by
 obtain ⟨A, c, rfl, _, _⟩ := hV.links.1.read enK_len
 have HS := hid (seen_any vb w)
 have HC := hid (fun W (h : Below w.heap.size w W) => cloneK_any V.links (.slice A V.links.length c) W (((hV.keep h).links.1).read enK_len) hn)
 obtain ⟨n, hn2⟩ : ∃ n, V.links.length = n := ⟨_, rfl⟩
 rw [hn2] at HC hV
 have HV := hid hV
 clear hV hn hn2
 go_enter Tryz.func26, Tryz.ntmps26
 go_wp2_with fail
 refine HS.out.mono ?_
 rintro e w1 ⟨rfl, hb1⟩
 have HB1 := hid hb1
 have c0 : w1.cell? ⟨vb, 1, none⟩ = some (.slice A n c) := (Blk.cell (HV.out.keep hb1).blk 1).trans rfl
 clear hb1
 go_wp2_with fail
 refine (HC.out w1 HB1.out).mono ?_
 rintro e w2 ⟨u, rfl, ho, hb2⟩
 have HO := hid (ho.base_ HB1.out.size)
 have HB2 := hid (HB1.out.trans (hb2.mono HB1.out.size))
 clear ho hb2 c0
 go_wp2_with fail
 go_ret
 exact ⟨u, rfl, HO.out, HB2.out⟩
theorem labelsP_any {own : Nat → Option Tg} {R vb b1 b2 b3 b4 b5 : Nat} {V : Vw} {nv lv : Value} (key : ByteArray) (w : World) (hV : VIs own R w vb V nv lv b1 b2 b3 b4 b5) (hn : (V.lab key).length ≤ 1000000) :
  Calls Tryz.prog 20 #[.pointer (some ⟨vb, 0, none⟩), .string key] w fun e w' => ∃ u, e = .returned u ∧ OwnK enS w.heap.size 9 1 w' u (V.lab key) ∧ Below w.heap.size w w' := by
 obtain ⟨v, hvo, hlk⟩ := hV.lookLab key
 have HS := hid (seen_any vb w)
 have HC := hid (fun W (h : Below w.heap.size w W) => cloneS_any (V.lab key) v W ((hvo.1.keep h).read enS_len) hn)
 have HLk := hid hlk
 have HV := hid hV
 clear hV hn hvo hlk
 go_enter Tryz.func20, Tryz.ntmps20
 go_wp2_with fail
 refine HS.out.mono ?_
 rintro e w1 ⟨rfl, hb1⟩
 have HB1 := hid hb1
 have c0 : w1.cell? ⟨vb, 2, none⟩ = some (.map (some b1)) := (Blk.cell (HV.out.keep hb1).blk 2).trans rfl
 have HL1 := hid (HLk.out w1 hb1)
 clear hb1
 go_wp2_with (first
  | (refine wpList_val (o := ⟨some 11, _, _, _, _, _⟩) rfl v w1 (run_lookup_op rfl rfl rfl HL1.out) ?_)
  | fail)
 refine (HC.out w1 HB1.out).mono ?_
 rintro e w2 ⟨u, rfl, ho, hb2⟩
 have HO := hid (ho.base_ HB1.out.size)
 have HB2 := hid (HB1.out.trans (hb2.mono HB1.out.size))
 clear ho hb2 c0
 go_wp2_with fail
 go_ret
 exact ⟨u, rfl, HO.out, HB2.out⟩
theorem valuesP_any {own : Nat → Option Tg} {R vb b1 b2 b3 b4 b5 : Nat} {V : Vw} {nv lv : Value} (x : El) (w : World) (hV : VIs own R w vb V nv lv b1 b2 b3 b4 b5) (hn : (V.val x).length ≤ 1000000) :
  Calls Tryz.prog 16 #[.pointer (some ⟨vb, 0, none⟩), eE x] w fun e w' => ∃ u, e = .returned u ∧ OwnK enW w.heap.size 43 3 w' u (V.val x) ∧ Below w.heap.size w w' := by
 obtain ⟨q, hq⟩ : ∃ q, w.heap.size = q := ⟨_, rfl⟩
 obtain ⟨X, hX⟩ : ∃ X, X = w.alloc (.cells #[.int .i64 x.k, .string x.a, .string x.b, .string x.c, .string x.d] 38) := ⟨_, rfl⟩
 have hb : Below w.heap.size w X := by rw [hX]; exact (Below.refl _ _).alloc (Nat.le_refl _) _
 have hE : Blk X q 38 #[.int .i64 x.k, .string x.a, .string x.b, .string x.c, .string x.d] := by rw [hX, ← hq]; exact Blk.new w _ _
 have hVX := hV.keep hb
 obtain ⟨v, hvo, hlk⟩ := hVX.lookVal x
 have HCl := hid (fun W (h : Below X.heap.size X W) => cloneV_any (V.val x) v W ((hvo.1.keep h).read enW_len) hn)
 have HLk := hid hlk
 have HC := hid (show ∀ W, Below X.heap.size X W → Blk W vb 78 #[nv, lv, .map (some b1), .map (some b2), .map (some b3), .map (some b4), .map (some b5)] ∧ Blk W q 38 #[.int .i64 x.k, .string x.a, .string x.b, .string x.c, .string x.d] from fun W hW => ⟨hVX.blk.below hW hVX.blk.lt, hE.below hW hE.lt⟩)
 have HB := hid hb
 have HX := hid hX
 have HQ := hid hq
 clear hV hVX hb hE hX hq hvo hlk hn
 unfold eE elV at *
 go_enter Tryz.func16, Tryz.ntmps16
 go_upto_region 1 with fail
 rw [← HX.out, HQ.out]
 refine wp_region_any (by kernel_rfl) ?_
 refine wpAny_below (fun i uq wq => if i = 7 then OwnK enW X.heap.size 43 3 wq uq (V.val x) else if i = 8 then OwnK enW X.heap.size 43 3 wq uq (V.val x) else uq = ([.pointer (some ⟨vb, 0, none⟩), .pointer (some ⟨vb, 0, none⟩), .pointer (some ⟨vb, 0, none⟩), .pointer (some ⟨vb, 6, none⟩), .map (some b5), .agg #[.int .i64 x.k, .string x.a, .string x.b, .string x.c, .string x.d], v, undef, undef] : List Value).getD i undef) _ X (by kernel_rfl) (by kernel_rfl) (by kernel_rfl) (fun i v w w' hb h => by
   by_cases h7 : i = 7
   ·rw [if_pos h7] at h ⊢; exact OwnK.keep h hb
   rw [if_neg h7] at h ⊢
   by_cases h8 : i = 8
   ·rw [if_pos h8] at h ⊢; exact OwnK.keep h hb
   rw [if_neg h8] at h ⊢
   exact h) ?_ ?_
 ·refine ⟨?_, ?_, ?_, ?_, ?_, ?_, ?_, ?_, ?_, trivial⟩
  ·intro a W hI hun haft hi
   have e0 := hun 0 (by kernel_rfl)
   exact b_same hi hI rfl _ (run_move_op rfl e0) rfl
  ·intro a W hI hun haft hi
   obtain ⟨kv, ke⟩ := HC.out W hI
   have f0 : a.eval (.tmp 5) = .pointer (some ⟨vb, 0, none⟩) := haft ⟨0, .data⟩ (by simp) rfl _ _ rfl rfl
   refine b_call hi hI rfl _ _ (run_call_op (args := #[.pointer (some ⟨vb, 0, none⟩)]) rfl (by simp [f0]) (by kernel_rfl)) ?_
   exact (seen_any vb W).mono fun e w' H => ⟨_, H.1, rfl, H.2⟩
  ·intro a W hI hun haft hi
   have f1 := haft ⟨1, .data⟩ (by simp) rfl _ _ rfl rfl
   exact b_same hi hI rfl _ (run_nilCheck_op rfl f1) rfl
  ·intro a W hI hun haft hi
   have f2 := haft ⟨2, .data⟩ (by simp) rfl _ _ rfl rfl
   exact b_same hi hI rfl _ (run_fieldAddr_any rfl f2 (at_view6 _ 0 _)) rfl
  ·intro a W hI hun haft hi
   obtain ⟨kv, ke⟩ := HC.out W hI
   have f3 : a.eval (.tmp 8) = .pointer (some ⟨vb, 6, none⟩) := haft ⟨3, .data⟩ (by simp) rfl _ _ rfl rfl
   exact b_same hi hI rfl _ (run_loadmap_op rfl f3 Tryz.underlying76 ((Blk.cell kv 6).trans rfl)) rfl
  ·intro a W hI hun haft hi
   obtain ⟨kv, ke⟩ := HC.out W hI
   have e3 := hun 3 (by kernel_rfl)
   exact b_same hi hI rfl _ (run_load_op rfl e3 (ke) Tryz.underlying38 rfl (by kernel_rfl)) rfl
  ·intro a W hI hun haft hi
   obtain ⟨kv, ke⟩ := HC.out W hI
   have f4 := haft ⟨4, .data⟩ (by simp) rfl _ _ rfl rfl
   have f5 := haft ⟨5, .data⟩ (by simp) rfl _ _ rfl rfl
   exact b_same hi hI rfl _ (run_lookup_op rfl f4 f5 (HLk.out W hI)) rfl
  ·intro a W hI hun haft hi
   have f6 : a.eval (.tmp 11) = v := haft ⟨6, .data⟩ (by simp) rfl _ _ rfl rfl
   refine b_call hi hI rfl _ _ (run_call_op (args := #[v]) rfl (by simp [f6]) (by kernel_rfl)) ?_
   exact (HCl.out W hI).mono fun e w' H => by
    obtain ⟨u, e1, h1, h2⟩ := H
    exact ⟨u, e1, h1.base_ hI.size, h2⟩
  ·intro a W hI hun haft hi
   have f7 : OwnK enW X.heap.size 43 3 W (a.eval (.tmp 12)) (V.val x) := haft ⟨7, .data⟩ (by simp) rfl _ _ rfl rfl
   exact b_same hi hI rfl _ (run_assign_op rfl rfl) f7
 ·intro vals W hI hp
  have hl8 : OwnK enW X.heap.size 43 3 W (vals 8) (V.val x) := hp 8 (by decide)
  have HI := hid hI
  clear hp hI
  simp only [layN, layS, List.range, List.range.loop, if_true, Act.put, Nat.zero_add, Nat.reduceAdd]
  have HO := hid (hl8.base_ HB.out.size)
  have HB2 := hid (HB.out.trans (HI.out.mono HB.out.size))
  obtain ⟨u, hu⟩ : ∃ u, vals 8 = u := ⟨_, rfl⟩
  rw [hu] at HO ⊢
  clear HI hl8 hu
  go_wp2_with fail
  go_ret
  exact ⟨u, rfl, HO.out, HB2.out⟩
theorem at_Es (g c n k : Nat) (h : k < n) (w : World) : (Instr.indexAt 80 (.slice (some ⟨g, 0, none⟩) n c) (.int .i64 k)).run Tryz.prog w = .ok (.pointer (some ⟨g, k * 5, none⟩)) w := by
 have h2 : (k : Int) < n := by omega
 go_simp
theorem own_app {P : Program} {α : Type} {enc : α → List Value} {k bytes : Nat} {e st ty : TypeId} (T : ApT P enc k e st bytes) {R : Nat} {W : World} {v v2 : Value} {l l2 : List α} (ho : OwnK enc R e k W v l) (hR : R ≤ W.heap.size) (hs : SlK enc k W v2 l2)
  (hy : (l.length + l2.length) * bytes ≤ 140737488355328) (hn : l.length + l2.length ≤ 140737488355328) : ∃ v' w', (Builtin.append_ #[st, st] ty #[v, v2]).run P W = .ok v' w' ∧ OwnK enc R e k w' v' (l ++ l2) ∧ Below R W w' := by
 obtain ⟨i, z, h1, h2, h3, h4, h5⟩ := T.info
 obtain ⟨v', w', hr, h, hg⟩ := run_append_K (P := P) T.len T.pos W R st ty e i z bytes T.under h1 h2 h3 h4 h5 v l ho v2 l2 hs T.one hy hn hR
 exact ⟨v', w', hr, h, (Below.refl R W).grown hg hR fun k hk => (ho.lt k hk).1⟩
end Go.Proofs.YtdgglhlofnigkaaGreatDoor
