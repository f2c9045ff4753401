/- graph.byNames. -/import Derived.Test.YtdgglhlofnigkaaGreatDoorGrSeeB
set_option maxHeartbeats 2000000
set_option maxRecDepth 100000
namespace Go.Proofs.YtdgglhlofnigkaaGreatDoor
open Lib (hid)
open Go.RowKit Go.MapKept Go.Sort
theorem bs3 (a b c : Int) (w : World) : (Instr.buildSlice 163 3 #[(0, .int .i64 a), (1, .int .i64 b), (2, .int .i64 c)]).run Tryz.prog w = .ok (.slice (some ⟨w.heap.size, 0, none⟩) 3 3) (w.alloc (.cells #[.int .i64 a, .int .i64 b, .int .i64 c] 3)) := by go_simp
theorem byNames_any (x y : Lk) (w : World) : Calls Tryz.prog 58 #[eK x, eK y] w fun e w' => e = .returned (.int .i64 (cfK x y)) ∧ Grn w w' := by
 obtain ⟨Y, hY⟩ : ∃ Y, Y = (w.alloc (.cells #[.string x.f, .string x.t, .string x.y] 36)).alloc (.cells #[.string y.f, .string y.t, .string y.y] 36) := ⟨_, rfl⟩
 obtain ⟨q, hq⟩ : ∃ q, w.heap.size = q := ⟨_, rfl⟩
 have HY := hid hY
 have HQ := hid hq
 have KX := hid (show Blk Y q 36 #[.string x.f, .string x.t, .string x.y] by rw [hY, ← hq]; exact (Blk.new w _ _).alloc _)
 have KY := hid (show Blk Y (q + 1) 36 #[.string y.f, .string y.t, .string y.y] by
  rw [hY, ← hq]
  have := Blk.new (w.alloc (.cells #[.string x.f, .string x.t, .string x.y] 36)) 36 #[.string y.f, .string y.t, .string y.y]
  simpa using this)
 have BY := hid (show Grn w Y by rw [hY]; exact ((Grn.refl w).alloc _).alloc _)
 clear hY hq
 unfold eK lkC
 go_enter Tryz.func58, Tryz.ntmps58
 go_upto_region 1 with fail
 rw [← HY.out, HQ.out]
 refine wp_region_any (by kernel_rfl) ?_
 refine wpAny_grn (fun i uq wq => if i = 15 then ∃ gs, uq = .slice (some ⟨gs, 0, none⟩) 3 3 ∧ Blk wq gs 3 ([Lib.compareBytes (x.f).data.toList (y.f).data.toList, Lib.compareBytes (x.y).data.toList (y.y).data.toList, Lib.compareBytes (x.t).data.toList (y.t).data.toList].map fun z => Value.int .i64 z).toArray else uq = ([.pointer (some ⟨q, 0, none⟩), .string x.f, .pointer (some ⟨q + 1, 0, none⟩), .string y.f, .int .i64 (Lib.compareBytes (x.f).data.toList (y.f).data.toList), .pointer (some ⟨q, 2, none⟩), .string x.y, .pointer (some ⟨q + 1, 2, none⟩), .string y.y, .int .i64 (Lib.compareBytes (x.y).data.toList (y.y).data.toList), .pointer (some ⟨q, 1, none⟩), .string x.t, .pointer (some ⟨q + 1, 1, none⟩), .string y.t, .int .i64 (Lib.compareBytes (x.t).data.toList (y.t).data.toList), undef, .int .i64 (orI [Lib.compareBytes (x.f).data.toList (y.f).data.toList, Lib.compareBytes (x.y).data.toList (y.y).data.toList, Lib.compareBytes (x.t).data.toList (y.t).data.toList]), .int .i64 (orI [Lib.compareBytes (x.f).data.toList (y.f).data.toList, Lib.compareBytes (x.y).data.toList (y.y).data.toList, Lib.compareBytes (x.t).data.toList (y.t).data.toList])] : List Value).getD i undef) _ Y (by kernel_rfl) (by kernel_rfl) (by kernel_rfl) ?_ ?_ ?_
 ·intro i v w w' hb hp
  by_cases h5 : i = 15
  ·rw [if_pos h5] at hp ⊢
   obtain ⟨n, h1, h2⟩ := hp
   exact ⟨n, h1, Blk.below h2 hb.below (Blk.lt h2)⟩
  ·rw [if_neg h5] at hp ⊢
   exact hp
 ·refine ⟨?_, ?_, ?_, ?_, ?_, ?_, ?_, ?_, ?_, ?_, ?_, ?_, ?_, ?_, ?_, ?_, ?_, ?_, trivial⟩
  ·intro a W hI hun haft hi
   have e2 := hun 2 (by kernel_rfl)
   exact g_same hi hI rfl _ (run_fieldAddr_any rfl e2 (at_link0 _ 0 _)) rfl
  ·intro a W hI hun haft hi
   have f0 : a.eval (.tmp 5) = .pointer (some ⟨q, 0, none⟩) := haft ⟨0, .data⟩ (by simp) rfl _ _ rfl rfl
   exact g_same hi hI rfl _ (run_loadstr_op rfl f0 Tryz.underlying9 ((Blk.cell (Blk.below KX.out hI.below (Blk.lt KX.out)) 0).trans rfl)) rfl
  ·intro a W hI hun haft hi
   have e3 := hun 3 (by kernel_rfl)
   exact g_same hi hI rfl _ (run_fieldAddr_any rfl e3 (at_link0 _ 0 _)) rfl
  ·intro a W hI hun haft hi
   have f2 : a.eval (.tmp 7) = .pointer (some ⟨q + 1, 0, none⟩) := haft ⟨2, .data⟩ (by simp) rfl _ _ rfl rfl
   exact g_same hi hI rfl _ (run_loadstr_op rfl f2 Tryz.underlying9 ((Blk.cell (Blk.below KY.out hI.below (Blk.lt KY.out)) 0).trans rfl)) rfl
  ·intro a W hI hun haft hi
   have f1 : a.eval (.tmp 6) = .string x.f := haft ⟨1, .data⟩ (by simp) rfl _ _ rfl rfl
   have f3 : a.eval (.tmp 8) = .string y.f := haft ⟨3, .data⟩ (by simp) rfl _ _ rfl rfl
   refine g_call hi hI rfl _ _ (run_call_op (args := #[.string x.f, .string y.f]) rfl (by simp [f1, f3]) (by kernel_rfl)) ?_
   exact (cmpstr _ _ W).mono fun e w' H => ⟨_, H.1, rfl, H.2⟩
  ·intro a W hI hun haft hi
   have e2 := hun 2 (by kernel_rfl)
   exact g_same hi hI rfl _ (run_fieldAddr_any rfl e2 (at_link2 _ 0 _)) rfl
  ·intro a W hI hun haft hi
   have f5 : a.eval (.tmp 10) = .pointer (some ⟨q, 2, none⟩) := haft ⟨5, .data⟩ (by simp) rfl _ _ rfl rfl
   exact g_same hi hI rfl _ (run_loadstr_op rfl f5 Tryz.underlying9 ((Blk.cell (Blk.below KX.out hI.below (Blk.lt KX.out)) 2).trans rfl)) rfl
  ·intro a W hI hun haft hi
   have e3 := hun 3 (by kernel_rfl)
   exact g_same hi hI rfl _ (run_fieldAddr_any rfl e3 (at_link2 _ 0 _)) rfl
  ·intro a W hI hun haft hi
   have f7 : a.eval (.tmp 12) = .pointer (some ⟨q + 1, 2, none⟩) := haft ⟨7, .data⟩ (by simp) rfl _ _ rfl rfl
   exact g_same hi hI rfl _ (run_loadstr_op rfl f7 Tryz.underlying9 ((Blk.cell (Blk.below KY.out hI.below (Blk.lt KY.out)) 2).trans rfl)) rfl
  ·intro a W hI hun haft hi
   have f6 : a.eval (.tmp 11) = .string x.y := haft ⟨6, .data⟩ (by simp) rfl _ _ rfl rfl
   have f8 : a.eval (.tmp 13) = .string y.y := haft ⟨8, .data⟩ (by simp) rfl _ _ rfl rfl
   refine g_call hi hI rfl _ _ (run_call_op (args := #[.string x.y, .string y.y]) rfl (by simp [f6, f8]) (by kernel_rfl)) ?_
   exact (cmpstr _ _ W).mono fun e w' H => ⟨_, H.1, rfl, H.2⟩
  ·intro a W hI hun haft hi
   have e2 := hun 2 (by kernel_rfl)
   exact g_same hi hI rfl _ (run_fieldAddr_any rfl e2 (at_link1 _ 0 _)) rfl
  ·intro a W hI hun haft hi
   have f10 : a.eval (.tmp 15) = .pointer (some ⟨q, 1, none⟩) := haft ⟨10, .data⟩ (by simp) rfl _ _ rfl rfl
   exact g_same hi hI rfl _ (run_loadstr_op rfl f10 Tryz.underlying9 ((Blk.cell (Blk.below KX.out hI.below (Blk.lt KX.out)) 1).trans rfl)) rfl
  ·intro a W hI hun haft hi
   have e3 := hun 3 (by kernel_rfl)
   exact g_same hi hI rfl _ (run_fieldAddr_any rfl e3 (at_link1 _ 0 _)) rfl
  ·intro a W hI hun haft hi
   have f12 : a.eval (.tmp 17) = .pointer (some ⟨q + 1, 1, none⟩) := haft ⟨12, .data⟩ (by simp) rfl _ _ rfl rfl
   exact g_same hi hI rfl _ (run_loadstr_op rfl f12 Tryz.underlying9 ((Blk.cell (Blk.below KY.out hI.below (Blk.lt KY.out)) 1).trans rfl)) rfl
  ·intro a W hI hun haft hi
   have f11 : a.eval (.tmp 16) = .string x.t := haft ⟨11, .data⟩ (by simp) rfl _ _ rfl rfl
   have f13 : a.eval (.tmp 18) = .string y.t := haft ⟨13, .data⟩ (by simp) rfl _ _ rfl rfl
   refine g_call hi hI rfl _ _ (run_call_op (args := #[.string x.t, .string y.t]) rfl (by simp [f11, f13]) (by kernel_rfl)) ?_
   exact (cmpstr _ _ W).mono fun e w' H => ⟨_, H.1, rfl, H.2⟩
  ·intro a W hI hun haft hi
   have f4 : a.eval (.tmp 9) = .int .i64 (Lib.compareBytes (x.f).data.toList (y.f).data.toList) := haft ⟨4, .data⟩ (by simp) rfl _ _ rfl rfl
   have f9 : a.eval (.tmp 14) = .int .i64 (Lib.compareBytes (x.y).data.toList (y.y).data.toList) := haft ⟨9, .data⟩ (by simp) rfl _ _ rfl rfl
   have f14 : a.eval (.tmp 19) = .int .i64 (Lib.compareBytes (x.t).data.toList (y.t).data.toList) := haft ⟨14, .data⟩ (by simp) rfl _ _ rfl rfl
   exact g_val hi hI rfl _ _ (run_buildSlice_op (vs := #[(0, .int .i64 (Lib.compareBytes (x.f).data.toList (y.f).data.toList)), (1, .int .i64 (Lib.compareBytes (x.y).data.toList (y.y).data.toList)), (2, .int .i64 (Lib.compareBytes (x.t).data.toList (y.t).data.toList))]) rfl (by simp only [List.map_toArray, List.map_cons, List.map_nil, f4, f9, f14]) (bs3 _ _ _ _)) ((Grn.refl _).alloc _) ⟨_, rfl, Blk.new _ _ _⟩
  ·intro a W hI hun haft hi
   obtain ⟨gs, fs, hs⟩ : ∃ gs, a.eval (.tmp 20) = .slice (some ⟨gs, 0, none⟩) 3 3 ∧ Blk W gs 3 ([Lib.compareBytes (x.f).data.toList (y.f).data.toList, Lib.compareBytes (x.y).data.toList (y.y).data.toList, Lib.compareBytes (x.t).data.toList (y.t).data.toList].map fun z => Value.int .i64 z).toArray := haft ⟨15, .data⟩ (by simp) rfl _ _ rfl rfl
   refine g_call hi hI rfl _ _ (run_call_op (args := #[.slice (some ⟨gs, 0, none⟩) 3 3]) rfl (by simp [fs]) (by kernel_rfl)) ?_
   exact (or_any [Lib.compareBytes (x.f).data.toList (y.f).data.toList, Lib.compareBytes (x.y).data.toList (y.y).data.toList, Lib.compareBytes (x.t).data.toList (y.t).data.toList] gs W hs (by simp)).mono fun e w' H => ⟨_, H.1, rfl, by rw [H.2]; exact Grn.refl _⟩
  ·intro a W hI hun haft hi
   have f16 := haft ⟨16, .data⟩ (by simp) rfl _ _ rfl rfl
   exact g_same hi hI rfl _ (run_assign_op rfl f16) rfl
 ·intro vals W hI hp
  have hl17 : vals 17 = .int .i64 (orI [Lib.compareBytes (x.f).data.toList (y.f).data.toList, Lib.compareBytes (x.y).data.toList (y.y).data.toList, Lib.compareBytes (x.t).data.toList (y.t).data.toList]) := hp 17 (by decide)
  have HI := hid hI
  clear hp hI
  simp only [layN, layS, List.range, List.range.loop, if_true, Act.put, Nat.zero_add, Nat.reduceAdd, hl17]
  clear hl17
  go_wp2
  go_ret
  exact ⟨rfl, BY.out.trans HI.out⟩
theorem laysK (blk off size : Nat) (w : World) : CmpLays Tryz.prog 58 #[] enK 3 cfK blk off size w := fun _ _ _ _ x y =>
 (byNames_any x y _).mono fun _ _ ⟨he, hg⟩ => ⟨he, hg.grow_⟩
theorem sortK_any (l : List Lk) (v : Value) (base : Nat) (w : World) (h : OwnK enK base 36 3 w v l) (hl : l.length ≤ 1000000) :
  Calls Tryz.prog 57 #[v, .func (.func 58) #[] #[]] w fun e w' =>
   e = .returned (.tuple #[]) ∧ ∃ l' : List Lk, l'.Perm l ∧ (l'.Pairwise fun x y => ltOf cfK y x = false) ∧ OwnK enK base 36 3 w' v l' ∧ Out (fun i => v.ownBlock = some i) w w' := by
 by_cases hn : l = []
 ·subst hn
  have hv : ∃ p c, v = .slice p 0 c := by
   rcases h.2 with ⟨rfl, _⟩ | ⟨g, cap, cur, rfl, _⟩
   ·exact ⟨none, 0, rfl⟩
   ·exact ⟨_, cap, rfl⟩
  obtain ⟨p, c, rfl⟩ := hv
  have hc := AnyF.slices_SortFunc_none (P := Tryz.prog) (ρ := Tryz.sortK_ren) { Tryz.sortK with } p c (.func (.func 58) #[] #[]) w
  exact hc.mono fun e w' ⟨he, hw⟩ => ⟨he, [], List.Perm.refl _, List.Pairwise.nil, hw ▸ h, hw ▸ Out.refl _ _⟩
 ·obtain ⟨g, cap, cur, rfl, hb, hg, h1, h2, h3, h4⟩ := h.block hn
  have eg : ∀ args w, (callFunc 58 args).run Tryz.prog w = .ok (.enter 58 args) w := enters_of Tryz.func58 (by kernel_rfl) rfl
  have hsz : l.toArray.size = l.length := by simp
  have hc := AnyQ.slices_SortFunc (P := Tryz.prog) (ρ := Tryz.sortK_ren) Tryz.sortK 3 Tryz.isAgg36 Tryz.sizeOf36 enK enK_len enK_one cfK cfK_ok.swo 58 #[] g 0 cap l.toArray w eg (laysK g 0 _ w) (holdsK_of enK_len (by decide) hg h4) (Array.getElem?_eq_some_iff.1 hg).1 (by rw [hsz]; omega)
  rw [hsz] at hc
  refine hc.mono ?_
  rintro e w' ⟨he, d', n, os, hp, hs, rfl⟩
  have hd : d'.size = l.length := hp.1.trans hsz
  refine ⟨he, d'.toList, by simpa using perm_all (by rw [hsz]; exact hp), sorted_all (d := l.toArray) hp.1 (by rw [hsz]; exact hs), OwnK.sorted enK_len (by decide) hd hb hg h1 h2 h3, Out.of_but (but_sortedK d') rfl⟩
theorem cloneS_any (l : List ByteArray) (v : Value) (w : World) (hs : SlK enS 1 w v l) (hn : l.length ≤ 1000000) :
  Calls Tryz.prog 41 #[v] w fun e w' => ∃ u, e = .returned u ∧ OwnK enS w.heap.size 9 1 w' u l ∧ Below w.heap.size w w' := by
 obtain ⟨A, c, rfl, hlc, hx⟩ := hs
 have hs : SlK enS 1 w (.slice A l.length c) l := ⟨A, c, rfl, hlc, hx⟩
 obtain ⟨n, hn2⟩ : ∃ n, l.length = n := ⟨_, rfl⟩
 have hnil := fun n c => Lib.run_eql_slice_nil (P := Tryz.prog) w 32 9 A n c 0 0 Tryz.underlying32
 cases A with
 | none =>
  have hl : l = [] := Classical.byContradiction fun e => by obtain ⟨b, o, h, _⟩ := hx e; cases h
  subst hl
  simp only [List.length_nil] at hn2 hnil ⊢
  clear hs hn hlc hx hn2
  go_enter Tryz.func41, Tryz.ntmps41
  go_wp2_with (first
   | (refine wpList_val (o := ⟨some 4, _, _, _, _, _⟩) rfl (.bool true) w (run_bin_op rfl rfl rfl (by kernel_rfl) (hnil _ _)) ?_)
   | fail)
  go_ret
  exact ⟨_, rfl, OwnK.nil_ _ _ _ _ _, Below.refl _ _⟩
 | some ad =>
  rw [hn2] at hs ⊢
  have hba : Below w.heap.size w (w.alloc (.cells #[] 9)) := (Below.refl _ _).alloc (Nat.le_refl _) _
  have hem : OwnK enS w.heap.size 9 1 (w.alloc (.cells #[] 9)) (.slice (some ⟨w.heap.size, 0, none⟩) 0 0) [] := ⟨by simp, .inr ⟨w.heap.size, 0, #[], rfl, Nat.le_refl _, heap_alloc_new w _, Nat.le_refl _, Nat.zero_le _, by simp, by simp⟩⟩
  obtain ⟨i, z, h1, h2, h3, h4, h5⟩ := (apS).info
  obtain ⟨v', w2, hr, ho, hg, _⟩ := run_append_at (P := Tryz.prog) (ty := 32) (apS).len (apS).pos w.heap.size (w.alloc (.cells #[] 9)) 32 9 i z _ (apS).under h1 h2 h3 h4 h5 _ [] hem _ l (hs.below hba) (apS).one (by simp only [List.length_nil, Nat.zero_add]; omega) (by simp only [List.length_nil, Nat.zero_add]; omega) hba.size
  rw [List.nil_append] at ho
  have HA := hid hr
  have HO := hid ho
  have HB := hid (show Below w.heap.size w w2 from hba.grown hg hba.size (by intro k hk; simp [Value.ownBlock] at hk; omega))
  clear hs hn hlc hx hba hem hr ho hg hn2 h1 h2 h3 h4 h5
  go_enter Tryz.func41, Tryz.ntmps41
  go_wp2_with (first
   | (refine wpList_val (o := ⟨some 4, _, _, _, _, _⟩) rfl (.bool false) w (run_bin_op rfl rfl rfl (by kernel_rfl) (hnil n c)) ?_)
   | (refine wpList_val (o := ⟨some 5, _, _, _, _, _⟩) rfl (.slice (some ⟨w.heap.size, 0, none⟩) 0 0) (w.alloc (.cells #[] 9)) (run_buildSlice_op (vs := #[]) rfl (by simp only [List.map_toArray, List.map_nil]) (by go_simp)) ?_)
   | (at_builtin; refine Lib.wpList_append_run (o := ⟨some 7, _, _, _, _, _⟩) _ rfl _ _ _ _ rfl _ _ rfl rfl _ _ HA.out ?_)
   | fail)
  go_ret
  exact ⟨_, rfl, HO.out, HB.out⟩
theorem cloneK_any (l : List Lk) (v : Value) (w : World) (hs : SlK enK 3 w v l) (hn : l.length ≤ 1000000) :
  Calls Tryz.prog 50 #[v] w fun e w' => ∃ u, e = .returned u ∧ OwnK enK w.heap.size 36 3 w' u l ∧ Below w.heap.size w w' := by
 obtain ⟨A, c, rfl, hlc, hx⟩ := hs
 have hs : SlK enK 3 w (.slice A l.length c) l := ⟨A, c, rfl, hlc, hx⟩
 obtain ⟨n, hn2⟩ : ∃ n, l.length = n := ⟨_, rfl⟩
 have hnil := fun n c => Lib.run_eql_slice_nil (P := Tryz.prog) w 53 36 A n c 0 0 Tryz.underlying53
 cases A with
 | none =>
  have hl : l = [] := Classical.byContradiction fun e => by obtain ⟨b, o, h, _⟩ := hx e; cases h
  subst hl
  simp only [List.length_nil] at hn2 hnil ⊢
  clear hs hn hlc hx hn2
  go_enter Tryz.func50, Tryz.ntmps50
  go_wp2_with (first
   | (refine wpList_val (o := ⟨some 4, _, _, _, _, _⟩) rfl (.bool true) w (run_bin_op rfl rfl rfl (by kernel_rfl) (hnil _ _)) ?_)
   | fail)
  go_ret
  exact ⟨_, rfl, OwnK.nil_ _ _ _ _ _, Below.refl _ _⟩
 | some ad =>
  rw [hn2] at hs ⊢
  have hba : Below w.heap.size w (w.alloc (.cells #[] 36)) := (Below.refl _ _).alloc (Nat.le_refl _) _
  have hem : OwnK enK w.heap.size 36 3 (w.alloc (.cells #[] 36)) (.slice (some ⟨w.heap.size, 0, none⟩) 0 0) [] := ⟨by simp, .inr ⟨w.heap.size, 0, #[], rfl, Nat.le_refl _, heap_alloc_new w _, Nat.le_refl _, Nat.zero_le _, by simp, by simp⟩⟩
  obtain ⟨i, z, h1, h2, h3, h4, h5⟩ := (apK).info
  obtain ⟨v', w2, hr, ho, hg, _⟩ := run_append_at (P := Tryz.prog) (ty := 53) (apK).len (apK).pos w.heap.size (w.alloc (.cells #[] 36)) 53 36 i z _ (apK).under h1 h2 h3 h4 h5 _ [] hem _ l (hs.below hba) (apK).one (by simp only [List.length_nil, Nat.zero_add]; omega) (by simp only [List.length_nil, Nat.zero_add]; omega) hba.size
  rw [List.nil_append] at ho
  have HA := hid hr
  have HO := hid ho
  have HB := hid (show Below w.heap.size w w2 from hba.grown hg hba.size (by intro k hk; simp [Value.ownBlock] at hk; omega))
  clear hs hn hlc hx hba hem hr ho hg hn2 h1 h2 h3 h4 h5
  go_enter Tryz.func50, Tryz.ntmps50
  go_wp2_with (first
   | (refine wpList_val (o := ⟨some 4, _, _, _, _, _⟩) rfl (.bool false) w (run_bin_op rfl rfl rfl (by kernel_rfl) (hnil n c)) ?_)
   | (refine wpList_val (o := ⟨some 5, _, _, _, _, _⟩) rfl (.slice (some ⟨w.heap.size, 0, none⟩) 0 0) (w.alloc (.cells #[] 36)) (run_buildSlice_op (vs := #[]) rfl (by simp only [List.map_toArray, List.map_nil]) (by go_simp)) ?_)
   | (at_builtin; refine Lib.wpList_append_run (o := ⟨some 7, _, _, _, _, _⟩) _ rfl _ _ _ _ rfl _ _ rfl rfl _ _ HA.out ?_)
   | fail)
  go_ret
  exact ⟨_, rfl, HO.out, HB.out⟩
theorem cloneV_any (l : List Va) (v : Value) (w : World) (hs : SlK enW 3 w v l) (hn : l.length ≤ 1000000) :
  Calls Tryz.prog 44 #[v] w fun e w' => ∃ u, e = .returned u ∧ OwnK enW w.heap.size 43 3 w' u l ∧ Below w.heap.size w w' := by
 obtain ⟨A, c, rfl, hlc, hx⟩ := hs
 have hs : SlK enW 3 w (.slice A l.length c) l := ⟨A, c, rfl, hlc, hx⟩
 obtain ⟨n, hn2⟩ : ∃ n, l.length = n := ⟨_, rfl⟩
 have hnil := fun n c => Lib.run_eql_slice_nil (P := Tryz.prog) w 39 43 A n c 0 0 Tryz.underlying39
 cases A with
 | none =>
  have hl : l = [] := Classical.byContradiction fun e => by obtain ⟨b, o, h, _⟩ := hx e; cases h
  subst hl
  simp only [List.length_nil] at hn2 hnil ⊢
  clear hs hn hlc hx hn2
  go_enter Tryz.func44, Tryz.ntmps44
  go_wp2_with (first
   | (refine wpList_val (o := ⟨some 4, _, _, _, _, _⟩) rfl (.bool true) w (run_bin_op rfl rfl rfl (by kernel_rfl) (hnil _ _)) ?_)
   | fail)
  go_ret
  exact ⟨_, rfl, OwnK.nil_ _ _ _ _ _, Below.refl _ _⟩
 | some ad =>
  rw [hn2] at hs ⊢
  have hba : Below w.heap.size w (w.alloc (.cells #[] 43)) := (Below.refl _ _).alloc (Nat.le_refl _) _
  have hem : OwnK enW w.heap.size 43 3 (w.alloc (.cells #[] 43)) (.slice (some ⟨w.heap.size, 0, none⟩) 0 0) [] := ⟨by simp, .inr ⟨w.heap.size, 0, #[], rfl, Nat.le_refl _, heap_alloc_new w _, Nat.le_refl _, Nat.zero_le _, by simp, by simp⟩⟩
  obtain ⟨i, z, h1, h2, h3, h4, h5⟩ := (apV).info
  obtain ⟨v', w2, hr, ho, hg, _⟩ := run_append_at (P := Tryz.prog) (ty := 39) (apV).len (apV).pos w.heap.size (w.alloc (.cells #[] 43)) 39 43 i z _ (apV).under h1 h2 h3 h4 h5 _ [] hem _ l (hs.below hba) (apV).one (by simp only [List.length_nil, Nat.zero_add]; omega) (by simp only [List.length_nil, Nat.zero_add]; omega) hba.size
  rw [List.nil_append] at ho
  have HA := hid hr
  have HO := hid ho
  have HB := hid (show Below w.heap.size w w2 from hba.grown hg hba.size (by intro k hk; simp [Value.ownBlock] at hk; omega))
  clear hs hn hlc hx hba hem hr ho hg hn2 h1 h2 h3 h4 h5
  go_enter Tryz.func44, Tryz.ntmps44
  go_wp2_with (first
   | (refine wpList_val (o := ⟨some 4, _, _, _, _, _⟩) rfl (.bool false) w (run_bin_op rfl rfl rfl (by kernel_rfl) (hnil n c)) ?_)
   | (refine wpList_val (o := ⟨some 5, _, _, _, _, _⟩) rfl (.slice (some ⟨w.heap.size, 0, none⟩) 0 0) (w.alloc (.cells #[] 43)) (run_buildSlice_op (vs := #[]) rfl (by simp only [List.map_toArray, List.map_nil]) (by go_simp)) ?_)
   | (at_builtin; refine Lib.wpList_append_run (o := ⟨some 7, _, _, _, _, _⟩) _ rfl _ _ _ _ rfl _ _ rfl rfl _ _ HA.out ?_)
   | fail)
  go_ret
  exact ⟨_, rfl, HO.out, HB.out⟩
end Go.Proofs.YtdgglhlofnigkaaGreatDoor
