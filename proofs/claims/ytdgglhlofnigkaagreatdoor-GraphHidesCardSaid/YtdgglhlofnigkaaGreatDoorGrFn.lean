/-
  graph.Node, Elem, link, (*View).seen, there, Has, HasLink: the contracts, by walks. Conditions: none.
-/
import Derived.Test.YtdgglhlofnigkaaGreatDoorGrStep
namespace Go.Proofs.YtdgglhlofnigkaaGreatDoor
open Lib (hid)
open Go.RowKit Go.MapKept Go.Sort
theorem infoKz : (Tryz.prog.info? 36).map (fun i => (i.zero, i.size)) = some (some (.agg #[.string ⟨#[]⟩, .string ⟨#[]⟩, .string ⟨#[]⟩]), 3) := by kernel_rfl
theorem ptr_eql_nilG (sb : Nat) (w : World) : (binOp .eql 29 (.pointer (some ⟨sb, 0, none⟩)) (.pointer none)).run Tryz.prog w = .ok (.bool false) w := by kernel_rfl
set_option maxRecDepth 100000 in
set_option maxHeartbeats 2000000 in
theorem nodeP_any (k : ByteArray) (w : World) : Calls Tryz.prog 33 #[.string k] w (Gives w (eE (nodeE k))) := by
 have hbR : Below w.heap.size w (w.alloc (.cells #[.int .i64 1, .string k, .string ⟨#[]⟩, .string ⟨#[]⟩, .string ⟨#[]⟩] 38)) := (Below.refl _ _).alloc (Nat.le_refl _) _
 have HZ := hid (Blk.new w 38 #[.int .i64 0, .string ⟨#[]⟩, .string ⟨#[]⟩, .string ⟨#[]⟩, .string ⟨#[]⟩])
 have HAl := hid fun cs => World.setRow_alloc_new w #[.int .i64 0, .string ⟨#[]⟩, .string ⟨#[]⟩, .string ⟨#[]⟩, .string ⟨#[]⟩] cs 38
 have HBR := hid (Blk.new w 38 #[.int .i64 1, .string k, .string ⟨#[]⟩, .string ⟨#[]⟩, .string ⟨#[]⟩])
 obtain ⟨q, hq⟩ : ∃ q, w.heap.size = q := ⟨_, rfl⟩
 rw [hq] at HZ HAl HBR
 have hz := (zero_of_info infoElG).1
 have HB := hid hbR
 have HQ := hid hq
 clear hbR hq
 unfold eE elV nodeE
 dsimp only
 go_enter Tryz.func33, Tryz.ntmps33
 go_upto_region 1 with fail
 rw [HQ.out]
 go_wp2_with (first
  | (refine wpList_store_row (o := ⟨none, _, _, _, _, _⟩) rfl 38 (.tmp 2) (.tmp 4) rfl q #[.int .i64 1, .string k, .string ⟨#[]⟩, .string ⟨#[]⟩, .string ⟨#[]⟩] rfl rfl _ _ HZ.out (sizeL (nodeE k)) rfl (by kernel_rfl) ?_; rw [HAl.out])
  | fail)
 (try simp only [Exit.inBlock, Exit.then])
 refine bodyPost_ret (ret_cellG rfl _ _ _ _ _ _ rfl HBR.out Tryz.underlying38 rfl (sizeL (nodeE k))) rfl ?_
 exact ⟨rfl, HB.out⟩
set_option maxRecDepth 100000 in
set_option maxHeartbeats 2000000 in
theorem elemP_any (x : Lk) (w : World) : Calls Tryz.prog 34 #[eK x] w (Gives w (eE (linkE x))) := by
 obtain ⟨f, t, y⟩ := x
 obtain ⟨p, hp⟩ : ∃ p, w.heap.size = p := ⟨_, rfl⟩
 obtain ⟨X, hX⟩ : ∃ X, X = w.alloc (.cells #[.string f, .string t, .string y] 36) := ⟨_, rfl⟩
 have hb : Below w.heap.size w X := by rw [hX]; exact (Below.refl _ _).alloc (Nat.le_refl _) _
 have hB : Blk X p 36 #[.string f, .string t, .string y] := by rw [hX, ← hp]; exact Blk.new w _ _
 obtain ⟨Y, hY⟩ : ∃ Y, Y = X.alloc (.cells #[.int .i64 0, .string ⟨#[]⟩, .string ⟨#[]⟩, .string ⟨#[]⟩, .string ⟨#[]⟩] 38) := ⟨_, rfl⟩
 have hbY : Below X.heap.size X Y := by rw [hY]; exact (Below.refl _ _).alloc (Nat.le_refl _) _
 have hBY := Blk.below hB hbY (Blk.lt hB)
 have c0 : Y.cell? ⟨p, 0, none⟩ = some (.string f) := (Blk.cell hBY 0).trans rfl
 have c1 : Y.cell? ⟨p, 1, none⟩ = some (.string t) := (Blk.cell hBY 1).trans rfl
 have c2 : Y.cell? ⟨p, 2, none⟩ = some (.string y) := (Blk.cell hBY 2).trans rfl
 have HZ := hid (show Blk Y X.heap.size 38 #[.int .i64 0, .string ⟨#[]⟩, .string ⟨#[]⟩, .string ⟨#[]⟩, .string ⟨#[]⟩] by rw [hY]; exact Blk.new X _ _)
 have HAl := hid fun cs => World.setRow_alloc_new X #[.int .i64 0, .string ⟨#[]⟩, .string ⟨#[]⟩, .string ⟨#[]⟩, .string ⟨#[]⟩] cs 38
 have hbR : Below X.heap.size X (X.alloc (.cells #[.int .i64 3, .string f, .string t, .string y, .string ⟨#[]⟩] 38)) := (Below.refl _ _).alloc (Nat.le_refl _) _
 have HBR := hid (show Blk (X.alloc (.cells #[.int .i64 3, .string f, .string t, .string y, .string ⟨#[]⟩] 38)) X.heap.size 38 #[.int .i64 3, .string f, .string t, .string y, .string ⟨#[]⟩] from Blk.new X _ _)
 have hq2 : X.heap.size = p + 1 := by rw [hX, ← hp]; simp
 obtain ⟨q, hq⟩ : ∃ q, X.heap.size = q := ⟨_, rfl⟩
 rw [hq] at HZ HAl HBR
 have HQ2 := hid (show p + 1 = q by rw [← hq2, hq])
 have hz := (zero_of_info infoElG).1
 have HB := hid (hb.trans (hbR.mono hb.size))
 rw [hY] at HZ
 have HX := hid hX
 have HY := hid hY
 have HP := hid hp
 have HQ := hid hq
 clear hb hB hBY hbY hbR hX hY hp hq hq2
 unfold eK lkC eE elV linkE
 dsimp only
 go_enter Tryz.func34, Tryz.ntmps34
 go_upto_region 1 with fail
 rw [← HX.out, HP.out, HQ2.out]
 rw [HY.out] at c0 c1 c2
 go_wp2_with (first
  | (refine wpList_store_row (o := ⟨none, _, _, _, _, _⟩) rfl 38 (.tmp 2) (.tmp 9) rfl q #[.int .i64 3, .string f, .string t, .string y, .string ⟨#[]⟩] rfl rfl _ _ HZ.out (sizeL (nodeE f)) rfl (by kernel_rfl) ?_; rw [HAl.out])
  | fail)
 (try simp only [Exit.inBlock, Exit.then])
 refine bodyPost_ret (ret_cellG rfl _ _ _ _ _ _ rfl HBR.out Tryz.underlying38 rfl (sizeL (nodeE f))) rfl ?_
 exact ⟨rfl, HB.out⟩
set_option maxRecDepth 100000 in
set_option maxHeartbeats 2000000 in
theorem linkP_any (x : El) (w : World) : Calls Tryz.prog 74 #[eE x] w (Gives w (eK (lkOf x))) := by
 obtain ⟨k, f, t, y, d⟩ := x
 obtain ⟨p, hp⟩ : ∃ p, w.heap.size = p := ⟨_, rfl⟩
 obtain ⟨X, hX⟩ : ∃ X, X = w.alloc (.cells #[.int .i64 k, .string f, .string t, .string y, .string d] 38) := ⟨_, rfl⟩
 have hb : Below w.heap.size w X := by rw [hX]; exact (Below.refl _ _).alloc (Nat.le_refl _) _
 have hB : Blk X p 38 #[.int .i64 k, .string f, .string t, .string y, .string d] := by rw [hX, ← hp]; exact Blk.new w _ _
 obtain ⟨Y, hY⟩ : ∃ Y, Y = X.alloc (.cells #[.string ⟨#[]⟩, .string ⟨#[]⟩, .string ⟨#[]⟩] 36) := ⟨_, rfl⟩
 have hbY : Below X.heap.size X Y := by rw [hY]; exact (Below.refl _ _).alloc (Nat.le_refl _) _
 have hBY := Blk.below hB hbY (Blk.lt hB)
 have c0 : Y.cell? ⟨p, 1, none⟩ = some (.string f) := (Blk.cell hBY 1).trans rfl
 have c1 : Y.cell? ⟨p, 2, none⟩ = some (.string t) := (Blk.cell hBY 2).trans rfl
 have c2 : Y.cell? ⟨p, 3, none⟩ = some (.string y) := (Blk.cell hBY 3).trans rfl
 have HZ := hid (show Blk Y X.heap.size 36 #[.string ⟨#[]⟩, .string ⟨#[]⟩, .string ⟨#[]⟩] by rw [hY]; exact Blk.new X _ _)
 have HAl := hid fun cs => World.setRow_alloc_new X #[.string ⟨#[]⟩, .string ⟨#[]⟩, .string ⟨#[]⟩] cs 36
 have hbR : Below X.heap.size X (X.alloc (.cells #[.string f, .string t, .string y] 36)) := (Below.refl _ _).alloc (Nat.le_refl _) _
 have HBR := hid (show Blk (X.alloc (.cells #[.string f, .string t, .string y] 36)) X.heap.size 36 #[.string f, .string t, .string y] from Blk.new X _ _)
 have hq2 : X.heap.size = p + 1 := by rw [hX, ← hp]; simp
 obtain ⟨q, hq⟩ : ∃ q, X.heap.size = q := ⟨_, rfl⟩
 rw [hq] at HZ HAl HBR
 have HQ2 := hid (show p + 1 = q by rw [← hq2, hq])
 have hz := (zero_of_info infoKz).1
 have HB := hid (hb.trans (hbR.mono hb.size))
 rw [hY] at HZ
 have HX := hid hX
 have HY := hid hY
 have HP := hid hp
 have HQ := hid hq
 clear hb hB hBY hbY hbR hX hY hp hq hq2
 unfold eK lkC eE elV lkOf
 dsimp only
 go_enter Tryz.func74, Tryz.ntmps74
 go_upto_region 1 with fail
 rw [← HX.out, HP.out, HQ2.out]
 rw [HY.out] at c0 c1 c2
 go_wp2_with (first
  | (refine wpList_store_row (o := ⟨none, _, _, _, _, _⟩) rfl 36 (.tmp 2) (.tmp 9) rfl q #[.string f, .string t, .string y] rfl rfl _ _ HZ.out (sizeK ⟨f, t, y⟩) rfl (by kernel_rfl) ?_; rw [HAl.out])
  | fail)
 (try simp only [Exit.inBlock, Exit.then])
 refine bodyPost_ret (ret_cellG rfl _ _ _ _ _ _ rfl HBR.out Tryz.underlying36 rfl (sizeK ⟨f, t, y⟩)) rfl ?_
 exact ⟨rfl, HB.out⟩
set_option maxHeartbeats 1000000 in
theorem seen_any (vb : Nat) (w : World) : Calls Tryz.prog 42 #[.pointer (some ⟨vb, 0, none⟩)] w fun e w' => e = .returned (.pointer (some ⟨vb, 0, none⟩)) ∧ Below w.heap.size w w' := by
 have hpn := ptr_eql_nilG vb w
 go_enter Tryz.func42, Tryz.ntmps42
 go_wp2_with fail
 go_ret
 exact ⟨rfl, Below.refl _ _⟩
set_option maxRecDepth 100000 in
set_option maxHeartbeats 2000000 in
theorem there_any {own : Nat → Option Tg} {R vb b1 b2 b3 b4 b5 : Nat} {V : Vw} {nv lv : Value} (x : El) (w : World) (hV : VIs own R w vb V nv lv b1 b2 b3 b4 b5) :
  Calls Tryz.prog 48 #[.pointer (some ⟨vb, 0, none⟩), eE x] w (Gives w (.bool (V.part x).isSome)) := by
 obtain ⟨p, hp⟩ : ∃ p, w.heap.size = p := ⟨_, rfl⟩
 obtain ⟨X, hX⟩ : ∃ X, X = w.alloc (.cells #[.int .i64 x.k, .string x.a, .string x.b, .string x.c, .string x.d] 38) := ⟨_, rfl⟩
 have hb : Below w.heap.size w X := by rw [hX]; exact (Below.refl _ _).alloc (Nat.le_refl _) _
 have hE : Blk X p 38 #[.int .i64 x.k, .string x.a, .string x.b, .string x.c, .string x.d] := by rw [hX, ← hp]; exact Blk.new w _ _
 have hVX := hV.keep hb
 obtain ⟨pv, _, hlk⟩ := hVX.part.look_ok keyE.toF Tryz.underlying75 zero_Es x
 obtain ⟨q, hq⟩ : ∃ q, (V.part x).isSome = q := ⟨_, rfl⟩
 rw [hq] at hlk ⊢
 have HLk := hid hlk
 have HC := hid (show ∀ W, Below X.heap.size X W → Blk W vb 78 #[nv, lv, .map (some b1), .map (some b2), .map (some b3), .map (some b4), .map (some b5)] ∧ Blk W p 38 #[.int .i64 x.k, .string x.a, .string x.b, .string x.c, .string x.d] from fun W hW => ⟨hVX.blk.below hW hVX.blk.lt, hE.below hW hE.lt⟩)
 have HB := hid hb
 have HX := hid hX
 have HP := hid hp
 clear hV hVX hb hE hX hp hlk hq
 unfold eE elV at *
 go_enter Tryz.func48, Tryz.ntmps48
 go_upto_region 1 with fail
 rw [← HX.out, HP.out]
 refine wp_region_any (by kernel_rfl) ?_
 refine wpAny_below (fun i uq wq => uq = ([.pointer (some ⟨vb, 0, none⟩), .pointer (some ⟨vb, 0, none⟩), .pointer (some ⟨vb, 0, none⟩), .pointer (some ⟨vb, 5, none⟩), .map (some b4), .agg #[.int .i64 x.k, .string x.a, .string x.b, .string x.c, .string x.d], .tuple #[pv, .bool q], .tuple #[pv, .bool q], pv, .bool q, pv, .bool q] : List Value).getD i undef) _ X (by kernel_rfl) (by kernel_rfl) (by kernel_rfl) (fun i v w w' _ h => h) ?_ ?_
 ·refine ⟨?_, ?_, ?_, ?_, ?_, ?_, ?_, ?_, ?_, ?_, ?_, ?_, trivial⟩
  ·intro a W hI hun haft hi
   have e0 : a.eval (.tmp 0) = .pointer (some ⟨vb, 0, none⟩) := hun 0 (by kernel_rfl)
   exact b_same hi hI rfl _ (run_move_op rfl e0) rfl
  ·intro a W hI hun haft hi
   obtain ⟨kv, ke⟩ := HC.out W hI
   have f0 : a.eval (.tmp 8) = .pointer (some ⟨vb, 0, none⟩) := haft ⟨0, .data⟩ (by simp) rfl _ _ rfl rfl
   refine b_call hi hI rfl _ _ (run_call_op (args := #[.pointer (some ⟨vb, 0, none⟩)]) rfl (by simp [f0]) (by kernel_rfl)) ?_
   exact (seen_any vb W).mono fun e w' H => ⟨_, H.1, rfl, H.2⟩
  ·intro a W hI hun haft hi
   have f1 : a.eval (.tmp 9) = .pointer (some ⟨vb, 0, none⟩) := haft ⟨1, .data⟩ (by simp) rfl _ _ rfl rfl
   exact b_same hi hI rfl _ (run_nilCheck_op rfl f1) rfl
  ·intro a W hI hun haft hi
   have f2 : a.eval (.tmp 10) = .pointer (some ⟨vb, 0, none⟩) := haft ⟨2, .data⟩ (by simp) rfl _ _ rfl rfl
   exact b_same hi hI rfl _ (run_fieldAddr_any rfl f2 (at_view5 _ 0 _)) rfl
  ·intro a W hI hun haft hi
   obtain ⟨kv, ke⟩ := HC.out W hI
   have f3 : a.eval (.tmp 11) = .pointer (some ⟨vb, 5, none⟩) := haft ⟨3, .data⟩ (by simp) rfl _ _ rfl rfl
   exact b_same hi hI rfl _ (run_loadmap_op rfl f3 Tryz.underlying75 ((Blk.cell kv 5).trans rfl)) rfl
  ·intro a W hI hun haft hi
   obtain ⟨kv, ke⟩ := HC.out W hI
   have e3 : a.eval (.tmp 3) = .pointer (some ⟨p, 0, none⟩) := hun 3 (by kernel_rfl)
   exact b_same hi hI rfl _ (run_load_op rfl e3 (ke) Tryz.underlying38 rfl (by kernel_rfl)) rfl
  ·intro a W hI hun haft hi
   obtain ⟨kv, ke⟩ := HC.out W hI
   have f4 : a.eval (.tmp 12) = .map (some b4) := haft ⟨4, .data⟩ (by simp) rfl _ _ rfl rfl
   have f5 : a.eval (.tmp 13) = .agg #[.int .i64 x.k, .string x.a, .string x.b, .string x.c, .string x.d] := haft ⟨5, .data⟩ (by simp) rfl _ _ rfl rfl
   exact b_same hi hI rfl _ (run_lookok_op rfl f4 f5 (HLk.out W hI)) rfl
  ·intro a W hI hun haft hi
   have f6 : a.eval (.tmp 14) = .tuple #[pv, .bool q] := haft ⟨6, .data⟩ (by simp) rfl _ _ rfl rfl
   exact b_same hi hI rfl _ (run_move_op rfl f6) rfl
  ·intro a W hI hun haft hi
   have f7 : a.eval (.tmp 7) = .tuple #[pv, .bool q] := haft ⟨7, .data⟩ (by simp) rfl _ _ rfl rfl
   exact b_same hi hI rfl _ (run_extract2_op rfl f7 rfl) rfl
  ·intro a W hI hun haft hi
   have f7 : a.eval (.tmp 7) = .tuple #[pv, .bool q] := haft ⟨7, .data⟩ (by simp) rfl _ _ rfl rfl
   exact b_same hi hI rfl _ (run_extract2_op rfl f7 rfl) rfl
  ·intro a W hI hun haft hi
   have f8 : a.eval (.tmp 15) = pv := haft ⟨8, .data⟩ (by simp) rfl _ _ rfl rfl
   exact b_same hi hI rfl _ (run_assign_op rfl f8) rfl
  ·intro a W hI hun haft hi
   have f9 : a.eval (.tmp 16) = .bool q := haft ⟨9, .data⟩ (by simp) rfl _ _ rfl rfl
   exact b_same hi hI rfl _ (run_assign_op rfl f9) rfl
 ·intro vals W hI hp
  have hl11 : vals 11 = .bool q := hp 11 (by decide)
  have HI := hid hI
  clear hp hI
  simp only [layN, layS, List.range, List.range.loop, if_true, Act.put, Nat.zero_add, Nat.reduceAdd, hl11]
  clear hl11
  have HB2 := hid (HB.out.trans (HI.out.mono HB.out.size))
  clear HI
  go_wp2_with fail
  go_ret
  exact ⟨rfl, HB2.out⟩
set_option maxHeartbeats 1000000 in
theorem hasP_any {own : Nat → Option Tg} {R vb b1 b2 b3 b4 b5 : Nat} {V : Vw} {nv lv : Value} (key : ByteArray) (w : World) (hV : VIs own R w vb V nv lv b1 b2 b3 b4 b5) :
  Calls Tryz.prog 18 #[.pointer (some ⟨vb, 0, none⟩), .string key] w (Gives w (.bool (hasV V key))) := by
 have HN := hid (nodeP_any key w)
 have HT := hid (fun W (h : Below w.heap.size w W) => there_any (nodeE key) W (hV.keep h))
 unfold hasV
 obtain ⟨q, hq⟩ : ∃ q, (V.part (nodeE key)).isSome = q := ⟨_, rfl⟩
 rw [hq] at HT ⊢
 obtain ⟨E, hE⟩ : ∃ E, eE (nodeE key) = E := ⟨_, rfl⟩
 rw [hE] at HN HT
 clear hV hq hE
 go_enter Tryz.func18, Tryz.ntmps18
 go_wp2_with fail
 refine HN.out.mono ?_
 rintro e w1 ⟨rfl, hb1⟩
 have HB1 := hid hb1
 clear hb1
 go_wp2_with fail
 refine (HT.out w1 HB1.out).mono ?_
 rintro e w2 ⟨rfl, hb2⟩
 have HB2 := hid (HB1.out.trans (hb2.mono HB1.out.size))
 clear hb2
 go_wp2_with fail
 go_ret
 exact ⟨rfl, HB2.out⟩
set_option maxRecDepth 100000 in
set_option maxHeartbeats 1000000 in
theorem hasLinkP_any {own : Nat → Option Tg} {R vb b1 b2 b3 b4 b5 : Nat} {V : Vw} {nv lv : Value} (x : Lk) (w : World) (hV : VIs own R w vb V nv lv b1 b2 b3 b4 b5) :
  Calls Tryz.prog 22 #[.pointer (some ⟨vb, 0, none⟩), eK x] w (Gives w (.bool (V.part (linkE x)).isSome)) := by
 obtain ⟨p, hp⟩ : ∃ p, w.heap.size = p := ⟨_, rfl⟩
 obtain ⟨X, hX⟩ : ∃ X, X = w.alloc (.cells (lkC x) 36) := ⟨_, rfl⟩
 have hb : Below w.heap.size w X := by rw [hX]; exact (Below.refl _ _).alloc (Nat.le_refl _) _
 have HE := hid (show Blk X p 36 (lkC x) by rw [hX, ← hp]; exact Blk.new w _ _)
 have HN := hid (elemP_any x X)
 have HT := hid (fun W (h : Below X.heap.size X W) => there_any (linkE x) W ((hV.keep hb).keep h))
 obtain ⟨q, hq⟩ : ∃ q, (V.part (linkE x)).isSome = q := ⟨_, rfl⟩
 rw [hq] at HT ⊢
 obtain ⟨E, hE⟩ : ∃ E, eE (linkE x) = E := ⟨_, rfl⟩
 rw [hE] at HN HT
 have HB := hid hb
 have HX := hid hX
 have HP := hid hp
 clear hV hq hE hb hX hp
 obtain ⟨f, t, y⟩ := x
 unfold eK at *
 unfold lkC at *
 dsimp only at *
 go_enter Tryz.func22, Tryz.ntmps22
 go_upto_region 1 with fail
 rw [← HX.out, HP.out]
 go_wp2_with (first
  | (refine' wpList_load_if ?q1 36 (.tmp 3) ?q2 p ?q3 _ _ _ _ ?q4 Tryz.underlying36 ?q5 ?q6 ?_; (case q2 => rfl); (case q1 => rfl); (case q3 => rfl); (case q4 => exact HE.out); (case q5 => rfl); (case q6 => exact sizeK ⟨f, t, y⟩))
  | fail)
 refine HN.out.mono ?_
 rintro e w1 ⟨rfl, hb1⟩
 have HB1 := hid hb1
 clear hb1
 go_wp2_with fail
 refine (HT.out w1 HB1.out).mono ?_
 rintro e w2 ⟨rfl, hb2⟩
 have HB2 := hid (HB.out.trans ((HB1.out.trans (hb2.mono HB1.out.size)).mono HB.out.size))
 clear hb2
 go_wp2_with fail
 go_ret
 exact ⟨rfl, HB2.out⟩
end Go.Proofs.YtdgglhlofnigkaaGreatDoor
