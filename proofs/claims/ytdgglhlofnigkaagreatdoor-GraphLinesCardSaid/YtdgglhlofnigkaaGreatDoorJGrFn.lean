/-
  graph.Node, Elem, link, (*View).seen, there, Has, HasLink. Rows that rise. Conditions: lengths.
-/import Derived.Test.YtdgglhlofnigkaaGreatDoorJGrTurn
import Derived.Test.YtdgglhlofnigkaaGreatDoorStVB
import Derived.Test.YtdgglhlofnigkaaGreatDoorGrMath
set_option maxHeartbeats 2000000
set_option maxRecDepth 100000
namespace Go.Proofs.YtdgglhlofnigkaaGreatDoor
open Lib (hid)
open Go.RowKit Go.MapKept Go.Sort
theorem infoKz : (Tryz.prog.info? 36).map (fun i => (i.zero, i.size)) = some (some (.agg #[.string ⟨#[]⟩, .string ⟨#[]⟩, .string ⟨#[]⟩]), 3) := by kernel_rfl
theorem ptr_eql_nilG (sb : Nat) (w : World) : (binOp .eql 29 (.pointer (some ⟨sb, 0, none⟩)) (.pointer none)).run Tryz.prog w = .ok (.bool false) w := by kernel_rfl
theorem nodeP_any (k : ByteArray) (w : World) : Calls Tryz.prog 33 #[.string k] w (Gives w (eE (nodeE k))) := by
 have hbR : Below w.heap.size w (w.alloc (.cells #[.int .i64 1, .string k, .string ⟨#[]⟩, .string ⟨#[]⟩, .string ⟨#[]⟩] 38)) := (Below.refl _ _).alloc (Nat.le_refl _) _
 have HZ := hid (Blk.new w 38 #[.int .i64 0, .string ⟨#[]⟩, .string ⟨#[]⟩, .string ⟨#[]⟩, .string ⟨#[]⟩])
 have HAl := hid fun cs => World.setRow_alloc_new w #[.int .i64 0, .string ⟨#[]⟩, .string ⟨#[]⟩, .string ⟨#[]⟩, .string ⟨#[]⟩] cs 38
 have HBR := hid (Blk.new w 38 #[.int .i64 1, .string k, .string ⟨#[]⟩, .string ⟨#[]⟩, .string ⟨#[]⟩])
 obtain ⟨q, hq⟩ : ∃ q, w.heap.size = q := ⟨_, rfl⟩
 rw [hq] at HZ HAl HBR
 have hz := (zero_of_info infoElG).1
 have HB := hid hbR
 have HQ := hid hq
 clear hbR hq
 unfold eE elV nodeE
 dsimp only
 go_enter Tryz.func33, Tryz.ntmps33
 go_upto_region 1 with fail
 rw [HQ.out]
 go_wp2_with (first
  | (refine wpList_store_row (o := ⟨none, _, _, _, _, _⟩) rfl 38 (.tmp 2) (.tmp 4) rfl q #[.int .i64 1, .string k, .string ⟨#[]⟩, .string ⟨#[]⟩, .string ⟨#[]⟩] rfl rfl _ _ HZ.out (sizeL (nodeE k)) rfl (by kernel_rfl) ?_; rw [HAl.out])
  | fail)
 (try simp only [Exit.inBlock, Exit.then])
 refine bodyPost_ret (ret_cellG rfl _ _ _ _ _ _ rfl HBR.out Tryz.underlying38 rfl (sizeL (nodeE k))) rfl ?_
 exact ⟨rfl, HB.out⟩
theorem elemP_any (x : Lk) (w : World) : Calls Tryz.prog 34 #[eK x] w (Gives w (eE (linkE x))) := by
 obtain ⟨f, t, y⟩ := x
 obtain ⟨p, hp⟩ : ∃ p, w.heap.size = p := ⟨_, rfl⟩
 obtain ⟨X, hX⟩ : ∃ X, X = w.alloc (.cells #[.string f, .string t, .string y] 36) := ⟨_, rfl⟩
 have hb : Below w.heap.size w X := by rw [hX]; exact (Below.refl _ _).alloc (Nat.le_refl _) _
 have hB : Blk X p 36 #[.string f, .string t, .string y] := by rw [hX, ← hp]; exact Blk.new w _ _
 obtain ⟨Y, hY⟩ : ∃ Y, Y = X.alloc (.cells #[.int .i64 0, .string ⟨#[]⟩, .string ⟨#[]⟩, .string ⟨#[]⟩, .string ⟨#[]⟩] 38) := ⟨_, rfl⟩
 have hbY : Below X.heap.size X Y := by rw [hY]; exact (Below.refl _ _).alloc (Nat.le_refl _) _
 have hBY := Blk.below hB hbY (Blk.lt hB)
 have c0 : Y.cell? ⟨p, 0, none⟩ = some (.string f) := (Blk.cell hBY 0).trans rfl
 have c1 : Y.cell? ⟨p, 1, none⟩ = some (.string t) := (Blk.cell hBY 1).trans rfl
 have c2 : Y.cell? ⟨p, 2, none⟩ = some (.string y) := (Blk.cell hBY 2).trans rfl
 have HZ := hid (show Blk Y X.heap.size 38 #[.int .i64 0, .string ⟨#[]⟩, .string ⟨#[]⟩, .string ⟨#[]⟩, .string ⟨#[]⟩] by rw [hY]; exact Blk.new X _ _)
 have HAl := hid fun cs => World.setRow_alloc_new X #[.int .i64 0, .string ⟨#[]⟩, .string ⟨#[]⟩, .string ⟨#[]⟩, .string ⟨#[]⟩] cs 38
 have hbR : Below X.heap.size X (X.alloc (.cells #[.int .i64 3, .string f, .string t, .string y, .string ⟨#[]⟩] 38)) := (Below.refl _ _).alloc (Nat.le_refl _) _
 have HBR := hid (show Blk (X.alloc (.cells #[.int .i64 3, .string f, .string t, .string y, .string ⟨#[]⟩] 38)) X.heap.size 38 #[.int .i64 3, .string f, .string t, .string y, .string ⟨#[]⟩] from Blk.new X _ _)
 have hq2 : X.heap.size = p + 1 := by rw [hX, ← hp]; simp
 obtain ⟨q, hq⟩ : ∃ q, X.heap.size = q := ⟨_, rfl⟩
 rw [hq] at HZ HAl HBR
 have HQ2 := hid (show p + 1 = q by rw [← hq2, hq])
 have hz := (zero_of_info infoElG).1
 have HB := hid (hb.trans (hbR.mono hb.size))
 rw [hY] at HZ
 have HX := hid hX
 have HY := hid hY
 have HP := hid hp
 have HQ := hid hq
 clear hb hB hBY hbY hbR hX hY hp hq hq2
 unfold eK lkC eE elV linkE
 dsimp only
 go_enter Tryz.func34, Tryz.ntmps34
 go_upto_region 1 with fail
 rw [← HX.out, HP.out, HQ2.out]
 rw [HY.out] at c0 c1 c2
 go_wp2_with (first
  | (refine wpList_store_row (o := ⟨none, _, _, _, _, _⟩) rfl 38 (.tmp 2) (.tmp 9) rfl q #[.int .i64 3, .string f, .string t, .string y, .string ⟨#[]⟩] rfl rfl _ _ HZ.out (sizeL (nodeE f)) rfl (by kernel_rfl) ?_; rw [HAl.out])
  | fail)
 (try simp only [Exit.inBlock, Exit.then])
 refine bodyPost_ret (ret_cellG rfl _ _ _ _ _ _ rfl HBR.out Tryz.underlying38 rfl (sizeL (nodeE f))) rfl ?_
 exact ⟨rfl, HB.out⟩
theorem linkP_any (x : El) (w : World) : Calls Tryz.prog 74 #[eE x] w (Gives w (eK (lkOf x))) := by
 obtain ⟨k, f, t, y, d⟩ := x
 obtain ⟨p, hp⟩ : ∃ p, w.heap.size = p := ⟨_, rfl⟩
 obtain ⟨X, hX⟩ : ∃ X, X = w.alloc (.cells #[.int .i64 k, .string f, .string t, .string y, .string d] 38) := ⟨_, rfl⟩
 have hb : Below w.heap.size w X := by rw [hX]; exact (Below.refl _ _).alloc (Nat.le_refl _) _
 have hB : Blk X p 38 #[.int .i64 k, .string f, .string t, .string y, .string d] := by rw [hX, ← hp]; exact Blk.new w _ _
 obtain ⟨Y, hY⟩ : ∃ Y, Y = X.alloc (.cells #[.string ⟨#[]⟩, .string ⟨#[]⟩, .string ⟨#[]⟩] 36) := ⟨_, rfl⟩
 have hbY : Below X.heap.size X Y := by rw [hY]; exact (Below.refl _ _).alloc (Nat.le_refl _) _
 have hBY := Blk.below hB hbY (Blk.lt hB)
 have c0 : Y.cell? ⟨p, 1, none⟩ = some (.string f) := (Blk.cell hBY 1).trans rfl
 have c1 : Y.cell? ⟨p, 2, none⟩ = some (.string t) := (Blk.cell hBY 2).trans rfl
 have c2 : Y.cell? ⟨p, 3, none⟩ = some (.string y) := (Blk.cell hBY 3).trans rfl
 have HZ := hid (show Blk Y X.heap.size 36 #[.string ⟨#[]⟩, .string ⟨#[]⟩, .string ⟨#[]⟩] by rw [hY]; exact Blk.new X _ _)
 have HAl := hid fun cs => World.setRow_alloc_new X #[.string ⟨#[]⟩, .string ⟨#[]⟩, .string ⟨#[]⟩] cs 36
 have hbR : Below X.heap.size X (X.alloc (.cells #[.string f, .string t, .string y] 36)) := (Below.refl _ _).alloc (Nat.le_refl _) _
 have HBR := hid (show Blk (X.alloc (.cells #[.string f, .string t, .string y] 36)) X.heap.size 36 #[.string f, .string t, .string y] from Blk.new X _ _)
 have hq2 : X.heap.size = p + 1 := by rw [hX, ← hp]; simp
 obtain ⟨q, hq⟩ : ∃ q, X.heap.size = q := ⟨_, rfl⟩
 rw [hq] at HZ HAl HBR
 have HQ2 := hid (show p + 1 = q by rw [← hq2, hq])
 have hz := (zero_of_info infoKz).1
 have HB := hid (hb.trans (hbR.mono hb.size))
 rw [hY] at HZ
 have HX := hid hX
 have HY := hid hY
 have HP := hid hp
 have HQ := hid hq
 clear hb hB hBY hbY hbR hX hY hp hq hq2
 unfold eK lkC eE elV lkOf
 dsimp only
 go_enter Tryz.func74, Tryz.ntmps74
 go_upto_region 1 with fail
 rw [← HX.out, HP.out, HQ2.out]
 rw [HY.out] at c0 c1 c2
 go_wp2_with (first
  | (refine wpList_store_row (o := ⟨none, _, _, _, _, _⟩) rfl 36 (.tmp 2) (.tmp 9) rfl q #[.string f, .string t, .string y] rfl rfl _ _ HZ.out (sizeK ⟨f, t, y⟩) rfl (by kernel_rfl) ?_; rw [HAl.out])
  | fail)
 (try simp only [Exit.inBlock, Exit.then])
 refine bodyPost_ret (ret_cellG rfl _ _ _ _ _ _ rfl HBR.out Tryz.underlying36 rfl (sizeK ⟨f, t, y⟩)) rfl ?_
 exact ⟨rfl, HB.out⟩
theorem seen_any (vb : Nat) (w : World) : Calls Tryz.prog 42 #[.pointer (some ⟨vb, 0, none⟩)] w fun e w' => e = .returned (.pointer (some ⟨vb, 0, none⟩)) ∧ Below w.heap.size w w' := by
 have hpn := ptr_eql_nilG vb w
 go_enter Tryz.func42, Tryz.ntmps42
 go_wp2_with fail
 go_ret
 exact ⟨rfl, Below.refl _ _⟩
theorem there_any {own : Nat → Option Tg} {R vb b1 b2 b3 b4 b5 : Nat} {V : Vw} {nv lv : Value} (x : El) (w : World) (hV : VIs own R w vb V nv lv b1 b2 b3 b4 b5) :
  Calls Tryz.prog 48 #[.pointer (some ⟨vb, 0, none⟩), eE x] w (Gives w (.bool (V.part x).isSome)) := by
 obtain ⟨p, hp⟩ : ∃ p, w.heap.size = p := ⟨_, rfl⟩
 obtain ⟨X, hX⟩ : ∃ X, X = w.alloc (.cells #[.int .i64 x.k, .string x.a, .string x.b, .string x.c, .string x.d] 38) := ⟨_, rfl⟩
 have hb : Below w.heap.size w X := by rw [hX]; exact (Below.refl _ _).alloc (Nat.le_refl _) _
 have hE : Blk X p 38 #[.int .i64 x.k, .string x.a, .string x.b, .string x.c, .string x.d] := by rw [hX, ← hp]; exact Blk.new w _ _
 have hVX := hV.keep hb
 obtain ⟨pv, _, hlk⟩ := hVX.part.look_ok keyE.toF Tryz.underlying75 zero_Es x
 obtain ⟨q, hq⟩ : ∃ q, (V.part x).isSome = q := ⟨_, rfl⟩
 rw [hq] at hlk ⊢
 have HLk := hid hlk
 have HC := hid (show ∀ W, Below X.heap.size X W → Blk W vb 78 #[nv, lv, .map (some b1), .map (some b2), .map (some b3), .map (some b4), .map (some b5)] ∧ Blk W p 38 #[.int .i64 x.k, .string x.a, .string x.b, .string x.c, .string x.d] from fun W hW => ⟨hVX.blk.below hW hVX.blk.lt, hE.below hW hE.lt⟩)
 have HB := hid hb
 have HX := hid hX
 have HP := hid hp
 clear hV hVX hb hE hX hp hlk hq
 unfold eE elV at *
 go_enter Tryz.func48, Tryz.ntmps48
 go_upto_region 1 with fail
 rw [← HX.out, HP.out]
 refine wp_region_any (by kernel_rfl) ?_
 refine wpAny_below (fun i uq wq => uq = ([.pointer (some ⟨vb, 0, none⟩), .pointer (some ⟨vb, 0, none⟩), .pointer (some ⟨vb, 0, none⟩), .pointer (some ⟨vb, 5, none⟩), .map (some b4), .agg #[.int .i64 x.k, .string x.a, .string x.b, .string x.c, .string x.d], .tuple #[pv, .bool q], .tuple #[pv, .bool q], pv, .bool q, pv, .bool q] : List Value).getD i undef) _ X (by kernel_rfl) (by kernel_rfl) (by kernel_rfl) (fun i v w w' _ h => h) ?_ ?_
 ·refine ⟨?_, ?_, ?_, ?_, ?_, ?_, ?_, ?_, ?_, ?_, ?_, ?_, trivial⟩
  ·intro a W hI hun haft hi
   have e0 := hun 0 (by kernel_rfl)
   exact b_same hi hI rfl _ (run_move_op rfl e0) rfl
  ·intro a W hI hun haft hi
   obtain ⟨kv, ke⟩ := HC.out W hI
   have f0 : a.eval (.tmp 8) = .pointer (some ⟨vb, 0, none⟩) := haft ⟨0, .data⟩ (by simp) rfl _ _ rfl rfl
   refine b_call hi hI rfl _ _ (run_call_op (args := #[.pointer (some ⟨vb, 0, none⟩)]) rfl (by simp [f0]) (by kernel_rfl)) ?_
   exact (seen_any vb W).mono fun e w' H => ⟨_, H.1, rfl, H.2⟩
  ·intro a W hI hun haft hi
   have f1 := haft ⟨1, .data⟩ (by simp) rfl _ _ rfl rfl
   exact b_same hi hI rfl _ (run_nilCheck_op rfl f1) rfl
  ·intro a W hI hun haft hi
   have f2 := haft ⟨2, .data⟩ (by simp) rfl _ _ rfl rfl
   exact b_same hi hI rfl _ (run_fieldAddr_any rfl f2 (at_view5 _ 0 _)) rfl
  ·intro a W hI hun haft hi
   obtain ⟨kv, ke⟩ := HC.out W hI
   have f3 : a.eval (.tmp 11) = .pointer (some ⟨vb, 5, none⟩) := haft ⟨3, .data⟩ (by simp) rfl _ _ rfl rfl
   exact b_same hi hI rfl _ (run_loadmap_op rfl f3 Tryz.underlying75 ((Blk.cell kv 5).trans rfl)) rfl
  ·intro a W hI hun haft hi
   obtain ⟨kv, ke⟩ := HC.out W hI
   have e3 := hun 3 (by kernel_rfl)
   exact b_same hi hI rfl _ (run_load_op rfl e3 (ke) Tryz.underlying38 rfl (by kernel_rfl)) rfl
  ·intro a W hI hun haft hi
   obtain ⟨kv, ke⟩ := HC.out W hI
   have f4 := haft ⟨4, .data⟩ (by simp) rfl _ _ rfl rfl
   have f5 := haft ⟨5, .data⟩ (by simp) rfl _ _ rfl rfl
   exact b_same hi hI rfl _ (run_lookok_op rfl f4 f5 (HLk.out W hI)) rfl
  ·intro a W hI hun haft hi
   have f6 := haft ⟨6, .data⟩ (by simp) rfl _ _ rfl rfl
   exact b_same hi hI rfl _ (run_move_op rfl f6) rfl
  ·intro a W hI hun haft hi
   have f7 := haft ⟨7, .data⟩ (by simp) rfl _ _ rfl rfl
   exact b_same hi hI rfl _ (run_extract2_op rfl f7 rfl) rfl
  ·intro a W hI hun haft hi
   have f7 := haft ⟨7, .data⟩ (by simp) rfl _ _ rfl rfl
   exact b_same hi hI rfl _ (run_extract2_op rfl f7 rfl) rfl
  ·intro a W hI hun haft hi
   have f8 := haft ⟨8, .data⟩ (by simp) rfl _ _ rfl rfl
   exact b_same hi hI rfl _ (run_assign_op rfl f8) rfl
  ·intro a W hI hun haft hi
   have f9 := haft ⟨9, .data⟩ (by simp) rfl _ _ rfl rfl
   exact b_same hi hI rfl _ (run_assign_op rfl f9) rfl
 ·intro vals W hI hp
  have hl11 : vals 11 = .bool q := hp 11 (by decide)
  have HI := hid hI
  clear hp hI
  simp only [layN, layS, List.range, List.range.loop, if_true, Act.put, Nat.zero_add, Nat.reduceAdd, hl11]
  clear hl11
  have HB2 := hid (HB.out.trans (HI.out.mono HB.out.size))
  clear HI
  go_wp2_with fail
  go_ret
  exact ⟨rfl, HB2.out⟩
theorem hasP_any {own : Nat → Option Tg} {R vb b1 b2 b3 b4 b5 : Nat} {V : Vw} {nv lv : Value} (key : ByteArray) (w : World) (hV : VIs own R w vb V nv lv b1 b2 b3 b4 b5) :
  Calls Tryz.prog 18 #[.pointer (some ⟨vb, 0, none⟩), .string key] w (Gives w (.bool (hasV V key))) := by
 have HN := hid (nodeP_any key w)
 have HT := hid (fun W (h : Below w.heap.size w W) => there_any (nodeE key) W (hV.keep h))
 unfold hasV
 obtain ⟨q, hq⟩ : ∃ q, (V.part (nodeE key)).isSome = q := ⟨_, rfl⟩
 rw [hq] at HT ⊢
 obtain ⟨E, hE⟩ : ∃ E, eE (nodeE key) = E := ⟨_, rfl⟩
 rw [hE] at HN HT
 clear hV hq hE
 go_enter Tryz.func18, Tryz.ntmps18
 go_wp2_with fail
 refine HN.out.mono ?_
 rintro e w1 ⟨rfl, hb1⟩
 have HB1 := hid hb1
 clear hb1
 go_wp2_with fail
 refine (HT.out w1 HB1.out).mono ?_
 rintro e w2 ⟨rfl, hb2⟩
 have HB2 := hid (HB1.out.trans (hb2.mono HB1.out.size))
 clear hb2
 go_wp2_with fail
 go_ret
 exact ⟨rfl, HB2.out⟩
theorem hasLinkP_any {own : Nat → Option Tg} {R vb b1 b2 b3 b4 b5 : Nat} {V : Vw} {nv lv : Value} (x : Lk) (w : World) (hV : VIs own R w vb V nv lv b1 b2 b3 b4 b5) :
  Calls Tryz.prog 22 #[.pointer (some ⟨vb, 0, none⟩), eK x] w (Gives w (.bool (V.part (linkE x)).isSome)) := by
 obtain ⟨p, hp⟩ : ∃ p, w.heap.size = p := ⟨_, rfl⟩
 obtain ⟨X, hX⟩ : ∃ X, X = w.alloc (.cells (lkC x) 36) := ⟨_, rfl⟩
 have hb : Below w.heap.size w X := by rw [hX]; exact (Below.refl _ _).alloc (Nat.le_refl _) _
 have HE := hid (show Blk X p 36 (lkC x) by rw [hX, ← hp]; exact Blk.new w _ _)
 have HN := hid (elemP_any x X)
 have HT := hid (fun W (h : Below X.heap.size X W) => there_any (linkE x) W ((hV.keep hb).keep h))
 obtain ⟨q, hq⟩ : ∃ q, (V.part (linkE x)).isSome = q := ⟨_, rfl⟩
 rw [hq] at HT ⊢
 obtain ⟨E, hE⟩ : ∃ E, eE (linkE x) = E := ⟨_, rfl⟩
 rw [hE] at HN HT
 have HB := hid hb
 have HX := hid hX
 have HP := hid hp
 clear hV hq hE hb hX hp
 obtain ⟨f, t, y⟩ := x
 unfold eK at *
 unfold lkC at *
 dsimp only at *
 go_enter Tryz.func22, Tryz.ntmps22
 go_upto_region 1 with fail
 rw [← HX.out, HP.out]
 go_wp2_with (first
  | (refine' wpList_load_if ?q1 36 (.tmp 3) ?q2 p ?q3 _ _ _ _ ?q4 Tryz.underlying36 ?q5 ?q6 ?_; (case q2 => rfl); (case q1 => rfl); (case q3 => rfl); (case q4 => exact HE.out); (case q5 => rfl); (case q6 => exact sizeK ⟨f, t, y⟩))
  | fail)
 refine HN.out.mono ?_
 rintro e w1 ⟨rfl, hb1⟩
 have HB1 := hid hb1
 clear hb1
 go_wp2_with fail
 refine (HT.out w1 HB1.out).mono ?_
 rintro e w2 ⟨rfl, hb2⟩
 have HB2 := hid (HB.out.trans ((HB1.out.trans (hb2.mono HB1.out.size)).mono HB.out.size))
 clear hb2
 go_wp2_with fail
 go_ret
 exact ⟨rfl, HB2.out⟩
section
variable {α : Type} {c : α → α → Int}
def RiseC (c : α → α → Int) (l : List α) : Prop := l.Pairwise fun a b => c a b < 0
theorem cC_self (hc : CmpOk c) (a : α) : c a a = 0 := by have := hc.anti a a; omega
theorem cC_lt (hc : CmpOk c) {a b d : α} (h : c a b < 0) (k : c b d < 0) : c a d < 0 := by
 have h3 := hc.trans a b d (by omega) (by omega)
 rcases Int.lt_or_eq_of_le h3 with h4 | h4
 ·exact h4
 ·have := (hc.zero (x := a) (y := b) (z := d) (by omega) (by omega) h4).1; omega
theorem RiseC.nodup (hc : CmpOk c) {l : List α} (h : RiseC c l) : l.Nodup := h.imp fun {a b} hab e => by rw [e, cC_self hc] at hab; omega
theorem RiseC.sorted (hc : CmpOk c) {l : List α} (h : RiseC c l) : l.Pairwise fun x y => ltOf c y x = false := h.imp fun {a b} hab => by
 have := hc.anti a b
 unfold ltOf
 apply decide_eq_false
 omega
theorem unique_of (hc : CmpOk c) (hz : ∀ x y, c x y = 0 → x = y) {l1 l2 : List α} (hp : l1.Perm l2) (h1 : l1.Pairwise fun x y => ltOf c y x = false) (h2 : l2.Pairwise fun x y => ltOf c y x = false) : l1 = l2 := by
 have hT : ∀ x ∈ l2, ∀ y ∈ l2, ltOf c x y = false → ltOf c y x = false → x = y := by
  intro x _ y _ h1 h2
  have h3 := hc.anti x y
  unfold ltOf at h1 h2
  simp only [decide_eq_false_iff_not, Int.not_lt] at h1 h2
  exact hz _ _ (by omega)
 exact (sort_unique hc.swo hp h1 hT).trans (sort_unique hc.swo (List.Perm.refl l2) h2 hT).symm
theorem rise_unique (hc : CmpOk c) (hz : ∀ x y, c x y = 0 → x = y) {l1 l2 : List α} (h1 : RiseC c l1) (h2 : RiseC c l2) (hm : ∀ x, x ∈ l1 ↔ x ∈ l2) : l1 = l2 :=
 unique_of hc hz ((List.perm_ext_iff_of_nodup (h1.nodup hc) (h2.nodup hc)).2 hm) (h1.sorted hc) (h2.sorted hc)
end
section
variable {α : Type} [DecidableEq α]
def addC (c : α → α → Int) (x : α) (l : List α) : List α := if (l.dropWhile fun y => decide (c y x < 0)).head? = some x then l else insP (fun y => decide (c y x < 0)) x l
def riseC (c : α → α → Int) (l : List α) : List α := l.foldl (fun out x => addC c x out) []
variable {c : α → α → Int}
theorem addC_rise (hc : CmpOk c) (hz : ∀ x y, c x y = 0 → x = y) {x : α} {l : List α} (h : RiseC c l) : RiseC c (addC c x l) := by
 unfold addC
 split
 ·exact h
 ·rename_i hne
  have h0 : (l.takeWhile (fun y => decide (c y x < 0)) ++ l.dropWhile (fun y => decide (c y x < 0))).Pairwise fun a b => c a b < 0 := by rw [List.takeWhile_append_dropWhile]; exact h
  obtain ⟨h1, h2, h3⟩ := List.pairwise_append.1 h0
  have hx : ∀ y ∈ l.dropWhile (fun y => decide (c y x < 0)), c x y < 0 := by
   cases hd : l.dropWhile (fun y => decide (c y x < 0)) with
   | nil => intro y hy; cases hy
   | cons a m =>
    have ha := dw_head l a m hd
    rw [hd] at h2 hne
    have hax : c x a < 0 := by
     have e1 := of_decide_eq_false ha
     have e2 := hc.anti a x
     have e3 : c a x ≠ 0 := fun e => hne (by rw [hz _ _ e]; rfl)
     omega
    intro y hy
    rcases List.mem_cons.1 hy with rfl | hy
    ·exact hax
    ·exact cC_lt hc hax ((List.pairwise_cons.1 h2).1 y hy)
  unfold insP
  refine List.pairwise_append.2 ⟨h1, List.pairwise_cons.2 ⟨hx, h2⟩, fun a ha b hb => ?_⟩
  rcases List.mem_cons.1 hb with rfl | hb
  ·exact of_decide_eq_true (tw_all l a ha)
  ·exact h3 a ha b hb
theorem addC_mem {x y : α} {l : List α} : y ∈ addC c x l ↔ y = x ∨ y ∈ l := by
 unfold addC
 split
 ·rename_i h
  constructor
  ·exact .inr
  ·rintro (rfl | h')
   ·have : y ∈ l.dropWhile fun z => decide (c z y < 0) := by
     cases hd : l.dropWhile fun z => decide (c z y < 0) with
     | nil => rw [hd] at h; cases h
     | cons a m =>
      rw [hd] at h
      simp only [List.head?_cons, Option.some.injEq] at h
      rw [h]; exact List.mem_cons_self
    exact (List.dropWhile_sublist _).subset this
   ·exact h'
 ·rw [(insP_perm _ x l).mem_iff]
  exact List.mem_cons
theorem addC_len (x : α) (l : List α) : (addC c x l).length ≤ l.length + 1 := by
 unfold addC
 split
 ·omega
 ·rw [(insP_perm _ x l).length_eq]; simp
theorem riseC_next {l : List α} {j : Nat} {x : α} (h : l[j]? = some x) : riseC c (l.take (j + 1)) = addC c x (riseC c (l.take j)) := by
 unfold riseC
 rw [List.take_add_one, h, List.foldl_append]
 rfl
theorem riseC_rise (hc : CmpOk c) (hz : ∀ x y, c x y = 0 → x = y) (l : List α) : RiseC c (riseC c l) := by
 suffices h : ∀ (l o : List α), RiseC c o → RiseC c (l.foldl (fun out x => addC c x out) o) from h l [] List.Pairwise.nil
 intro l
 induction l with
 | nil => intro o h; exact h
 | cons e l ih => intro o h; exact ih _ (addC_rise hc hz h)
theorem riseC_mem (l : List α) (x : α) : x ∈ riseC c l ↔ x ∈ l := by
 suffices h : ∀ (l o : List α), x ∈ l.foldl (fun out x => addC c x out) o ↔ x ∈ o ∨ x ∈ l by
  have := h l []
  unfold riseC
  rw [this]
  simp
 intro l
 induction l with
 | nil => intro o; simp
 | cons e l ih =>
  intro o
  rw [List.foldl_cons, ih, addC_mem]
  simp only [List.mem_cons]
  constructor
  ·rintro ((h | h) | h)
   ·exact .inr (.inl h)
   ·exact .inl h
   ·exact .inr (.inr h)
  ·rintro (h | h | h)
   ·exact .inl (.inr h)
   ·exact .inl (.inl h)
   ·exact .inr h
theorem riseC_len (l : List α) : (riseC c l).length ≤ l.length := by
 suffices h : ∀ (l o : List α), (l.foldl (fun out x => addC c x out) o).length ≤ o.length + l.length by simpa [riseC] using h l []
 intro l
 induction l with
 | nil => intro o; simp
 | cons e l ih =>
  intro o
  refine Nat.le_trans (ih _) ?_
  have := addC_len (c := c) e o
  simp only [List.length_cons]
  omega
end
def valsS (σ : List (El × List (Dt × Va))) (x : El) : List Va := riseC cfV (valsL (entS x σ))
def valsG (l : List Ev) (x : El) : List Va := riseC cfV ((liveL l x).map vaOf)
theorem compact_is {σ : List (El × List (Dt × Va))} {x : El} {ss : List Va} (hp : ss.Perm (valsL (entS x σ))) (hs : ss.Pairwise fun a b => ltOf cfV b a = false) : Lib.compact ss = valsS σ x :=
 rise_unique cfV_ok (fun _ _ => cfV_zero) (compact_rise hs) (riseC_rise cfV_ok (fun _ _ => cfV_zero) _) fun v => by rw [compact_mem, hp.mem_iff]; exact (riseC_mem _ _).symm
theorem vals_is {row : List Ev} (hc : CausL row) (hl : ∀ e ∈ row, Lens e) (x : El) : valsS (runS row) x = valsG row x :=
 rise_unique cfV_ok (fun _ _ => cfV_zero) (riseC_rise cfV_ok (fun _ _ => cfV_zero) _) (riseC_rise cfV_ok (fun _ _ => cfV_zero) _) fun v => by
  rw [show v ∈ valsG row x ↔ ∃ e ∈ liveL row x, vaOf e = v from (riseC_mem _ _).trans List.mem_map]
  have h := vals_live hc hl (x := x) (List.Perm.refl _) (v := v)
  rw [compact_mem] at h
  rw [← h]
  exact riseC_mem _ _
theorem Lk.ext_iff' (x y : Lk) : x = y ↔ (x.f = y.f ∧ x.t = y.t ∧ x.y = y.y) := by
 obtain ⟨f, t, k⟩ := x
 obtain ⟨f', t', k'⟩ := y
 simp
instance : DecidableEq Lk := fun x y => decidable_of_iff _ (Lk.ext_iff' x y).symm
instance : Inhabited Lk := ⟨⟨⟨#[]⟩, ⟨#[]⟩, ⟨#[]⟩⟩⟩
def cfK (x y : Lk) : Int := orI [Lib.compareBytes x.f.data.toList y.f.data.toList, Lib.compareBytes x.y.data.toList y.y.data.toList, Lib.compareBytes x.t.data.toList y.t.data.toList]
theorem cfK_ok : CmpOk cfK := by
 have := (cbOk.map fun x : Lk => x.f.data.toList).lex ((cbOk.map fun x : Lk => x.y.data.toList).lex (cbOk.map fun x : Lk => x.t.data.toList))
 have e : cfK = fun x y => if Lib.compareBytes x.f.data.toList y.f.data.toList = 0 then if Lib.compareBytes x.y.data.toList y.y.data.toList = 0 then Lib.compareBytes x.t.data.toList y.t.data.toList else Lib.compareBytes x.y.data.toList y.y.data.toList else Lib.compareBytes x.f.data.toList y.f.data.toList := by
  funext x y
  unfold cfK
  rw [orI, orI, orI_one]
 rw [e]; exact this
theorem cfK_zero (x y : Lk) (h : cfK x y = 0) : x = y := by
 unfold cfK at h
 rw [orI, orI, orI_one] at h
 by_cases h1 : Lib.compareBytes x.f.data.toList y.f.data.toList = 0
 ·rw [if_pos h1] at h
  by_cases h2 : Lib.compareBytes x.y.data.toList y.y.data.toList = 0
  ·rw [if_pos h2] at h
   exact (Lk.ext_iff' x y).2 ⟨ba_ext ((cb_zero _ _).1 h1), ba_ext ((cb_zero _ _).1 h), ba_ext ((cb_zero _ _).1 h2)⟩
  ·rw [if_neg h2] at h; exact absurd h h2
 ·rw [if_neg h1] at h; exact absurd h h1
def sortK (l : List Lk) : List Lk := l.foldl (fun out x => insP (fun y => decide (cfK y x < 0)) x out) []
theorem sortK_perm (l : List Lk) : (sortK l).Perm l := by
 suffices h : ∀ (l o : List Lk), (l.foldl (fun out x => insP (fun y => decide (cfK y x < 0)) x out) o).Perm (o ++ l) by simpa [sortK] using h l []
 intro l
 induction l with
 | nil => intro o; simp
 | cons e l ih =>
  intro o
  refine (ih _).trans ?_
  refine ((insP_perm _ e o).append_right l).trans ?_
  rw [List.cons_append]
  exact List.perm_middle.symm
theorem sortK_sorted (l : List Lk) : (sortK l).Pairwise fun a b => ltOf cfK b a = false := by
 suffices h : ∀ (l o : List Lk), (o.Pairwise fun a b => ltOf cfK b a = false) → (l.foldl (fun out x => insP (fun y => decide (cfK y x < 0)) x out) o).Pairwise fun a b => ltOf cfK b a = false from h l [] List.Pairwise.nil
 intro l
 induction l with
 | nil => intro o h; exact h
 | cons e l ih => intro o h; exact ih _ (insP_sorted cfK_ok e h)
theorem sortK_unique {l l' : List Lk} (hp : l'.Perm l) (hs : l'.Pairwise fun a b => ltOf cfK b a = false) : l' = sortK l := unique_of cfK_ok cfK_zero (hp.trans (sortK_perm l).symm) hs (sortK_sorted l)
end Go.Proofs.YtdgglhlofnigkaaGreatDoor
