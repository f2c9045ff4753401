/-
  Slices of the call's own. slices.SortFunc at entries, at elements. Conditions: lengths.
-/import Derived.Test.YtdgglhlofnigkaaGreatDoorJEvOf
import Derived.Deep.DeepCutAuto
import Derived.Test.YtdgglhlofnigkaaGreatDoorStGD
import Derived.Test.YtdgglhlofnigkaaGreatDoorSorts
import Derived.Test.YtdgglhlofnigkaaGreatDoorStGC
set_option maxHeartbeats 4000000
set_option maxRecDepth 100000
namespace Go.Proofs.YtdgglhlofnigkaaGreatDoor
open Go.RowKit
theorem index_V (f : Nat → Int) (k : Nat) (h : k < 16) (w : World) : (Instr.index 26 (.agg (vA f)) (.int .i64 k)).run Tryz.prog w = .ok (.int .i64 (f k)) w := by
 have h2 : (0 : Int) ≤ k ∧ (k : Int) < 16 := by omega
 have h3 := vA_at f k h
 have hs : (Go.sizeOf 3).run Tryz.prog w = .ok 1 w := by
  have hz := sizeI
  cases hq : Tryz.prog.info? 3 with
  | none => simp [hq] at hz
  | some i => simp [hq] at hz; simp [sizeOf, typeInfo, hq, hz]
 simp only [Instr.index, asIntOf, Sem.run_bind, Sem.run_pure, Result.andThen_ok, run_underlying Tryz.underlying26 w]
 simp [h2, hs, part, Sem.run_bind, h3, iv]
theorem past_at (e : Ev) (k : Nat) (h : k < 16) : (evC e)[2 + k]? = some (.int .i64 (e.p k)) := by
 have : k = 0 ∨ k = 1 ∨ k = 2 ∨ k = 3 ∨ k = 4 ∨ k = 5 ∨ k = 6 ∨ k = 7 ∨ k = 8 ∨ k = 9 ∨ k = 10 ∨ k = 11 ∨ k = 12 ∨ k = 13 ∨ k = 14 ∨ k = 15 := by omega
 rcases this with rfl | rfl | rfl | rfl | rfl | rfl | rfl | rfl | rfl | rfl | rfl | rfl | rfl | rfl | rfl | rfl <;> rfl
open Lib (hid)
open Go.RowKit Go.Sort
def enN (x : Dt × Va) : List Value := [.int .i64 x.1.r, .int .i64 x.1.c, .int .i64 x.2.k, .int .i64 x.2.n, .string x.2.t]
def enL (x : El) : List Value := [.int .i64 x.k, .string x.a, .string x.b, .string x.c, .string x.d]
theorem enN_len (x : Dt × Va) : (enN x).length = 5 := rfl
theorem enL_len (x : El) : (enL x).length = 5 := rfl
theorem enN_one : ∀ x, ∀ v ∈ enN x, v.oneCell' = true := by
 intro x v hv
 simp only [enN, List.mem_cons, List.not_mem_nil, or_false] at hv
 rcases hv with rfl | rfl | rfl | rfl | rfl <;> rfl
theorem enL_one : ∀ x, ∀ v ∈ enL x, v.oneCell' = true := by
 intro x v hv
 simp only [enL, List.mem_cons, List.not_mem_nil, or_false] at hv
 rcases hv with rfl | rfl | rfl | rfl | rfl <;> rfl
instance : Inhabited Dt := ⟨⟨0, 0⟩⟩
instance : Inhabited Va := ⟨⟨0, 0, ⟨#[]⟩⟩⟩
instance : Inhabited El := ⟨⟨0, ⟨#[]⟩, ⟨#[]⟩, ⟨#[]⟩, ⟨#[]⟩⟩⟩
def cfN (x y : Dt × Va) : Int := cfD x.1 y.1
theorem cfN_ok : CmpOk cfN := cfD_ok.map Prod.fst
theorem laysN (blk off size : Nat) (w : World) : CmpLays Tryz.prog 99 #[] enN 5 cfN blk off size w := fun _ _ _ _ x y =>
 (byDot_any x y _).mono fun _ _ ⟨he, hg⟩ => ⟨he, hg.grow_⟩
theorem laysE (blk off size : Nat) (w : World) : CmpLays Tryz.prog 72 #[] enL 5 cfE blk off size w := fun _ _ _ _ x y =>
 (order_any x y _).mono fun _ _ ⟨he, hg⟩ => ⟨he, hg.grow_⟩
theorem sortN_any (l : List (Dt × Va)) (v : Value) (base : Nat) (w : World) (h : OwnK enN base 94 5 w v l) (hl : l.length ≤ 1000000) :
  Calls Tryz.prog 98 #[v, .func (.func 99) #[] #[]] w fun e w' =>
   e = .returned (.tuple #[]) ∧ ∃ l' : List (Dt × Va), l'.Perm l ∧ (l'.Pairwise fun x y => ltOf cfN y x = false) ∧ OwnK enN base 94 5 w' v l' ∧ Out (fun i => v.ownBlock = some i) w w' := by
 by_cases hn : l = []
 ·subst hn
  have hv : ∃ p c, v = .slice p 0 c := by
   rcases h.2 with ⟨rfl, _⟩ | ⟨g, cap, cur, rfl, _⟩
   ·exact ⟨none, 0, rfl⟩
   ·exact ⟨_, cap, rfl⟩
  obtain ⟨p, c, rfl⟩ := hv
  have hc := AnyF.slices_SortFunc_none (P := Tryz.prog) (ρ := Tryz.sortN_ren) { Tryz.sortN with } p c (.func (.func 99) #[] #[]) w
  exact hc.mono fun e w' ⟨he, hw⟩ => ⟨he, [], List.Perm.refl _, List.Pairwise.nil, hw ▸ h, hw ▸ Out.refl _ _⟩
 ·obtain ⟨g, cap, cur, rfl, hb, hg, h1, h2, h3, h4⟩ := h.block hn
  have eg : ∀ args w, (callFunc 99 args).run Tryz.prog w = .ok (.enter 99 args) w := enters_of Tryz.func99 (by kernel_rfl) rfl
  have hsz : l.toArray.size = l.length := by simp
  have hc := AnyQ.slices_SortFunc (P := Tryz.prog) (ρ := Tryz.sortN_ren) Tryz.sortN 5 Tryz.isAgg94 Tryz.sizeOf94 enN enN_len enN_one cfN cfN_ok.swo 99 #[] g 0 cap l.toArray w eg (laysN g 0 _ w) (holdsK_of enN_len (by decide) hg h4) (Array.getElem?_eq_some_iff.1 hg).1 (by rw [hsz]; omega)
  rw [hsz] at hc
  refine hc.mono ?_
  rintro e w' ⟨he, d', n, os, hp, hs, rfl⟩
  have hd : d'.size = l.length := hp.1.trans hsz
  refine ⟨he, d'.toList, by simpa using perm_all (by rw [hsz]; exact hp), sorted_all (d := l.toArray) hp.1 (by rw [hsz]; exact hs), OwnK.sorted enN_len (by decide) hd hb hg h1 h2 h3, Out.of_but (but_sortedK d') rfl⟩
theorem sortE_any (l : List El) (v : Value) (base : Nat) (w : World) (h : OwnK enL base 38 5 w v l) (hl : l.length ≤ 1000000) :
  Calls Tryz.prog 95 #[v, .func (.func 72) #[] #[]] w fun e w' =>
   e = .returned (.tuple #[]) ∧ ∃ l' : List El, l'.Perm l ∧ (l'.Pairwise fun x y => ltOf cfE y x = false) ∧ OwnK enL base 38 5 w' v l' ∧ Out (fun i => v.ownBlock = some i) w w' := by
 by_cases hn : l = []
 ·subst hn
  have hv : ∃ p c, v = .slice p 0 c := by
   rcases h.2 with ⟨rfl, _⟩ | ⟨g, cap, cur, rfl, _⟩
   ·exact ⟨none, 0, rfl⟩
   ·exact ⟨_, cap, rfl⟩
  obtain ⟨p, c, rfl⟩ := hv
  have hc := AnyF.slices_SortFunc_none (P := Tryz.prog) (ρ := Tryz.sortE_ren) { Tryz.sortE with } p c (.func (.func 72) #[] #[]) w
  exact hc.mono fun e w' ⟨he, hw⟩ => ⟨he, [], List.Perm.refl _, List.Pairwise.nil, hw ▸ h, hw ▸ Out.refl _ _⟩
 ·obtain ⟨g, cap, cur, rfl, hb, hg, h1, h2, h3, h4⟩ := h.block hn
  have eg : ∀ args w, (callFunc 72 args).run Tryz.prog w = .ok (.enter 72 args) w := enters_of Tryz.func72 (by kernel_rfl) rfl
  have hsz : l.toArray.size = l.length := by simp
  have hc := AnyQ.slices_SortFunc (P := Tryz.prog) (ρ := Tryz.sortE_ren) Tryz.sortE 5 Tryz.isAgg38 Tryz.sizeOf38 enL enL_len enL_one cfE cfE_ok.swo 72 #[] g 0 cap l.toArray w eg (laysE g 0 _ w) (holdsK_of enL_len (by decide) hg h4) (Array.getElem?_eq_some_iff.1 hg).1 (by rw [hsz]; omega)
  rw [hsz] at hc
  refine hc.mono ?_
  rintro e w' ⟨he, d', n, os, hp, hs, rfl⟩
  have hd : d'.size = l.length := hp.1.trans hsz
  refine ⟨he, d'.toList, by simpa using perm_all (by rw [hsz]; exact hp), sorted_all (d := l.toArray) hp.1 (by rw [hsz]; exact hs), OwnK.sorted enL_len (by decide) hd hb hg h1 h2 h3, Out.of_but (but_sortedK d') rfl⟩
open Go.RowKit Go.MapKept
def HeldIs (w : World) (F : Nat → Prop) (m : Option Nat) (l : List (Dt × Va)) : Prop := (m = none ∧ l = []) ∨ ∃ n, m = some n ∧ F n ∧ MapIs eD eV w n l
def entS (x : El) (σ : List (El × List (Dt × Va))) : List (Dt × Va) := (getL x σ).getD []
theorem of_any (x : El) (sb : Nat) (F : Nat → Prop) (σ : List (El × List (Dt × Va))) (w : World) (hS : StoreIs w sb F σ) : Calls Tryz.prog 135 #[.pointer (some ⟨sb, 0, none⟩), eE x] w fun e w' => ∃ m, e = .returned (.map m) ∧ HeldIs w' F m (entS x σ) ∧ Below w.heap.size w w' := by
 obtain ⟨Z, hY⟩ : ∃ Z, Z = w.alloc (.cells #[.int .i64 x.k, .string x.a, .string x.b, .string x.c, .string x.d] 38) := ⟨_, rfl⟩
 obtain ⟨q, hq⟩ : ∃ q, w.heap.size = q := ⟨_, rfl⟩
 have HY := hid hY
 have bY : Below w.heap.size w Z := by rw [hY]; exact (Below.refl _ _).alloc (Nat.le_refl _) _
 have BY := hid bY
 have KE := hid (show Blk Z q 38 (elA x) by rw [hY, ← hq]; exact Blk.new w _ _)
 have HQ := hid hq
 have hpn := fun w => ptr_eql_nil sb w
 have hS2 := hS.below bY
 clear hY
 obtain ⟨h1, h2, h3⟩ := hS2
 rcases h3 with ⟨hb, hσ⟩ | ⟨ob, I, h, hb, hI, hσ⟩
 ·have KS := hid hb
  have HS := hid hσ
  clear hb hσ h1 h2 hS hq bY
  unfold eE elV
  go_enter Tryz.func135, Tryz.ntmps135
  go_upto_region 1 with fail
  rw [← HY.out, HQ.out]
  go_upto_region 3 with fail
  clear hpn
  refine wp_region_any (by kernel_rfl) ?_
  refine wpAny_below (fun i uq _ => uq = ([.pointer (some ⟨sb, 0, none⟩), .pointer (some ⟨sb, 0, none⟩), .pointer (some ⟨sb, 0, none⟩), .map none, eE x, .map none, .map none] : List Value).getD i undef) _ Z (by kernel_rfl) (by kernel_rfl) (by kernel_rfl) (fun i v w w' _ h => h) ?_ ?_
  ·refine ⟨?_, ?_, ?_, ?_, ?_, ?_, ?_, trivial⟩
   ·intro a W hI hun haft hi
    have e0 := hun 0 (by kernel_rfl)
    exact b_same hi hI rfl _ (run_move_op rfl e0) rfl
   ·intro a W hI hun haft hi
    have f0 := haft ⟨0, .data⟩ (by simp) rfl _ _ rfl rfl
    exact b_same hi hI rfl _ (run_nilCheck_op rfl f0) rfl
   ·intro a W hI hun haft hi
    have f1 := haft ⟨1, .data⟩ (by simp) rfl _ _ rfl rfl
    exact b_same hi hI rfl _ (run_fieldAddr_any rfl f1 (at_store0 _ 0 _)) rfl
   ·intro a W hI hun haft hi
    have f2 : a.eval (.tmp 9) = .pointer (some ⟨sb, 0, none⟩) := haft ⟨2, .data⟩ (by simp) rfl _ _ rfl rfl
    exact b_same hi hI rfl _ (run_loadmap_op rfl f2 Tryz.underlying89 ((Blk.cell (Blk.below KS.out hI (Blk.lt KS.out)) 0).trans rfl)) rfl
   ·intro a W hI hun haft hi
    have e3 := hun 3 (by kernel_rfl)
    exact b_same hi hI rfl _ (run_load_op rfl e3 (Blk.below KE.out hI (Blk.lt KE.out)) Tryz.underlying38 rfl (by kernel_rfl)) rfl
   ·intro a W hI hun haft hi
    have f3 := haft ⟨3, .data⟩ (by simp) rfl _ _ rfl rfl
    have f4 := haft ⟨4, .data⟩ (by simp) rfl _ _ rfl rfl
    exact b_same hi hI rfl _ (run_lookup_op rfl f3 f4 (look_nil_run keyE Tryz.underlying89 (zero_held _) x)) rfl
   ·intro a W hI hun haft hi
    have f5 := haft ⟨5, .data⟩ (by simp) rfl _ _ rfl rfl
    exact b_same hi hI rfl _ (run_assign_op rfl f5) rfl
  ·intro vals W hI hp
   have hl0 : vals 0 = .pointer (some ⟨sb, 0, none⟩) := hp 0 (by decide)
   have hl1 : vals 1 = .pointer (some ⟨sb, 0, none⟩) := hp 1 (by decide)
   have hl2 : vals 2 = .pointer (some ⟨sb, 0, none⟩) := hp 2 (by decide)
   have hl3 : vals 3 = .map none := hp 3 (by decide)
   have hl4 : vals 4 = eE x := hp 4 (by decide)
   have hl5 : vals 5 = .map none := hp 5 (by decide)
   have hl6 : vals 6 = .map none := hp 6 (by decide)
   have HI := hid hI
   clear hp hI
   simp only [layN, layS, List.range, List.range.loop, if_true, Act.put, Nat.zero_add, Nat.reduceAdd, hl0, hl1, hl2, hl3, hl4, hl5, hl6]
   clear hl0 hl1 hl2 hl3 hl4 hl5 hl6
   go_wp2
   go_ret
   exact ⟨_, rfl, Or.inl ⟨rfl, by rw [HS.out]; rfl⟩, BY.out.trans (HI.out.mono BY.out.size)⟩
 ·cases hg : getL x I with
  | none =>
   have KS := hid hb
   have KO := hid hI.2.1
   have HG := hid hg
   have HN := hid hI
   have HS := hid hσ
   clear hb hσ h1 h2 hS hq bY hI hg
   unfold eE elV
   go_enter Tryz.func135, Tryz.ntmps135
   go_upto_region 1 with fail
   rw [← HY.out, HQ.out]
   go_upto_region 3 with fail
   clear hpn
   refine wp_region_any (by kernel_rfl) ?_
   refine wpAny_below (fun i uq _ => uq = ([.pointer (some ⟨sb, 0, none⟩), .pointer (some ⟨sb, 0, none⟩), .pointer (some ⟨sb, 0, none⟩), .map (some ob), eE x, .map none, .map none] : List Value).getD i undef) _ Z (by kernel_rfl) (by kernel_rfl) (by kernel_rfl) (fun i v w w' _ h => h) ?_ ?_
   ·refine ⟨?_, ?_, ?_, ?_, ?_, ?_, ?_, trivial⟩
    ·intro a W hI hun haft hi
     have e0 := hun 0 (by kernel_rfl)
     exact b_same hi hI rfl _ (run_move_op rfl e0) rfl
    ·intro a W hI hun haft hi
     have f0 := haft ⟨0, .data⟩ (by simp) rfl _ _ rfl rfl
     exact b_same hi hI rfl _ (run_nilCheck_op rfl f0) rfl
    ·intro a W hI hun haft hi
     have f1 := haft ⟨1, .data⟩ (by simp) rfl _ _ rfl rfl
     exact b_same hi hI rfl _ (run_fieldAddr_any rfl f1 (at_store0 _ 0 _)) rfl
    ·intro a W hI hun haft hi
     have f2 : a.eval (.tmp 9) = .pointer (some ⟨sb, 0, none⟩) := haft ⟨2, .data⟩ (by simp) rfl _ _ rfl rfl
     exact b_same hi hI rfl _ (run_loadmap_op rfl f2 Tryz.underlying89 ((Blk.cell (Blk.below KS.out hI (Blk.lt KS.out)) 0).trans rfl)) rfl
    ·intro a W hI hun haft hi
     have e3 := hun 3 (by kernel_rfl)
     exact b_same hi hI rfl _ (run_load_op rfl e3 (Blk.below KE.out hI (Blk.lt KE.out)) Tryz.underlying38 rfl (by kernel_rfl)) rfl
    ·intro a W hI hun haft hi
     have f3 : a.eval (.tmp 10) = .map (some ob) := haft ⟨3, .data⟩ (by simp) rfl _ _ rfl rfl
     have f4 : a.eval (.tmp 11) = eE x := haft ⟨4, .data⟩ (by simp) rfl _ _ rfl rfl
     exact b_same hi hI rfl _ (run_lookup_op rfl f3 f4 ((look_run (MapIs.same KO.out (hI.block _ (MapIs.lt KO.out))) keyE Tryz.underlying89 (zero_held _) x).trans (by rw [HG.out]; rfl))) rfl
    ·intro a W hI hun haft hi
     have f5 := haft ⟨5, .data⟩ (by simp) rfl _ _ rfl rfl
     exact b_same hi hI rfl _ (run_assign_op rfl f5) rfl
   ·intro vals W hI hp
    have hl0 : vals 0 = .pointer (some ⟨sb, 0, none⟩) := hp 0 (by decide)
    have hl1 : vals 1 = .pointer (some ⟨sb, 0, none⟩) := hp 1 (by decide)
    have hl2 : vals 2 = .pointer (some ⟨sb, 0, none⟩) := hp 2 (by decide)
    have hl3 : vals 3 = .map (some ob) := hp 3 (by decide)
    have hl4 : vals 4 = eE x := hp 4 (by decide)
    have hl5 : vals 5 = .map none := hp 5 (by decide)
    have hl6 : vals 6 = .map none := hp 6 (by decide)
    have HI := hid hI
    clear hp hI
    simp only [layN, layS, List.range, List.range.loop, if_true, Act.put, Nat.zero_add, Nat.reduceAdd, hl0, hl1, hl2, hl3, hl4, hl5, hl6]
    clear hl0 hl1 hl2 hl3 hl4 hl5 hl6
    go_wp2
    go_ret
    exact ⟨_, rfl, Or.inl ⟨rfl, by unfold entS; rw [HS.out, getL_mapS, HG.out]; rfl⟩, BY.out.trans (HI.out.mono BY.out.size)⟩
  | some n =>
   have KS := hid hb
   have KO := hid hI.2.1
   have HG := hid hg
   have HN := hid hI
   have HS := hid hσ
   clear hb hσ h1 h2 hS hq bY hI hg
   unfold eE elV
   go_enter Tryz.func135, Tryz.ntmps135
   go_upto_region 1 with fail
   rw [← HY.out, HQ.out]
   go_upto_region 3 with fail
   clear hpn
   refine wp_region_any (by kernel_rfl) ?_
   refine wpAny_below (fun i uq _ => uq = ([.pointer (some ⟨sb, 0, none⟩), .pointer (some ⟨sb, 0, none⟩), .pointer (some ⟨sb, 0, none⟩), .map (some ob), eE x, .map (some n), .map (some n)] : List Value).getD i undef) _ Z (by kernel_rfl) (by kernel_rfl) (by kernel_rfl) (fun i v w w' _ h => h) ?_ ?_
   ·refine ⟨?_, ?_, ?_, ?_, ?_, ?_, ?_, trivial⟩
    ·intro a W hI hun haft hi
     have e0 := hun 0 (by kernel_rfl)
     exact b_same hi hI rfl _ (run_move_op rfl e0) rfl
    ·intro a W hI hun haft hi
     have f0 := haft ⟨0, .data⟩ (by simp) rfl _ _ rfl rfl
     exact b_same hi hI rfl _ (run_nilCheck_op rfl f0) rfl
    ·intro a W hI hun haft hi
     have f1 := haft ⟨1, .data⟩ (by simp) rfl _ _ rfl rfl
     exact b_same hi hI rfl _ (run_fieldAddr_any rfl f1 (at_store0 _ 0 _)) rfl
    ·intro a W hI hun haft hi
     have f2 : a.eval (.tmp 9) = .pointer (some ⟨sb, 0, none⟩) := haft ⟨2, .data⟩ (by simp) rfl _ _ rfl rfl
     exact b_same hi hI rfl _ (run_loadmap_op rfl f2 Tryz.underlying89 ((Blk.cell (Blk.below KS.out hI (Blk.lt KS.out)) 0).trans rfl)) rfl
    ·intro a W hI hun haft hi
     have e3 := hun 3 (by kernel_rfl)
     exact b_same hi hI rfl _ (run_load_op rfl e3 (Blk.below KE.out hI (Blk.lt KE.out)) Tryz.underlying38 rfl (by kernel_rfl)) rfl
    ·intro a W hI hun haft hi
     have f3 : a.eval (.tmp 10) = .map (some ob) := haft ⟨3, .data⟩ (by simp) rfl _ _ rfl rfl
     have f4 : a.eval (.tmp 11) = eE x := haft ⟨4, .data⟩ (by simp) rfl _ _ rfl rfl
     exact b_same hi hI rfl _ (run_lookup_op rfl f3 f4 ((look_run (MapIs.same KO.out (hI.block _ (MapIs.lt KO.out))) keyE Tryz.underlying89 (zero_held _) x).trans (by rw [HG.out]; rfl))) rfl
    ·intro a W hI hun haft hi
     have f5 := haft ⟨5, .data⟩ (by simp) rfl _ _ rfl rfl
     exact b_same hi hI rfl _ (run_assign_op rfl f5) rfl
   ·intro vals W hI hp
    have hl0 : vals 0 = .pointer (some ⟨sb, 0, none⟩) := hp 0 (by decide)
    have hl1 : vals 1 = .pointer (some ⟨sb, 0, none⟩) := hp 1 (by decide)
    have hl2 : vals 2 = .pointer (some ⟨sb, 0, none⟩) := hp 2 (by decide)
    have hl3 : vals 3 = .map (some ob) := hp 3 (by decide)
    have hl4 : vals 4 = eE x := hp 4 (by decide)
    have hl5 : vals 5 = .map (some n) := hp 5 (by decide)
    have hl6 : vals 6 = .map (some n) := hp 6 (by decide)
    have HI := hid hI
    clear hp hI
    simp only [layN, layS, List.range, List.range.loop, if_true, Act.put, Nat.zero_add, Nat.reduceAdd, hl0, hl1, hl2, hl3, hl4, hl5, hl6]
    clear hl0 hl1 hl2 hl3 hl4 hl5 hl6
    go_wp2
    go_ret
    exact ⟨_, rfl, Or.inr ⟨n, rfl, (HN.out.at_ HG.out).1, by unfold entS; rw [HS.out, getL_mapS, HG.out]; exact MapIs.same (HN.out.at_ HG.out).2.2 (HI.out.block _ (MapIs.lt (HN.out.at_ HG.out).2.2))⟩, BY.out.trans (HI.out.mono BY.out.size)⟩
theorem infoN : (Tryz.prog.info? 94).map (fun i => (i.zero, i.size, i.bytes)) = some (some (.agg #[.int .i64 0, .int .i64 0, .int .i64 0, .int .i64 0, .string ⟨#[]⟩]), 5, 48) := by kernel_rfl
theorem own_ne_map {α β γ : Type} {enc : γ → List Value} {base k : Nat} {e : TypeId} {w : World} {v : Value} {l : List γ} {eK : α → Value} {eU : β → Value} {b : Nat} {L : List (α × β)} (h : OwnK enc base e k w v l) (hm : MapIs eK eU w b L) : v.ownBlock ≠ some b := by
 intro e
 obtain ⟨es, c, ho, _⟩ := hm
 rcases h.2 with ⟨rfl, _⟩ | ⟨g, cap, cur, rfl, _, hg, _⟩
 ·cases e
 ·have : g = b := Option.some.inj e
  rw [this, ho] at hg
  cases hg
theorem own_ne_iter {α β γ : Type} {enc : γ → List Value} {base k : Nat} {e : TypeId} {w : World} {v : Value} {l : List γ} {eK : α → Value} {eU : β → Value} {b r : Nat} {L R : List (α × β)} (h : OwnK enc base e k w v l) (hm : Ranging eK eU w b r L R) : v.ownBlock ≠ some r := by
 intro e
 obtain ⟨es, c, _, _, _, _, _, _, ho, _⟩ := hm
 rcases h.2 with ⟨rfl, _⟩ | ⟨g, cap, cur, rfl, _, hg, _⟩
 ·cases e
 ·have : g = r := Option.some.inj e
  rw [this, ho] at hg
  cases hg
def RowIs (w : World) (base : Nat) (v : Value) (l : List (Dt × Va)) : Prop := ∃ l' : List (Dt × Va), l'.Perm l ∧ (l'.Pairwise fun x y => ltOf cfN y x = false) ∧ OwnK enN base 94 5 w v l'
theorem row_nil (w : World) : Calls Tryz.prog 73 #[.map none] w fun e w' => ∃ v, e = .returned v ∧ RowIs w' w.heap.size v [] ∧ Below w.heap.size w w' := by
 obtain ⟨r, hr⟩ : ∃ r, w.heap.size = r := ⟨_, rfl⟩
 obtain ⟨V, hV⟩ : ∃ V, V = w.alloc (.mapIter none 0 #[] 0) := ⟨_, rfl⟩
 have hrg : (Instr.range 116 (.map none)).run Tryz.prog w = .ok (.pointer (some ⟨r, 0, none⟩)) V := by rw [hV, ← hr]; exact run_range_nilMap w _ _ _ Tryz.underlying116
 have hnx : ∀ ty, (Instr.next (.pointer (some ⟨r, 0, none⟩)) false ty).run Tryz.prog V = .ok (.tuple #[.bool false]) V := fun ty => run_next_nil_at V ty r 0 0 #[] (by rw [hV, ← hr]; exact heap_alloc_new w _)
 have HB := hid (show Below w.heap.size w V by rw [hV]; exact (Below.refl _ _).alloc (Nat.le_refl _) _)
 clear hV hr
 go_enter Tryz.func73, Tryz.ntmps73
 go_wp2
 refine wp_loop_rounds 1 ?_
 rw [rounds_succ]
 go_wp2_with fail
 refine (sortN_any [] (.slice none 0 0) w.heap.size V (OwnK.nil_ _ _ _ _ _) (by simp)).mono ?_
 rintro e w1 ⟨rfl, l', hp, hs, ho, hout⟩
 have HP := hid hp
 have HS := hid hs
 have HO := hid ho
 have HU := hid hout
 clear hp hs ho hout
 go_wp2
 go_ret
 exact ⟨_, rfl, ⟨l', HP.out, HS.out, HO.out⟩, HB.out.trans (HU.out.below HB.out.size (fun i hi => by cases hi))⟩
theorem row_some (n : Nat) (l : List (Dt × Va)) (w : World) (hm : MapIs eD eV w n l) (hl : l.length ≤ 1000000) : Calls Tryz.prog 73 #[.map (some n)] w fun e w' => ∃ v, e = .returned v ∧ RowIs w' w.heap.size v l ∧ Below w.heap.size w w' := by
 have HM := hid hm
 have HL := hid hl
 obtain ⟨i0, hi, hz0, hz1, hz2⟩ := info_parts infoN
 obtain ⟨r, hr⟩ : ∃ r, w.heap.size = r := ⟨_, rfl⟩
 have HR := hid hr
 clear hm hl
 go_enter Tryz.func73, Tryz.ntmps73
 go_wp2_with (first
  | (at_range; refine wpList_range_is _ rfl _ 116 58 43 rfl Tryz.underlying116 n l rfl HM.out ?_; intro V hrg hal)
  | go_in)
 go_frame
 rw [hr] at hrg ⊢
 have HV := hid (show Below r w V by
  obtain ⟨o, rfl⟩ := hal
  exact (Below.refl _ _).alloc (by rw [hr]; exact Nat.le_refl _) _)
 have HRg0 := hid hrg
 clear hal hr hrg
 go_loopw [3] (fun v wr => ∃ (R acc : List (Dt × Va)), Ranging eD eV wr n r l R ∧ OwnK enN r 94 5 wr v acc ∧ (acc ++ R).Perm l ∧ Below r w wr) (fun _ wr => wr.rangeLeft n r)
 case atStart => exact ⟨l, [], HRg0.out, OwnK.nil_ _ _ _ _ _, List.Perm.refl _, HV.out⟩
 case round =>
  obtain ⟨R, acc, hrg, how, hpm, hbw⟩ := hrel
  have HRg := hid hrg
  have HOw := hid how
  have HPm := hid hpm
  have HBw := hid hbw
  clear hrg how hpm hbw HRg0 HV
  go_wp2_with (first
   | (at_next; refine wpList_next_is _ rfl _ rfl n r _ _ rfl HRg.out ?_ ?_)
   | go_in)
  ·intro hR
   subst hR
   have hlen : acc.length ≤ 1000000 := by
    have := HPm.out.length_eq
    simp at this
    have := HL.out
    omega
   have HLn := hid hlen
   clear hlen
   go_wp2_with fail
   refine (sortN_any acc _ r _ HOw.out HLn.out).mono ?_
   rintro e w1 ⟨rfl, l', hp, hs, ho, hout⟩
   have HP := hid (hp.trans (by simpa using HPm.out))
   have HS := hid hs
   have HO := hid ho
   have HU := hid (HBw.out.trans (hout.below (by have := HBw.out.size; rw [HR.out] at this; exact this) (fun i hi => (HOw.out.lt i hi).1)))
   clear hp hs ho hout
   go_wp2
   go_ret
   exact ⟨_, rfl, ⟨l', HP.out, HS.out, by rw [HR.out]; exact HO.out⟩, by rw [HR.out]; exact HU.out⟩
  ·intro pd pv R1 V1 hp hrg1 hb1 hs1 hen
   obtain ⟨rr, cc⟩ := pd
   obtain ⟨kk, nn, tt⟩ := pv
   have hwr : r ≤ wr.heap.size := by have := HBw.out.size; rw [HR.out] at this; exact this
   have hV1 : Below r w V1 := HBw.out.trans ⟨hb1.os, hb1.tape, hb1.output, hb1.size, fun j hj => hb1.block j (Nat.lt_of_lt_of_le hj hwr) (fun e => by have := Option.some.inj e; omega)⟩
   have hO1 := HOw.out.same (w' := V1) (fun g hg => hb1.block g (HOw.out.lt g hg).2 (fun e => own_ne_iter HOw.out HRg.out (by rw [hg, Option.some.inj e])))
   have hl1 : wr.rangeLeft n r = R.length := HRg.out.left_eq
   have hlen : acc.length + 1 ≤ 1000000 := by
    have := HPm.out.length_eq
    have h2 := hp.length_eq
    simp at this h2
    have := HL.out
    omega
   have HP := hid hp
   have HR1 := hid hrg1
   have HL1 := hid hl1
   have HLn := hid hlen
   clear hp hl1 hlen HRg HOw hwr hs1 hb1 hrg1
   obtain ⟨X, hX⟩ : ∃ X, X = (((V1.alloc (.cells #[.int .i64 0, .int .i64 0] 58)).alloc (.cells #[.int .i64 0, .int .i64 0, .string ⟨#[]⟩] 43)).setRow V1.heap.size #[.int .i64 rr, .int .i64 cc]).setRow (V1.heap.size + 1) #[.int .i64 kk, .int .i64 nn, .string tt] := ⟨_, rfl⟩
   have hB0 : Blk ((V1.alloc (.cells #[.int .i64 0, .int .i64 0] 58)).alloc (.cells #[.int .i64 0, .int .i64 0, .string ⟨#[]⟩] 43)) V1.heap.size 58 #[.int .i64 0, .int .i64 0] := (Blk.new V1 _ _).alloc _
   have hB1 : Blk (((V1.alloc (.cells #[.int .i64 0, .int .i64 0] 58)).alloc (.cells #[.int .i64 0, .int .i64 0, .string ⟨#[]⟩] 43)).setRow V1.heap.size #[.int .i64 rr, .int .i64 cc]) (V1.heap.size + 1) 43 #[.int .i64 0, .int .i64 0, .string ⟨#[]⟩] := by
    have := Blk.new (V1.alloc (.cells #[.int .i64 0, .int .i64 0] 58)) 43 #[.int .i64 0, .int .i64 0, .string ⟨#[]⟩]
    rw [World.size_alloc] at this
    exact (setRow_other _ _ _ _ (by omega)).trans this
   have hBX0 : Blk X V1.heap.size 58 #[.int .i64 rr, .int .i64 cc] := by
    rw [hX]
    exact (setRow_other _ _ _ _ (by omega)).trans (setRow_blk _ _ _ _ _ hB0)
   have hBX1 : Blk X (V1.heap.size + 1) 43 #[.int .i64 kk, .int .i64 nn, .string tt] := by rw [hX]; exact setRow_blk _ _ _ _ _ hB1
   have hbX : Below V1.heap.size V1 X := by
    rw [hX]
    exact ((((Below.refl _ _).alloc (Nat.le_refl _) _).alloc (by simp) _).trans (setRow_below _ _ _ _ (Nat.le_refl _))).trans (setRow_below _ _ _ _ (Nat.le_succ _))
   have HX := hid hX
   have HBX0 := hid hBX0
   have HBX1 := hid hBX1
   have HbX := hid hbX
   have hO2 := (hO1.keep hbX).keep (w' := X.alloc (.cells #[.int .i64 rr, .int .i64 cc, .int .i64 kk, .int .i64 nn, .string tt] 94)) ((Below.refl _ _).alloc (Nat.le_refl _) _)
   have HO2 := hid hO2
   have HVX := hid (hV1.trans (hbX.mono (by have := hV1.size; rw [HR.out] at this; exact this)))
   have hNC : ∀ j u, [Value.int .i64 rr, .int .i64 cc, .int .i64 kk, .int .i64 nn, .string tt][j]? = some u → (X.alloc (.cells #[.int .i64 rr, .int .i64 cc, .int .i64 kk, .int .i64 nn, .string tt] 94)).cell? ((⟨X.heap.size, 0, none⟩ : Addr).add j) = some u := fun j u hu => by
    rw [Addr.add_lit, Blk.cell (Blk.new X _ _)]
    simpa using hu
   have HNC := hid hNC
   clear hX hBX0 hBX1 hbX hO1 hO2 hV1 hNC
   simp only [eD, dv, eV, valV] at hen ⊢
   go_upto_region 5 with (first
    | (refine wpList_store_row rfl 58 (.tmp 4) (.tmp 11) rfl V1.heap.size #[.int .i64 rr, .int .i64 cc] rfl rfl _ _ hB0 (by kernel_rfl) rfl (by kernel_rfl) ?_)
    | (refine wpList_store_row rfl 43 (.tmp 5) (.tmp 12) rfl (V1.heap.size + 1) #[.int .i64 kk, .int .i64 nn, .string tt] rfl rfl _ _ hB1 (by kernel_rfl) rfl (by kernel_rfl) ?_))
   rw [← HX.out]
   clear hB0 hB1 hen
   go_wp2_with (first
    | (refine wpList_load_if rfl 58 (.tmp 4) rfl V1.heap.size rfl _ _ _ _ HBX0.out Tryz.underlying58 rfl (by kernel_rfl) ?_)
    | (refine wpList_load_if rfl 43 (.tmp 5) rfl (V1.heap.size + 1) rfl _ _ _ _ HBX1.out Tryz.underlying43 rfl (by kernel_rfl) ?_)
    | (refine wpList_val (o := ⟨some 16, _, _, _, _, _⟩) rfl (.agg #[.int .i64 rr, .int .i64 cc, .int .i64 kk, .int .i64 nn, .string tt]) X (by kernel_rfl) ?_)
    | (at_builtin; refine wpList_append_own _ rfl _ _ 98 rfl r 94 i0 _ 5 48 Tryz.underlying98 hi hz0 hz1 hz2 rfl (by decide) _ _ _ rfl HO2.out ⟨X.heap.size, 0, none⟩ 1 1 [.int .i64 rr, .int .i64 cc, .int .i64 kk, .int .i64 nn, .string tt] rfl rfl HNC.out (enN_one (⟨rr, cc⟩, ⟨kk, nn, tt⟩)) (by have := HLn.out; unfold maxLen; omega) (by have := HLn.out; omega) (by have := HVX.out.size; have := HR.out; simp; omega) ?_; intro v' W6 hown' hgrow hnil')
    | go_in)
   have hR6 : Ranging eD eV W6 n r l R1 := by
    have h1 := HR1.out.below HbX.out
    have h2 := h1.below (w' := X.alloc (.cells #[.int .i64 rr, .int .i64 cc, .int .i64 kk, .int .i64 nn, .string tt] 94)) ((Below.refl _ _).alloc (Nat.le_refl _) _)
    exact h2.same (hgrow.block n h2.owns.lt (fun e => own_ne_map HO2.out h2.owns e.symm)) (hgrow.block r h2.lt (fun e => own_ne_iter HO2.out h2 e.symm))
   have hO6 : OwnK enN r 94 5 W6 v' (acc ++ [(⟨rr, cc⟩, ⟨kk, nn, tt⟩)]) := by
    unfold OwnK
    rw [List.length_append, List.flatMap_append]
    exact hown'
   have hb6 : Below r w W6 := (HVX.out.alloc (by have := HVX.out.size; have := HR.out; omega) _).trans ⟨hgrow.os, hgrow.tape, hgrow.output, hgrow.size, fun j hj => hgrow.block j (by have := HVX.out.size; have := HR.out; simp; omega) (fun e => by have := (HO2.out.lt j e.symm).1; omega)⟩
   have HR6 := hid hR6
   have HO6 := hid hO6
   have HB6 := hid hb6
   clear hR6 hO6 hb6 hown' hgrow hnil'
   go_roundw
   case rel => exact ⟨R1, acc ++ [(⟨rr, cc⟩, ⟨kk, nn, tt⟩)], HR6.out, HO6.out, (by
    rw [List.append_assoc]
    exact (List.Perm.append_left acc HP.out.symm).trans HPm.out), HB6.out⟩
   case measure =>
    rw [HR6.out.left_eq, HL1.out, HP.out.length_eq]
    exact Nat.lt_succ_self _
theorem row_any (m : Option Nat) (F : Nat → Prop) (l : List (Dt × Va)) (w : World) (hm : HeldIs w F m l) (hl : l.length ≤ 1000000) : Calls Tryz.prog 73 #[.map m] w fun e w' => ∃ v, e = .returned v ∧ RowIs w' w.heap.size v l ∧ Below w.heap.size w w' := by
 rcases hm with ⟨rfl, rfl⟩ | ⟨n, rfl, _, h⟩
 ·exact row_nil w
 ·exact row_some n l w h hl
def totS (σ : List (El × List (Dt × Va))) : Nat := (σ.map fun p => p.2.length).sum
end Go.Proofs.YtdgglhlofnigkaaGreatDoor
