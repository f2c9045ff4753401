/-
  hedgerowlaw09.fixed answers true. hedgerowlaw09.few: the contract, by a walk. hedgerowlaw09.one: the contract, by a walk. hedgerowlaw09.AcceptTells: mathematics for its walk. All step by step, from the back; a row is right as far as the causal row has all of it. Conditions: lengths, CutOk.
-/
import Derived.Test.YtmhechlfpaciiaaAcGB
import Derived.Test.YtmhechlfpaciiaaStGH
namespace Go.Proofs.Ytmhechlfpaciiaa
open Go.RowKit Go.MapKept Go.Sort

def z9 : Nat → Int := fun _ => 0
def p9 : Nat → Int := fun i => if i = 0 then 1 else 0
def q9 : Nat → Int := fun i => if i = 0 then 2 else 0
def e91 : Ev := ⟨0, 1, z9, 1, 1, ⟨#[97]⟩, ⟨#[]⟩, ⟨#[]⟩, ⟨#[]⟩, 0, 0, ⟨#[]⟩⟩
def e92 : Ev := ⟨0, 2, p9, 1, 1, ⟨#[97]⟩, ⟨#[]⟩, ⟨#[]⟩, ⟨#[]⟩, 0, 0, ⟨#[]⟩⟩
theorem len91 : Lens e91 := by unfold Lens e91; decide
theorem len92 : Lens e92 := by unfold Lens e92; decide
theorem len90 : Lens ev0 := by unfold Lens ev0; decide
def f9 : Nat → Int := setD (setD z9 e91) e92
theorem all9 : allA [e91, e91, e92] [] z9 = ([e91, e92], f9, 0) := by
  simp only [allA]
  rw [if_pos (show oneI z9 e91 = 0 by decide +kernel), if_neg (show ¬ oneI (setD z9 e91) e91 = 0 by decide +kernel), if_pos (show oneI (setD z9 e91) e91 = 5 by decide +kernel), if_pos (show oneI (setD z9 e91) e92 = 0 by decide +kernel)]
  rfl
theorem row91 : rowB [e91, e92] = true := by
  unfold rowB
  have : allA [e91, e92] [] (fun _ => 0) = ([e91, e92], f9, 0) := by
    show allA [e91, e92] [] z9 = _
    simp only [allA]
    rw [if_pos (show oneI z9 e91 = 0 by decide +kernel), if_pos (show oneI (setD z9 e91) e92 = 0 by decide +kernel)]
    rfl
  rw [this]; rfl
theorem row92 : rowB [e92] = false := by
  unfold rowB
  have : allA [e92] [] (fun _ => 0) = ([], z9, 8) := by
    show allA [e92] [] z9 = _
    simp only [allA]
    rw [if_neg (show ¬ oneI z9 e92 = 0 by decide +kernel), if_neg (show ¬ oneI z9 e92 = 5 by decide +kernel), show oneI z9 e92 = 8 from by decide +kernel]
  rw [this]; rfl
theorem lack9 : lackL p9 [e91, e92] = [e92] := by
  unfold lackL
  have h1 : knowsB p9 e91.r e91.c = true := by decide +kernel
  have h2 : knowsB p9 e92.r e92.c = false := by decide +kernel
  simp [h1, h2]
theorem cmp9 : cfP e91 e92 < 0 := by decide +kernel
theorem eqE (a b : Int) (q : Bool) (h : (a == b) = q) (w : World) : (binOp .eql 40 (.int .i64 a) (.int .i64 b)).run Try.prog w = .ok (.bool q) w := by subst h; go_simp
/-- A slice just laid. -/
theorem sl_events (l : List Ev) {w : World} {g : Nat} (h : Blk w g 39 (l.flatMap encE).toArray) : SlK encE 27 w (.slice (some ⟨g, 0, none⟩) l.length l.length) l :=
  ⟨_, _, rfl, Nat.le_refl _, fun _ => ⟨g, 0, rfl, h.lt, fun j x hj i u hu => by
    have hik : i < 27 := (List.getElem?_eq_some_iff.1 hu).1
    rw [Nat.zero_add, h.cell]
    have := flat_at encE_len l j i x hj hik
    rw [hu] at this
    simpa using this⟩⟩
theorem bs9 (a b : Ev) (w : World) : (Instr.buildSlice 22 2 #[(0, .agg (evC a)), (1, .agg (evC b))]).run Try.prog w = .ok (.slice (some ⟨w.heap.size, 0, none⟩) 2 2) (w.alloc (.cells ([a, b].flatMap encE).toArray 39)) := by kernel_rfl
theorem bs93 (a b c : Ev) (w : World) : (Instr.buildSlice 22 3 #[(0, .agg (evC a)), (1, .agg (evC b)), (2, .agg (evC c))]).run Try.prog w = .ok (.slice (some ⟨w.heap.size, 0, none⟩) 3 3) (w.alloc (.cells ([a, b, c].flatMap encE).toArray 39)) := by kernel_rfl
theorem bs91 (a : Ev) (w : World) : (Instr.buildSlice 22 1 #[(0, .agg (evC a))]).run Try.prog w = .ok (.slice (some ⟨w.heap.size, 0, none⟩) 1 1) (w.alloc (.cells ([a].flatMap encE).toArray 39)) := by kernel_rfl

set_option maxRecDepth 100000 in
set_option maxHeartbeats 4000000 in
theorem fixed9 (w : World) (hw : CutOk w) : Calls Try.prog 26 #[] w (Gives w (.bool true)) := by
  have HCw := Lib.hid hw
  obtain ⟨g, hg⟩ : ∃ g, w.heap.size = g := ⟨_, rfl⟩
  have HG := Lib.hid hg
  have hAl := fun c => World.setRow_alloc_new w #[.int .i64 0, .string ⟨#[]⟩, .string ⟨#[]⟩, .string ⟨#[]⟩, .string ⟨#[]⟩] c 35
  have hZ : Blk (w.alloc (.cells #[.int .i64 0, .string ⟨#[]⟩, .string ⟨#[]⟩, .string ⟨#[]⟩, .string ⟨#[]⟩] 35)) w.heap.size 35 #[.int .i64 0, .string ⟨#[]⟩, .string ⟨#[]⟩, .string ⟨#[]⟩, .string ⟨#[]⟩] := Blk.new _ _ _
  obtain ⟨X1, hX1⟩ : ∃ X, X = w.alloc (.cells #[.int .i64 1, .string ⟨#[97]⟩, .string ⟨#[]⟩, .string ⟨#[]⟩, .string ⟨#[]⟩] 35) := ⟨_, rfl⟩
  have hs1 : X1.heap.size = g + 1 := by rw [hX1, ← hg]; simp
  have hB1 : Blk X1 g 35 #[.int .i64 1, .string ⟨#[97]⟩, .string ⟨#[]⟩, .string ⟨#[]⟩, .string ⟨#[]⟩] := by rw [hX1, ← hg]; exact Blk.new _ _ _
  have hb1 : Below w.heap.size w X1 := by rw [hX1]; exact (Below.refl _ _).alloc (Nat.le_refl _) _
  obtain ⟨X2, hX2⟩ : ∃ X, X = X1.alloc (.cells (evC e91) 39) := ⟨_, rfl⟩
  have hb2 : Below X1.heap.size X1 X2 := by rw [hX2]; exact (Below.refl _ _).alloc (Nat.le_refl _) _
  have hs2 : X2.heap.size = g + 2 := by rw [hX2]; simp [hs1]
  have hE1 : EB X2 (g + 1) e91 := by rw [hX2, ← hs1]; exact EB.new_ _ _
  have hB2 := hB1.below hb2 (by rw [hs1]; omega)
  obtain ⟨X3, hX3⟩ : ∃ X, X = X2.alloc (.cells (evC e92) 39) := ⟨_, rfl⟩
  have hb3 : Below X2.heap.size X2 X3 := by rw [hX3]; exact (Below.refl _ _).alloc (Nat.le_refl _) _
  have hE2 : EB X3 (g + 2) e92 := by rw [hX3, ← hs2]; exact EB.new_ _ _
  have HX1 := Lib.hid hX1
  have HX2 := Lib.hid hX2
  have HX3 := Lib.hid hX3
  have HAl2 := Lib.hid fun c => World.setRow_alloc_new X1 (evC ev0) c 39
  have HAl3 := Lib.hid fun c => World.setRow_alloc_new X2 (evC ev0) c 39
  have HZ2 := Lib.hid (show Blk (X1.alloc (.cells (evC ev0) 39)) X1.heap.size 39 (evC ev0) from Blk.new _ _ _)
  have HZ3 := Lib.hid (show Blk (X2.alloc (.cells (evC ev0) 39)) X2.heap.size 39 (evC ev0) from Blk.new _ _ _)
  have HS1 := Lib.hid hs1
  have HS2 := Lib.hid hs2
  have HB1 := Lib.hid hB1
  have HB2 := Lib.hid hB2
  have HE1 := Lib.hid (hE1.keep hb3)
  have HE2 := Lib.hid hE2
  have HY3 := Lib.hid (show Below w.heap.size w X3 from (hb1.trans (hb2.mono hb1.size)).trans (hb3.mono (Nat.le_trans hb1.size hb2.size)))
  have HZe := Lib.hid (zero_of_info zeroE).1
  clear hw hg hX1 hs1 hB1 hb1 hX2 hb2 hs2 hE1 hB2 hX3 hb3 hE2
  go_enter Try.func26, Try.ntmps26
  go_upto_region 2 with (first
    | (refine wpList_store_row (o := ⟨none, _, _, _, _, _⟩) rfl 35 (.tmp 1) (.tmp 8) rfl w.heap.size #[.int .i64 1, .string ⟨#[97]⟩, .string ⟨#[]⟩, .string ⟨#[]⟩, .string ⟨#[]⟩] rfl rfl _ _ hZ (by kernel_rfl) rfl (by kernel_rfl) ?_; rw [hAl, ← HX1.out])
    | fail)
  clear hAl hZ
  rw [HG.out]
  have hz := HZe.out
  go_upto_region 3 with (first
    | (refine' wpList_load_if ?q1 35 (.tmp 1) ?q2 g ?q3 _ _ _ _ ?q4 Try.underlying35 ?q5 ?q6 ?_; (case q2 => rfl); (case q1 => rfl); (case q3 => rfl); (case q4 => exact HB1.out); (case q5 => rfl); (case q6 => kernel_rfl))
    | (refine wpList_val (o := ⟨some 11, _, _, _, _, _⟩) rfl (evV e91) X1 (by kernel_rfl) ?_)
    | (refine wpList_store_row (o := ⟨none, _, _, _, _, _⟩) rfl 39 (.tmp 2) (.tmp 11) rfl X1.heap.size (evC e91) rfl rfl _ _ HZ2.out (sizeE e91) rfl (by kernel_rfl) ?_; rw [HAl2.out, ← HX2.out])
    | fail)
  rw [HS1.out]
  go_upto_region 4 with (first
    | (refine' wpList_load_if ?q1 35 (.tmp 1) ?q2 g ?q3 _ _ _ _ ?q4 Try.underlying35 ?q5 ?q6 ?_; (case q2 => rfl); (case q1 => rfl); (case q3 => rfl); (case q4 => exact HB2.out); (case q5 => rfl); (case q6 => kernel_rfl))
    | (refine wpList_val (o := ⟨some 15, _, _, _, _, _⟩) rfl (evV e92) X2 (by kernel_rfl) ?_)
    | (refine wpList_store_row (o := ⟨none, _, _, _, _, _⟩) rfl 39 (.tmp 3) (.tmp 15) rfl X2.heap.size (evC e92) rfl rfl _ _ HZ3.out (sizeE e92) rfl (by kernel_rfl) ?_; rw [HAl3.out, ← HX3.out])
    | fail)
  rw [HS2.out]
  clear hz
  obtain ⟨X4, hX4⟩ : ∃ X, X = X3.alloc (.cells ([e91, e91, e92].flatMap encE).toArray 39) := ⟨_, rfl⟩
  have hb4 : Below X3.heap.size X3 X4 := by rw [hX4]; exact (Below.refl _ _).alloc (Nat.le_refl _) _
  have hsl4 : SlK encE 27 X4 (.slice (some ⟨X3.heap.size, 0, none⟩) 3 3) [e91, e91, e92] := sl_events [e91, e91, e92] (by rw [hX4]; exact Blk.new _ _ _)
  have HX4 := Lib.hid hX4
  have HA4 := Lib.hid (all8_any [e91, e91, e92] _ 3 3 z9 X4 hsl4 rfl (by decide) (fun e he => by
    simp only [List.mem_cons, List.not_mem_nil, or_false] at he
    rcases he with rfl | rfl | rfl
    · exact len91
    · exact len91
    · exact len92) ((HCw.out.below HY3.out).below hb4))
  have HY4 := Lib.hid (HY3.out.trans (hb4.mono HY3.out.size))
  have HE14 := Lib.hid (HE1.out.keep hb4)
  have HE24 := Lib.hid (HE2.out.keep hb4)
  clear hX4 hb4 hsl4
  rw [all9] at HA4
  have hzv := (zero_of_info zeroV).1
  go_wp2_with (first
    | (refine wpList_val (o := ⟨some 17, _, _, _, _, _⟩) rfl (.agg (vA z9)) X3 (by kernel_rfl) ?_)
    | (refine' wpList_load_if ?q1 39 (.tmp 2) ?q2 (g + 1) ?q3 _ _ _ _ ?q4 Try.underlying39 ?q5 ?q6 ?_; (case q2 => rfl); (case q1 => rfl); (case q3 => rfl); (case q4 => exact HE1.out); (case q5 => rfl); (case q6 => exact sizeE _))
    | (refine' wpList_load_if ?q1 39 (.tmp 3) ?q2 (g + 2) ?q3 _ _ _ _ ?q4 Try.underlying39 ?q5 ?q6 ?_; (case q2 => rfl); (case q1 => rfl); (case q3 => rfl); (case q4 => exact HE2.out); (case q5 => rfl); (case q6 => exact sizeE _))
    | (refine wpList_val (o := ⟨some 21, _, _, _, _, _⟩) rfl (.slice (some ⟨X3.heap.size, 0, none⟩) 3 3) X4 (by rw [HX4.out]; exact run_buildSlice_op (vs := #[(0, .agg (evC e91)), (1, .agg (evC e91)), (2, .agg (evC e92))]) rfl (by simp only [List.map_toArray, List.map_cons, List.map_nil]; rfl) (bs93 e91 e91 e92 X3)) ?_)
    | fail)
  refine HA4.out.mono ?_
  rintro e w5 ⟨v5, rfl, ho5, hb5⟩
  obtain ⟨g5, cap5, cur5, rfl, hg5, _⟩ := ho5.block (by simp)
  simp only [List.length_cons, List.length_nil, Nat.zero_add, Nat.reduceAdd] at ho5 ⊢
  obtain ⟨X5, hX5⟩ : ∃ X, X = w5.alloc (.cells (vA f9) 27) := ⟨_, rfl⟩
  have hbX5 : Below w5.heap.size w5 X5 := by rw [hX5]; exact (Below.refl _ _).alloc (Nat.le_refl _) _
  have HV5 := Lib.hid (show VB X5 w5.heap.size f9 by rw [hX5]; exact VB.new_ _ rfl)
  have HAl5 := Lib.hid fun c => World.setRow_alloc_new w5 (vA fun _ => 0) c 27
  have HZ5 := Lib.hid (show Blk (w5.alloc (.cells (vA fun _ => 0) 27)) w5.heap.size 27 (vA fun _ => 0) from Blk.new _ _ _)
  have HX5 := Lib.hid hX5
  have HO5 := Lib.hid (ho5.keep hbX5)
  have hb45 := hb5.trans (hbX5.mono hb5.size)
  have HE15 := Lib.hid (HE14.out.keep hb45)
  have HE25 := Lib.hid (HE24.out.keep hb45)
  have HY5 := Lib.hid (HY4.out.trans (hb45.mono HY4.out.size))
  obtain ⟨X6, hX6⟩ : ∃ X, X = X5.alloc (.cells ([e92, e91].flatMap encE).toArray 39) := ⟨_, rfl⟩
  have hb6 : Below X5.heap.size X5 X6 := by rw [hX6]; exact (Below.refl _ _).alloc (Nat.le_refl _) _
  have hsl6 : SlK encE 27 X6 (.slice (some ⟨X5.heap.size, 0, none⟩) 2 2) [e92, e91] := sl_events [e92, e91] (by rw [hX6]; exact Blk.new _ _ _)
  have HX6 := Lib.hid hX6
  have HS6 := Lib.hid (sort2_any e92 e91 _ _ 2 X6 hsl6 cmp9)
  have HO6 := Lib.hid (HO5.out.keep hb6)
  have HV6 := Lib.hid (HV5.out.keep hb6)
  have HE16 := Lib.hid (HE15.out.keep hb6)
  have HE26 := Lib.hid (HE25.out.keep hb6)
  have HY6 := Lib.hid (HY5.out.trans (hb6.mono HY5.out.size))
  clear ho5 hb5 hg5 hX5 hbX5 hb45 hX6 hb6 hsl6
  go_upto_region 5 with (first
    | (refine wpList_store_row (o := ⟨none, _, _, _, _, _⟩) rfl 27 (.tmp 5) (.tmp 24) rfl w5.heap.size (vA f9) rfl rfl _ _ HZ5.out (sizeV _) (by rw [vA_size, vA_size]) (vA_one _) ?_; rw [HAl5.out, ← HX5.out])
    | fail)
  clear hzv
  go_wp2_with (first
    | (refine' wpList_load_if ?q1 39 (.tmp 2) ?q2 (g + 1) ?q3 _ _ _ _ ?q4 Try.underlying39 ?q5 ?q6 ?_; (case q2 => rfl); (case q1 => rfl); (case q3 => rfl); (case q4 => exact HE15.out); (case q5 => rfl); (case q6 => exact sizeE _))
    | (refine' wpList_load_if ?q1 39 (.tmp 3) ?q2 (g + 2) ?q3 _ _ _ _ ?q4 Try.underlying39 ?q5 ?q6 ?_; (case q2 => rfl); (case q1 => rfl); (case q3 => rfl); (case q4 => exact HE25.out); (case q5 => rfl); (case q6 => exact sizeE _))
    | (refine wpList_val (o := ⟨some 28, _, _, _, _, _⟩) rfl (.slice (some ⟨X5.heap.size, 0, none⟩) 2 2) X6 (by rw [HX6.out]; exact run_buildSlice_op (vs := #[(0, .agg (evC e92)), (1, .agg (evC e91))]) rfl (by simp only [List.map_toArray, List.map_cons, List.map_nil]; rfl) (bs9 e92 e91 X5)) ?_)
    | fail)
  refine HS6.out.mono ?_
  rintro e w7 ⟨g7, cap7, rfl, ho7, hb7⟩
  have HO7 := Lib.hid ho7
  have HO4 := Lib.hid (HO6.out.keep hb7)
  have HV7 := Lib.hid (HV6.out.keep hb7)
  have HE17 := Lib.hid (HE16.out.keep hb7)
  have HE27 := Lib.hid (HE26.out.keep hb7)
  have HY7 := Lib.hid (HY6.out.trans (hb7.mono HY6.out.size))
  have HC7 := Lib.hid (HCw.out.below HY7.out)
  clear ho7 hb7
  obtain ⟨r5, hr5⟩ : ∃ r5, w5.heap.size = r5 := ⟨_, rfl⟩
  rw [hr5] at HV7 ⊢
  clear hr5 HV6 HV5 HZ5 HAl5
  go_upto_region 6 with fail
  refine wp_region_any (by kernel_rfl) ?_
  refine wpAny_below (fun i uq wq => if i = 40 then ∃ gs, uq = .slice (some ⟨gs, 0, none⟩) 2 2 ∧ SlK encE 27 wq (.slice (some ⟨gs, 0, none⟩) 2 2) [e91, e92] else if i = 45 then ∃ gs, uq = .slice (some ⟨gs, 0, none⟩) 1 1 ∧ SlK encE 27 wq (.slice (some ⟨gs, 0, none⟩) 1 1) [e92] else if i = 52 then ∃ A c, uq = .slice A 1 c else uq = ([.agg (vA z9), evV e92, .int .i64 8, .bool true, .bool true, .agg (vA p9), evV e91, .int .i64 5, .bool true, .bool true, .bool true, .agg (vA z9), evV ev0, .int .i64 1, .bool true, .bool true, .bool true, .slice (some ⟨g5, 0, none⟩) 2 cap5, .int .i64 2, .bool true, .bool true, .bool true, .agg (vA f9), .agg (vA q9), .bool true, .bool true, .bool true, .int .i64 0, .bool true, .bool true, .bool true, .slice (some ⟨g7, 0, none⟩) 2 cap7, .pointer (some ⟨g7, 0, none⟩), evV e91, evV e91, .bool true, .bool true, .bool true, evV e91, evV e92, undef, .bool true, .bool true, .bool true, evV e92, undef, .bool false, .bool true, .bool true, .bool true, .agg (vA p9), .slice (some ⟨g5, 0, none⟩) 2 cap5, undef, .int .i64 1, .bool true, .bool true, .bool true] : List Value).getD i undef) _ w7 (by kernel_rfl) (by kernel_rfl) (by kernel_rfl) ?_ ?_ ?_
  · intro i v w w' hb hp
    by_cases h5 : i = 40
    · rw [if_pos h5] at hp ⊢
      obtain ⟨n, h1, h2⟩ := hp
      exact ⟨n, h1, h2.below hb⟩
    · rw [if_neg h5] at hp ⊢
      by_cases h6 : i = 45
      · rw [if_pos h6] at hp ⊢
        obtain ⟨n, h1, h2⟩ := hp
        exact ⟨n, h1, h2.below hb⟩
      · rw [if_neg h6] at hp ⊢
        exact hp
  · refine ⟨?_, ?_, ?_, ?_, ?_, ?_, ?_, ?_, ?_, ?_, ?_, ?_, ?_, ?_, ?_, ?_, ?_, ?_, ?_, ?_, ?_, ?_, ?_, ?_, ?_, ?_, ?_, ?_, ?_, ?_, ?_, ?_, ?_, ?_, ?_, ?_, ?_, ?_, ?_, ?_, ?_, ?_, ?_, ?_, ?_, ?_, ?_, ?_, ?_, ?_, ?_, ?_, ?_, ?_, ?_, ?_, ?_, trivial⟩
    · intro a W hI hun haft hi
      exact b_same hi hI rfl (.agg (vA z9)) (by kernel_rfl) rfl
    · intro a W hI hun haft hi
      have e3 : a.eval (.tmp 3) = .pointer (some ⟨g + 2, 0, none⟩) := hun 3 (by kernel_rfl)
      exact b_same hi hI rfl _ (run_load_op rfl e3 (EB.keep HE27.out hI) Try.underlying39 rfl (sizeE _)) rfl
    · intro a W hI hun haft hi
      have f0 : a.eval (.tmp 30) = .agg (vA z9) := haft ⟨0, .data⟩ (by simp) rfl _ _ rfl rfl
      have f1 : a.eval (.tmp 31) = evV e92 := haft ⟨1, .data⟩ (by simp) rfl _ _ rfl rfl
      refine b_call hi hI rfl _ _ (run_call_op (args := #[.agg (vA z9), evV e92]) rfl (by simp [f0, f1]) (by kernel_rfl)) ?_
      exact (one_is8 z9 e92 8 (by decide +kernel) len92 W (HC7.out.below hI)).mono fun e w' H => ⟨_, H.1, rfl, H.2⟩
    · intro a W hI hun haft hi
      have f2 : a.eval (.tmp 32) = .int .i64 8 := haft ⟨2, .data⟩ (by simp) rfl _ _ rfl rfl
      exact b_same hi hI rfl (.bool true) (run_bin_op rfl f2 rfl (guardI _ _ _ _ _ _ _) (eqE _ _ true rfl _)) rfl
    · intro a W hI hun haft hi
      have f3 : a.eval (.tmp 33) = .bool true := haft ⟨3, .data⟩ (by simp) rfl _ _ rfl rfl
      exact b_same hi hI rfl _ (run_move_op rfl f3) rfl
    · intro a W hI hun haft hi
      have fg : a.eval (.tmp 34) = .bool true := haft ⟨4, .guard⟩ (by simp) rfl _ _ rfl rfl
      exact b_same hi hI (guard_ok rfl rfl rfl fg) (.agg (vA p9)) (by kernel_rfl) rfl
    · intro a W hI hun haft hi
      have fg : a.eval (.tmp 34) = .bool true := haft ⟨4, .guard⟩ (by simp) rfl _ _ rfl rfl
      have e2 : a.eval (.tmp 2) = .pointer (some ⟨g + 1, 0, none⟩) := hun 2 (by kernel_rfl)
      exact b_same hi hI (guard_ok rfl rfl rfl fg) _ (run_load_op rfl e2 (EB.keep HE17.out hI) Try.underlying39 rfl (sizeE _)) rfl
    · intro a W hI hun haft hi
      have fg : a.eval (.tmp 34) = .bool true := haft ⟨4, .guard⟩ (by simp) rfl _ _ rfl rfl
      have f5 : a.eval (.tmp 35) = .agg (vA p9) := haft ⟨5, .data⟩ (by simp) rfl _ _ rfl rfl
      have f6 : a.eval (.tmp 36) = evV e91 := haft ⟨6, .data⟩ (by simp) rfl _ _ rfl rfl
      refine b_call hi hI (guard_ok rfl rfl rfl fg) _ _ (run_call_op (args := #[.agg (vA p9), evV e91]) rfl (by simp [f5, f6]) (by kernel_rfl)) ?_
      exact (one_is8 p9 e91 5 (by decide +kernel) len91 W (HC7.out.below hI)).mono fun e w' H => ⟨_, H.1, rfl, H.2⟩
    · intro a W hI hun haft hi
      have fg : a.eval (.tmp 34) = .bool true := haft ⟨4, .guard⟩ (by simp) rfl _ _ rfl rfl
      have f7 : a.eval (.tmp 37) = .int .i64 5 := haft ⟨7, .data⟩ (by simp) rfl _ _ rfl rfl
      exact b_same hi hI (guard_ok rfl rfl rfl fg) (.bool true) (run_bin_op rfl f7 rfl (guardI _ _ _ _ _ _ _) (eqE _ _ true rfl _)) rfl
    · intro a W hI hun haft hi
      have f4 : a.eval (.tmp 34) = .bool true := haft ⟨4, .data⟩ (by simp) rfl _ _ rfl rfl
      have f8 : a.eval (.tmp 38) = .bool true := haft ⟨8, .data⟩ (by simp) rfl _ _ rfl rfl
      exact b_same hi hI rfl _ (run_pick_op (b := true) rfl f4 f8 rfl) rfl
    · intro a W hI hun haft hi
      have f9 : a.eval (.tmp 39) = .bool true := haft ⟨9, .data⟩ (by simp) rfl _ _ rfl rfl
      exact b_same hi hI rfl _ (run_move_op rfl f9) rfl
    · intro a W hI hun haft hi
      have fg : a.eval (.tmp 40) = .bool true := haft ⟨10, .guard⟩ (by simp) rfl _ _ rfl rfl
      exact b_same hi hI (guard_ok rfl rfl rfl fg) (.agg (vA z9)) (by kernel_rfl) rfl
    · intro a W hI hun haft hi
      have fg : a.eval (.tmp 40) = .bool true := haft ⟨10, .guard⟩ (by simp) rfl _ _ rfl rfl
      exact b_same hi hI (guard_ok rfl rfl rfl fg) (evV ev0) (by kernel_rfl) rfl
    · intro a W hI hun haft hi
      have fg : a.eval (.tmp 40) = .bool true := haft ⟨10, .guard⟩ (by simp) rfl _ _ rfl rfl
      have f11 : a.eval (.tmp 41) = .agg (vA z9) := haft ⟨11, .data⟩ (by simp) rfl _ _ rfl rfl
      have f12 : a.eval (.tmp 42) = evV ev0 := haft ⟨12, .data⟩ (by simp) rfl _ _ rfl rfl
      refine b_call hi hI (guard_ok rfl rfl rfl fg) _ _ (run_call_op (args := #[.agg (vA z9), evV ev0]) rfl (by simp [f11, f12]) (by kernel_rfl)) ?_
      exact (one_is8 z9 ev0 1 (by decide +kernel) len90 W (HC7.out.below hI)).mono fun e w' H => ⟨_, H.1, rfl, H.2⟩
    · intro a W hI hun haft hi
      have fg : a.eval (.tmp 40) = .bool true := haft ⟨10, .guard⟩ (by simp) rfl _ _ rfl rfl
      have f13 : a.eval (.tmp 43) = .int .i64 1 := haft ⟨13, .data⟩ (by simp) rfl _ _ rfl rfl
      exact b_same hi hI (guard_ok rfl rfl rfl fg) (.bool true) (run_bin_op rfl f13 rfl (guardI _ _ _ _ _ _ _) (eqE _ _ true rfl _)) rfl
    · intro a W hI hun haft hi
      have f10 : a.eval (.tmp 40) = .bool true := haft ⟨10, .data⟩ (by simp) rfl _ _ rfl rfl
      have f14 : a.eval (.tmp 44) = .bool true := haft ⟨14, .data⟩ (by simp) rfl _ _ rfl rfl
      exact b_same hi hI rfl _ (run_pick_op (b := true) rfl f10 f14 rfl) rfl
    · intro a W hI hun haft hi
      have f15 : a.eval (.tmp 45) = .bool true := haft ⟨15, .data⟩ (by simp) rfl _ _ rfl rfl
      exact b_same hi hI rfl _ (run_move_op rfl f15) rfl
    · intro a W hI hun haft hi
      have fg : a.eval (.tmp 46) = .bool true := haft ⟨16, .guard⟩ (by simp) rfl _ _ rfl rfl
      have e4 : a.eval (.tmp 4) = .slice (some ⟨g5, 0, none⟩) 2 cap5 := hun 4 (by kernel_rfl)
      exact b_same hi hI (guard_ok rfl rfl rfl fg) _ (run_move_op rfl e4) rfl
    · intro a W hI hun haft hi
      have fg : a.eval (.tmp 46) = .bool true := haft ⟨16, .guard⟩ (by simp) rfl _ _ rfl rfl
      have f17 : a.eval (.tmp 47) = .slice (some ⟨g5, 0, none⟩) 2 cap5 := haft ⟨17, .data⟩ (by simp) rfl _ _ rfl rfl
      exact b_same hi hI (guard_ok rfl rfl rfl fg) _ (run_len_op Try.underlying22 rfl f17) rfl
    · intro a W hI hun haft hi
      have fg : a.eval (.tmp 46) = .bool true := haft ⟨16, .guard⟩ (by simp) rfl _ _ rfl rfl
      have f18 : a.eval (.tmp 48) = .int .i64 2 := haft ⟨18, .data⟩ (by simp) rfl _ _ rfl rfl
      exact b_same hi hI (guard_ok rfl rfl rfl fg) (.bool true) (run_bin_op rfl f18 rfl (guardI _ _ _ _ _ _ _) (run_eqi (q := true) rfl _)) rfl
    · intro a W hI hun haft hi
      have f16 : a.eval (.tmp 46) = .bool true := haft ⟨16, .data⟩ (by simp) rfl _ _ rfl rfl
      have f19 : a.eval (.tmp 49) = .bool true := haft ⟨19, .data⟩ (by simp) rfl _ _ rfl rfl
      exact b_same hi hI rfl _ (run_pick_op (b := true) rfl f16 f19 rfl) rfl
    · intro a W hI hun haft hi
      have f20 : a.eval (.tmp 50) = .bool true := haft ⟨20, .data⟩ (by simp) rfl _ _ rfl rfl
      exact b_same hi hI rfl _ (run_move_op rfl f20) rfl
    · intro a W hI hun haft hi
      have fg : a.eval (.tmp 51) = .bool true := haft ⟨21, .guard⟩ (by simp) rfl _ _ rfl rfl
      have e5 : a.eval (.tmp 5) = .pointer (some ⟨r5, 0, none⟩) := hun 5 (by kernel_rfl)
      exact b_same hi hI (guard_ok rfl rfl rfl fg) _ (run_load_op rfl e5 (VB.keep HV7.out hI) Try.underlying27 rfl (sizeV _)) rfl
    · intro a W hI hun haft hi
      have fg : a.eval (.tmp 51) = .bool true := haft ⟨21, .guard⟩ (by simp) rfl _ _ rfl rfl
      exact b_same hi hI (guard_ok rfl rfl rfl fg) (.agg (vA q9)) (by kernel_rfl) rfl
    · intro a W hI hun haft hi
      have fg : a.eval (.tmp 51) = .bool true := haft ⟨21, .guard⟩ (by simp) rfl _ _ rfl rfl
      have f22 : a.eval (.tmp 52) = .agg (vA f9) := haft ⟨22, .data⟩ (by simp) rfl _ _ rfl rfl
      have f23 : a.eval (.tmp 53) = .agg (vA q9) := haft ⟨23, .data⟩ (by simp) rfl _ _ rfl rfl
      exact b_same hi hI (guard_ok rfl rfl rfl fg) (.bool true) (run_bin_op rfl f22 f23 (by kernel_rfl) ((run_eqV _ f9 q9).trans (by rw [show eqV f9 q9 = true by decide +kernel]))) rfl
    · intro a W hI hun haft hi
      have f21 : a.eval (.tmp 51) = .bool true := haft ⟨21, .data⟩ (by simp) rfl _ _ rfl rfl
      have f24 : a.eval (.tmp 54) = .bool true := haft ⟨24, .data⟩ (by simp) rfl _ _ rfl rfl
      exact b_same hi hI rfl _ (run_pick_op (b := true) rfl f21 f24 rfl) rfl
    · intro a W hI hun haft hi
      have f25 : a.eval (.tmp 55) = .bool true := haft ⟨25, .data⟩ (by simp) rfl _ _ rfl rfl
      exact b_same hi hI rfl _ (run_move_op rfl f25) rfl
    · intro a W hI hun haft hi
      have fg : a.eval (.tmp 56) = .bool true := haft ⟨26, .guard⟩ (by simp) rfl _ _ rfl rfl
      have e6 : a.eval (.tmp 6) = .int .i64 0 := hun 6 (by kernel_rfl)
      exact b_same hi hI (guard_ok rfl rfl rfl fg) _ (run_move_op rfl e6) rfl
    · intro a W hI hun haft hi
      have fg : a.eval (.tmp 56) = .bool true := haft ⟨26, .guard⟩ (by simp) rfl _ _ rfl rfl
      have f27 : a.eval (.tmp 57) = .int .i64 0 := haft ⟨27, .data⟩ (by simp) rfl _ _ rfl rfl
      exact b_same hi hI (guard_ok rfl rfl rfl fg) (.bool true) (run_bin_op rfl f27 rfl (guardI _ _ _ _ _ _ _) (eqE _ _ true rfl _)) rfl
    · intro a W hI hun haft hi
      have f26 : a.eval (.tmp 56) = .bool true := haft ⟨26, .data⟩ (by simp) rfl _ _ rfl rfl
      have f28 : a.eval (.tmp 58) = .bool true := haft ⟨28, .data⟩ (by simp) rfl _ _ rfl rfl
      exact b_same hi hI rfl _ (run_pick_op (b := true) rfl f26 f28 rfl) rfl
    · intro a W hI hun haft hi
      have f29 : a.eval (.tmp 59) = .bool true := haft ⟨29, .data⟩ (by simp) rfl _ _ rfl rfl
      exact b_same hi hI rfl _ (run_move_op rfl f29) rfl
    · intro a W hI hun haft hi
      have fg : a.eval (.tmp 60) = .bool true := haft ⟨30, .guard⟩ (by simp) rfl _ _ rfl rfl
      have e7 : a.eval (.tmp 7) = .slice (some ⟨g7, 0, none⟩) 2 cap7 := hun 7 (by kernel_rfl)
      exact b_same hi hI (guard_ok rfl rfl rfl fg) _ (run_move_op rfl e7) rfl
    · intro a W hI hun haft hi
      have fg : a.eval (.tmp 60) = .bool true := haft ⟨30, .guard⟩ (by simp) rfl _ _ rfl rfl
      have f31 : a.eval (.tmp 61) = .slice (some ⟨g7, 0, none⟩) 2 cap7 := haft ⟨31, .data⟩ (by simp) rfl _ _ rfl rfl
      exact b_same hi hI (guard_ok rfl rfl rfl fg) _ (run_indexAddr_op rfl f31 rfl (at_E0 g7 cap7 _)) rfl
    · intro a W hI hun haft hi
      have fg : a.eval (.tmp 60) = .bool true := haft ⟨30, .guard⟩ (by simp) rfl _ _ rfl rfl
      have f32 : a.eval (.tmp 62) = .pointer (some ⟨g7, 0, none⟩) := haft ⟨32, .data⟩ (by simp) rfl _ _ rfl rfl
      exact b_same hi hI (guard_ok rfl rfl rfl fg) _ (run_loadmid_op rfl f32 (show W.rangeAt g7 0 (encE e91) from (show TwoAt W w.heap.size g7 cap7 e91 e92 W from ⟨(HO7.out.keep hI).base_ HY6.out.size, Out.refl _ _⟩).r0) Try.underlying39 rfl (sizeE e91)) rfl
    · intro a W hI hun haft hi
      have fg : a.eval (.tmp 60) = .bool true := haft ⟨30, .guard⟩ (by simp) rfl _ _ rfl rfl
      have e2 : a.eval (.tmp 2) = .pointer (some ⟨g + 1, 0, none⟩) := hun 2 (by kernel_rfl)
      exact b_same hi hI (guard_ok rfl rfl rfl fg) _ (run_load_op rfl e2 (EB.keep HE17.out hI) Try.underlying39 rfl (sizeE _)) rfl
    · intro a W hI hun haft hi
      have fg : a.eval (.tmp 60) = .bool true := haft ⟨30, .guard⟩ (by simp) rfl _ _ rfl rfl
      have f33 : a.eval (.tmp 63) = evV e91 := haft ⟨33, .data⟩ (by simp) rfl _ _ rfl rfl
      have f34 : a.eval (.tmp 64) = evV e91 := haft ⟨34, .data⟩ (by simp) rfl _ _ rfl rfl
      exact b_same hi hI (guard_ok rfl rfl rfl fg) (.bool true) (run_bin_op rfl f33 f34 (by kernel_rfl) (eq_event e91 _)) rfl
    · intro a W hI hun haft hi
      have f30 : a.eval (.tmp 60) = .bool true := haft ⟨30, .data⟩ (by simp) rfl _ _ rfl rfl
      have f35 : a.eval (.tmp 65) = .bool true := haft ⟨35, .data⟩ (by simp) rfl _ _ rfl rfl
      exact b_same hi hI rfl _ (run_pick_op (b := true) rfl f30 f35 rfl) rfl
    · intro a W hI hun haft hi
      have f36 : a.eval (.tmp 66) = .bool true := haft ⟨36, .data⟩ (by simp) rfl _ _ rfl rfl
      exact b_same hi hI rfl _ (run_move_op rfl f36) rfl
    · intro a W hI hun haft hi
      have fg : a.eval (.tmp 67) = .bool true := haft ⟨37, .guard⟩ (by simp) rfl _ _ rfl rfl
      have e2 : a.eval (.tmp 2) = .pointer (some ⟨g + 1, 0, none⟩) := hun 2 (by kernel_rfl)
      exact b_same hi hI (guard_ok rfl rfl rfl fg) _ (run_load_op rfl e2 (EB.keep HE17.out hI) Try.underlying39 rfl (sizeE _)) rfl
    · intro a W hI hun haft hi
      have fg : a.eval (.tmp 67) = .bool true := haft ⟨37, .guard⟩ (by simp) rfl _ _ rfl rfl
      have e3 : a.eval (.tmp 3) = .pointer (some ⟨g + 2, 0, none⟩) := hun 3 (by kernel_rfl)
      exact b_same hi hI (guard_ok rfl rfl rfl fg) _ (run_load_op rfl e3 (EB.keep HE27.out hI) Try.underlying39 rfl (sizeE _)) rfl
    · intro a W hI hun haft hi
      have fg : a.eval (.tmp 67) = .bool true := haft ⟨37, .guard⟩ (by simp) rfl _ _ rfl rfl
      have f38 : a.eval (.tmp 68) = evV e91 := haft ⟨38, .data⟩ (by simp) rfl _ _ rfl rfl
      have f39 : a.eval (.tmp 69) = evV e92 := haft ⟨39, .data⟩ (by simp) rfl _ _ rfl rfl
      exact b_val hi hI (guard_ok rfl rfl rfl fg) _ _ (run_buildSlice_op (vs := #[(0, .agg (evC e91)), (1, .agg (evC e92))]) rfl (by simp only [List.map_toArray, List.map_cons, List.map_nil, f38, f39]; rfl) (bs9 e91 e92 _)) ((Below.refl _ _).alloc (Nat.le_refl _) _) ⟨_, rfl, sl_events [e91, e92] (Blk.new _ _ _)⟩
    · intro a W hI hun haft hi
      have fg : a.eval (.tmp 67) = .bool true := haft ⟨37, .guard⟩ (by simp) rfl _ _ rfl rfl
      obtain ⟨gs, fs, hs⟩ : ∃ gs, a.eval (.tmp 70) = .slice (some ⟨gs, 0, none⟩) 2 2 ∧ SlK encE 27 W (.slice (some ⟨gs, 0, none⟩) 2 2) [e91, e92] := haft ⟨40, .data⟩ (by simp) rfl _ _ rfl rfl
      refine b_call hi hI (guard_ok rfl rfl rfl fg) _ _ (run_call_op (args := #[.slice (some ⟨gs, 0, none⟩) 2 2]) rfl (by simp [fs]) (by kernel_rfl)) ?_
      have hr := row8_any [e91, e92] _ 2 2 W hs rfl (by decide) (fun e he => by
        simp only [List.mem_cons, List.not_mem_nil, or_false] at he
        rcases he with rfl | rfl
        · exact len91
        · exact len92) (HC7.out.below hI)
      rw [row91] at hr
      exact hr.mono fun e w' H => ⟨_, H.1, rfl, H.2⟩
    · intro a W hI hun haft hi
      have f37 : a.eval (.tmp 67) = .bool true := haft ⟨37, .data⟩ (by simp) rfl _ _ rfl rfl
      have f41 : a.eval (.tmp 71) = .bool true := haft ⟨41, .data⟩ (by simp) rfl _ _ rfl rfl
      exact b_same hi hI rfl _ (run_pick_op (b := true) rfl f37 f41 rfl) rfl
    · intro a W hI hun haft hi
      have f42 : a.eval (.tmp 72) = .bool true := haft ⟨42, .data⟩ (by simp) rfl _ _ rfl rfl
      exact b_same hi hI rfl _ (run_move_op rfl f42) rfl
    · intro a W hI hun haft hi
      have fg : a.eval (.tmp 73) = .bool true := haft ⟨43, .guard⟩ (by simp) rfl _ _ rfl rfl
      have e3 : a.eval (.tmp 3) = .pointer (some ⟨g + 2, 0, none⟩) := hun 3 (by kernel_rfl)
      exact b_same hi hI (guard_ok rfl rfl rfl fg) _ (run_load_op rfl e3 (EB.keep HE27.out hI) Try.underlying39 rfl (sizeE _)) rfl
    · intro a W hI hun haft hi
      have fg : a.eval (.tmp 73) = .bool true := haft ⟨43, .guard⟩ (by simp) rfl _ _ rfl rfl
      have f44 : a.eval (.tmp 74) = evV e92 := haft ⟨44, .data⟩ (by simp) rfl _ _ rfl rfl
      exact b_val hi hI (guard_ok rfl rfl rfl fg) _ _ (run_buildSlice_op (vs := #[(0, .agg (evC e92))]) rfl (by simp only [List.map_toArray, List.map_cons, List.map_nil, f44]; rfl) (bs91 e92 _)) ((Below.refl _ _).alloc (Nat.le_refl _) _) ⟨_, rfl, sl_events [e92] (Blk.new _ _ _)⟩
    · intro a W hI hun haft hi
      have fg : a.eval (.tmp 73) = .bool true := haft ⟨43, .guard⟩ (by simp) rfl _ _ rfl rfl
      obtain ⟨gs, fs, hs⟩ : ∃ gs, a.eval (.tmp 75) = .slice (some ⟨gs, 0, none⟩) 1 1 ∧ SlK encE 27 W (.slice (some ⟨gs, 0, none⟩) 1 1) [e92] := haft ⟨45, .data⟩ (by simp) rfl _ _ rfl rfl
      refine b_call hi hI (guard_ok rfl rfl rfl fg) _ _ (run_call_op (args := #[.slice (some ⟨gs, 0, none⟩) 1 1]) rfl (by simp [fs]) (by kernel_rfl)) ?_
      have hr := row8_any [e92] _ 1 1 W hs rfl (by decide) (fun e he => by
        simp only [List.mem_cons, List.not_mem_nil, or_false] at he
        rcases he with rfl
        exact len92) (HC7.out.below hI)
      rw [row92] at hr
      exact hr.mono fun e w' H => ⟨_, H.1, rfl, H.2⟩
    · intro a W hI hun haft hi
      have fg : a.eval (.tmp 73) = .bool true := haft ⟨43, .guard⟩ (by simp) rfl _ _ rfl rfl
      have f46 : a.eval (.tmp 76) = .bool false := haft ⟨46, .data⟩ (by simp) rfl _ _ rfl rfl
      exact b_same hi hI (guard_ok rfl rfl rfl fg) _ (run_not_op rfl f46) rfl
    · intro a W hI hun haft hi
      have f43 : a.eval (.tmp 73) = .bool true := haft ⟨43, .data⟩ (by simp) rfl _ _ rfl rfl
      have f47 : a.eval (.tmp 77) = .bool true := haft ⟨47, .data⟩ (by simp) rfl _ _ rfl rfl
      exact b_same hi hI rfl _ (run_pick_op (b := true) rfl f43 f47 rfl) rfl
    · intro a W hI hun haft hi
      have f48 : a.eval (.tmp 78) = .bool true := haft ⟨48, .data⟩ (by simp) rfl _ _ rfl rfl
      exact b_same hi hI rfl _ (run_move_op rfl f48) rfl
    · intro a W hI hun haft hi
      have fg : a.eval (.tmp 79) = .bool true := haft ⟨49, .guard⟩ (by simp) rfl _ _ rfl rfl
      exact b_same hi hI (guard_ok rfl rfl rfl fg) (.agg (vA p9)) (by kernel_rfl) rfl
    · intro a W hI hun haft hi
      have fg : a.eval (.tmp 79) = .bool true := haft ⟨49, .guard⟩ (by simp) rfl _ _ rfl rfl
      have e4 : a.eval (.tmp 4) = .slice (some ⟨g5, 0, none⟩) 2 cap5 := hun 4 (by kernel_rfl)
      exact b_same hi hI (guard_ok rfl rfl rfl fg) _ (run_move_op rfl e4) rfl
    · intro a W hI hun haft hi
      have fg : a.eval (.tmp 79) = .bool true := haft ⟨49, .guard⟩ (by simp) rfl _ _ rfl rfl
      have f50 : a.eval (.tmp 80) = .agg (vA p9) := haft ⟨50, .data⟩ (by simp) rfl _ _ rfl rfl
      have f51 : a.eval (.tmp 81) = .slice (some ⟨g5, 0, none⟩) 2 cap5 := haft ⟨51, .data⟩ (by simp) rfl _ _ rfl rfl
      refine b_call hi hI (guard_ok rfl rfl rfl fg) _ _ (run_call_op (args := #[.agg (vA p9), .slice (some ⟨g5, 0, none⟩) 2 cap5]) rfl (by simp [f50, f51]) (by kernel_rfl)) ?_
      have hr := lacks_any [e91, e92] _ 2 cap5 p9 W ((HO4.out.keep hI).read encE_len) rfl (by decide)
      rw [lack9] at hr
      refine hr.mono ?_
      rintro e w' ⟨v, h1, h2, h3⟩
      obtain ⟨A, c, hv, _⟩ := h2.read encE_len
      exact ⟨v, h1, ⟨A, c, hv⟩, h3⟩
    · intro a W hI hun haft hi
      have fg : a.eval (.tmp 79) = .bool true := haft ⟨49, .guard⟩ (by simp) rfl _ _ rfl rfl
      obtain ⟨A, c, fs⟩ : ∃ A c, a.eval (.tmp 82) = .slice A 1 c := haft ⟨52, .data⟩ (by simp) rfl _ _ rfl rfl
      exact b_same hi hI (guard_ok rfl rfl rfl fg) _ (run_len_op Try.underlying22 rfl fs) rfl
    · intro a W hI hun haft hi
      have fg : a.eval (.tmp 79) = .bool true := haft ⟨49, .guard⟩ (by simp) rfl _ _ rfl rfl
      have f53 : a.eval (.tmp 83) = .int .i64 1 := haft ⟨53, .data⟩ (by simp) rfl _ _ rfl rfl
      exact b_same hi hI (guard_ok rfl rfl rfl fg) (.bool true) (run_bin_op rfl f53 rfl (guardI _ _ _ _ _ _ _) (run_eqi (q := true) rfl _)) rfl
    · intro a W hI hun haft hi
      have f49 : a.eval (.tmp 79) = .bool true := haft ⟨49, .data⟩ (by simp) rfl _ _ rfl rfl
      have f54 : a.eval (.tmp 84) = .bool true := haft ⟨54, .data⟩ (by simp) rfl _ _ rfl rfl
      exact b_same hi hI rfl _ (run_pick_op (b := true) rfl f49 f54 rfl) rfl
    · intro a W hI hun haft hi
      have f55 : a.eval (.tmp 85) = .bool true := haft ⟨55, .data⟩ (by simp) rfl _ _ rfl rfl
      exact b_same hi hI rfl _ (run_assign_op rfl f55) rfl
  · intro vals W hI hp
    have hl56 : vals 56 = .bool true := hp 56 (by decide)
    have HI := Lib.hid hI
    clear hp hI
    simp only [layN, List.size_toArray, List.length_cons, List.length_nil, List.range, List.range.loop, if_true, List.getElem?_toArray, List.getElem?_cons_zero, List.getElem?_cons_succ, Act.put, List.setIfInBounds_toArray, List.set_cons_zero, List.set_cons_succ, Nat.zero_add, Nat.reduceAdd, hl56]
    clear hl56
    go_wp2
    go_ret
    exact ⟨rfl, HY7.out.trans (HI.out.mono HY7.out.size)⟩

end Go.Proofs.Ytmhechlfpaciiaa

namespace Go.Proofs.Ytmhechlfpaciiaa
open Go.RowKit Go.MapKept Go.Sort

def few9B (l : List Ev) : Bool := l.all shortB && decide (l.length ≤ 80)
theorem few9B_no {l : List Ev} {j : Nat} {e : Ev} (hj : l[j]? = some e) (h : shortB e = false) : few9B l = false := by
  unfold few9B
  rw [Bool.and_eq_false_iff]
  exact .inl (List.all_eq_false.2 ⟨e, List.mem_of_getElem? hj, by simp [h]⟩)
theorem few9B_yes {l : List Ev} (h : ∀ (k : Nat) (e : Ev), l[k]? = some e → shortB e = true) : few9B l = decide (l.length ≤ 80) := by
  unfold few9B
  rw [List.all_eq_true.2 (fun e he => by
    obtain ⟨k, hk⟩ := List.getElem?_of_mem he
    exact h k e hk), Bool.true_and]
set_option maxRecDepth 100000 in
set_option maxHeartbeats 2000000 in
theorem few9_any (l : List Ev) (A : Option Addr) (N c : Nat) (w : World) (hs : SlK encE 27 w (.slice A N c) l) (hN : l.length = N) (hN2 : N ≤ 4611686018427387903) (hf : ∀ e ∈ l, Fit e) :
    Calls Try.prog 27 #[.slice A N c] w (Gives w (.bool (few9B l))) := by
  obtain ⟨b, hb⟩ : ∃ b, few9B l = b := ⟨_, rfl⟩
  rw [hb]
  have HB := Lib.hid hb
  have HS := Lib.hid hs
  have HN := Lib.hid hN
  have HN2 := Lib.hid hN2
  have HF := Lib.hid hf
  have HZe := Lib.hid (zero_of_info zeroE).1
  clear hb hs hN hN2 hf
  go_enter Try.func27, Try.ntmps27
  go_wp2_with fail
  go_loopw [7] (fun v7 wr => ∃ j : Nat, v7 = .int .i64 j ∧ j ≤ N ∧ (∀ k e, k < j → l[k]? = some e → shortB e = true) ∧ Below w.heap.size w wr) (fun v7 _ => N - (intOf v7).toNat)
  case atStart => exact ⟨0, rfl, Nat.zero_le _, fun k e hk => absurd hk (Nat.not_lt_zero _), Below.refl _ _⟩
  case round =>
    obtain ⟨j, rfl, hj, hok, hbw⟩ := hrel
    have HOk := Lib.hid hok
    have HBw := Lib.hid hbw
    clear hok hbw
    by_cases hlt : j < N
    · obtain ⟨e, he⟩ : ∃ e, l[j]? = some e := ⟨l[j]'(by rw [HN.out]; exact hlt), List.getElem?_eq_getElem _⟩
      obtain ⟨g, o, rfl, hgl, hce⟩ := (HS.out.below HBw.out).ev he
      have HCe := Lib.hid hce
      have HFe := Lib.hid (HF.out e (List.mem_of_getElem? he))
      have HAt := Lib.hid (at_Ev g o c N j hlt wr)
      have He := Lib.hid he
      have hAl := fun c => World.setRow_alloc_new wr (evC ev0) c 39
      have hZ : Blk (wr.alloc (.cells (evC ev0) 39)) wr.heap.size 39 (evC ev0) := Blk.new _ _ _
      obtain ⟨X, hX⟩ : ∃ X, X = wr.alloc (.cells (evC e) 39) := ⟨_, rfl⟩
      have hbX : Below wr.heap.size wr X := by rw [hX]; exact (Below.refl _ _).alloc (Nat.le_refl _) _
      have hBX : Blk X wr.heap.size 39 (evC e) := by rw [hX]; exact Blk.new _ _ _
      have HXe := Lib.hid hX
      have HBX := Lib.hid hBX
      have HbX := Lib.hid (HBw.out.trans (hbX.mono HBw.out.size))
      have HAl := Lib.hid hAl
      have HZz := Lib.hid hZ
      clear hX hbX hBX hce hgl he hAl hZ
      cases hsh : shortB e
      · have HSh := Lib.hid (short_is7 e HFe.out false hsh)
        have hbf : b = false := by rw [← HB.out]; exact few9B_no He.out hsh
        subst hbf
        clear hsh
        have hz := HZe.out
        go_wp2_with (first
          | (refine wpList_val (o := ⟨some 9, _, _, _, _, _⟩) rfl (.pointer (some ⟨g, o + j * 27, none⟩)) wr (run_indexAddr_op rfl rfl rfl HAt.out) ?_)
          | (refine wpList_load_midif rfl 39 (.tmp 9) rfl g (o + j * 27) rfl (encE e) _ HCe.out Try.underlying39 rfl (sizeE e) ?_)
          | (refine wpList_store_row rfl 39 (.tmp 4) (.tmp 10) rfl wr.heap.size (evC e) rfl rfl _ _ HZz.out (sizeE e) rfl (by kernel_rfl) ?_; rw [HAl.out, ← HXe.out])
          | (refine wpList_load_if rfl 39 (.tmp 4) rfl wr.heap.size rfl _ _ _ _ HBX.out Try.underlying39 rfl (sizeE e) ?_)
          | fail)
        clear hz
        refine (HSh.out X).mono ?_
        rintro e1 w2 ⟨rfl, hb2⟩
        have HE := Lib.hid (HbX.out.trans (hb2.mono HbX.out.size))
        clear hb2
        go_wp2
        go_ret
        exact ⟨rfl, HE.out⟩
      · have HSh := Lib.hid (short_is7 e HFe.out true hsh)
        have HSt := Lib.hid hsh
        clear hsh
        have hz := HZe.out
        go_wp2_with (first
          | (refine wpList_val (o := ⟨some 9, _, _, _, _, _⟩) rfl (.pointer (some ⟨g, o + j * 27, none⟩)) wr (run_indexAddr_op rfl rfl rfl HAt.out) ?_)
          | (refine wpList_load_midif rfl 39 (.tmp 9) rfl g (o + j * 27) rfl (encE e) _ HCe.out Try.underlying39 rfl (sizeE e) ?_)
          | (refine wpList_store_row rfl 39 (.tmp 4) (.tmp 10) rfl wr.heap.size (evC e) rfl rfl _ _ HZz.out (sizeE e) rfl (by kernel_rfl) ?_; rw [HAl.out, ← HXe.out])
          | (refine wpList_load_if rfl 39 (.tmp 4) rfl wr.heap.size rfl _ _ _ _ HBX.out Try.underlying39 rfl (sizeE e) ?_)
          | fail)
        clear hz
        refine (HSh.out X).mono ?_
        rintro e1 w2 ⟨rfl, hb2⟩
        have HE := Lib.hid (HbX.out.trans (hb2.mono HbX.out.size))
        clear hb2
        have hw := IntWalk.i64_in ((j : Int) + 1) (by have := HN2.out; omega)
        have hjm : ¬ 9223372036854775807 < j + 1 := by have := HN2.out; omega
        go_wp2
        go_roundw
        case rel => exact ⟨j + 1, by go_num, by omega, fun k f hk hf => by
          rcases Nat.lt_succ_iff_lt_or_eq.1 hk with h | h
          · exact HOk.out k f h hf
          · rw [h, He.out] at hf
            rw [← Option.some.inj hf]; exact HSt.out, HE.out⟩
        case measure => simp [intOf] <;> omega
    · have hjN : j = N := by omega
      subst hjN
      have hbe : decide ((j : Int) ≤ 80) = b := by
        rw [← HB.out, few9B_yes (fun k e hk => HOk.out k e (by rw [← HN.out]; exact (List.getElem?_eq_some_iff.1 hk).1) hk), HN.out]
        exact decide_eq_decide.2 (by omega)
      have HBe := Lib.hid hbe
      clear hbe
      go_wp2
      go_ret
      exact ⟨by first | (rw [HBe.out]; rfl) | (rw [← HBe.out]; rfl) | (rw [← HBe.out]; simp) | (simp [HBe.out]), HBw.out⟩

end Go.Proofs.Ytmhechlfpaciiaa

namespace Go.Proofs.Ytmhechlfpaciiaa
open Go.RowKit Go.MapKept Go.Sort

theorem run_gei {a b : Int} {q : Bool} (h : decide (b ≤ a) = q) (w : World) : (binOp .geq 3 (.int .i64 a) (.int .i64 b)).run Try.prog w = .ok (.bool q) w := by subst h; go_simp
theorem run_gti {a b : Int} {q : Bool} (h : decide (b < a) = q) (w : World) : (binOp .gtr 3 (.int .i64 a) (.int .i64 b)).run Try.prog w = .ok (.bool q) w := by subst h; go_simp
theorem oneI_far {f : Nat → Int} {e : Ev} {n : Nat} (ho : okB e = true) (hn : e.r = n) (h1 : ¬ e.c ≤ f n) (h2 : (f n == e.c - 1) = false) : oneI f e = 8 := by
  obtain ⟨m, q1, q2, q3, q4⟩ := ok_dot ho
  have hd : dotB e.r e.c = true := (dotB_iff _ _).2 ⟨m, q1, q2, q3, q4⟩
  have hk : knowsB f e.r e.c = false := by unfold knowsB; rw [hd, hn, Int.toNat_natCast, Bool.true_and]; exact decide_eq_false h1
  rw [oneI_rest ho hk]
  unfold nextB
  rw [hn, Int.toNat_natCast, h2]
  simp
theorem oneI_next {f : Nat → Int} {e : Ev} {n : Nat} (ho : okB e = true) (hn : e.r = n) (h1 : ¬ e.c ≤ f n) (h2 : (f n == e.c - 1) = true) : oneI f e = if leV e.p f then 0 else 8 := by
  obtain ⟨m, q1, q2, q3, q4⟩ := ok_dot ho
  have hd : dotB e.r e.c = true := (dotB_iff _ _).2 ⟨m, q1, q2, q3, q4⟩
  have hk : knowsB f e.r e.c = false := by unfold knowsB; rw [hd, hn, Int.toNat_natCast, Bool.true_and]; exact decide_eq_false h1
  rw [oneI_rest ho hk]
  have hx : nextB f e.r e.c = true := by
    unfold nextB
    rw [hd, hn, Int.toNat_natCast, h2]; rfl
  rw [hx, Bool.true_and]
theorem oneI_seen {f : Nat → Int} {e : Ev} {n : Nat} (ho : okB e = true) (hn : e.r = n) (h1 : e.c ≤ f n) : oneI f e = 5 := by
  obtain ⟨m, q1, q2, q3, q4⟩ := ok_dot ho
  have hd : dotB e.r e.c = true := (dotB_iff _ _).2 ⟨m, q1, q2, q3, q4⟩
  refine oneI_known ho ?_
  unfold knowsB
  rw [hd, hn, Int.toNat_natCast, Bool.true_and]
  exact decide_eq_true h1

set_option maxRecDepth 100000 in
set_option maxHeartbeats 2000000 in
theorem one9_any (f : Nat → Int) (e : Ev) (w : World) (ht : Tiny e) : Calls Try.prog 29 #[.agg (vA f), evV e] w (Gives w (.int .i64 (oneI f e))) := by
  obtain ⟨p, hp⟩ : ∃ p, w.heap.size = p := ⟨_, rfl⟩
  obtain ⟨X, hX⟩ : ∃ X, X = (w.alloc (.cells (vA f) 27)).alloc (.cells (evC e) 39) := ⟨_, rfl⟩
  have hv : VB X p f := by rw [hX, ← hp]; exact (VB.new_ f rfl).alloc_ _
  have hk : EB X (p + 1) e := by
    rw [hX, ← hp]
    have := EB.new_ (w.alloc (.cells (vA f) 27)) e
    simpa using this
  have hy : Below w.heap.size w X := by rw [hX]; exact ((Below.refl _ _).alloc (Nat.le_refl _) _).alloc (by simp) _
  have HX := Lib.hid hX
  have HP := Lib.hid hp
  have HV := Lib.hid hv
  have K := Lib.hid hk
  have HY := Lib.hid hy
  have HT := Lib.hid ht
  clear hX hp hv hk hy ht
  cases ho : okB e
  · have HOk := Lib.hid ho
    rw [oneI_bad ho]
    clear ho
    unfold evV at *
    go_enter Try.func29, Try.ntmps29
    go_upto_region 1 with fail
    rw [← HX.out, HP.out]
    go_wp2_with (first
      | (refine' wpList_load_if ?q1 39 (.tmp 3) ?q2 (p + 1) ?q3 _ _ _ _ ?q4 Try.underlying39 ?q5 ?q6 ?_; (case q2 => rfl); (case q1 => rfl); (case q3 => rfl); (case q4 => exact K.out); (case q5 => rfl); (case q6 => exact sizeE _))
      | fail)
    refine (refright_is7 e HT.out false HOk.out X).mono ?_
    rintro x w1 ⟨rfl, hb⟩
    have Y1 := Lib.hid (HY.out.trans (hb.mono HY.out.size))
    have K1 := Lib.hid (EB.keep K.out hb)
    have V1 := Lib.hid (VB.keep HV.out hb)
    clear hb
    go_wp2
    go_ret
    exact ⟨rfl, Y1.out⟩
  · have HOk := Lib.hid ho
    obtain ⟨n, hrn, hnl, hc1, hc2⟩ := ok_dot ho
    have HRn := Lib.hid hrn
    have HNl := Lib.hid hnl
    have HCb := Lib.hid (show 1 ≤ e.c ∧ e.c ≤ 1048576 from ⟨hc1, hc2⟩)
    clear ho hrn hnl hc1 hc2
    by_cases hkn : e.c ≤ f n
    · rw [oneI_seen HOk.out HRn.out hkn]
      have HK := Lib.hid (decide_eq_true hkn)
      clear hkn
      unfold evV at *
      go_enter Try.func29, Try.ntmps29
      go_upto_region 1 with fail
      rw [← HX.out, HP.out]
      go_wp2_with (first
        | (refine' wpList_load_if ?q1 39 (.tmp 3) ?q2 (p + 1) ?q3 _ _ _ _ ?q4 Try.underlying39 ?q5 ?q6 ?_; (case q2 => rfl); (case q1 => rfl); (case q3 => rfl); (case q4 => exact K.out); (case q5 => rfl); (case q6 => exact sizeE _))
        | fail)
      refine (refright_is7 e HT.out true HOk.out X).mono ?_
      rintro x w1 ⟨rfl, hb⟩
      have Y1 := Lib.hid (HY.out.trans (hb.mono HY.out.size))
      have K1 := Lib.hid (EB.keep K.out hb)
      have V1 := Lib.hid (VB.keep HV.out hb)
      clear hb
      go_upto_region 3 with fail
      refine wp_region_any (by kernel_rfl) ?_
      refine wpAny_below (fun i uq _ => uq = ([.pointer (some ⟨p + 1, 0, none⟩), .pointer (some ⟨p + 1, 0, none⟩), .int .i64 n, .pointer (some ⟨p, n, none⟩), .int .i64 (f n), .pointer (some ⟨p + 1, 0, none⟩), .pointer (some ⟨p + 1, 1, none⟩), .int .i64 e.c, .bool true] : List Value).getD i undef) _ w1 (by kernel_rfl) (by kernel_rfl) (by kernel_rfl) (fun i v w w' _ h => h) ?_ ?_
      · refine ⟨?_, ?_, ?_, ?_, ?_, ?_, ?_, ?_, ?_, trivial⟩
        · intro a W hI hun haft hi
          have e3 : a.eval (.tmp 3) = .pointer (some ⟨p + 1, 0, none⟩) := hun 3 (by kernel_rfl)
          exact b_same hi hI rfl _ (run_fieldAddr_any rfl e3 (at_event0 _ 0 _)) rfl
        · intro a W hI hun haft hi
          have f0 : a.eval (.tmp 9) = .pointer (some ⟨p + 1, 0, none⟩) := haft ⟨0, .data⟩ (by simp) rfl _ _ rfl rfl
          exact b_same hi hI rfl _ (run_fieldAddr_any rfl f0 (at_dot0' _ 0 _)) rfl
        · intro a W hI hun haft hi
          have f1 : a.eval (.tmp 10) = .pointer (some ⟨p + 1, 0, none⟩) := haft ⟨1, .data⟩ (by simp) rfl _ _ rfl rfl
          exact b_same hi hI rfl _ (run_loadint_op rfl f1 Try.underlying3 ((Blk.cell (EB.keep K1.out hI) 0).trans (by rw [show (evC e)[0]? = some (.int .i64 e.r) from rfl, HRn.out]))) rfl
        · intro a W hI hun haft hi
          have e2 : a.eval (.tmp 2) = .pointer (some ⟨p, 0, none⟩) := hun 2 (by kernel_rfl)
          have f2 : a.eval (.tmp 11) = .int .i64 n := haft ⟨2, .data⟩ (by simp) rfl _ _ rfl rfl
          exact b_same hi hI rfl _ (run_indexAddr_op rfl e2 f2 (at_vec _ n HNl.out _)) rfl
        · intro a W hI hun haft hi
          have f3 : a.eval (.tmp 12) = .pointer (some ⟨p, n, none⟩) := haft ⟨3, .data⟩ (by simp) rfl _ _ rfl rfl
          exact b_same hi hI rfl _ (run_loadint_op rfl f3 Try.underlying3 (VB.cell_ (VB.keep V1.out hI) n HNl.out)) rfl
        · intro a W hI hun haft hi
          have e3 : a.eval (.tmp 3) = .pointer (some ⟨p + 1, 0, none⟩) := hun 3 (by kernel_rfl)
          exact b_same hi hI rfl _ (run_fieldAddr_any rfl e3 (at_event0 _ 0 _)) rfl
        · intro a W hI hun haft hi
          have f5 : a.eval (.tmp 14) = .pointer (some ⟨p + 1, 0, none⟩) := haft ⟨5, .data⟩ (by simp) rfl _ _ rfl rfl
          exact b_same hi hI rfl _ (run_fieldAddr_any rfl f5 (at_dot1' _ 0 _)) rfl
        · intro a W hI hun haft hi
          have f6 : a.eval (.tmp 15) = .pointer (some ⟨p + 1, 1, none⟩) := haft ⟨6, .data⟩ (by simp) rfl _ _ rfl rfl
          exact b_same hi hI rfl _ (run_loadint_op rfl f6 Try.underlying3 ((Blk.cell (EB.keep K1.out hI) 1).trans rfl)) rfl
        · intro a W hI hun haft hi
          have f4 : a.eval (.tmp 13) = .int .i64 (f n) := haft ⟨4, .data⟩ (by simp) rfl _ _ rfl rfl
          have f7 : a.eval (.tmp 16) = .int .i64 e.c := haft ⟨7, .data⟩ (by simp) rfl _ _ rfl rfl
          exact b_same hi hI rfl (.bool true) (run_bin_op rfl f4 f7 (guardI _ _ _ _ _ _ _) (run_gei HK.out _)) rfl
      · intro vals W hI hp
        have hl0 : vals 0 = .pointer (some ⟨p + 1, 0, none⟩) := hp 0 (by decide)
        have hl1 : vals 1 = .pointer (some ⟨p + 1, 0, none⟩) := hp 1 (by decide)
        have hl2 : vals 2 = .int .i64 n := hp 2 (by decide)
        have hl3 : vals 3 = .pointer (some ⟨p, n, none⟩) := hp 3 (by decide)
        have hl4 : vals 4 = .int .i64 (f n) := hp 4 (by decide)
        have hl5 : vals 5 = .pointer (some ⟨p + 1, 0, none⟩) := hp 5 (by decide)
        have hl6 : vals 6 = .pointer (some ⟨p + 1, 1, none⟩) := hp 6 (by decide)
        have hl7 : vals 7 = .int .i64 e.c := hp 7 (by decide)
        have hl8 : vals 8 = .bool true := hp 8 (by decide)
        have HI := Lib.hid hI
        clear hp hI
        simp only [layN, List.size_toArray, List.length_cons, List.length_nil, List.range, List.range.loop, if_true, List.getElem?_toArray, List.getElem?_cons_zero, List.getElem?_cons_succ, Act.put, List.setIfInBounds_toArray, List.set_cons_zero, List.set_cons_succ, Nat.zero_add, Nat.reduceAdd, hl0, hl1, hl2, hl3, hl4, hl5, hl6, hl7, hl8]
        clear hl0 hl1 hl2 hl3 hl4 hl5 hl6 hl7 hl8
        go_wp2
        go_ret
        exact ⟨rfl, Y1.out.trans (HI.out.mono Y1.out.size)⟩
    · have HK := Lib.hid (decide_eq_false hkn)
      cases hq : (f n == e.c - 1)
      · rw [oneI_far HOk.out HRn.out hkn hq]
        have HQ := Lib.hid hq
        clear hkn hq
        unfold evV at *
        go_enter Try.func29, Try.ntmps29
        go_upto_region 1 with fail
        rw [← HX.out, HP.out]
        go_wp2_with (first
          | (refine' wpList_load_if ?q1 39 (.tmp 3) ?q2 (p + 1) ?q3 _ _ _ _ ?q4 Try.underlying39 ?q5 ?q6 ?_; (case q2 => rfl); (case q1 => rfl); (case q3 => rfl); (case q4 => exact K.out); (case q5 => rfl); (case q6 => exact sizeE _))
          | fail)
        refine (refright_is7 e HT.out true HOk.out X).mono ?_
        rintro x w1 ⟨rfl, hb⟩
        have Y1 := Lib.hid (HY.out.trans (hb.mono HY.out.size))
        have K1 := Lib.hid (EB.keep K.out hb)
        have V1 := Lib.hid (VB.keep HV.out hb)
        clear hb
        go_upto_region 3 with fail
        refine wp_region_any (by kernel_rfl) ?_
        refine wpAny_below (fun i uq _ => uq = ([.pointer (some ⟨p + 1, 0, none⟩), .pointer (some ⟨p + 1, 0, none⟩), .int .i64 n, .pointer (some ⟨p, n, none⟩), .int .i64 (f n), .pointer (some ⟨p + 1, 0, none⟩), .pointer (some ⟨p + 1, 1, none⟩), .int .i64 e.c, .bool false] : List Value).getD i undef) _ w1 (by kernel_rfl) (by kernel_rfl) (by kernel_rfl) (fun i v w w' _ h => h) ?_ ?_
        · refine ⟨?_, ?_, ?_, ?_, ?_, ?_, ?_, ?_, ?_, trivial⟩
          · intro a W hI hun haft hi
            have e3 : a.eval (.tmp 3) = .pointer (some ⟨p + 1, 0, none⟩) := hun 3 (by kernel_rfl)
            exact b_same hi hI rfl _ (run_fieldAddr_any rfl e3 (at_event0 _ 0 _)) rfl
          · intro a W hI hun haft hi
            have f0 : a.eval (.tmp 9) = .pointer (some ⟨p + 1, 0, none⟩) := haft ⟨0, .data⟩ (by simp) rfl _ _ rfl rfl
            exact b_same hi hI rfl _ (run_fieldAddr_any rfl f0 (at_dot0' _ 0 _)) rfl
          · intro a W hI hun haft hi
            have f1 : a.eval (.tmp 10) = .pointer (some ⟨p + 1, 0, none⟩) := haft ⟨1, .data⟩ (by simp) rfl _ _ rfl rfl
            exact b_same hi hI rfl _ (run_loadint_op rfl f1 Try.underlying3 ((Blk.cell (EB.keep K1.out hI) 0).trans (by rw [show (evC e)[0]? = some (.int .i64 e.r) from rfl, HRn.out]))) rfl
          · intro a W hI hun haft hi
            have e2 : a.eval (.tmp 2) = .pointer (some ⟨p, 0, none⟩) := hun 2 (by kernel_rfl)
            have f2 : a.eval (.tmp 11) = .int .i64 n := haft ⟨2, .data⟩ (by simp) rfl _ _ rfl rfl
            exact b_same hi hI rfl _ (run_indexAddr_op rfl e2 f2 (at_vec _ n HNl.out _)) rfl
          · intro a W hI hun haft hi
            have f3 : a.eval (.tmp 12) = .pointer (some ⟨p, n, none⟩) := haft ⟨3, .data⟩ (by simp) rfl _ _ rfl rfl
            exact b_same hi hI rfl _ (run_loadint_op rfl f3 Try.underlying3 (VB.cell_ (VB.keep V1.out hI) n HNl.out)) rfl
          · intro a W hI hun haft hi
            have e3 : a.eval (.tmp 3) = .pointer (some ⟨p + 1, 0, none⟩) := hun 3 (by kernel_rfl)
            exact b_same hi hI rfl _ (run_fieldAddr_any rfl e3 (at_event0 _ 0 _)) rfl
          · intro a W hI hun haft hi
            have f5 : a.eval (.tmp 14) = .pointer (some ⟨p + 1, 0, none⟩) := haft ⟨5, .data⟩ (by simp) rfl _ _ rfl rfl
            exact b_same hi hI rfl _ (run_fieldAddr_any rfl f5 (at_dot1' _ 0 _)) rfl
          · intro a W hI hun haft hi
            have f6 : a.eval (.tmp 15) = .pointer (some ⟨p + 1, 1, none⟩) := haft ⟨6, .data⟩ (by simp) rfl _ _ rfl rfl
            exact b_same hi hI rfl _ (run_loadint_op rfl f6 Try.underlying3 ((Blk.cell (EB.keep K1.out hI) 1).trans rfl)) rfl
          · intro a W hI hun haft hi
            have f4 : a.eval (.tmp 13) = .int .i64 (f n) := haft ⟨4, .data⟩ (by simp) rfl _ _ rfl rfl
            have f7 : a.eval (.tmp 16) = .int .i64 e.c := haft ⟨7, .data⟩ (by simp) rfl _ _ rfl rfl
            exact b_same hi hI rfl (.bool false) (run_bin_op rfl f4 f7 (guardI _ _ _ _ _ _ _) (run_gei HK.out _)) rfl
        · intro vals W hI hp
          have hl0 : vals 0 = .pointer (some ⟨p + 1, 0, none⟩) := hp 0 (by decide)
          have hl1 : vals 1 = .pointer (some ⟨p + 1, 0, none⟩) := hp 1 (by decide)
          have hl2 : vals 2 = .int .i64 n := hp 2 (by decide)
          have hl3 : vals 3 = .pointer (some ⟨p, n, none⟩) := hp 3 (by decide)
          have hl4 : vals 4 = .int .i64 (f n) := hp 4 (by decide)
          have hl5 : vals 5 = .pointer (some ⟨p + 1, 0, none⟩) := hp 5 (by decide)
          have hl6 : vals 6 = .pointer (some ⟨p + 1, 1, none⟩) := hp 6 (by decide)
          have hl7 : vals 7 = .int .i64 e.c := hp 7 (by decide)
          have hl8 : vals 8 = .bool false := hp 8 (by decide)
          have HI := Lib.hid hI
          clear hp hI
          simp only [layN, List.size_toArray, List.length_cons, List.length_nil, List.range, List.range.loop, if_true, List.getElem?_toArray, List.getElem?_cons_zero, List.getElem?_cons_succ, Act.put, List.setIfInBounds_toArray, List.set_cons_zero, List.set_cons_succ, Nat.zero_add, Nat.reduceAdd, hl0, hl1, hl2, hl3, hl4, hl5, hl6, hl7, hl8]
          clear hl0 hl1 hl2 hl3 hl4 hl5 hl6 hl7 hl8
          obtain ⟨W2, hW2⟩ : ∃ W2, W2 = W := ⟨_, rfl⟩
          rw [← hW2] at HI ⊢
          clear hW2
          have Y2 := Lib.hid (Y1.out.trans (HI.out.mono Y1.out.size))
          have K2 := Lib.hid (EB.keep K1.out HI.out)
          have V2 := Lib.hid (VB.keep V1.out HI.out)
          clear HI
          go_upto_region 5 with fail
          refine wp_region_any (by kernel_rfl) ?_
          refine wpAny_below (fun i uq _ => uq = ([.pointer (some ⟨p + 1, 0, none⟩), .pointer (some ⟨p + 1, 0, none⟩), .int .i64 n, .pointer (some ⟨p, n, none⟩), .int .i64 (f n), .pointer (some ⟨p + 1, 0, none⟩), .pointer (some ⟨p + 1, 1, none⟩), .int .i64 e.c, .int .i64 (e.c - 1), .bool true] : List Value).getD i undef) _ W2 (by kernel_rfl) (by kernel_rfl) (by kernel_rfl) (fun i v w w' _ h => h) ?_ ?_
          · refine ⟨?_, ?_, ?_, ?_, ?_, ?_, ?_, ?_, ?_, ?_, trivial⟩
            · intro a W hI hun haft hi
              have e3 : a.eval (.tmp 3) = .pointer (some ⟨p + 1, 0, none⟩) := hun 3 (by kernel_rfl)
              exact b_same hi hI rfl _ (run_fieldAddr_any rfl e3 (at_event0 _ 0 _)) rfl
            · intro a W hI hun haft hi
              have f0 : a.eval (.tmp 18) = .pointer (some ⟨p + 1, 0, none⟩) := haft ⟨0, .data⟩ (by simp) rfl _ _ rfl rfl
              exact b_same hi hI rfl _ (run_fieldAddr_any rfl f0 (at_dot0' _ 0 _)) rfl
            · intro a W hI hun haft hi
              have f1 : a.eval (.tmp 19) = .pointer (some ⟨p + 1, 0, none⟩) := haft ⟨1, .data⟩ (by simp) rfl _ _ rfl rfl
              exact b_same hi hI rfl _ (run_loadint_op rfl f1 Try.underlying3 ((Blk.cell (EB.keep K2.out hI) 0).trans (by rw [show (evC e)[0]? = some (.int .i64 e.r) from rfl, HRn.out]))) rfl
            · intro a W hI hun haft hi
              have e2 : a.eval (.tmp 2) = .pointer (some ⟨p, 0, none⟩) := hun 2 (by kernel_rfl)
              have f2 : a.eval (.tmp 20) = .int .i64 n := haft ⟨2, .data⟩ (by simp) rfl _ _ rfl rfl
              exact b_same hi hI rfl _ (run_indexAddr_op rfl e2 f2 (at_vec _ n HNl.out _)) rfl
            · intro a W hI hun haft hi
              have f3 : a.eval (.tmp 21) = .pointer (some ⟨p, n, none⟩) := haft ⟨3, .data⟩ (by simp) rfl _ _ rfl rfl
              exact b_same hi hI rfl _ (run_loadint_op rfl f3 Try.underlying3 (VB.cell_ (VB.keep V2.out hI) n HNl.out)) rfl
            · intro a W hI hun haft hi
              have e3 : a.eval (.tmp 3) = .pointer (some ⟨p + 1, 0, none⟩) := hun 3 (by kernel_rfl)
              exact b_same hi hI rfl _ (run_fieldAddr_any rfl e3 (at_event0 _ 0 _)) rfl
            · intro a W hI hun haft hi
              have f5 : a.eval (.tmp 23) = .pointer (some ⟨p + 1, 0, none⟩) := haft ⟨5, .data⟩ (by simp) rfl _ _ rfl rfl
              exact b_same hi hI rfl _ (run_fieldAddr_any rfl f5 (at_dot1' _ 0 _)) rfl
            · intro a W hI hun haft hi
              have f6 : a.eval (.tmp 24) = .pointer (some ⟨p + 1, 1, none⟩) := haft ⟨6, .data⟩ (by simp) rfl _ _ rfl rfl
              exact b_same hi hI rfl _ (run_loadint_op rfl f6 Try.underlying3 ((Blk.cell (EB.keep K2.out hI) 1).trans rfl)) rfl
            · intro a W hI hun haft hi
              have f7 : a.eval (.tmp 25) = .int .i64 e.c := haft ⟨7, .data⟩ (by simp) rfl _ _ rfl rfl
              exact b_same hi hI rfl (.int .i64 (e.c - 1)) (run_bin_op rfl f7 rfl (guardI _ _ _ _ _ _ _) (run_sub1 e.c HCb.out _)) rfl
            · intro a W hI hun haft hi
              have f4 : a.eval (.tmp 22) = .int .i64 (f n) := haft ⟨4, .data⟩ (by simp) rfl _ _ rfl rfl
              have f8 : a.eval (.tmp 26) = .int .i64 (e.c - 1) := haft ⟨8, .data⟩ (by simp) rfl _ _ rfl rfl
              exact b_same hi hI rfl (.bool true) (run_bin_op rfl f4 f8 (guardI _ _ _ _ _ _ _) (run_nei HQ.out _)) rfl
          · intro vals W hI hp
            have hl0 : vals 0 = .pointer (some ⟨p + 1, 0, none⟩) := hp 0 (by decide)
            have hl1 : vals 1 = .pointer (some ⟨p + 1, 0, none⟩) := hp 1 (by decide)
            have hl2 : vals 2 = .int .i64 n := hp 2 (by decide)
            have hl3 : vals 3 = .pointer (some ⟨p, n, none⟩) := hp 3 (by decide)
            have hl4 : vals 4 = .int .i64 (f n) := hp 4 (by decide)
            have hl5 : vals 5 = .pointer (some ⟨p + 1, 0, none⟩) := hp 5 (by decide)
            have hl6 : vals 6 = .pointer (some ⟨p + 1, 1, none⟩) := hp 6 (by decide)
            have hl7 : vals 7 = .int .i64 e.c := hp 7 (by decide)
            have hl8 : vals 8 = .int .i64 (e.c - 1) := hp 8 (by decide)
            have hl9 : vals 9 = .bool true := hp 9 (by decide)
            have HI := Lib.hid hI
            clear hp hI
            simp only [layN, List.size_toArray, List.length_cons, List.length_nil, List.range, List.range.loop, if_true, List.getElem?_toArray, List.getElem?_cons_zero, List.getElem?_cons_succ, Act.put, List.setIfInBounds_toArray, List.set_cons_zero, List.set_cons_succ, Nat.zero_add, Nat.reduceAdd, hl0, hl1, hl2, hl3, hl4, hl5, hl6, hl7, hl8, hl9]
            clear hl0 hl1 hl2 hl3 hl4 hl5 hl6 hl7 hl8 hl9
            go_wp2
            go_ret
            exact ⟨rfl, Y2.out.trans (HI.out.mono Y2.out.size)⟩
      · rw [oneI_next HOk.out HRn.out hkn hq]
        obtain ⟨A0, hA0⟩ : ∃ A0 : Int, (if leV e.p f = true then 0 else 8) = A0 := ⟨_, rfl⟩
        rw [hA0]
        have HA0 := Lib.hid hA0
        clear hA0
        have HQ := Lib.hid hq
        clear hkn hq
        unfold evV at *
        go_enter Try.func29, Try.ntmps29
        go_upto_region 1 with fail
        rw [← HX.out, HP.out]
        go_wp2_with (first
          | (refine' wpList_load_if ?q1 39 (.tmp 3) ?q2 (p + 1) ?q3 _ _ _ _ ?q4 Try.underlying39 ?q5 ?q6 ?_; (case q2 => rfl); (case q1 => rfl); (case q3 => rfl); (case q4 => exact K.out); (case q5 => rfl); (case q6 => exact sizeE _))
          | fail)
        refine (refright_is7 e HT.out true HOk.out X).mono ?_
        rintro x w1 ⟨rfl, hb⟩
        have Y1 := Lib.hid (HY.out.trans (hb.mono HY.out.size))
        have K1 := Lib.hid (EB.keep K.out hb)
        have V1 := Lib.hid (VB.keep HV.out hb)
        clear hb
        go_upto_region 3 with fail
        refine wp_region_any (by kernel_rfl) ?_
        refine wpAny_below (fun i uq _ => uq = ([.pointer (some ⟨p + 1, 0, none⟩), .pointer (some ⟨p + 1, 0, none⟩), .int .i64 n, .pointer (some ⟨p, n, none⟩), .int .i64 (f n), .pointer (some ⟨p + 1, 0, none⟩), .pointer (some ⟨p + 1, 1, none⟩), .int .i64 e.c, .bool false] : List Value).getD i undef) _ w1 (by kernel_rfl) (by kernel_rfl) (by kernel_rfl) (fun i v w w' _ h => h) ?_ ?_
        · refine ⟨?_, ?_, ?_, ?_, ?_, ?_, ?_, ?_, ?_, trivial⟩
          · intro a W hI hun haft hi
            have e3 : a.eval (.tmp 3) = .pointer (some ⟨p + 1, 0, none⟩) := hun 3 (by kernel_rfl)
            exact b_same hi hI rfl _ (run_fieldAddr_any rfl e3 (at_event0 _ 0 _)) rfl
          · intro a W hI hun haft hi
            have f0 : a.eval (.tmp 9) = .pointer (some ⟨p + 1, 0, none⟩) := haft ⟨0, .data⟩ (by simp) rfl _ _ rfl rfl
            exact b_same hi hI rfl _ (run_fieldAddr_any rfl f0 (at_dot0' _ 0 _)) rfl
          · intro a W hI hun haft hi
            have f1 : a.eval (.tmp 10) = .pointer (some ⟨p + 1, 0, none⟩) := haft ⟨1, .data⟩ (by simp) rfl _ _ rfl rfl
            exact b_same hi hI rfl _ (run_loadint_op rfl f1 Try.underlying3 ((Blk.cell (EB.keep K1.out hI) 0).trans (by rw [show (evC e)[0]? = some (.int .i64 e.r) from rfl, HRn.out]))) rfl
          · intro a W hI hun haft hi
            have e2 : a.eval (.tmp 2) = .pointer (some ⟨p, 0, none⟩) := hun 2 (by kernel_rfl)
            have f2 : a.eval (.tmp 11) = .int .i64 n := haft ⟨2, .data⟩ (by simp) rfl _ _ rfl rfl
            exact b_same hi hI rfl _ (run_indexAddr_op rfl e2 f2 (at_vec _ n HNl.out _)) rfl
          · intro a W hI hun haft hi
            have f3 : a.eval (.tmp 12) = .pointer (some ⟨p, n, none⟩) := haft ⟨3, .data⟩ (by simp) rfl _ _ rfl rfl
            exact b_same hi hI rfl _ (run_loadint_op rfl f3 Try.underlying3 (VB.cell_ (VB.keep V1.out hI) n HNl.out)) rfl
          · intro a W hI hun haft hi
            have e3 : a.eval (.tmp 3) = .pointer (some ⟨p + 1, 0, none⟩) := hun 3 (by kernel_rfl)
            exact b_same hi hI rfl _ (run_fieldAddr_any rfl e3 (at_event0 _ 0 _)) rfl
          · intro a W hI hun haft hi
            have f5 : a.eval (.tmp 14) = .pointer (some ⟨p + 1, 0, none⟩) := haft ⟨5, .data⟩ (by simp) rfl _ _ rfl rfl
            exact b_same hi hI rfl _ (run_fieldAddr_any rfl f5 (at_dot1' _ 0 _)) rfl
          · intro a W hI hun haft hi
            have f6 : a.eval (.tmp 15) = .pointer (some ⟨p + 1, 1, none⟩) := haft ⟨6, .data⟩ (by simp) rfl _ _ rfl rfl
            exact b_same hi hI rfl _ (run_loadint_op rfl f6 Try.underlying3 ((Blk.cell (EB.keep K1.out hI) 1).trans rfl)) rfl
          · intro a W hI hun haft hi
            have f4 : a.eval (.tmp 13) = .int .i64 (f n) := haft ⟨4, .data⟩ (by simp) rfl _ _ rfl rfl
            have f7 : a.eval (.tmp 16) = .int .i64 e.c := haft ⟨7, .data⟩ (by simp) rfl _ _ rfl rfl
            exact b_same hi hI rfl (.bool false) (run_bin_op rfl f4 f7 (guardI _ _ _ _ _ _ _) (run_gei HK.out _)) rfl
        · intro vals W hI hp
          have hl0 : vals 0 = .pointer (some ⟨p + 1, 0, none⟩) := hp 0 (by decide)
          have hl1 : vals 1 = .pointer (some ⟨p + 1, 0, none⟩) := hp 1 (by decide)
          have hl2 : vals 2 = .int .i64 n := hp 2 (by decide)
          have hl3 : vals 3 = .pointer (some ⟨p, n, none⟩) := hp 3 (by decide)
          have hl4 : vals 4 = .int .i64 (f n) := hp 4 (by decide)
          have hl5 : vals 5 = .pointer (some ⟨p + 1, 0, none⟩) := hp 5 (by decide)
          have hl6 : vals 6 = .pointer (some ⟨p + 1, 1, none⟩) := hp 6 (by decide)
          have hl7 : vals 7 = .int .i64 e.c := hp 7 (by decide)
          have hl8 : vals 8 = .bool false := hp 8 (by decide)
          have HI := Lib.hid hI
          clear hp hI
          simp only [layN, List.size_toArray, List.length_cons, List.length_nil, List.range, List.range.loop, if_true, List.getElem?_toArray, List.getElem?_cons_zero, List.getElem?_cons_succ, Act.put, List.setIfInBounds_toArray, List.set_cons_zero, List.set_cons_succ, Nat.zero_add, Nat.reduceAdd, hl0, hl1, hl2, hl3, hl4, hl5, hl6, hl7, hl8]
          clear hl0 hl1 hl2 hl3 hl4 hl5 hl6 hl7 hl8
          obtain ⟨W2, hW2⟩ : ∃ W2, W2 = W := ⟨_, rfl⟩
          rw [← hW2] at HI ⊢
          clear hW2
          have Y2 := Lib.hid (Y1.out.trans (HI.out.mono Y1.out.size))
          have K2 := Lib.hid (EB.keep K1.out HI.out)
          have V2 := Lib.hid (VB.keep V1.out HI.out)
          clear HI
          go_upto_region 5 with fail
          refine wp_region_any (by kernel_rfl) ?_
          refine wpAny_below (fun i uq _ => uq = ([.pointer (some ⟨p + 1, 0, none⟩), .pointer (some ⟨p + 1, 0, none⟩), .int .i64 n, .pointer (some ⟨p, n, none⟩), .int .i64 (f n), .pointer (some ⟨p + 1, 0, none⟩), .pointer (some ⟨p + 1, 1, none⟩), .int .i64 e.c, .int .i64 (e.c - 1), .bool false] : List Value).getD i undef) _ W2 (by kernel_rfl) (by kernel_rfl) (by kernel_rfl) (fun i v w w' _ h => h) ?_ ?_
          · refine ⟨?_, ?_, ?_, ?_, ?_, ?_, ?_, ?_, ?_, ?_, trivial⟩
            · intro a W hI hun haft hi
              have e3 : a.eval (.tmp 3) = .pointer (some ⟨p + 1, 0, none⟩) := hun 3 (by kernel_rfl)
              exact b_same hi hI rfl _ (run_fieldAddr_any rfl e3 (at_event0 _ 0 _)) rfl
            · intro a W hI hun haft hi
              have f0 : a.eval (.tmp 18) = .pointer (some ⟨p + 1, 0, none⟩) := haft ⟨0, .data⟩ (by simp) rfl _ _ rfl rfl
              exact b_same hi hI rfl _ (run_fieldAddr_any rfl f0 (at_dot0' _ 0 _)) rfl
            · intro a W hI hun haft hi
              have f1 : a.eval (.tmp 19) = .pointer (some ⟨p + 1, 0, none⟩) := haft ⟨1, .data⟩ (by simp) rfl _ _ rfl rfl
              exact b_same hi hI rfl _ (run_loadint_op rfl f1 Try.underlying3 ((Blk.cell (EB.keep K2.out hI) 0).trans (by rw [show (evC e)[0]? = some (.int .i64 e.r) from rfl, HRn.out]))) rfl
            · intro a W hI hun haft hi
              have e2 : a.eval (.tmp 2) = .pointer (some ⟨p, 0, none⟩) := hun 2 (by kernel_rfl)
              have f2 : a.eval (.tmp 20) = .int .i64 n := haft ⟨2, .data⟩ (by simp) rfl _ _ rfl rfl
              exact b_same hi hI rfl _ (run_indexAddr_op rfl e2 f2 (at_vec _ n HNl.out _)) rfl
            · intro a W hI hun haft hi
              have f3 : a.eval (.tmp 21) = .pointer (some ⟨p, n, none⟩) := haft ⟨3, .data⟩ (by simp) rfl _ _ rfl rfl
              exact b_same hi hI rfl _ (run_loadint_op rfl f3 Try.underlying3 (VB.cell_ (VB.keep V2.out hI) n HNl.out)) rfl
            · intro a W hI hun haft hi
              have e3 : a.eval (.tmp 3) = .pointer (some ⟨p + 1, 0, none⟩) := hun 3 (by kernel_rfl)
              exact b_same hi hI rfl _ (run_fieldAddr_any rfl e3 (at_event0 _ 0 _)) rfl
            · intro a W hI hun haft hi
              have f5 : a.eval (.tmp 23) = .pointer (some ⟨p + 1, 0, none⟩) := haft ⟨5, .data⟩ (by simp) rfl _ _ rfl rfl
              exact b_same hi hI rfl _ (run_fieldAddr_any rfl f5 (at_dot1' _ 0 _)) rfl
            · intro a W hI hun haft hi
              have f6 : a.eval (.tmp 24) = .pointer (some ⟨p + 1, 1, none⟩) := haft ⟨6, .data⟩ (by simp) rfl _ _ rfl rfl
              exact b_same hi hI rfl _ (run_loadint_op rfl f6 Try.underlying3 ((Blk.cell (EB.keep K2.out hI) 1).trans rfl)) rfl
            · intro a W hI hun haft hi
              have f7 : a.eval (.tmp 25) = .int .i64 e.c := haft ⟨7, .data⟩ (by simp) rfl _ _ rfl rfl
              exact b_same hi hI rfl (.int .i64 (e.c - 1)) (run_bin_op rfl f7 rfl (guardI _ _ _ _ _ _ _) (run_sub1 e.c HCb.out _)) rfl
            · intro a W hI hun haft hi
              have f4 : a.eval (.tmp 22) = .int .i64 (f n) := haft ⟨4, .data⟩ (by simp) rfl _ _ rfl rfl
              have f8 : a.eval (.tmp 26) = .int .i64 (e.c - 1) := haft ⟨8, .data⟩ (by simp) rfl _ _ rfl rfl
              exact b_same hi hI rfl (.bool false) (run_bin_op rfl f4 f8 (guardI _ _ _ _ _ _ _) (run_nei HQ.out _)) rfl
          · intro vals W hI hp
            have hl0 : vals 0 = .pointer (some ⟨p + 1, 0, none⟩) := hp 0 (by decide)
            have hl1 : vals 1 = .pointer (some ⟨p + 1, 0, none⟩) := hp 1 (by decide)
            have hl2 : vals 2 = .int .i64 n := hp 2 (by decide)
            have hl3 : vals 3 = .pointer (some ⟨p, n, none⟩) := hp 3 (by decide)
            have hl4 : vals 4 = .int .i64 (f n) := hp 4 (by decide)
            have hl5 : vals 5 = .pointer (some ⟨p + 1, 0, none⟩) := hp 5 (by decide)
            have hl6 : vals 6 = .pointer (some ⟨p + 1, 1, none⟩) := hp 6 (by decide)
            have hl7 : vals 7 = .int .i64 e.c := hp 7 (by decide)
            have hl8 : vals 8 = .int .i64 (e.c - 1) := hp 8 (by decide)
            have hl9 : vals 9 = .bool false := hp 9 (by decide)
            have HI := Lib.hid hI
            clear hp hI
            simp only [layN, List.size_toArray, List.length_cons, List.length_nil, List.range, List.range.loop, if_true, List.getElem?_toArray, List.getElem?_cons_zero, List.getElem?_cons_succ, Act.put, List.setIfInBounds_toArray, List.set_cons_zero, List.set_cons_succ, Nat.zero_add, Nat.reduceAdd, hl0, hl1, hl2, hl3, hl4, hl5, hl6, hl7, hl8, hl9]
            clear hl0 hl1 hl2 hl3 hl4 hl5 hl6 hl7 hl8 hl9
            have HB0 := Lib.hid HI.out
            clear HI
            go_wp2_with fail
            go_loopw [28] (fun v28 wr => ∃ k : Nat, v28 = .int .i64 k ∧ k ≤ 16 ∧ (∀ i, i < k → e.p i ≤ f i) ∧ Below W2.heap.size W2 wr) (fun v28 _ => 16 - (intOf v28).toNat)
            case atStart => exact ⟨0, rfl, Nat.zero_le _, fun i hi => absurd hi (Nat.not_lt_zero _), HB0.out⟩
            case round =>
              obtain ⟨k, rfl, hk16, hle, hbi⟩ := hrel
              have HLe := Lib.hid hle
              have HBi := Lib.hid hbi
              have K3 := Lib.hid (EB.keep K2.out hbi)
              have V3 := Lib.hid (VB.keep V2.out hbi)
              clear hle hbi HB0
              by_cases hlk : k < 16
              · cases hc : decide (f k < e.p k)
                · have HC := Lib.hid hc
                  clear hc
                  go_upto_region 10 with fail
                  refine wp_region_any (by kernel_rfl) ?_
                  refine wpAny_below (fun i uq _ => uq = ([.int .i64 k, .pointer (some ⟨p + 1, 2, none⟩), .pointer (some ⟨p + 1, 2 + k, none⟩), .int .i64 (e.p k), .int .i64 k, .pointer (some ⟨p, k, none⟩), .int .i64 (f k), .bool false] : List Value).getD i undef) _ wr (by kernel_rfl) (by kernel_rfl) (by kernel_rfl) (fun i v w w' _ h => h) ?_ ?_
                  · refine ⟨?_, ?_, ?_, ?_, ?_, ?_, ?_, ?_, trivial⟩
                    · intro a W hI hun haft hi
                      have e5 : a.eval (.tmp 5) = .int .i64 k := hun 5 (by kernel_rfl)
                      exact b_same hi hI rfl _ (run_move_op rfl e5) rfl
                    · intro a W hI hun haft hi
                      have e3 : a.eval (.tmp 3) = .pointer (some ⟨p + 1, 0, none⟩) := hun 3 (by kernel_rfl)
                      exact b_same hi hI rfl _ (run_fieldAddr_any rfl e3 (at_event1 _ 0 _)) rfl
                    · intro a W hI hun haft hi
                      have f1 : a.eval (.tmp 32) = .pointer (some ⟨p + 1, 2, none⟩) := haft ⟨1, .data⟩ (by simp) rfl _ _ rfl rfl
                      have f0 : a.eval (.tmp 31) = .int .i64 k := haft ⟨0, .data⟩ (by simp) rfl _ _ rfl rfl
                      exact b_same hi hI rfl _ (run_indexAddr_op rfl f1 f0 (at_past _ k hlk _)) rfl
                    · intro a W hI hun haft hi
                      have f2 : a.eval (.tmp 33) = .pointer (some ⟨p + 1, 2 + k, none⟩) := haft ⟨2, .data⟩ (by simp) rfl _ _ rfl rfl
                      exact b_same hi hI rfl _ (run_loadint_op rfl f2 Try.underlying3 ((Blk.cell (EB.keep K3.out hI) (2 + k)).trans (past_at e k hlk))) rfl
                    · intro a W hI hun haft hi
                      have e5 : a.eval (.tmp 5) = .int .i64 k := hun 5 (by kernel_rfl)
                      exact b_same hi hI rfl _ (run_move_op rfl e5) rfl
                    · intro a W hI hun haft hi
                      have e2 : a.eval (.tmp 2) = .pointer (some ⟨p, 0, none⟩) := hun 2 (by kernel_rfl)
                      have f4 : a.eval (.tmp 35) = .int .i64 k := haft ⟨4, .data⟩ (by simp) rfl _ _ rfl rfl
                      exact b_same hi hI rfl _ (run_indexAddr_op rfl e2 f4 (at_vec _ k hlk _)) rfl
                    · intro a W hI hun haft hi
                      have f5 : a.eval (.tmp 36) = .pointer (some ⟨p, k, none⟩) := haft ⟨5, .data⟩ (by simp) rfl _ _ rfl rfl
                      exact b_same hi hI rfl _ (run_loadint_op rfl f5 Try.underlying3 (VB.cell_ (VB.keep V3.out hI) k hlk)) rfl
                    · intro a W hI hun haft hi
                      have f3 : a.eval (.tmp 34) = .int .i64 (e.p k) := haft ⟨3, .data⟩ (by simp) rfl _ _ rfl rfl
                      have f6 : a.eval (.tmp 37) = .int .i64 (f k) := haft ⟨6, .data⟩ (by simp) rfl _ _ rfl rfl
                      exact b_same hi hI rfl (.bool false) (run_bin_op rfl f3 f6 (guardI _ _ _ _ _ _ _) (run_gti HC.out _)) rfl
                  · intro vals W hI hp
                    have hl0 : vals 0 = .int .i64 k := hp 0 (by decide)
                    have hl1 : vals 1 = .pointer (some ⟨p + 1, 2, none⟩) := hp 1 (by decide)
                    have hl2 : vals 2 = .pointer (some ⟨p + 1, 2 + k, none⟩) := hp 2 (by decide)
                    have hl3 : vals 3 = .int .i64 (e.p k) := hp 3 (by decide)
                    have hl4 : vals 4 = .int .i64 k := hp 4 (by decide)
                    have hl5 : vals 5 = .pointer (some ⟨p, k, none⟩) := hp 5 (by decide)
                    have hl6 : vals 6 = .int .i64 (f k) := hp 6 (by decide)
                    have hl7 : vals 7 = .bool false := hp 7 (by decide)
                    have HI := Lib.hid hI
                    clear hp hI
                    simp only [layN, List.size_toArray, List.length_cons, List.length_nil, List.range, List.range.loop, if_true, List.getElem?_toArray, List.getElem?_cons_zero, List.getElem?_cons_succ, Act.put, List.setIfInBounds_toArray, List.set_cons_zero, List.set_cons_succ, Nat.zero_add, Nat.reduceAdd, hl0, hl1, hl2, hl3, hl4, hl5, hl6, hl7]
                    clear hl0 hl1 hl2 hl3 hl4 hl5 hl6 hl7
                    go_wp2
                    go_roundw
                    case rel => exact ⟨k + 1, by go_num, by omega, fun i hi => by
                      rcases Nat.lt_succ_iff_lt_or_eq.1 hi with h | h
                      · exact HLe.out i h
                      · rw [h]; have := of_decide_eq_false HC.out; omega, HBi.out.trans (HI.out.mono HBi.out.size)⟩
                    case measure => simp [intOf] <;> omega
                · have HC := Lib.hid hc
                  clear hc
                  have hlv : leV e.p f = false := by
                    cases h : leV e.p f with
                    | false => rfl
                    | true => have := (leV_iff _ _).1 h k hlk; have := of_decide_eq_true HC.out; omega
                  have HA8 := Lib.hid (show A0 = 8 by rw [← HA0.out, hlv]; rfl)
                  clear hlv
                  go_upto_region 10 with fail
                  refine wp_region_any (by kernel_rfl) ?_
                  refine wpAny_below (fun i uq _ => uq = ([.int .i64 k, .pointer (some ⟨p + 1, 2, none⟩), .pointer (some ⟨p + 1, 2 + k, none⟩), .int .i64 (e.p k), .int .i64 k, .pointer (some ⟨p, k, none⟩), .int .i64 (f k), .bool true] : List Value).getD i undef) _ wr (by kernel_rfl) (by kernel_rfl) (by kernel_rfl) (fun i v w w' _ h => h) ?_ ?_
                  · refine ⟨?_, ?_, ?_, ?_, ?_, ?_, ?_, ?_, trivial⟩
                    · intro a W hI hun haft hi
                      have e5 : a.eval (.tmp 5) = .int .i64 k := hun 5 (by kernel_rfl)
                      exact b_same hi hI rfl _ (run_move_op rfl e5) rfl
                    · intro a W hI hun haft hi
                      have e3 : a.eval (.tmp 3) = .pointer (some ⟨p + 1, 0, none⟩) := hun 3 (by kernel_rfl)
                      exact b_same hi hI rfl _ (run_fieldAddr_any rfl e3 (at_event1 _ 0 _)) rfl
                    · intro a W hI hun haft hi
                      have f1 : a.eval (.tmp 32) = .pointer (some ⟨p + 1, 2, none⟩) := haft ⟨1, .data⟩ (by simp) rfl _ _ rfl rfl
                      have f0 : a.eval (.tmp 31) = .int .i64 k := haft ⟨0, .data⟩ (by simp) rfl _ _ rfl rfl
                      exact b_same hi hI rfl _ (run_indexAddr_op rfl f1 f0 (at_past _ k hlk _)) rfl
                    · intro a W hI hun haft hi
                      have f2 : a.eval (.tmp 33) = .pointer (some ⟨p + 1, 2 + k, none⟩) := haft ⟨2, .data⟩ (by simp) rfl _ _ rfl rfl
                      exact b_same hi hI rfl _ (run_loadint_op rfl f2 Try.underlying3 ((Blk.cell (EB.keep K3.out hI) (2 + k)).trans (past_at e k hlk))) rfl
                    · intro a W hI hun haft hi
                      have e5 : a.eval (.tmp 5) = .int .i64 k := hun 5 (by kernel_rfl)
                      exact b_same hi hI rfl _ (run_move_op rfl e5) rfl
                    · intro a W hI hun haft hi
                      have e2 : a.eval (.tmp 2) = .pointer (some ⟨p, 0, none⟩) := hun 2 (by kernel_rfl)
                      have f4 : a.eval (.tmp 35) = .int .i64 k := haft ⟨4, .data⟩ (by simp) rfl _ _ rfl rfl
                      exact b_same hi hI rfl _ (run_indexAddr_op rfl e2 f4 (at_vec _ k hlk _)) rfl
                    · intro a W hI hun haft hi
                      have f5 : a.eval (.tmp 36) = .pointer (some ⟨p, k, none⟩) := haft ⟨5, .data⟩ (by simp) rfl _ _ rfl rfl
                      exact b_same hi hI rfl _ (run_loadint_op rfl f5 Try.underlying3 (VB.cell_ (VB.keep V3.out hI) k hlk)) rfl
                    · intro a W hI hun haft hi
                      have f3 : a.eval (.tmp 34) = .int .i64 (e.p k) := haft ⟨3, .data⟩ (by simp) rfl _ _ rfl rfl
                      have f6 : a.eval (.tmp 37) = .int .i64 (f k) := haft ⟨6, .data⟩ (by simp) rfl _ _ rfl rfl
                      exact b_same hi hI rfl (.bool true) (run_bin_op rfl f3 f6 (guardI _ _ _ _ _ _ _) (run_gti HC.out _)) rfl
                  · intro vals W hI hp
                    have hl0 : vals 0 = .int .i64 k := hp 0 (by decide)
                    have hl1 : vals 1 = .pointer (some ⟨p + 1, 2, none⟩) := hp 1 (by decide)
                    have hl2 : vals 2 = .pointer (some ⟨p + 1, 2 + k, none⟩) := hp 2 (by decide)
                    have hl3 : vals 3 = .int .i64 (e.p k) := hp 3 (by decide)
                    have hl4 : vals 4 = .int .i64 k := hp 4 (by decide)
                    have hl5 : vals 5 = .pointer (some ⟨p, k, none⟩) := hp 5 (by decide)
                    have hl6 : vals 6 = .int .i64 (f k) := hp 6 (by decide)
                    have hl7 : vals 7 = .bool true := hp 7 (by decide)
                    have HI := Lib.hid hI
                    clear hp hI
                    simp only [layN, List.size_toArray, List.length_cons, List.length_nil, List.range, List.range.loop, if_true, List.getElem?_toArray, List.getElem?_cons_zero, List.getElem?_cons_succ, Act.put, List.setIfInBounds_toArray, List.set_cons_zero, List.set_cons_succ, Nat.zero_add, Nat.reduceAdd, hl0, hl1, hl2, hl3, hl4, hl5, hl6, hl7]
                    clear hl0 hl1 hl2 hl3 hl4 hl5 hl6 hl7
                    go_wp2
                    go_ret
                    exact ⟨by rw [HA8.out]; rfl, Y2.out.trans ((HBi.out.trans (HI.out.mono HBi.out.size)).mono Y2.out.size)⟩
              · have hk0 : k = 16 := by omega
                subst hk0
                have hlv : leV e.p f = true := (leV_iff _ _).2 HLe.out
                have HA8 := Lib.hid (show A0 = 0 by rw [← HA0.out, hlv]; rfl)
                clear hlv
                go_wp2
                go_ret
                exact ⟨by rw [HA8.out]; rfl, Y2.out.trans (HBi.out.mono Y2.out.size)⟩

end Go.Proofs.Ytmhechlfpaciiaa

namespace Go.Proofs.Ytmhechlfpaciiaa
open Go.RowKit Go.MapKept Go.Sort

/-- One step of All, from the back. -/
def nextA (s : List Ev × (Nat → Int) × Int) (e : Ev) : List Ev × (Nat → Int) × Int :=
  if s.2.2 = 0 then if oneI s.2.1 e = 0 then (s.1 ++ [e], setD s.2.1 e, 0) else if oneI s.2.1 e = 5 then s else (s.1, s.2.1, oneI s.2.1 e) else s
theorem allA_snoc : ∀ (l D : List Ev) (f : Nat → Int) (e : Ev), allA (l ++ [e]) D f = nextA (allA l D f) e
  | [], D, f, e => by
    rw [List.nil_append]
    show _ = if (0 : Int) = 0 then (if oneI f e = 0 then (D ++ [e], setD f e, 0) else if oneI f e = 5 then (D, f, 0) else (D, f, oneI f e)) else (D, f, 0)
    rw [if_pos rfl]
    rfl
  | x :: l, D, f, e => by
    rw [List.cons_append]
    simp only [allA]
    by_cases h0 : oneI f x = 0
    · rw [if_pos h0, if_pos h0]; exact allA_snoc l _ _ e
    · rw [if_neg h0, if_neg h0]
      by_cases h5 : oneI f x = 5
      · rw [if_pos h5, if_pos h5]; exact allA_snoc l _ _ e
      · rw [if_neg h5, if_neg h5]
        unfold nextA
        rw [if_neg h0]
theorem allA_next {l : List Ev} {j : Nat} {e : Ev} {f : Nat → Int} (h : l[j]? = some e) : allA (l.take (j + 1)) [] f = nextA (allA (l.take j) [] f) e := by
  rw [List.take_add_one, h]; exact allA_snoc _ _ _ _
theorem nextA_on {s : List Ev × (Nat → Int) × Int} {e : Ev} (h : s.2.2 = 0) (h0 : oneI s.2.1 e = 0) : nextA s e = (s.1 ++ [e], setD s.2.1 e, 0) := by
  unfold nextA; rw [if_pos h, if_pos h0]
theorem nextA_seen {s : List Ev × (Nat → Int) × Int} {e : Ev} (h0 : oneI s.2.1 e = 5) : nextA s e = s := by
  unfold nextA; rw [h0]; split <;> simp
theorem nextA_stop {s : List Ev × (Nat → Int) × Int} {e : Ev} (h : s.2.2 = 0) (h0 : oneI s.2.1 e ≠ 0) (h5 : oneI s.2.1 e ≠ 5) : nextA s e = (s.1, s.2.1, oneI s.2.1 e) := by
  unfold nextA; rw [if_pos h, if_neg h0, if_neg h5]
theorem nextA_stays {s : List Ev × (Nat → Int) × Int} {e : Ev} (h : s.2.2 ≠ 0) : nextA s e = s := by
  unfold nextA; rw [if_neg h]
theorem come_len : ∀ (l : List Ev) (s : List Ev × (Nat → Int)), (l.foldl comeC s).1.length ≤ s.1.length + l.length
  | [], s => by simp
  | e :: l, s => by
    have h1 := come_len l (comeC s e)
    have h2 : (comeC s e).1.length ≤ s.1.length + 1 := by unfold comeC; split <;> simp
    simp only [List.foldl_cons, List.length_cons]
    omega
theorem row_come : ∀ (l D : List Ev) (f : Nat → Int), (allA l D f).1.length = D.length + l.length ↔ (l.foldl comeC (D, f)).1.length = D.length + l.length
  | [], D, f => by simp [allA]
  | e :: l, D, f => by
    simp only [allA, List.foldl_cons, List.length_cons]
    by_cases h0 : oneI f e = 0
    · rw [if_pos h0, comeC_yes (s := (D, f)) (oneI_may.1 h0)]
      have := row_come l (D ++ [e]) (setD f e)
      simp only [List.length_append, List.length_cons, List.length_nil] at this
      rw [show D.length + (l.length + 1) = D.length + (0 + 1) + l.length from by omega]
      exact this
    · rw [if_neg h0, comeC_no (s := (D, f)) (by cases hm : mayC f e; · rfl
                                                · exact absurd (oneI_may.2 hm) h0)]
      have h1 := allA_len l D f
      have h2 := come_len l (D, f)
      dsimp only at h2
      split
      · constructor <;> intro h <;> omega
      · dsimp only
        constructor <;> intro h <;> omega
theorem row_caus (l : List Ev) : rowB l = decide ((causC l).1.length = l.length) := by
  have := row_come l [] fun _ => 0
  simp only [List.length_nil, Nat.zero_add] at this
  unfold rowB causC
  exact decide_eq_decide.2 this
end Go.Proofs.Ytmhechlfpaciiaa
