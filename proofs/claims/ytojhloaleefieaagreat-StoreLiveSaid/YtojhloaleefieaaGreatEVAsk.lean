/-
  vector.Knows, Next, Below, Order: the contracts, by walks. Conditions: none.
-/
import Derived.Test.YtojhloaleefieaaGreatEVOps
namespace Go.Proofs.YtojhloaleefieaaGreat
open Go.RowKit

def nextB (f : Nat → Int) (r c : Int) : Bool := dotB r c && (f r.toNat == c - 1)
theorem dot_is (r c : Int) (b : Bool) (h : dotB r c = b) (w : World) : Calls Tryz.prog 49 #[dv r c] w fun e w' => e = .returned (.bool b) ∧ Below w.heap.size w w' := by
  have := dot_any r c w
  rwa [h] at this

set_option maxRecDepth 100000 in
set_option maxHeartbeats 1000000 in
theorem next_any (f : Nat → Int) (r c : Int) (w : World) : Calls Tryz.prog 35 #[.agg (vA f), dv r c] w fun e w' => e = .returned (.bool (nextB f r c)) ∧ Below w.heap.size w w' := by
  obtain ⟨X, hX⟩ : ∃ X, X = (w.alloc (.cells (vA f) 28)).alloc (.cells #[.int .i64 r, .int .i64 c] 34) := ⟨_, rfl⟩
  have hv : VB X w.heap.size f := by rw [hX]; exact (VB.new_ f rfl).alloc_ _
  have hd : Blk X (w.heap.size + 1) 34 #[.int .i64 r, .int .i64 c] := by
    rw [hX]
    have := Blk.new (w.alloc (.cells (vA f) 28)) 34 #[.int .i64 r, .int .i64 c]
    simpa using this
  have hb : Below w.heap.size w X := by rw [hX]; exact ((Below.refl _ _).alloc (Nat.le_refl _) _).alloc (by simp) _
  have HX := Lib.hid hX
  have HV := Lib.hid hv
  have HD := Lib.hid hd
  have HB := Lib.hid hb
  clear hX hv hd hb
  unfold dv
  cases hdot : dotB r c
  · have HDot := Lib.hid hdot
    clear hdot
    go_enter Tryz.func35, Tryz.ntmps35
    go_upto_region 1 with fail
    rw [← HX.out]
    refine wp_region_any (by kernel_rfl) ?_
    refine wpAny_below (fun i v _ => v = ([dv r c, .bool false, .bool false, undef, undef, undef, undef, undef, undef, undef, undef, .bool false, .bool false] : List Value).getD i undef) _ X (by kernel_rfl) (by kernel_rfl) (by kernel_rfl) (fun i v w w' _ h => h) ?_ ?_
    · refine ⟨?_, ?_, ?_, ?_, ?_, ?_, ?_, ?_, ?_, ?_, ?_, ?_, ?_, trivial⟩
      · intro a W hI hun haft hi
        have e3 : a.eval (.tmp 3) = .pointer (some ⟨w.heap.size + 1, 0, none⟩) := hun 3 (by kernel_rfl)
        exact b_same hi hI rfl _ (run_load_op rfl e3 (Blk.below HD.out hI (Blk.lt HD.out)) Tryz.underlying34 rfl (by kernel_rfl)) rfl
      · intro a W hI hun haft hi
        have f0 : a.eval (.tmp 5) = dv r c := haft ⟨0, .data⟩ (by simp) rfl _ _ rfl rfl
        refine b_call hi hI rfl _ _ (run_call_op (args := #[dv r c]) rfl (by simp [f0]) (by kernel_rfl)) ?_
        exact (dot_is r c _ HDot.out W).mono fun e w' H => ⟨_, H.1, rfl, H.2⟩
      · intro a W hI hun haft hi
        have f1 : a.eval (.tmp 6) = .bool false := haft ⟨1, .data⟩ (by simp) rfl _ _ rfl rfl
        exact b_same hi hI rfl _ (run_move_op rfl f1) rfl
      · intro a W hI hun haft hi
        have fg : a.eval (.tmp 7) = .bool false := haft ⟨2, .guard⟩ (by simp) rfl _ _ rfl rfl
        exact b_skip hi hI (guard_no rfl rfl rfl (.inl fg)) rfl
      · intro a W hI hun haft hi
        have fg : a.eval (.tmp 7) = .bool false := haft ⟨2, .guard⟩ (by simp) rfl _ _ rfl rfl
        exact b_skip hi hI (guard_no rfl rfl rfl (.inl fg)) rfl
      · intro a W hI hun haft hi
        have fg : a.eval (.tmp 7) = .bool false := haft ⟨2, .guard⟩ (by simp) rfl _ _ rfl rfl
        exact b_skip hi hI (guard_no rfl rfl rfl (.inl fg)) rfl
      · intro a W hI hun haft hi
        have fg : a.eval (.tmp 7) = .bool false := haft ⟨2, .guard⟩ (by simp) rfl _ _ rfl rfl
        exact b_skip hi hI (guard_no rfl rfl rfl (.inl fg)) rfl
      · intro a W hI hun haft hi
        have fg : a.eval (.tmp 7) = .bool false := haft ⟨2, .guard⟩ (by simp) rfl _ _ rfl rfl
        exact b_skip hi hI (guard_no rfl rfl rfl (.inl fg)) rfl
      · intro a W hI hun haft hi
        have fg : a.eval (.tmp 7) = .bool false := haft ⟨2, .guard⟩ (by simp) rfl _ _ rfl rfl
        exact b_skip hi hI (guard_no rfl rfl rfl (.inl fg)) rfl
      · intro a W hI hun haft hi
        have fg : a.eval (.tmp 7) = .bool false := haft ⟨2, .guard⟩ (by simp) rfl _ _ rfl rfl
        exact b_skip hi hI (guard_no rfl rfl rfl (.inl fg)) rfl
      · intro a W hI hun haft hi
        have fg : a.eval (.tmp 7) = .bool false := haft ⟨2, .guard⟩ (by simp) rfl _ _ rfl rfl
        exact b_skip hi hI (guard_no rfl rfl rfl (.inl fg)) rfl
      · intro a W hI hun haft hi
        have f2 : a.eval (.tmp 7) = .bool false := haft ⟨2, .data⟩ (by simp) rfl _ _ rfl rfl
        have f10 : a.eval (.tmp 15) = undef := haft ⟨10, .data⟩ (by simp) rfl _ _ rfl rfl
        exact b_same hi hI rfl _ (run_pick_op (b := false) rfl f2 f10 rfl) rfl
      · intro a W hI hun haft hi
        have f11 : a.eval (.tmp 16) = .bool false := haft ⟨11, .data⟩ (by simp) rfl _ _ rfl rfl
        exact b_same hi hI rfl _ (run_assign_op rfl f11) rfl
    · intro vals W hI hp
      have hl12 : vals 12 = .bool false := hp 12 (by decide)
      have HI := Lib.hid hI
      clear hp hI
      simp only [layN, List.size_toArray, List.length_cons, List.length_nil, List.range, List.range.loop, if_true, List.getElem?_toArray, List.getElem?_cons_zero, List.getElem?_cons_succ, Act.put, List.setIfInBounds_toArray, List.set_cons_zero, List.set_cons_succ, Nat.zero_add, Nat.reduceAdd, hl12]
      clear hl12
      go_wp2
      go_ret
      exact ⟨by unfold nextB; rw [HDot.out]; rfl, HB.out.trans (HI.out.mono HB.out.size)⟩
  · have HDot := Lib.hid hdot
    obtain ⟨n, hr, hn, h1, h2⟩ := (dotB_iff r c).1 hdot
    clear hdot
    subst hr
    have hc : (f n == c - 1) = nextB f n c := by unfold nextB; rw [HDot.out]; simp
    go_enter Tryz.func35, Tryz.ntmps35
    go_upto_region 1 with fail
    rw [← HX.out]
    refine wp_region_any (by kernel_rfl) ?_
    refine wpAny_below (fun i v _ => v = ([dv n c, .bool true, .bool true, .pointer (some ⟨w.heap.size + 1, 0, none⟩), .int .i64 n, .pointer (some ⟨w.heap.size, n, none⟩), .int .i64 (f n), .pointer (some ⟨w.heap.size + 1, 1, none⟩), .int .i64 c, .int .i64 (c - 1), .bool (f n == c - 1), .bool (f n == c - 1), .bool (f n == c - 1)] : List Value).getD i undef) _ X (by kernel_rfl) (by kernel_rfl) (by kernel_rfl) (fun i v w w' _ h => h) ?_ ?_
    · refine ⟨?_, ?_, ?_, ?_, ?_, ?_, ?_, ?_, ?_, ?_, ?_, ?_, ?_, trivial⟩
      · intro a W hI hun haft hi
        have e3 : a.eval (.tmp 3) = .pointer (some ⟨w.heap.size + 1, 0, none⟩) := hun 3 (by kernel_rfl)
        exact b_same hi hI rfl _ (run_load_op rfl e3 (Blk.below HD.out hI (Blk.lt HD.out)) Tryz.underlying34 rfl (by kernel_rfl)) rfl
      · intro a W hI hun haft hi
        have f0 : a.eval (.tmp 5) = dv n c := haft ⟨0, .data⟩ (by simp) rfl _ _ rfl rfl
        refine b_call hi hI rfl _ _ (run_call_op (args := #[dv n c]) rfl (by simp [f0]) (by kernel_rfl)) ?_
        exact (dot_is n c _ HDot.out W).mono fun e w' H => ⟨_, H.1, rfl, H.2⟩
      · intro a W hI hun haft hi
        have f1 : a.eval (.tmp 6) = .bool true := haft ⟨1, .data⟩ (by simp) rfl _ _ rfl rfl
        exact b_same hi hI rfl _ (run_move_op rfl f1) rfl
      · intro a W hI hun haft hi
        have fg : a.eval (.tmp 7) = .bool true := haft ⟨2, .guard⟩ (by simp) rfl _ _ rfl rfl
        have e3 : a.eval (.tmp 3) = .pointer (some ⟨w.heap.size + 1, 0, none⟩) := hun 3 (by kernel_rfl)
        exact b_same hi hI (guard_ok rfl rfl rfl fg) _ (run_fieldAddr_op rfl e3 (field0 _ _)) rfl
      · intro a W hI hun haft hi
        have fg : a.eval (.tmp 7) = .bool true := haft ⟨2, .guard⟩ (by simp) rfl _ _ rfl rfl
        have f3 : a.eval (.tmp 8) = .pointer (some ⟨w.heap.size + 1, 0, none⟩) := haft ⟨3, .data⟩ (by simp) rfl _ _ rfl rfl
        exact b_same hi hI (guard_ok rfl rfl rfl fg) _ (run_loadint_op rfl f3 Tryz.underlying3 ((Blk.cell (Blk.below HD.out hI (Blk.lt HD.out)) 0).trans rfl)) rfl
      · intro a W hI hun haft hi
        have fg : a.eval (.tmp 7) = .bool true := haft ⟨2, .guard⟩ (by simp) rfl _ _ rfl rfl
        have e2 : a.eval (.tmp 2) = .pointer (some ⟨w.heap.size, 0, none⟩) := hun 2 (by kernel_rfl)
        have f4 : a.eval (.tmp 9) = .int .i64 n := haft ⟨4, .data⟩ (by simp) rfl _ _ rfl rfl
        exact b_same hi hI (guard_ok rfl rfl rfl fg) _ (run_indexAddr_op rfl e2 f4 (indexV _ n hn _)) rfl
      · intro a W hI hun haft hi
        have fg : a.eval (.tmp 7) = .bool true := haft ⟨2, .guard⟩ (by simp) rfl _ _ rfl rfl
        have f5 : a.eval (.tmp 10) = .pointer (some ⟨w.heap.size, n, none⟩) := haft ⟨5, .data⟩ (by simp) rfl _ _ rfl rfl
        exact b_same hi hI (guard_ok rfl rfl rfl fg) _ (run_loadint_op rfl f5 Tryz.underlying3 (VB.cell_ (Blk.below HV.out hI (Blk.lt HV.out)) n hn)) rfl
      · intro a W hI hun haft hi
        have fg : a.eval (.tmp 7) = .bool true := haft ⟨2, .guard⟩ (by simp) rfl _ _ rfl rfl
        have e3 : a.eval (.tmp 3) = .pointer (some ⟨w.heap.size + 1, 0, none⟩) := hun 3 (by kernel_rfl)
        exact b_same hi hI (guard_ok rfl rfl rfl fg) _ (run_fieldAddr_op rfl e3 (field1 _ _)) rfl
      · intro a W hI hun haft hi
        have fg : a.eval (.tmp 7) = .bool true := haft ⟨2, .guard⟩ (by simp) rfl _ _ rfl rfl
        have f7 : a.eval (.tmp 12) = .pointer (some ⟨w.heap.size + 1, 1, none⟩) := haft ⟨7, .data⟩ (by simp) rfl _ _ rfl rfl
        exact b_same hi hI (guard_ok rfl rfl rfl fg) _ (run_loadint_op rfl f7 Tryz.underlying3 ((Blk.cell (Blk.below HD.out hI (Blk.lt HD.out)) 1).trans rfl)) rfl
      · intro a W hI hun haft hi
        have fg : a.eval (.tmp 7) = .bool true := haft ⟨2, .guard⟩ (by simp) rfl _ _ rfl rfl
        have f8 : a.eval (.tmp 13) = .int .i64 c := haft ⟨8, .data⟩ (by simp) rfl _ _ rfl rfl
        exact b_same hi hI (guard_ok rfl rfl rfl fg) (.int .i64 (c - 1)) (run_bin_op rfl f8 rfl (by go_simp) (by have hw := IntWalk.i64_in (c - 1) (by omega); go_simp)) rfl
      · intro a W hI hun haft hi
        have fg : a.eval (.tmp 7) = .bool true := haft ⟨2, .guard⟩ (by simp) rfl _ _ rfl rfl
        have f6 : a.eval (.tmp 11) = .int .i64 (f n) := haft ⟨6, .data⟩ (by simp) rfl _ _ rfl rfl
        have f9 : a.eval (.tmp 14) = .int .i64 (c - 1) := haft ⟨9, .data⟩ (by simp) rfl _ _ rfl rfl
        exact b_same hi hI (guard_ok rfl rfl rfl fg) (.bool (f n == c - 1)) (run_bin_op rfl f6 f9 (by go_simp) (by go_simp)) rfl
      · intro a W hI hun haft hi
        have f2 : a.eval (.tmp 7) = .bool true := haft ⟨2, .data⟩ (by simp) rfl _ _ rfl rfl
        have f10 : a.eval (.tmp 15) = .bool (f n == c - 1) := haft ⟨10, .data⟩ (by simp) rfl _ _ rfl rfl
        exact b_same hi hI rfl _ (run_pick_op (b := true) rfl f2 f10 rfl) rfl
      · intro a W hI hun haft hi
        have f11 : a.eval (.tmp 16) = .bool (f n == c - 1) := haft ⟨11, .data⟩ (by simp) rfl _ _ rfl rfl
        exact b_same hi hI rfl _ (run_assign_op rfl f11) rfl
    · intro vals W hI hp
      have hl12 : vals 12 = .bool (f n == c - 1) := hp 12 (by decide)
      have HI := Lib.hid hI
      clear hp hI
      simp only [layN, List.size_toArray, List.length_cons, List.length_nil, List.range, List.range.loop, if_true, List.getElem?_toArray, List.getElem?_cons_zero, List.getElem?_cons_succ, Act.put, List.setIfInBounds_toArray, List.set_cons_zero, List.set_cons_succ, Nat.zero_add, Nat.reduceAdd, hl12]
      clear hl12
      go_wp2
      go_ret
      exact ⟨ret_bool hc, HB.out.trans (HI.out.mono HB.out.size)⟩



end Go.Proofs.YtojhloaleefieaaGreat
