/-
  vector.Knows; snap's closures; slices.IndexFunc, ContainsFunc with them, snap.rightEvents: the contracts, by walks. Conditions: texts that are not too long.
-/
import Derived.Test.YtejljikikhecnaaGreatSnItem
namespace Go.Proofs.YtejljikikhecnaaGreat
open Go.RowKit Go.MapKept Go.Sort
def knowsB (f : Nat → Int) (r c : Int) : Bool := dotB r c && decide (c ≤ f r.toNat)

set_option maxRecDepth 100000 in
set_option maxHeartbeats 1000000 in
theorem knows_any (f : Nat → Int) (r c : Int) (w : World) : Calls Tryz.prog 67 #[.agg (vA f), dv r c] w fun e w' => e = .returned (.bool (knowsB f r c)) ∧ Below w.heap.size w w' := by
  obtain ⟨X, hX⟩ : ∃ X, X = (w.alloc (.cells (vA f) 23)).alloc (.cells #[.int .i64 r, .int .i64 c] 43) := ⟨_, rfl⟩
  have hv : VB X w.heap.size f := by rw [hX]; exact (VB.new_ f rfl).alloc_ _
  have hd : Blk X (w.heap.size + 1) 43 #[.int .i64 r, .int .i64 c] := by
    rw [hX]
    have := Blk.new (w.alloc (.cells (vA f) 23)) 43 #[.int .i64 r, .int .i64 c]
    simpa using this
  have hb : Below w.heap.size w X := by rw [hX]; exact ((Below.refl _ _).alloc (Nat.le_refl _) _).alloc (by simp) _
  have HX := Lib.hid hX
  have HV := Lib.hid hv
  have HD := Lib.hid hd
  have HB := Lib.hid hb
  clear hX hv hd hb
  unfold dv
  cases hdot : dotB r c
  · have HDot := Lib.hid hdot
    clear hdot
    go_enter Tryz.func67, Tryz.ntmps67
    go_upto_region 1 with fail
    rw [← HX.out]
    refine wp_region_any (by kernel_rfl) ?_
    refine wpAny_below (fun i v _ => v = ([dv r c, .bool false, .bool false, undef, undef, undef, undef, undef, undef, undef, .bool false, .bool false] : List Value).getD i undef) _ X (by kernel_rfl) (by kernel_rfl) (by kernel_rfl) (fun i v w w' _ h => h) ?_ ?_
    · refine ⟨?_, ?_, ?_, ?_, ?_, ?_, ?_, ?_, ?_, ?_, ?_, ?_, trivial⟩
      · intro a W hI hun haft hi
        have e3 : a.eval (.tmp 3) = .pointer (some ⟨w.heap.size + 1, 0, none⟩) := hun 3 (by kernel_rfl)
        exact b_same hi hI rfl _ (run_load_op rfl e3 (Blk.below HD.out hI (Blk.lt HD.out)) Tryz.underlying43 rfl (by kernel_rfl)) rfl
      · intro a W hI hun haft hi
        have f0 : a.eval (.tmp 5) = dv r c := haft ⟨0, .data⟩ (by simp) rfl _ _ rfl rfl
        refine b_call hi hI rfl _ _ (run_call_op (args := #[dv r c]) rfl (by simp [f0]) (by kernel_rfl)) ?_
        exact (dot_is r c _ HDot.out W).mono fun e w' H => ⟨_, H.1, rfl, H.2⟩
      · intro a W hI hun haft hi
        have f1 : a.eval (.tmp 6) = .bool false := haft ⟨1, .data⟩ (by simp) rfl _ _ rfl rfl
        exact b_same hi hI rfl _ (run_move_op rfl f1) rfl
      · intro a W hI hun haft hi
        have fg : a.eval (.tmp 7) = .bool false := haft ⟨2, .guard⟩ (by simp) rfl _ _ rfl rfl
        exact b_skip hi hI (guard_no rfl rfl rfl (.inl fg)) rfl
      · intro a W hI hun haft hi
        have fg : a.eval (.tmp 7) = .bool false := haft ⟨2, .guard⟩ (by simp) rfl _ _ rfl rfl
        exact b_skip hi hI (guard_no rfl rfl rfl (.inl fg)) rfl
      · intro a W hI hun haft hi
        have fg : a.eval (.tmp 7) = .bool false := haft ⟨2, .guard⟩ (by simp) rfl _ _ rfl rfl
        exact b_skip hi hI (guard_no rfl rfl rfl (.inl fg)) rfl
      · intro a W hI hun haft hi
        have fg : a.eval (.tmp 7) = .bool false := haft ⟨2, .guard⟩ (by simp) rfl _ _ rfl rfl
        exact b_skip hi hI (guard_no rfl rfl rfl (.inl fg)) rfl
      · intro a W hI hun haft hi
        have fg : a.eval (.tmp 7) = .bool false := haft ⟨2, .guard⟩ (by simp) rfl _ _ rfl rfl
        exact b_skip hi hI (guard_no rfl rfl rfl (.inl fg)) rfl
      · intro a W hI hun haft hi
        have fg : a.eval (.tmp 7) = .bool false := haft ⟨2, .guard⟩ (by simp) rfl _ _ rfl rfl
        exact b_skip hi hI (guard_no rfl rfl rfl (.inl fg)) rfl
      · intro a W hI hun haft hi
        have fg : a.eval (.tmp 7) = .bool false := haft ⟨2, .guard⟩ (by simp) rfl _ _ rfl rfl
        exact b_skip hi hI (guard_no rfl rfl rfl (.inl fg)) rfl
      · intro a W hI hun haft hi
        have f2 : a.eval (.tmp 7) = .bool false := haft ⟨2, .data⟩ (by simp) rfl _ _ rfl rfl
        have f9 : a.eval (.tmp 14) = undef := haft ⟨9, .data⟩ (by simp) rfl _ _ rfl rfl
        exact b_same hi hI rfl _ (run_pick_op (b := false) rfl f2 f9 rfl) rfl
      · intro a W hI hun haft hi
        have f10 : a.eval (.tmp 15) = .bool false := haft ⟨10, .data⟩ (by simp) rfl _ _ rfl rfl
        exact b_same hi hI rfl _ (run_assign_op rfl f10) rfl
    · intro vals W hI hp
      have hl11 : vals 11 = .bool false := hp 11 (by decide)
      have HI := Lib.hid hI
      clear hp hI
      simp only [layN, List.size_toArray, List.length_cons, List.length_nil, List.range, List.range.loop, if_true, List.getElem?_toArray, List.getElem?_cons_zero, List.getElem?_cons_succ, Act.put, List.setIfInBounds_toArray, List.set_cons_zero, List.set_cons_succ, Nat.zero_add, Nat.reduceAdd, hl11]
      clear hl11
      go_wp2
      go_ret
      exact ⟨by unfold knowsB; rw [HDot.out]; rfl, HB.out.trans (HI.out.mono HB.out.size)⟩
  · have HDot := Lib.hid hdot
    obtain ⟨n, hr, hn, h1, h2⟩ := (dotB_iff r c).1 hdot
    clear hdot
    subst hr
    have hc : decide (c ≤ f n) = knowsB f n c := by unfold knowsB; rw [HDot.out]; simp
    go_enter Tryz.func67, Tryz.ntmps67
    go_upto_region 1 with fail
    rw [← HX.out]
    refine wp_region_any (by kernel_rfl) ?_
    refine wpAny_below (fun i v _ => v = ([dv n c, .bool true, .bool true, .pointer (some ⟨w.heap.size + 1, 0, none⟩), .int .i64 n, .pointer (some ⟨w.heap.size, n, none⟩), .int .i64 (f n), .pointer (some ⟨w.heap.size + 1, 1, none⟩), .int .i64 c, .bool (decide (c ≤ f n)), .bool (decide (c ≤ f n)), .bool (decide (c ≤ f n))] : List Value).getD i undef) _ X (by kernel_rfl) (by kernel_rfl) (by kernel_rfl) (fun i v w w' _ h => h) ?_ ?_
    · refine ⟨?_, ?_, ?_, ?_, ?_, ?_, ?_, ?_, ?_, ?_, ?_, ?_, trivial⟩
      · intro a W hI hun haft hi
        have e3 : a.eval (.tmp 3) = .pointer (some ⟨w.heap.size + 1, 0, none⟩) := hun 3 (by kernel_rfl)
        exact b_same hi hI rfl _ (run_load_op rfl e3 (Blk.below HD.out hI (Blk.lt HD.out)) Tryz.underlying43 rfl (by kernel_rfl)) rfl
      · intro a W hI hun haft hi
        have f0 : a.eval (.tmp 5) = dv n c := haft ⟨0, .data⟩ (by simp) rfl _ _ rfl rfl
        refine b_call hi hI rfl _ _ (run_call_op (args := #[dv n c]) rfl (by simp [f0]) (by kernel_rfl)) ?_
        exact (dot_is n c _ HDot.out W).mono fun e w' H => ⟨_, H.1, rfl, H.2⟩
      · intro a W hI hun haft hi
        have f1 : a.eval (.tmp 6) = .bool true := haft ⟨1, .data⟩ (by simp) rfl _ _ rfl rfl
        exact b_same hi hI rfl _ (run_move_op rfl f1) rfl
      · intro a W hI hun haft hi
        have fg : a.eval (.tmp 7) = .bool true := haft ⟨2, .guard⟩ (by simp) rfl _ _ rfl rfl
        have e3 : a.eval (.tmp 3) = .pointer (some ⟨w.heap.size + 1, 0, none⟩) := hun 3 (by kernel_rfl)
        exact b_same hi hI (guard_ok rfl rfl rfl fg) _ (run_fieldAddr_op rfl e3 (field0 _ _)) rfl
      · intro a W hI hun haft hi
        have fg : a.eval (.tmp 7) = .bool true := haft ⟨2, .guard⟩ (by simp) rfl _ _ rfl rfl
        have f3 : a.eval (.tmp 8) = .pointer (some ⟨w.heap.size + 1, 0, none⟩) := haft ⟨3, .data⟩ (by simp) rfl _ _ rfl rfl
        exact b_same hi hI (guard_ok rfl rfl rfl fg) _ (run_loadint_op rfl f3 Tryz.underlying3 ((Blk.cell (Blk.below HD.out hI (Blk.lt HD.out)) 0).trans rfl)) rfl
      · intro a W hI hun haft hi
        have fg : a.eval (.tmp 7) = .bool true := haft ⟨2, .guard⟩ (by simp) rfl _ _ rfl rfl
        have e2 : a.eval (.tmp 2) = .pointer (some ⟨w.heap.size, 0, none⟩) := hun 2 (by kernel_rfl)
        have f4 : a.eval (.tmp 9) = .int .i64 n := haft ⟨4, .data⟩ (by simp) rfl _ _ rfl rfl
        exact b_same hi hI (guard_ok rfl rfl rfl fg) _ (run_indexAddr_op rfl e2 f4 (indexV _ n hn _)) rfl
      · intro a W hI hun haft hi
        have fg : a.eval (.tmp 7) = .bool true := haft ⟨2, .guard⟩ (by simp) rfl _ _ rfl rfl
        have f5 : a.eval (.tmp 10) = .pointer (some ⟨w.heap.size, n, none⟩) := haft ⟨5, .data⟩ (by simp) rfl _ _ rfl rfl
        exact b_same hi hI (guard_ok rfl rfl rfl fg) _ (run_loadint_op rfl f5 Tryz.underlying3 (VB.cell_ (Blk.below HV.out hI (Blk.lt HV.out)) n hn)) rfl
      · intro a W hI hun haft hi
        have fg : a.eval (.tmp 7) = .bool true := haft ⟨2, .guard⟩ (by simp) rfl _ _ rfl rfl
        have e3 : a.eval (.tmp 3) = .pointer (some ⟨w.heap.size + 1, 0, none⟩) := hun 3 (by kernel_rfl)
        exact b_same hi hI (guard_ok rfl rfl rfl fg) _ (run_fieldAddr_op rfl e3 (field1 _ _)) rfl
      · intro a W hI hun haft hi
        have fg : a.eval (.tmp 7) = .bool true := haft ⟨2, .guard⟩ (by simp) rfl _ _ rfl rfl
        have f7 : a.eval (.tmp 12) = .pointer (some ⟨w.heap.size + 1, 1, none⟩) := haft ⟨7, .data⟩ (by simp) rfl _ _ rfl rfl
        exact b_same hi hI (guard_ok rfl rfl rfl fg) _ (run_loadint_op rfl f7 Tryz.underlying3 ((Blk.cell (Blk.below HD.out hI (Blk.lt HD.out)) 1).trans rfl)) rfl
      · intro a W hI hun haft hi
        have fg : a.eval (.tmp 7) = .bool true := haft ⟨2, .guard⟩ (by simp) rfl _ _ rfl rfl
        have f6 : a.eval (.tmp 11) = .int .i64 (f n) := haft ⟨6, .data⟩ (by simp) rfl _ _ rfl rfl
        have f8 : a.eval (.tmp 13) = .int .i64 c := haft ⟨8, .data⟩ (by simp) rfl _ _ rfl rfl
        exact b_same hi hI (guard_ok rfl rfl rfl fg) (.bool (decide (c ≤ f n))) (run_bin_op rfl f6 f8 (by go_simp) (by go_simp)) rfl
      · intro a W hI hun haft hi
        have f2 : a.eval (.tmp 7) = .bool true := haft ⟨2, .data⟩ (by simp) rfl _ _ rfl rfl
        have f9 : a.eval (.tmp 14) = .bool (decide (c ≤ f n)) := haft ⟨9, .data⟩ (by simp) rfl _ _ rfl rfl
        exact b_same hi hI rfl _ (run_pick_op (b := true) rfl f2 f9 rfl) rfl
      · intro a W hI hun haft hi
        have f10 : a.eval (.tmp 15) = .bool (decide (c ≤ f n)) := haft ⟨10, .data⟩ (by simp) rfl _ _ rfl rfl
        exact b_same hi hI rfl _ (run_assign_op rfl f10) rfl
    · intro vals W hI hp
      have hl11 : vals 11 = .bool (decide (c ≤ f n)) := hp 11 (by decide)
      have HI := Lib.hid hI
      clear hp hI
      simp only [layN, List.size_toArray, List.length_cons, List.length_nil, List.range, List.range.loop, if_true, List.getElem?_toArray, List.getElem?_cons_zero, List.getElem?_cons_succ, Act.put, List.setIfInBounds_toArray, List.set_cons_zero, List.set_cons_succ, Nat.zero_add, Nat.reduceAdd, hl11]
      clear hl11
      go_wp2
      go_ret
      exact ⟨ret_bool hc, HB.out.trans (HI.out.mono HB.out.size)⟩


theorem knows_is (f : Nat → Int) (r c : Int) (b : Bool) (h : knowsB f r c = b) (w : World) : Calls Tryz.prog 67 #[.agg (vA f), .agg #[.int .i64 r, .int .i64 c]] w (Gives w (.bool b)) := by subst h; exact knows_any f r c w
theorem eright_is (e : Ev) (b : Bool) (h : okB e = b) (hl : Lens e) (w : World) (hw : CutOk w) : Calls Tryz.prog 48 #[evV e] w (Gives w (.int .i64 (codeI b))) := by subst h; exact eright_any e w hl hw
def unkB (v : Nat → Int) (q : Dt × Va) : Bool := !knowsB v q.1.r q.1.c
def wrongB (v : Nat → Int) (e : Ev) : Bool := !okB e || !knowsB v e.r e.c

set_option maxRecDepth 100000 in
set_option maxHeartbeats 2000000 in
theorem unknown_any (g : Nat) (f : Nat → Int) (q : Dt × Va) (w : World) (h : VB w g f) :
    Calls Tryz.prog 99 #[.agg (cN q), .pointer (some ⟨g, 0, none⟩)] w (Gives w (.bool (unkB f q))) := by
  obtain ⟨bk, hbk⟩ : ∃ bk, knowsB f q.1.r q.1.c = bk := ⟨_, rfl⟩
  have HKn := Lib.hid (fun W => knows_is f q.1.r q.1.c bk hbk W)
  have HC : Hid (unkB f q = !bk) := Lib.hid (by unfold unkB; rw [hbk])
  obtain ⟨b0, hb0⟩ : ∃ b0, w.heap.size = b0 := ⟨_, rfl⟩
  obtain ⟨X, hX⟩ : ∃ X, X = w.alloc (.cells (cN q) 63) := ⟨_, rfl⟩
  have hbx : Below w.heap.size w X := by rw [hX]; exact (Below.refl _ _).alloc (Nat.le_refl _) _
  have HK := Lib.hid (show Blk X b0 63 (cN q) by rw [hX, ← hb0]; exact Blk.new _ _ _)
  have HM := Lib.hid (Blk.below h hbx (Blk.lt h))
  have HX := Lib.hid (show X = w.alloc (.cells #[.int .i64 q.1.r, .int .i64 q.1.c, .int .i64 q.2.k, .int .i64 q.2.n, .string q.2.t] 63) from hX)
  have HB := Lib.hid hbx
  have HP := Lib.hid hb0
  clear hX hbx hb0 h hbk
  unfold cN
  go_enter Tryz.func99, Tryz.ntmps99
  go_upto_region 1 with fail
  rw [← HX.out, HP.out]
  go_wp2_with (first
    | (refine wpList_load_if rfl 23 (.tmp 1) rfl g rfl _ _ _ _ HM.out Tryz.underlying23 rfl (by kernel_rfl) ?_)
    | (refine wpList_load_midif rfl 43 (.tmp 5) rfl b0 0 rfl [.int .i64 q.1.r, .int .i64 q.1.c] _ (World.rangeAt_of_block (C := cN q) HK.out 0 2) Tryz.underlying43 rfl (by kernel_rfl) ?_)
    | fail)
  refine (HKn.out X).mono ?_
  rintro e' w2 ⟨rfl, hb⟩
  have HB2 := Lib.hid (HB.out.trans (hb.mono HB.out.size))
  clear hb
  go_wp2
  go_ret
  exact ⟨by rw [HC.out]; rfl, HB2.out⟩

set_option maxRecDepth 100000 in
set_option maxHeartbeats 2000000 in
theorem wrong_any (g : Nat) (f : Nat → Int) (e : Ev) (w : World) (h : VB w g f) (hl : Lens e) (hw : CutOk w) :
    Calls Tryz.prog 66 #[evV e, .pointer (some ⟨g, 0, none⟩)] w (Gives w (.bool (wrongB f e))) := by
  obtain ⟨b0, hb0⟩ : ∃ b0, w.heap.size = b0 := ⟨_, rfl⟩
  obtain ⟨X, hX⟩ : ∃ X, X = w.alloc (.cells (evC e) 49) := ⟨_, rfl⟩
  have hbx : Below w.heap.size w X := by rw [hX]; exact (Below.refl _ _).alloc (Nat.le_refl _) _
  have HK := Lib.hid (show EB X b0 e by rw [hX, ← hb0]; exact EB.new_ w e)
  have HM := Lib.hid (Blk.below h hbx (Blk.lt h))
  have HW := Lib.hid (hw.below hbx)
  have HX := Lib.hid hX
  have HB := Lib.hid hbx
  have HP := Lib.hid hb0
  have HL := Lib.hid hl
  have HC : Hid (wrongB f e = (!okB e || !knowsB f e.r e.c)) := Lib.hid rfl
  clear hX hbx hb0 h hl hw
  unfold evV
  cases ho : okB e
  · rw [ho] at HC
    have HR := Lib.hid (fun W hW => eright_is e false ho HL.out W hW)
    clear ho
    go_enter Tryz.func66, Tryz.ntmps66
    go_upto_region 1 with fail
    rw [← HX.out, HP.out]
    go_wp2_with (first
      | (refine wpList_load_if rfl 49 (.tmp 2) rfl b0 rfl _ _ _ _ HK.out Tryz.underlying49 rfl (sizeE e) ?_)
      | fail)
    refine (HR.out X HW.out).mono ?_
    rintro e' w1 ⟨rfl, hb⟩
    have HB1 := Lib.hid (HB.out.trans (hb.mono HB.out.size))
    clear hb
    go_wp2
    go_ret
    exact ⟨by rw [HC.out]; rfl, HB1.out⟩
  · rw [ho] at HC
    have HR := Lib.hid (fun W hW => eright_is e true ho HL.out W hW)
    clear ho
    obtain ⟨bk, hbk⟩ : ∃ bk, knowsB f e.r e.c = bk := ⟨_, rfl⟩
    have HKn := Lib.hid (fun W => knows_is f e.r e.c bk hbk W)
    rw [hbk] at HC
    clear hbk
    go_enter Tryz.func66, Tryz.ntmps66
    go_upto_region 1 with fail
    rw [← HX.out, HP.out]
    go_wp2_with (first
      | (refine wpList_load_if rfl 49 (.tmp 2) rfl b0 rfl _ _ _ _ HK.out Tryz.underlying49 rfl (sizeE e) ?_)
      | fail)
    refine (HR.out X HW.out).mono ?_
    rintro e' w1 ⟨rfl, hb⟩
    have HK1 := Lib.hid (EB.keep HK.out hb)
    have HM1 := Lib.hid (Blk.below HM.out hb (Blk.lt HM.out))
    have HB1 := Lib.hid (HB.out.trans (hb.mono HB.out.size))
    clear hb
    go_wp2_with (first
      | (refine wpList_load_if rfl 23 (.tmp 1) rfl g rfl _ _ _ _ HM1.out Tryz.underlying23 rfl (by kernel_rfl) ?_)
      | (refine wpList_load_midif rfl 43 (.tmp 9) rfl b0 0 rfl _ _ HK1.out.dot Tryz.underlying43 rfl (by kernel_rfl) ?_)
      | fail)
    refine (HKn.out w1).mono ?_
    rintro e' w2 ⟨rfl, hb⟩
    have HB2 := Lib.hid (HB1.out.trans (hb.mono HB1.out.size))
    clear hb
    go_wp2
    go_ret
    exact ⟨by rw [HC.out]; rfl, HB2.out⟩
theorem any_snoc {α : Type} {l : List α} {p : α → Bool} {j : Nat} {e : α} (h : l[j]? = some e) : (l.take (j + 1)).any p = ((l.take j).any p || p e) := by
  rw [List.take_add_one, h, List.any_append]; simp
theorem any_at {α : Type} {l : List α} {p : α → Bool} {j : Nat} {e : α} (h : l[j]? = some e) (hp : p e = true) : l.any p = true := List.any_eq_true.2 ⟨e, List.mem_of_getElem? h, hp⟩
set_option maxRecDepth 100000 in
set_option maxHeartbeats 2000000 in
theorem indexN_any (q : Nat) (p : Dt × Va → Bool) (l : List (Dt × Va)) (A : Option Addr) (N c : Nat) (w : World) (hs : SlK enN 5 w (.slice A N c) l) (hN : l.length = N) (hN2 : N ≤ 10000) (hc : ∀ e ∈ l, ∀ W, Below w.heap.size w W → Calls Tryz.prog 99 #[.agg (cN e), .pointer (some ⟨q, 0, none⟩)] W (Gives W (.bool (p e)))) :
    Calls Tryz.prog 117 #[.slice A N c, .func (.func 99) #[] #[.pointer (some ⟨q, 0, none⟩)]] w fun e w' => ∃ r : Int, e = .returned (.int .i64 r) ∧ decide (0 ≤ r) = l.any p ∧ Below w.heap.size w w' := by
  have HS := Lib.hid hs
  have HN := Lib.hid hN
  have HN2 := Lib.hid hN2
  have HC := Lib.hid hc
  clear hs hN hN2 hc
  skip
  go_enter Tryz.func117, Tryz.ntmps117
  go_wp2_with fail
  go_loopw [8] (fun v8 wr => ∃ j : Nat, v8 = .int .i64 j ∧ j ≤ N ∧ (l.take j).any p = false ∧ Below w.heap.size w wr) (fun v8 _ => N - (intOf v8).toNat)
  case atStart => exact ⟨0, rfl, Nat.zero_le _, rfl, Below.refl _ _⟩
  case round =>
    obtain ⟨j, rfl, hj, ha, hb⟩ := hrel
    obtain ⟨wo, rfl⟩ : ∃ wo, wo = wr := ⟨_, rfl⟩
    have HA := Lib.hid ha
    have HB := Lib.hid hb
    by_cases hlt : j < N
    · obtain ⟨e, he⟩ : ∃ e, l[j]? = some e := ⟨l[j]'(by rw [HN.out]; exact hlt), List.getElem?_eq_getElem _⟩
      obtain ⟨gs, o, rfl, hgl, hce⟩ := (HS.out.below hb).at_ he
      have HCe := Lib.hid hce
      have HAt := Lib.hid (at_En gs o c N j hlt wo)
      obtain ⟨b, hbw⟩ : ∃ b, p e = b := ⟨_, rfl⟩
      have hq := HC.out e (List.mem_of_getElem? he) wo hb
      rw [hbw] at hq
      have HQ := Lib.hid hq
      clear hq
      have HSn := Lib.hid (any_snoc (p := p) he)
      have HAn := Lib.hid (fun hp => any_at (p := p) he hp)
      have HWb := Lib.hid hbw
      have HW1 := Lib.hid (IntWalk.i64_in ((j : Int) + 1) (by have := HN2.out; omega))
      have HJ1 := Lib.hid (show ¬ 9223372036854775807 < j + 1 by have := HN2.out; omega)
      clear he hgl hce hbw ha hb
      go_wp2_with (first
        | (refine wpList_val (o := ⟨some 14, _, _, _, _, _⟩) rfl (.pointer (some ⟨gs, o + j * 5, none⟩)) wo (run_indexAddr_op rfl rfl rfl HAt.out) ?_)
        | (refine' wpList_load_midif ?q1 63 (.tmp 14) ?q2 gs (o + j * 5) ?q3 (enN e) _ ?q4 Tryz.underlying63 ?q5 ?q6 ?_; (case q2 => rfl); (case q1 => rfl); (case q3 => rfl); (case q4 => exact HCe.out); (case q5 => rfl); (case q6 => exact (sizeNn e)))
        | fail)
      refine HQ.out.mono ?_
      rintro e' w2 ⟨rfl, hb2⟩
      have HB2 := Lib.hid (show Below w.heap.size w w2 from HB.out.trans (hb2.mono HB.out.size))
      clear hb2
      cases b
      · have hw := HW1.out
        have hjm := HJ1.out
        go_wp2
        go_roundw
        case rel => exact ⟨j + 1, by go_num, by omega, by rw [HSn.out, HA.out, HWb.out]; rfl, HB2.out⟩
        case measure => simp [intOf] <;> omega
      · go_wp2
        go_ret
        exact ⟨_, rfl, by rw [HAn.out HWb.out]; exact decide_eq_true (by omega), HB2.out⟩
    · have hjN : N = j := by omega
      subst hjN
      rw [List.take_of_length_le (Nat.le_of_eq HN.out)] at ha
      have HA2 := Lib.hid ha
      clear ha hb hj hlt HA
      go_wp2
      go_ret
      exact ⟨_, rfl, by rw [HA2.out]; rfl, HB.out⟩
set_option maxRecDepth 100000 in
theorem containsN_any (q : Nat) (p : Dt × Va → Bool) (l : List (Dt × Va)) (A : Option Addr) (N c : Nat) (b : Bool) (hb : l.any p = b) (w : World) (hs : SlK enN 5 w (.slice A N c) l) (hN : l.length = N) (hN2 : N ≤ 10000) (hc : ∀ e ∈ l, ∀ W, Below w.heap.size w W → Calls Tryz.prog 99 #[.agg (cN e), .pointer (some ⟨q, 0, none⟩)] W (Gives W (.bool (p e)))) :
    Calls Tryz.prog 100 #[.slice A N c, .func (.func 99) #[] #[.pointer (some ⟨q, 0, none⟩)]] w (Gives w (.bool b)) := by
  have HI := Lib.hid (indexN_any q p l A N c w hs hN hN2 hc)
  subst hb
  clear hs hN hN2 hc
  skip
  go_enter Tryz.func100, Tryz.ntmps100
  go_wp2_with fail
  refine HI.out.mono ?_
  rintro e w1 ⟨r, rfl, hr, hb⟩
  have HB := Lib.hid hb
  have HR := Lib.hid hr
  clear hr hb
  go_wp2
  go_ret
  exact ⟨by rw [← HR.out]; rfl, HB.out⟩

set_option maxRecDepth 100000 in
set_option maxHeartbeats 2000000 in
theorem indexE_any (q : Nat) (p : Ev → Bool) (l : List (Ev)) (A : Option Addr) (N c : Nat) (w : World) (hs : SlK encE 27 w (.slice A N c) l) (hN : l.length = N) (hN2 : N ≤ 10000) (hc : ∀ e ∈ l, ∀ W, Below w.heap.size w W → Calls Tryz.prog 66 #[evV e, .pointer (some ⟨q, 0, none⟩)] W (Gives W (.bool (p e)))) :
    Calls Tryz.prog 102 #[.slice A N c, .func (.func 66) #[] #[.pointer (some ⟨q, 0, none⟩)]] w fun e w' => ∃ r : Int, e = .returned (.int .i64 r) ∧ decide (0 ≤ r) = l.any p ∧ Below w.heap.size w w' := by
  have HS := Lib.hid hs
  have HN := Lib.hid hN
  have HN2 := Lib.hid hN2
  have HC := Lib.hid hc
  clear hs hN hN2 hc
  skip
  go_enter Tryz.func102, Tryz.ntmps102
  go_wp2_with fail
  go_loopw [8] (fun v8 wr => ∃ j : Nat, v8 = .int .i64 j ∧ j ≤ N ∧ (l.take j).any p = false ∧ Below w.heap.size w wr) (fun v8 _ => N - (intOf v8).toNat)
  case atStart => exact ⟨0, rfl, Nat.zero_le _, rfl, Below.refl _ _⟩
  case round =>
    obtain ⟨j, rfl, hj, ha, hb⟩ := hrel
    obtain ⟨wo, rfl⟩ : ∃ wo, wo = wr := ⟨_, rfl⟩
    have HA := Lib.hid ha
    have HB := Lib.hid hb
    by_cases hlt : j < N
    · obtain ⟨e, he⟩ : ∃ e, l[j]? = some e := ⟨l[j]'(by rw [HN.out]; exact hlt), List.getElem?_eq_getElem _⟩
      obtain ⟨gs, o, rfl, hgl, hce⟩ := (HS.out.below hb).ev he
      have HCe := Lib.hid hce
      have HAt := Lib.hid (at_Ev gs o c N j hlt wo)
      obtain ⟨b, hbw⟩ : ∃ b, p e = b := ⟨_, rfl⟩
      have hq := HC.out e (List.mem_of_getElem? he) wo hb
      rw [hbw] at hq
      have HQ := Lib.hid hq
      clear hq
      have HSn := Lib.hid (any_snoc (p := p) he)
      have HAn := Lib.hid (fun hp => any_at (p := p) he hp)
      have HWb := Lib.hid hbw
      have HW1 := Lib.hid (IntWalk.i64_in ((j : Int) + 1) (by have := HN2.out; omega))
      have HJ1 := Lib.hid (show ¬ 9223372036854775807 < j + 1 by have := HN2.out; omega)
      clear he hgl hce hbw ha hb
      go_wp2_with (first
        | (refine wpList_val (o := ⟨some 14, _, _, _, _, _⟩) rfl (.pointer (some ⟨gs, o + j * 27, none⟩)) wo (run_indexAddr_op rfl rfl rfl HAt.out) ?_)
        | (refine' wpList_load_midif ?q1 49 (.tmp 14) ?q2 gs (o + j * 27) ?q3 (encE e) _ ?q4 Tryz.underlying49 ?q5 ?q6 ?_; (case q2 => rfl); (case q1 => rfl); (case q3 => rfl); (case q4 => exact HCe.out); (case q5 => rfl); (case q6 => exact (sizeE e)))
        | fail)
      refine HQ.out.mono ?_
      rintro e' w2 ⟨rfl, hb2⟩
      have HB2 := Lib.hid (show Below w.heap.size w w2 from HB.out.trans (hb2.mono HB.out.size))
      clear hb2
      cases b
      · have hw := HW1.out
        have hjm := HJ1.out
        go_wp2
        go_roundw
        case rel => exact ⟨j + 1, by go_num, by omega, by rw [HSn.out, HA.out, HWb.out]; rfl, HB2.out⟩
        case measure => simp [intOf] <;> omega
      · go_wp2
        go_ret
        exact ⟨_, rfl, by rw [HAn.out HWb.out]; exact decide_eq_true (by omega), HB2.out⟩
    · have hjN : N = j := by omega
      subst hjN
      rw [List.take_of_length_le (Nat.le_of_eq HN.out)] at ha
      have HA2 := Lib.hid ha
      clear ha hb hj hlt HA
      go_wp2
      go_ret
      exact ⟨_, rfl, by rw [HA2.out]; rfl, HB.out⟩
set_option maxRecDepth 100000 in
theorem containsE_any (q : Nat) (p : Ev → Bool) (l : List (Ev)) (A : Option Addr) (N c : Nat) (b : Bool) (hb : l.any p = b) (w : World) (hs : SlK encE 27 w (.slice A N c) l) (hN : l.length = N) (hN2 : N ≤ 10000) (hc : ∀ e ∈ l, ∀ W, Below w.heap.size w W → Calls Tryz.prog 66 #[evV e, .pointer (some ⟨q, 0, none⟩)] W (Gives W (.bool (p e)))) :
    Calls Tryz.prog 68 #[.slice A N c, .func (.func 66) #[] #[.pointer (some ⟨q, 0, none⟩)]] w (Gives w (.bool b)) := by
  have HI := Lib.hid (indexE_any q p l A N c w hs hN hN2 hc)
  subst hb
  clear hs hN hN2 hc
  skip
  go_enter Tryz.func68, Tryz.ntmps68
  go_wp2_with fail
  refine HI.out.mono ?_
  rintro e w1 ⟨r, rfl, hr, hb⟩
  have HB := Lib.hid hb
  have HR := Lib.hid hr
  clear hr hb
  go_wp2
  go_ret
  exact ⟨by rw [← HR.out]; rfl, HB.out⟩

def evsS (v : Nat → Int) (l : List Ev) : Bool := decide (l.length ≤ 100000) && !(l.any (wrongB v))
set_option maxRecDepth 100000 in
set_option maxHeartbeats 2000000 in
theorem rightEvents_any (f : Nat → Int) (l : List Ev) (A : Option Addr) (N c : Nat) (w : World) (hs : SlK encE 27 w (.slice A N c) l) (hN : l.length = N) (hN2 : N ≤ 10000) (hl : ∀ e ∈ l, Lens e) (hw : CutOk w) :
    Calls Tryz.prog 33 #[.agg (vA f), .slice A N c] w (Gives w (.bool (evsS f l))) := by
  obtain ⟨b, hb⟩ : ∃ b, l.any (wrongB f) = b := ⟨_, rfl⟩
  have HC : Hid (evsS f l = !b) := Lib.hid (by unfold evsS; rw [hb, decide_eq_true (by omega), Bool.true_and])
  obtain ⟨p, hp⟩ : ∃ p, w.heap.size = p := ⟨_, rfl⟩
  obtain ⟨X, hX⟩ : ∃ X, X = w.alloc (.cells (vA f) 23) := ⟨_, rfl⟩
  have hbx : Below w.heap.size w X := by rw [hX]; exact (Below.refl _ _).alloc (Nat.le_refl _) _
  have HM := Lib.hid (show VB X p f by rw [hX, ← hp]; exact VB.new_ f rfl)
  have hwX := hw.below hbx
  have hct := containsE_any p (wrongB f) l A N c b hb X (hs.below hbx) hN hN2 (fun e he W hW => wrong_any p f e W (Blk.below HM.out hW (Blk.lt HM.out)) (hl e he) (hwX.below hW))
  have HCt := Lib.hid hct
  have HX := Lib.hid hX
  have HB := Lib.hid hbx
  have HP := Lib.hid hp
  have hN3 : decide ((N : Int) ≤ 100000) = true := decide_eq_true (by omega)
  clear hX hbx hp hs hN hN2 hl hw hb hct hwX
  go_enter Tryz.func33, Tryz.ntmps33
  go_upto_region 1 with fail
  rw [← HX.out, HP.out]
  go_wp2_with fail
  refine HCt.out.mono ?_
  rintro e' w2 ⟨rfl, hb2⟩
  have HB2 := Lib.hid (HB.out.trans (hb2.mono HB.out.size))
  clear hb2
  go_wp2
  go_ret
  exact ⟨by rw [HC.out]; rfl, HB2.out⟩

end Go.Proofs.YtejljikikhecnaaGreat
