/-
  snap.rightItem: whether an item may be, and has entries, all of them known: the contract, by a walk. Conditions: lengths.
-/
import Derived.Test.YtejljikikhecnaaGreatSnKnown
import Derived.Test.YtejljikikhecnaaGreatAfter
import Derived.Test.YtejljikikhecnaaGreatNSd
namespace Go.Proofs.YtejljikikhecnaaGreat
open Go.RowKit Go.MapKept Go.Sort

def itemB (f : Nat → Int) (x : El) (l : List (Dt × Va)) : Bool := decide (0 < l.length) && !(l.any (unkB f)) && rightI x l
theorem gt0_yes (N : Nat) (h : 0 < N) (w : World) : (binOp .gtr 3 (.int .i64 N) (.int .i64 0)).run Tryz.prog w = .ok (.bool true) w := by
  have d : decide ((0 : Int) < (N : Int)) = true := decide_eq_true (by omega)
  go_simp
theorem gt0_no (N : Nat) (h : N = 0) (w : World) : (binOp .gtr 3 (.int .i64 N) (.int .i64 0)).run Tryz.prog w = .ok (.bool false) w := by
  subst h
  go_simp
theorem put_is (x : El) (l : List (Dt × Va)) (A : Option Addr) (N c sb : Nat) (F : Nat → Prop) (σ : List (El × List (Dt × Va))) (br : Bool) (hbr : rightI x l = br) (w : World) (hS : StoreIs w sb F σ) (hs : SlK enN 5 w (.slice A N c) l) (hA : l ≠ [] → ∀ g o, A = some ⟨g, o, none⟩ → ¬ F g) (hN : l.length = N) (hN2 : N ≤ 1000000) (hx : LenE x) (hv : ∀ q ∈ l, q.2.t.size ≤ 140737488355328) (hw : CutOk w) :
    Calls Tryz.prog 55 #[.pointer (some ⟨sb, 0, none⟩), .agg #[.int .i64 x.k, .string x.a, .string x.b, .string x.c, .string x.d, .slice A N c]] w fun e w' => e = .returned (.int .i64 (codeI br)) ∧ Out F w w' := by
  subst hbr
  exact (st_put_any x l A N c sb F σ w hS hs hA hN hN2 hx hv hw).mono fun e w' h => ⟨h.1, h.2.2⟩
theorem code_eq (b : Bool) (w : World) : (binOp .eql 31 (.int .i64 (codeI b)) (.int .i64 0)).run Tryz.prog w = .ok (.bool b) w := by
  cases b <;> kernel_rfl
theorem StoreIs.at_new {w : World} {sb : Nat} (h : Blk w sb 98 #[.map none]) : StoreIs w sb (fun i => i = sb) [] :=
  ⟨rfl, fun i hi => by rw [hi]; exact Blk.lt h, Or.inl ⟨h, rfl⟩⟩

set_option maxRecDepth 100000 in
set_option maxHeartbeats 4000000 in
theorem rightItem_any (f : Nat → Int) (x : El) (l : List (Dt × Va)) (A : Option Addr) (N c : Nat) (w : World) (hs : SlK enN 5 w (.slice A N c) l) (hN : l.length = N) (hN2 : N ≤ 10000) (hx : LenE x) (hl : ∀ q ∈ l, q.2.t.size ≤ 140737488355328) (hw : CutOk w) :
    Calls Tryz.prog 65 #[.agg (vA f), .agg #[.int .i64 x.k, .string x.a, .string x.b, .string x.c, .string x.d, .slice A N c]] w (Gives w (.bool (itemB f x l))) := by
  obtain ⟨p, hp⟩ : ∃ p, w.heap.size = p := ⟨_, rfl⟩
  obtain ⟨X, hX⟩ : ∃ X, X = (w.alloc (.cells (vA f) 23)).alloc (.cells #[.int .i64 x.k, .string x.a, .string x.b, .string x.c, .string x.d, .slice A N c] 61) := ⟨_, rfl⟩
  have hbX : Below w.heap.size w X := by rw [hX]; exact ((Below.refl _ _).alloc (Nat.le_refl _) _).alloc (by simp) _
  have hv : VB X p f := by rw [hX, ← hp]; exact (VB.new_ f rfl).alloc_ _
  have hi1 : Blk X (p + 1) 61 #[.int .i64 x.k, .string x.a, .string x.b, .string x.c, .string x.d, .slice A N c] := by
    rw [hX, ← hp]
    have := Blk.new (w.alloc (.cells (vA f) 23)) 61 #[.int .i64 x.k, .string x.a, .string x.b, .string x.c, .string x.d, .slice A N c]
    simpa using this
  obtain ⟨bu, hbu⟩ : ∃ bu, l.any (unkB f) = bu := ⟨_, rfl⟩
  have HCt := Lib.hid (fun W (hI : Below X.heap.size X W) => containsN_any p (unkB f) l A N c bu hbu W ((hs.below hbX).below hI) hN hN2 (fun q _ W' hW' => unknown_any p f q W' (Blk.below hv (hI.trans (hW'.mono hI.size)) (Blk.lt hv))))
  have HC : Hid (itemB f x l = (decide (0 < N) && !bu && rightI x l)) := Lib.hid (by unfold itemB; rw [hbu, hN])
  have HI1 := Lib.hid hi1
  have HX := Lib.hid hX
  have HB := Lib.hid hbX
  have HP := Lib.hid hp
  have HS := Lib.hid (hs.below hbX)
  have HN := Lib.hid hN
  have HN2 := Lib.hid hN2
  have HLx := Lib.hid hx
  have HLl := Lib.hid hl
  have HW := Lib.hid (hw.below hbX)
  clear hX hbX hp hs hN hN2 hx hl hw hv hi1 hbu
  by_cases hne : 0 < N
  case neg =>
    have HNp := Lib.hid (show N = 0 by omega)
    have HF : Hid (itemB f x l = false) := Lib.hid (by rw [HC.out, decide_eq_false hne]; rfl)
    clear hne
    go_enter Tryz.func65, Tryz.ntmps65
    go_upto_region 2 with fail
    try simp only [World.size_alloc]
    rw [← HX.out, HP.out]
    refine wp_region_any (by kernel_rfl) ?_
    refine wpAny_below (fun i uq _ => uq = ([.pointer (some ⟨p + 1, 5, none⟩), .slice A N c, .int .i64 N, .bool false, .bool false, undef, undef, undef, undef, undef, .bool false, .bool false, undef, undef, undef, undef, .bool false, .bool false] : List Value).getD i undef) _ X (by kernel_rfl) (by kernel_rfl) (by kernel_rfl) (fun i v w w' _ h => h) ?_ ?_
    · refine ⟨?_, ?_, ?_, ?_, ?_, ?_, ?_, ?_, ?_, ?_, ?_, ?_, ?_, ?_, ?_, ?_, ?_, ?_, trivial⟩
      · intro a W hI hun haft hi
        have e3 : a.eval (.tmp 3) = .pointer (some ⟨p + 1, 0, none⟩) := hun 3 (by kernel_rfl)
        exact b_same hi hI rfl _ (run_fieldAddr_any rfl e3 (at_item1 _ 0 _)) rfl
      · intro a W hI hun haft hi
        have f0 : a.eval (.tmp 7) = .pointer (some ⟨p + 1, 5, none⟩) := haft ⟨0, .data⟩ (by simp) rfl _ _ rfl rfl
        exact b_same hi hI rfl _ (run_loadsl_op rfl f0 Tryz.underlying59 ((Blk.cell (Blk.below HI1.out hI (Blk.lt HI1.out)) 5).trans rfl)) rfl
      · intro a W hI hun haft hi
        have f1 : a.eval (.tmp 8) = .slice A N c := haft ⟨1, .data⟩ (by simp) rfl _ _ rfl rfl
        exact b_same hi hI rfl _ (run_len_op Tryz.underlying59 rfl f1) rfl
      · intro a W hI hun haft hi
        have f2 : a.eval (.tmp 9) = .int .i64 N := haft ⟨2, .data⟩ (by simp) rfl _ _ rfl rfl
        exact b_same hi hI rfl (.bool false) (run_bin_op rfl f2 rfl (by kernel_rfl) (gt0_no N HNp.out _)) rfl
      · intro a W hI hun haft hi
        have f3 : a.eval (.tmp 10) = .bool false := haft ⟨3, .data⟩ (by simp) rfl _ _ rfl rfl
        exact b_same hi hI rfl _ (run_move_op rfl f3) rfl
      · intro a W hI hun haft hi
        have fg : a.eval (.tmp 11) = .bool false := haft ⟨4, .guard⟩ (by simp) rfl _ _ rfl rfl
        exact b_skip hi hI (guard_no rfl rfl rfl (.inl fg)) rfl
      · intro a W hI hun haft hi
        have fg : a.eval (.tmp 11) = .bool false := haft ⟨4, .guard⟩ (by simp) rfl _ _ rfl rfl
        exact b_skip hi hI (guard_no rfl rfl rfl (.inl fg)) rfl
      · intro a W hI hun haft hi
        have fg : a.eval (.tmp 11) = .bool false := haft ⟨4, .guard⟩ (by simp) rfl _ _ rfl rfl
        exact b_skip hi hI (guard_no rfl rfl rfl (.inl fg)) rfl
      · intro a W hI hun haft hi
        have fg : a.eval (.tmp 11) = .bool false := haft ⟨4, .guard⟩ (by simp) rfl _ _ rfl rfl
        exact b_skip hi hI (guard_no rfl rfl rfl (.inl fg)) rfl
      · intro a W hI hun haft hi
        have fg : a.eval (.tmp 11) = .bool false := haft ⟨4, .guard⟩ (by simp) rfl _ _ rfl rfl
        exact b_skip hi hI (guard_no rfl rfl rfl (.inl fg)) rfl
      · intro a W hI hun haft hi
        have f4 : a.eval (.tmp 11) = .bool false := haft ⟨4, .data⟩ (by simp) rfl _ _ rfl rfl
        have f9 : a.eval (.tmp 16) = undef := haft ⟨9, .data⟩ (by simp) rfl _ _ rfl rfl
        exact b_same hi hI rfl _ (run_pick_op (b := false) rfl f4 f9 rfl) rfl
      · intro a W hI hun haft hi
        have f10 : a.eval (.tmp 17) = .bool false := haft ⟨10, .data⟩ (by simp) rfl _ _ rfl rfl
        exact b_same hi hI rfl _ (run_move_op rfl f10) rfl
      · intro a W hI hun haft hi
        have fg : a.eval (.tmp 18) = .bool false := haft ⟨11, .guard⟩ (by simp) rfl _ _ rfl rfl
        exact b_skip hi hI (guard_no rfl rfl rfl (.inl fg)) rfl
      · intro a W hI hun haft hi
        have fg : a.eval (.tmp 18) = .bool false := haft ⟨11, .guard⟩ (by simp) rfl _ _ rfl rfl
        exact b_skip hi hI (guard_no rfl rfl rfl (.inl fg)) rfl
      · intro a W hI hun haft hi
        have fg : a.eval (.tmp 18) = .bool false := haft ⟨11, .guard⟩ (by simp) rfl _ _ rfl rfl
        exact b_skip hi hI (guard_no rfl rfl rfl (.inl fg)) rfl
      · intro a W hI hun haft hi
        have fg : a.eval (.tmp 18) = .bool false := haft ⟨11, .guard⟩ (by simp) rfl _ _ rfl rfl
        exact b_skip hi hI (guard_no rfl rfl rfl (.inl fg)) rfl
      · intro a W hI hun haft hi
        have f11 : a.eval (.tmp 18) = .bool false := haft ⟨11, .data⟩ (by simp) rfl _ _ rfl rfl
        have f15 : a.eval (.tmp 22) = undef := haft ⟨15, .data⟩ (by simp) rfl _ _ rfl rfl
        exact b_same hi hI rfl _ (run_pick_op (b := false) rfl f11 f15 rfl) rfl
      · intro a W hI hun haft hi
        have f16 : a.eval (.tmp 23) = .bool false := haft ⟨16, .data⟩ (by simp) rfl _ _ rfl rfl
        exact b_same hi hI rfl _ (run_assign_op rfl f16) rfl
    · intro vals W hI hp
      have hl17 : vals 17 = .bool false := hp 17 (by decide)
      have HI := Lib.hid hI
      clear hp hI
      simp only [layN, List.size_toArray, List.length_cons, List.length_nil, List.range, List.range.loop, if_true, List.getElem?_toArray, List.getElem?_cons_zero, List.getElem?_cons_succ, Act.put, List.setIfInBounds_toArray, List.set_cons_zero, List.set_cons_succ, Nat.zero_add, Nat.reduceAdd, hl17]
      clear hl17
      go_wp2_with fail
      go_ret
      exact ⟨by rw [HF.out]; rfl, HB.out.trans (HI.out.mono HB.out.size)⟩
  have HNp := Lib.hid hne
  clear hne
  cases bu
  case true =>
    have HF : Hid (itemB f x l = false) := Lib.hid (by rw [HC.out]; simp)
    go_enter Tryz.func65, Tryz.ntmps65
    go_upto_region 2 with fail
    try simp only [World.size_alloc]
    rw [← HX.out, HP.out]
    refine wp_region_any (by kernel_rfl) ?_
    refine wpAny_below (fun i uq _ => uq = ([.pointer (some ⟨p + 1, 5, none⟩), .slice A N c, .int .i64 N, .bool true, .bool true, .pointer (some ⟨p + 1, 5, none⟩), .slice A N c, .func (.func 99) #[] #[.pointer (some ⟨p, 0, none⟩)], .bool true, .bool false, .bool false, .bool false, undef, undef, undef, undef, .bool false, .bool false] : List Value).getD i undef) _ X (by kernel_rfl) (by kernel_rfl) (by kernel_rfl) (fun i v w w' _ h => h) ?_ ?_
    · refine ⟨?_, ?_, ?_, ?_, ?_, ?_, ?_, ?_, ?_, ?_, ?_, ?_, ?_, ?_, ?_, ?_, ?_, ?_, trivial⟩
      · intro a W hI hun haft hi
        have e3 : a.eval (.tmp 3) = .pointer (some ⟨p + 1, 0, none⟩) := hun 3 (by kernel_rfl)
        exact b_same hi hI rfl _ (run_fieldAddr_any rfl e3 (at_item1 _ 0 _)) rfl
      · intro a W hI hun haft hi
        have f0 : a.eval (.tmp 7) = .pointer (some ⟨p + 1, 5, none⟩) := haft ⟨0, .data⟩ (by simp) rfl _ _ rfl rfl
        exact b_same hi hI rfl _ (run_loadsl_op rfl f0 Tryz.underlying59 ((Blk.cell (Blk.below HI1.out hI (Blk.lt HI1.out)) 5).trans rfl)) rfl
      · intro a W hI hun haft hi
        have f1 : a.eval (.tmp 8) = .slice A N c := haft ⟨1, .data⟩ (by simp) rfl _ _ rfl rfl
        exact b_same hi hI rfl _ (run_len_op Tryz.underlying59 rfl f1) rfl
      · intro a W hI hun haft hi
        have f2 : a.eval (.tmp 9) = .int .i64 N := haft ⟨2, .data⟩ (by simp) rfl _ _ rfl rfl
        exact b_same hi hI rfl (.bool true) (run_bin_op rfl f2 rfl (by kernel_rfl) (gt0_yes N HNp.out _)) rfl
      · intro a W hI hun haft hi
        have f3 : a.eval (.tmp 10) = .bool true := haft ⟨3, .data⟩ (by simp) rfl _ _ rfl rfl
        exact b_same hi hI rfl _ (run_move_op rfl f3) rfl
      · intro a W hI hun haft hi
        have fg : a.eval (.tmp 11) = .bool true := haft ⟨4, .guard⟩ (by simp) rfl _ _ rfl rfl
        have e3 : a.eval (.tmp 3) = .pointer (some ⟨p + 1, 0, none⟩) := hun 3 (by kernel_rfl)
        exact b_same hi hI (guard_ok rfl rfl rfl fg) _ (run_fieldAddr_any rfl e3 (at_item1 _ 0 _)) rfl
      · intro a W hI hun haft hi
        have fg : a.eval (.tmp 11) = .bool true := haft ⟨4, .guard⟩ (by simp) rfl _ _ rfl rfl
        have f5 : a.eval (.tmp 12) = .pointer (some ⟨p + 1, 5, none⟩) := haft ⟨5, .data⟩ (by simp) rfl _ _ rfl rfl
        exact b_same hi hI (guard_ok rfl rfl rfl fg) _ (run_loadsl_op rfl f5 Tryz.underlying59 ((Blk.cell (Blk.below HI1.out hI (Blk.lt HI1.out)) 5).trans rfl)) rfl
      · intro a W hI hun haft hi
        have fg : a.eval (.tmp 11) = .bool true := haft ⟨4, .guard⟩ (by simp) rfl _ _ rfl rfl
        have e5 : a.eval (.tmp 5) = .func (.func 99) #[] #[.pointer (some ⟨p, 0, none⟩)] := hun 5 (by kernel_rfl)
        exact b_same hi hI (guard_ok rfl rfl rfl fg) _ (run_move_op rfl e5) rfl
      · intro a W hI hun haft hi
        have fg : a.eval (.tmp 11) = .bool true := haft ⟨4, .guard⟩ (by simp) rfl _ _ rfl rfl
        have f6 : a.eval (.tmp 13) = .slice A N c := haft ⟨6, .data⟩ (by simp) rfl _ _ rfl rfl
        have f7 : a.eval (.tmp 14) = .func (.func 99) #[] #[.pointer (some ⟨p, 0, none⟩)] := haft ⟨7, .data⟩ (by simp) rfl _ _ rfl rfl
        refine b_call hi hI (guard_ok rfl rfl rfl fg) _ _ (run_call_op (args := #[.slice A N c, .func (.func 99) #[] #[.pointer (some ⟨p, 0, none⟩)]]) rfl (by simp [f6, f7]) (by kernel_rfl)) ?_
        exact (HCt.out W hI).mono fun e w' H => ⟨_, H.1, rfl, H.2⟩
      · intro a W hI hun haft hi
        have fg : a.eval (.tmp 11) = .bool true := haft ⟨4, .guard⟩ (by simp) rfl _ _ rfl rfl
        have f8 : a.eval (.tmp 15) = .bool true := haft ⟨8, .data⟩ (by simp) rfl _ _ rfl rfl
        exact b_same hi hI (guard_ok rfl rfl rfl fg) _ (run_not_op rfl f8) rfl
      · intro a W hI hun haft hi
        have f4 : a.eval (.tmp 11) = .bool true := haft ⟨4, .data⟩ (by simp) rfl _ _ rfl rfl
        have f9 : a.eval (.tmp 16) = .bool false := haft ⟨9, .data⟩ (by simp) rfl _ _ rfl rfl
        exact b_same hi hI rfl _ (run_pick_op (b := true) rfl f4 f9 rfl) rfl
      · intro a W hI hun haft hi
        have f10 : a.eval (.tmp 17) = .bool false := haft ⟨10, .data⟩ (by simp) rfl _ _ rfl rfl
        exact b_same hi hI rfl _ (run_move_op rfl f10) rfl
      · intro a W hI hun haft hi
        have fg : a.eval (.tmp 18) = .bool false := haft ⟨11, .guard⟩ (by simp) rfl _ _ rfl rfl
        exact b_skip hi hI (guard_no rfl rfl rfl (.inl fg)) rfl
      · intro a W hI hun haft hi
        have fg : a.eval (.tmp 18) = .bool false := haft ⟨11, .guard⟩ (by simp) rfl _ _ rfl rfl
        exact b_skip hi hI (guard_no rfl rfl rfl (.inl fg)) rfl
      · intro a W hI hun haft hi
        have fg : a.eval (.tmp 18) = .bool false := haft ⟨11, .guard⟩ (by simp) rfl _ _ rfl rfl
        exact b_skip hi hI (guard_no rfl rfl rfl (.inl fg)) rfl
      · intro a W hI hun haft hi
        have fg : a.eval (.tmp 18) = .bool false := haft ⟨11, .guard⟩ (by simp) rfl _ _ rfl rfl
        exact b_skip hi hI (guard_no rfl rfl rfl (.inl fg)) rfl
      · intro a W hI hun haft hi
        have f11 : a.eval (.tmp 18) = .bool false := haft ⟨11, .data⟩ (by simp) rfl _ _ rfl rfl
        have f15 : a.eval (.tmp 22) = undef := haft ⟨15, .data⟩ (by simp) rfl _ _ rfl rfl
        exact b_same hi hI rfl _ (run_pick_op (b := false) rfl f11 f15 rfl) rfl
      · intro a W hI hun haft hi
        have f16 : a.eval (.tmp 23) = .bool false := haft ⟨16, .data⟩ (by simp) rfl _ _ rfl rfl
        exact b_same hi hI rfl _ (run_assign_op rfl f16) rfl
    · intro vals W hI hp
      have hl17 : vals 17 = .bool false := hp 17 (by decide)
      have HI := Lib.hid hI
      clear hp hI
      simp only [layN, List.size_toArray, List.length_cons, List.length_nil, List.range, List.range.loop, if_true, List.getElem?_toArray, List.getElem?_cons_zero, List.getElem?_cons_succ, Act.put, List.setIfInBounds_toArray, List.set_cons_zero, List.set_cons_succ, Nat.zero_add, Nat.reduceAdd, hl17]
      clear hl17
      go_wp2_with fail
      go_ret
      exact ⟨by rw [HF.out]; rfl, HB.out.trans (HI.out.mono HB.out.size)⟩
  case false =>
    obtain ⟨br, hbr⟩ : ∃ br, rightI x l = br := ⟨_, rfl⟩
    have HF : Hid (itemB f x l = br) := Lib.hid (by rw [HC.out, decide_eq_true HNp.out, hbr]; rfl)
    have HPt := Lib.hid (fun sb F σ W hS hs hA hw => put_is x l A N c sb F σ br hbr W hS hs hA HN.out (by have := HN2.out; omega) HLx.out HLl.out hw)
    clear hbr
    go_enter Tryz.func65, Tryz.ntmps65
    go_upto_region 2 with fail
    try simp only [World.size_alloc]
    rw [← HX.out, HP.out]
    refine wp_region_any (by kernel_rfl) ?_
    refine Lt.wpAny_after (fun i v W => if i = 12 then (∃ sb, v = .pointer (some ⟨sb, 0, none⟩) ∧ X.heap.size ≤ sb ∧ Blk W sb 98 #[.map none]) else v = ([.pointer (some ⟨p + 1, 5, none⟩), .slice A N c, .int .i64 N, .bool true, .bool true, .pointer (some ⟨p + 1, 5, none⟩), .slice A N c, .func (.func 99) #[] #[.pointer (some ⟨p, 0, none⟩)], .bool false, .bool true, .bool true, .bool true, undef, .agg #[.int .i64 x.k, .string x.a, .string x.b, .string x.c, .string x.d, .slice A N c]] : List Value).getD i undef) (fun i v => (i = 11 → v = .bool true) ∧ (i = 14 → v = .int .i64 (codeI br)) ∧ (i = 15 → v = .bool br) ∧ (i = 16 → v = .bool br) ∧ (i = 17 → v = .bool br)) (fun W => Below X.heap.size X W) _ X 14 _ (by decide) rfl (by kernel_rfl) (by kernel_rfl) (by kernel_rfl) (by kernel_rfl) (by kernel_rfl) (fun i v w1 w' hb h => by
        try dsimp only at h ⊢
        by_cases hq : i = 12
        · rw [if_pos hq] at h ⊢
          obtain ⟨sb, h1, h2, h3⟩ := h
          exact ⟨sb, h1, h2, Blk.below h3 hb (Blk.lt h3)⟩
        · rw [if_neg hq] at h ⊢; exact h) (fun i v w1 hi h => by
        refine ⟨fun e => ?_, fun e => by omega, fun e => by omega, fun e => by omega, fun e => by omega⟩
        subst e
        exact h) ?_ ?_ ?_ ?_
    · refine ⟨?_, ?_, ?_, ?_, ?_, ?_, ?_, ?_, ?_, ?_, ?_, ?_, ?_, ?_, fun h => absurd h (by decide), fun h => absurd h (by decide), fun h => absurd h (by decide), fun h => absurd h (by decide), trivial⟩
      · intro _ a W hI hun haft hi
        have e3 : a.eval (.tmp 3) = .pointer (some ⟨p + 1, 0, none⟩) := hun 3 (by kernel_rfl)
        exact b_same hi hI rfl _ (run_fieldAddr_any rfl e3 (at_item1 _ 0 _)) rfl
      · intro _ a W hI hun haft hi
        have f0 : a.eval (.tmp 7) = .pointer (some ⟨p + 1, 5, none⟩) := haft ⟨0, .data⟩ (by simp) rfl _ _ rfl rfl
        exact b_same hi hI rfl _ (run_loadsl_op rfl f0 Tryz.underlying59 ((Blk.cell (Blk.below HI1.out hI (Blk.lt HI1.out)) 5).trans rfl)) rfl
      · intro _ a W hI hun haft hi
        have f1 : a.eval (.tmp 8) = .slice A N c := haft ⟨1, .data⟩ (by simp) rfl _ _ rfl rfl
        exact b_same hi hI rfl _ (run_len_op Tryz.underlying59 rfl f1) rfl
      · intro _ a W hI hun haft hi
        have f2 : a.eval (.tmp 9) = .int .i64 N := haft ⟨2, .data⟩ (by simp) rfl _ _ rfl rfl
        exact b_same hi hI rfl (.bool true) (run_bin_op rfl f2 rfl (by kernel_rfl) (gt0_yes N HNp.out _)) rfl
      · intro _ a W hI hun haft hi
        have f3 : a.eval (.tmp 10) = .bool true := haft ⟨3, .data⟩ (by simp) rfl _ _ rfl rfl
        exact b_same hi hI rfl _ (run_move_op rfl f3) rfl
      · intro _ a W hI hun haft hi
        have fg : a.eval (.tmp 11) = .bool true := haft ⟨4, .guard⟩ (by simp) rfl _ _ rfl rfl
        have e3 : a.eval (.tmp 3) = .pointer (some ⟨p + 1, 0, none⟩) := hun 3 (by kernel_rfl)
        exact b_same hi hI (guard_ok rfl rfl rfl fg) _ (run_fieldAddr_any rfl e3 (at_item1 _ 0 _)) rfl
      · intro _ a W hI hun haft hi
        have fg : a.eval (.tmp 11) = .bool true := haft ⟨4, .guard⟩ (by simp) rfl _ _ rfl rfl
        have f5 : a.eval (.tmp 12) = .pointer (some ⟨p + 1, 5, none⟩) := haft ⟨5, .data⟩ (by simp) rfl _ _ rfl rfl
        exact b_same hi hI (guard_ok rfl rfl rfl fg) _ (run_loadsl_op rfl f5 Tryz.underlying59 ((Blk.cell (Blk.below HI1.out hI (Blk.lt HI1.out)) 5).trans rfl)) rfl
      · intro _ a W hI hun haft hi
        have fg : a.eval (.tmp 11) = .bool true := haft ⟨4, .guard⟩ (by simp) rfl _ _ rfl rfl
        have e5 : a.eval (.tmp 5) = .func (.func 99) #[] #[.pointer (some ⟨p, 0, none⟩)] := hun 5 (by kernel_rfl)
        exact b_same hi hI (guard_ok rfl rfl rfl fg) _ (run_move_op rfl e5) rfl
      · intro _ a W hI hun haft hi
        have fg : a.eval (.tmp 11) = .bool true := haft ⟨4, .guard⟩ (by simp) rfl _ _ rfl rfl
        have f6 : a.eval (.tmp 13) = .slice A N c := haft ⟨6, .data⟩ (by simp) rfl _ _ rfl rfl
        have f7 : a.eval (.tmp 14) = .func (.func 99) #[] #[.pointer (some ⟨p, 0, none⟩)] := haft ⟨7, .data⟩ (by simp) rfl _ _ rfl rfl
        refine b_call hi hI (guard_ok rfl rfl rfl fg) _ _ (run_call_op (args := #[.slice A N c, .func (.func 99) #[] #[.pointer (some ⟨p, 0, none⟩)]]) rfl (by simp [f6, f7]) (by kernel_rfl)) ?_
        exact (HCt.out W hI).mono fun e w' H => ⟨_, H.1, rfl, H.2⟩
      · intro _ a W hI hun haft hi
        have fg : a.eval (.tmp 11) = .bool true := haft ⟨4, .guard⟩ (by simp) rfl _ _ rfl rfl
        have f8 : a.eval (.tmp 15) = .bool false := haft ⟨8, .data⟩ (by simp) rfl _ _ rfl rfl
        exact b_same hi hI (guard_ok rfl rfl rfl fg) _ (run_not_op rfl f8) rfl
      · intro _ a W hI hun haft hi
        have f4 : a.eval (.tmp 11) = .bool true := haft ⟨4, .data⟩ (by simp) rfl _ _ rfl rfl
        have f9 : a.eval (.tmp 16) = .bool true := haft ⟨9, .data⟩ (by simp) rfl _ _ rfl rfl
        exact b_same hi hI rfl _ (run_pick_op (b := true) rfl f4 f9 rfl) rfl
      · intro _ a W hI hun haft hi
        have f10 : a.eval (.tmp 17) = .bool true := haft ⟨10, .data⟩ (by simp) rfl _ _ rfl rfl
        exact b_same hi hI rfl _ (run_move_op rfl f10) rfl
      · intro _ a W hI hun haft hi
        have fg : a.eval (.tmp 18) = .bool true := haft ⟨11, .guard⟩ (by simp) rfl _ _ rfl rfl
        refine b_call hi hI (guard_ok rfl rfl rfl fg) _ _ (run_call_op (args := #[]) rfl (by simp) (by kernel_rfl)) ?_
        exact (st_new_any W).mono fun e' w' H => by
          obtain ⟨he, hw⟩ := H
          subst hw
          exact ⟨_, he, ⟨_, rfl, hI.size, Blk.new W _ _⟩, (Below.refl _ _).alloc (Nat.le_refl _) _⟩
      · intro _ a W hI hun haft hi
        have fg : a.eval (.tmp 18) = .bool true := haft ⟨11, .guard⟩ (by simp) rfl _ _ rfl rfl
        have e3 : a.eval (.tmp 3) = .pointer (some ⟨p + 1, 0, none⟩) := hun 3 (by kernel_rfl)
        exact b_same hi hI (guard_ok rfl rfl rfl fg) _ (run_load_op rfl e3 (Blk.below HI1.out hI (Blk.lt HI1.out)) Tryz.underlying61 rfl (by kernel_rfl)) rfl
    · intro a W hI haft hi
      have fg : a.eval (.tmp 18) = .bool true := haft ⟨11, .guard⟩ (by simp) rfl _ _ rfl rfl
      obtain ⟨sb, f12, hsb, hblk⟩ : ∃ sb, a.eval (.tmp 19) = .pointer (some ⟨sb, 0, none⟩) ∧ X.heap.size ≤ sb ∧ Blk W sb 98 #[.map none] := haft ⟨12, .data⟩ (by simp) rfl _ _ rfl rfl
      have f13 : a.eval (.tmp 20) = .agg #[.int .i64 x.k, .string x.a, .string x.b, .string x.c, .string x.d, .slice A N c] := haft ⟨13, .data⟩ (by simp) rfl _ _ rfl rfl
      have hsX := HS.out
      have hcl : ∀ g o, A = some ⟨g, o, none⟩ → l ≠ [] → g < X.heap.size := fun g o e hne => by
        obtain ⟨A', c', hv', _, hcells⟩ := hsX
        injection hv' with e1 e2 e3
        obtain ⟨g', o', e4, hg, _⟩ := hcells hne
        rw [← e1, e] at e4
        injection e4 with e4
        injection e4 with e5 _ _
        omega
      refine wpOp_enter hi (guard_ok rfl rfl rfl fg) _ _ (run_call_op (args := #[.pointer (some ⟨sb, 0, none⟩), .agg #[.int .i64 x.k, .string x.a, .string x.b, .string x.c, .string x.d, .slice A N c]]) rfl (by simp only [List.map_toArray, List.map_cons, List.map_nil, f12, f13]) (by kernel_rfl)) ?_
      refine (HPt.out sb _ [] W (StoreIs.at_new hblk) (HS.out.below hI) (fun hne g o e hg => by have := hcl g o e hne; omega) (HW.out.below hI)).mono ?_
      rintro e' w' ⟨rfl, hout⟩
      exact ⟨_, rfl, _, rfl, ⟨fun e => by omega, fun _ => rfl, fun e => by omega, fun e => by omega, fun e => by omega⟩, hI.trans (hout.below hI.size (fun i hi => by rw [hi]; exact hsb))⟩
    · refine ⟨fun h => absurd h (by decide), fun h => absurd h (by decide), fun h => absurd h (by decide), fun h => absurd h (by decide), fun h => absurd h (by decide), fun h => absurd h (by decide), fun h => absurd h (by decide), fun h => absurd h (by decide), fun h => absurd h (by decide), fun h => absurd h (by decide), fun h => absurd h (by decide), fun h => absurd h (by decide), fun h => absurd h (by decide), fun h => absurd h (by decide), fun h => absurd h (by decide), ?_, ?_, ?_, trivial⟩
      · intro _ a W hK haft hi
        have fg : a.eval (.tmp 18) = .bool true := (haft ⟨11, .guard⟩ (by simp) rfl _ _ rfl rfl).1 rfl
        have f14 : a.eval (.tmp 21) = .int .i64 (codeI br) := (haft ⟨14, .data⟩ (by simp) rfl _ _ rfl rfl).2.1 rfl
        exact wpOp_val hi (guard_ok rfl rfl rfl fg) (.bool br) W (run_bin_op rfl f14 rfl (by kernel_rfl) (code_eq br W)) ⟨_, rfl, ⟨fun e => by omega, fun e => by omega, fun _ => rfl, fun e => by omega, fun e => by omega⟩, rfl⟩
      · intro _ a W hK haft hi
        have f11 : a.eval (.tmp 18) = .bool true := (haft ⟨11, .data⟩ (by simp) rfl _ _ rfl rfl).1 rfl
        have f15 : a.eval (.tmp 22) = .bool br := (haft ⟨15, .data⟩ (by simp) rfl _ _ rfl rfl).2.2.1 rfl
        exact wpOp_val hi rfl (.bool br) W (run_pick_op (b := true) rfl f11 f15 rfl) ⟨_, rfl, ⟨fun e => by omega, fun e => by omega, fun e => by omega, fun _ => rfl, fun e => by omega⟩, rfl⟩
      · intro _ a W hK haft hi
        have f16 : a.eval (.tmp 23) = .bool br := (haft ⟨16, .data⟩ (by simp) rfl _ _ rfl rfl).2.2.2.1 rfl
        exact wpOp_val hi rfl (.bool br) W (run_assign_op rfl f16) ⟨_, rfl, ⟨fun e => by omega, fun e => by omega, fun e => by omega, fun e => by omega, fun _ => rfl⟩, rfl⟩
    · intro vals W hK hq
      have hl17 : vals 17 = .bool br := (hq 17 (by decide)).2.2.2.2 rfl
      have HI := Lib.hid hK
      clear hK hq
      simp only [layN, List.size_toArray, List.length_cons, List.length_nil, List.range, List.range.loop, if_true, List.getElem?_toArray, List.getElem?_cons_zero, List.getElem?_cons_succ, Act.put, List.setIfInBounds_toArray, List.set_cons_zero, List.set_cons_succ, Nat.zero_add, Nat.reduceAdd, hl17]
      clear hl17
      generalize vals 0 = y0, vals 1 = y1, vals 2 = y2, vals 3 = y3, vals 4 = y4, vals 5 = y5, vals 6 = y6, vals 7 = y7, vals 8 = y8, vals 9 = y9, vals 10 = y10, vals 11 = y11, vals 12 = y12, vals 13 = y13, vals 14 = y14, vals 15 = y15, vals 16 = y16 at *
      go_wp2
      go_ret
      exact ⟨by rw [HF.out]; rfl, HB.out.trans (HI.out.mono HB.out.size)⟩

end Go.Proofs.YtejljikikhecnaaGreat
