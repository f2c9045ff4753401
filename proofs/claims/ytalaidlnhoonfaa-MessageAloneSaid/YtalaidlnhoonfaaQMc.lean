/-
  vector.Knows: the contract, by a walk. message.Right with all it calls: the contracts, by walks. Conditions: lengths.
-/
import Derived.Test.YtalaidlnhoonfaaQEb
import Derived.Test.YtalaidlnhoonfaaQMb
namespace Go.Proofs.Ytalaidlnhoonfaa
open Go.RowKit

def knowsB (f : Nat → Int) (r c : Int) : Bool := dotB r c && decide (c ≤ f r.toNat)

set_option maxRecDepth 100000 in
set_option maxHeartbeats 1000000 in
theorem knows_any (f : Nat → Int) (r c : Int) (w : World) : Calls Try.prog 44 #[.agg (vA f), dv r c] w fun e w' => e = .returned (.bool (knowsB f r c)) ∧ Below w.heap.size w w' := by
  obtain ⟨X, hX⟩ : ∃ X, X = (w.alloc (.cells (vA f) 23)).alloc (.cells #[.int .i64 r, .int .i64 c] 42) := ⟨_, rfl⟩
  have hv : VB X w.heap.size f := by rw [hX]; exact (VB.new_ f rfl).alloc_ _
  have hd : Blk X (w.heap.size + 1) 42 #[.int .i64 r, .int .i64 c] := by
    rw [hX]
    have := Blk.new (w.alloc (.cells (vA f) 23)) 42 #[.int .i64 r, .int .i64 c]
    simpa using this
  have hb : Below w.heap.size w X := by rw [hX]; exact ((Below.refl _ _).alloc (Nat.le_refl _) _).alloc (by simp) _
  have HX := Lib.hid hX
  have HV := Lib.hid hv
  have HD := Lib.hid hd
  have HB := Lib.hid hb
  clear hX hv hd hb
  unfold dv
  cases hdot : dotB r c
  · have HDot := Lib.hid hdot
    clear hdot
    go_enter Try.func44, Try.ntmps44
    go_upto_region 1 with fail
    rw [← HX.out]
    refine wp_region_any (by kernel_rfl) ?_
    refine wpAny_below (fun i v _ => v = ([dv r c, .bool false, .bool false, undef, undef, undef, undef, undef, undef, undef, .bool false, .bool false] : List Value).getD i undef) _ X (by kernel_rfl) (by kernel_rfl) (by kernel_rfl) (fun i v w w' _ h => h) ?_ ?_
    · refine ⟨?_, ?_, ?_, ?_, ?_, ?_, ?_, ?_, ?_, ?_, ?_, ?_, trivial⟩
      · intro a W hI hun haft hi
        have e3 : a.eval (.tmp 3) = .pointer (some ⟨w.heap.size + 1, 0, none⟩) := hun 3 (by kernel_rfl)
        exact b_same hi hI rfl _ (run_load_op rfl e3 (Blk.below HD.out hI (Blk.lt HD.out)) Try.underlying42 rfl (by kernel_rfl)) rfl
      · intro a W hI hun haft hi
        have f0 : a.eval (.tmp 5) = dv r c := haft ⟨0, .data⟩ (by simp) rfl _ _ rfl rfl
        refine b_call hi hI rfl _ _ (run_call_op (args := #[dv r c]) rfl (by simp [f0]) (by kernel_rfl)) ?_
        exact (dot_is r c _ HDot.out W).mono fun e w' H => ⟨_, H.1, rfl, H.2⟩
      · intro a W hI hun haft hi
        have f1 : a.eval (.tmp 6) = .bool false := haft ⟨1, .data⟩ (by simp) rfl _ _ rfl rfl
        exact b_same hi hI rfl _ (run_move_op rfl f1) rfl
      · intro a W hI hun haft hi
        have fg : a.eval (.tmp 7) = .bool false := haft ⟨2, .guard⟩ (by simp) rfl _ _ rfl rfl
        exact b_skip hi hI (guard_no rfl rfl rfl (.inl fg)) rfl
      · intro a W hI hun haft hi
        have fg : a.eval (.tmp 7) = .bool false := haft ⟨2, .guard⟩ (by simp) rfl _ _ rfl rfl
        exact b_skip hi hI (guard_no rfl rfl rfl (.inl fg)) rfl
      · intro a W hI hun haft hi
        have fg : a.eval (.tmp 7) = .bool false := haft ⟨2, .guard⟩ (by simp) rfl _ _ rfl rfl
        exact b_skip hi hI (guard_no rfl rfl rfl (.inl fg)) rfl
      · intro a W hI hun haft hi
        have fg : a.eval (.tmp 7) = .bool false := haft ⟨2, .guard⟩ (by simp) rfl _ _ rfl rfl
        exact b_skip hi hI (guard_no rfl rfl rfl (.inl fg)) rfl
      · intro a W hI hun haft hi
        have fg : a.eval (.tmp 7) = .bool false := haft ⟨2, .guard⟩ (by simp) rfl _ _ rfl rfl
        exact b_skip hi hI (guard_no rfl rfl rfl (.inl fg)) rfl
      · intro a W hI hun haft hi
        have fg : a.eval (.tmp 7) = .bool false := haft ⟨2, .guard⟩ (by simp) rfl _ _ rfl rfl
        exact b_skip hi hI (guard_no rfl rfl rfl (.inl fg)) rfl
      · intro a W hI hun haft hi
        have fg : a.eval (.tmp 7) = .bool false := haft ⟨2, .guard⟩ (by simp) rfl _ _ rfl rfl
        exact b_skip hi hI (guard_no rfl rfl rfl (.inl fg)) rfl
      · intro a W hI hun haft hi
        have f2 : a.eval (.tmp 7) = .bool false := haft ⟨2, .data⟩ (by simp) rfl _ _ rfl rfl
        have f9 : a.eval (.tmp 14) = undef := haft ⟨9, .data⟩ (by simp) rfl _ _ rfl rfl
        exact b_same hi hI rfl _ (run_pick_op (b := false) rfl f2 f9 rfl) rfl
      · intro a W hI hun haft hi
        have f10 : a.eval (.tmp 15) = .bool false := haft ⟨10, .data⟩ (by simp) rfl _ _ rfl rfl
        exact b_same hi hI rfl _ (run_assign_op rfl f10) rfl
    · intro vals W hI hp
      have hl11 : vals 11 = .bool false := hp 11 (by decide)
      have HI := Lib.hid hI
      clear hp hI
      simp only [layN, List.size_toArray, List.length_cons, List.length_nil, List.range, List.range.loop, if_true, List.getElem?_toArray, List.getElem?_cons_zero, List.getElem?_cons_succ, Act.put, List.setIfInBounds_toArray, List.set_cons_zero, List.set_cons_succ, Nat.zero_add, Nat.reduceAdd, hl11]
      clear hl11
      go_wp2
      go_ret
      exact ⟨by unfold knowsB; rw [HDot.out]; rfl, HB.out.trans (HI.out.mono HB.out.size)⟩
  · have HDot := Lib.hid hdot
    obtain ⟨n, hr, hn, h1, h2⟩ := (dotB_iff r c).1 hdot
    clear hdot
    subst hr
    have hc : decide (c ≤ f n) = knowsB f n c := by unfold knowsB; rw [HDot.out]; simp
    go_enter Try.func44, Try.ntmps44
    go_upto_region 1 with fail
    rw [← HX.out]
    refine wp_region_any (by kernel_rfl) ?_
    refine wpAny_below (fun i v _ => v = ([dv n c, .bool true, .bool true, .pointer (some ⟨w.heap.size + 1, 0, none⟩), .int .i64 n, .pointer (some ⟨w.heap.size, n, none⟩), .int .i64 (f n), .pointer (some ⟨w.heap.size + 1, 1, none⟩), .int .i64 c, .bool (decide (c ≤ f n)), .bool (decide (c ≤ f n)), .bool (decide (c ≤ f n))] : List Value).getD i undef) _ X (by kernel_rfl) (by kernel_rfl) (by kernel_rfl) (fun i v w w' _ h => h) ?_ ?_
    · refine ⟨?_, ?_, ?_, ?_, ?_, ?_, ?_, ?_, ?_, ?_, ?_, ?_, trivial⟩
      · intro a W hI hun haft hi
        have e3 : a.eval (.tmp 3) = .pointer (some ⟨w.heap.size + 1, 0, none⟩) := hun 3 (by kernel_rfl)
        exact b_same hi hI rfl _ (run_load_op rfl e3 (Blk.below HD.out hI (Blk.lt HD.out)) Try.underlying42 rfl (by kernel_rfl)) rfl
      · intro a W hI hun haft hi
        have f0 : a.eval (.tmp 5) = dv n c := haft ⟨0, .data⟩ (by simp) rfl _ _ rfl rfl
        refine b_call hi hI rfl _ _ (run_call_op (args := #[dv n c]) rfl (by simp [f0]) (by kernel_rfl)) ?_
        exact (dot_is n c _ HDot.out W).mono fun e w' H => ⟨_, H.1, rfl, H.2⟩
      · intro a W hI hun haft hi
        have f1 : a.eval (.tmp 6) = .bool true := haft ⟨1, .data⟩ (by simp) rfl _ _ rfl rfl
        exact b_same hi hI rfl _ (run_move_op rfl f1) rfl
      · intro a W hI hun haft hi
        have fg : a.eval (.tmp 7) = .bool true := haft ⟨2, .guard⟩ (by simp) rfl _ _ rfl rfl
        have e3 : a.eval (.tmp 3) = .pointer (some ⟨w.heap.size + 1, 0, none⟩) := hun 3 (by kernel_rfl)
        exact b_same hi hI (guard_ok rfl rfl rfl fg) _ (run_fieldAddr_op rfl e3 (field0 _ _)) rfl
      · intro a W hI hun haft hi
        have fg : a.eval (.tmp 7) = .bool true := haft ⟨2, .guard⟩ (by simp) rfl _ _ rfl rfl
        have f3 : a.eval (.tmp 8) = .pointer (some ⟨w.heap.size + 1, 0, none⟩) := haft ⟨3, .data⟩ (by simp) rfl _ _ rfl rfl
        exact b_same hi hI (guard_ok rfl rfl rfl fg) _ (run_loadint_op rfl f3 Try.underlying3 ((Blk.cell (Blk.below HD.out hI (Blk.lt HD.out)) 0).trans rfl)) rfl
      · intro a W hI hun haft hi
        have fg : a.eval (.tmp 7) = .bool true := haft ⟨2, .guard⟩ (by simp) rfl _ _ rfl rfl
        have e2 : a.eval (.tmp 2) = .pointer (some ⟨w.heap.size, 0, none⟩) := hun 2 (by kernel_rfl)
        have f4 : a.eval (.tmp 9) = .int .i64 n := haft ⟨4, .data⟩ (by simp) rfl _ _ rfl rfl
        exact b_same hi hI (guard_ok rfl rfl rfl fg) _ (run_indexAddr_op rfl e2 f4 (indexV _ n hn _)) rfl
      · intro a W hI hun haft hi
        have fg : a.eval (.tmp 7) = .bool true := haft ⟨2, .guard⟩ (by simp) rfl _ _ rfl rfl
        have f5 : a.eval (.tmp 10) = .pointer (some ⟨w.heap.size, n, none⟩) := haft ⟨5, .data⟩ (by simp) rfl _ _ rfl rfl
        exact b_same hi hI (guard_ok rfl rfl rfl fg) _ (run_loadint_op rfl f5 Try.underlying3 (VB.cell_ (Blk.below HV.out hI (Blk.lt HV.out)) n hn)) rfl
      · intro a W hI hun haft hi
        have fg : a.eval (.tmp 7) = .bool true := haft ⟨2, .guard⟩ (by simp) rfl _ _ rfl rfl
        have e3 : a.eval (.tmp 3) = .pointer (some ⟨w.heap.size + 1, 0, none⟩) := hun 3 (by kernel_rfl)
        exact b_same hi hI (guard_ok rfl rfl rfl fg) _ (run_fieldAddr_op rfl e3 (field1 _ _)) rfl
      · intro a W hI hun haft hi
        have fg : a.eval (.tmp 7) = .bool true := haft ⟨2, .guard⟩ (by simp) rfl _ _ rfl rfl
        have f7 : a.eval (.tmp 12) = .pointer (some ⟨w.heap.size + 1, 1, none⟩) := haft ⟨7, .data⟩ (by simp) rfl _ _ rfl rfl
        exact b_same hi hI (guard_ok rfl rfl rfl fg) _ (run_loadint_op rfl f7 Try.underlying3 ((Blk.cell (Blk.below HD.out hI (Blk.lt HD.out)) 1).trans rfl)) rfl
      · intro a W hI hun haft hi
        have fg : a.eval (.tmp 7) = .bool true := haft ⟨2, .guard⟩ (by simp) rfl _ _ rfl rfl
        have f6 : a.eval (.tmp 11) = .int .i64 (f n) := haft ⟨6, .data⟩ (by simp) rfl _ _ rfl rfl
        have f8 : a.eval (.tmp 13) = .int .i64 c := haft ⟨8, .data⟩ (by simp) rfl _ _ rfl rfl
        exact b_same hi hI (guard_ok rfl rfl rfl fg) (.bool (decide (c ≤ f n))) (run_bin_op rfl f6 f8 (by go_simp) (by go_simp)) rfl
      · intro a W hI hun haft hi
        have f2 : a.eval (.tmp 7) = .bool true := haft ⟨2, .data⟩ (by simp) rfl _ _ rfl rfl
        have f9 : a.eval (.tmp 14) = .bool (decide (c ≤ f n)) := haft ⟨9, .data⟩ (by simp) rfl _ _ rfl rfl
        exact b_same hi hI rfl _ (run_pick_op (b := true) rfl f2 f9 rfl) rfl
      · intro a W hI hun haft hi
        have f10 : a.eval (.tmp 15) = .bool (decide (c ≤ f n)) := haft ⟨10, .data⟩ (by simp) rfl _ _ rfl rfl
        exact b_same hi hI rfl _ (run_assign_op rfl f10) rfl
    · intro vals W hI hp
      have hl11 : vals 11 = .bool (decide (c ≤ f n)) := hp 11 (by decide)
      have HI := Lib.hid hI
      clear hp hI
      simp only [layN, List.size_toArray, List.length_cons, List.length_nil, List.range, List.range.loop, if_true, List.getElem?_toArray, List.getElem?_cons_zero, List.getElem?_cons_succ, Act.put, List.setIfInBounds_toArray, List.set_cons_zero, List.set_cons_succ, Nat.zero_add, Nat.reduceAdd, hl11]
      clear hl11
      go_wp2
      go_ret
      exact ⟨ret_bool hc, HB.out.trans (HI.out.mono HB.out.size)⟩

end Go.Proofs.Ytalaidlnhoonfaa

namespace Go.Proofs.Ytalaidlnhoonfaa
open Go.RowKit

theorem MB.vec {w : World} {g : Nat} {m : Mg} {s : Value} (h : MB w g m s) : w.rangeAt g 3 (vA m.v).toList := World.rangeAt_of_block (C := mC m s) h 3 16
def wrongB (v : Nat → Int) (e : Ev) : Bool := !okB e || !knowsB v e.r e.c
theorem eright_is (e : Ev) (b : Bool) (h : okB e = b) (hl : Lens e) (w : World) (hw : CutOk w) : Calls Try.prog 43 #[evV e] w (Gives w (.int .i64 (codeI b))) := by subst h; exact eright_any e w hl hw
theorem knowsM_is (f : Nat → Int) (r c : Int) (b : Bool) (h : knowsB f r c = b) (w : World) : Calls Try.prog 44 #[.agg (vA f), .agg #[.int .i64 r, .int .i64 c]] w (Gives w (.bool b)) := by subst h; exact knows_any f r c w

set_option maxRecDepth 100000 in
set_option maxHeartbeats 2000000 in
theorem wrong_any (q : Nat) (m : Mg) (s : Value) (e : Ev) (w : World) (h : MB w q m s) (hl : Lens e) (hw : CutOk w) :
    Calls Try.prog 42 #[evV e, .pointer (some ⟨q, 0, none⟩)] w (Gives w (.bool (wrongB m.v e))) := by
  obtain ⟨b0, hb0⟩ : ∃ b0, w.heap.size = b0 := ⟨_, rfl⟩
  obtain ⟨X, hX⟩ : ∃ X, X = w.alloc (.cells (evC e) 48) := ⟨_, rfl⟩
  have hbx : Below w.heap.size w X := by rw [hX]; exact (Below.refl _ _).alloc (Nat.le_refl _) _
  have HK := Lib.hid (show EB X b0 e by rw [hX, ← hb0]; exact EB.new_ w e)
  have HM := Lib.hid (MB.keep h hbx)
  have HW := Lib.hid (hw.below hbx)
  have HX := Lib.hid hX
  have HB := Lib.hid hbx
  have HP := Lib.hid hb0
  have HL := Lib.hid hl
  have HC : Hid (wrongB m.v e = (!okB e || !knowsB m.v e.r e.c)) := Lib.hid rfl
  clear hX hbx hb0 h hl hw
  unfold evV
  cases ho : okB e
  · rw [ho] at HC
    have HR := Lib.hid (fun W hW => eright_is e false ho HL.out W hW)
    clear ho
    go_enter Try.func42, Try.ntmps42
    go_upto_region 1 with fail
    rw [← HX.out, HP.out]
    go_wp2_with (first
      | (refine wpList_load_if rfl 48 (.tmp 2) rfl b0 rfl _ _ _ _ HK.out Try.underlying48 rfl (sizeE e) ?_)
      | fail)
    refine (HR.out X HW.out).mono ?_
    rintro e' w1 ⟨rfl, hb⟩
    have HB1 := Lib.hid (HB.out.trans (hb.mono HB.out.size))
    clear hb
    go_wp2
    go_ret
    exact ⟨by rw [HC.out]; rfl, HB1.out⟩
  · rw [ho] at HC
    have HR := Lib.hid (fun W hW => eright_is e true ho HL.out W hW)
    clear ho
    obtain ⟨bk, hbk⟩ : ∃ bk, knowsB m.v e.r e.c = bk := ⟨_, rfl⟩
    have HKn := Lib.hid (fun W => knowsM_is m.v e.r e.c bk hbk W)
    rw [hbk] at HC
    clear hbk
    go_enter Try.func42, Try.ntmps42
    go_upto_region 1 with fail
    rw [← HX.out, HP.out]
    go_wp2_with (first
      | (refine wpList_load_if rfl 48 (.tmp 2) rfl b0 rfl _ _ _ _ HK.out Try.underlying48 rfl (sizeE e) ?_)
      | fail)
    refine (HR.out X HW.out).mono ?_
    rintro e' w1 ⟨rfl, hb⟩
    have HK1 := Lib.hid (EB.keep HK.out hb)
    have HM1 := Lib.hid (MB.keep HM.out hb)
    have HB1 := Lib.hid (HB.out.trans (hb.mono HB.out.size))
    clear hb
    go_wp2_with (first
      | (refine wpList_load_midif rfl 23 (.tmp 8) rfl q 3 rfl _ _ HM1.out.vec Try.underlying23 rfl (by kernel_rfl) ?_)
      | (refine wpList_load_midif rfl 42 (.tmp 10) rfl b0 0 rfl _ _ HK1.out.dot Try.underlying42 rfl (by kernel_rfl) ?_)
      | fail)
    refine (HKn.out w1).mono ?_
    rintro e' w2 ⟨rfl, hb⟩
    have HB2 := Lib.hid (HB1.out.trans (hb.mono HB1.out.size))
    clear hb
    go_wp2
    go_ret
    exact ⟨by rw [HC.out]; rfl, HB2.out⟩
theorem wrong_is (q : Nat) (m : Mg) (s : Value) (e : Ev) (b : Bool) (hb : wrongB m.v e = b) (w : World) (h : MB w q m s) (hl : Lens e) (hw : CutOk w) :
    Calls Try.prog 42 #[evV e, .pointer (some ⟨q, 0, none⟩)] w (Gives w (.bool b)) := by subst hb; exact wrong_any q m s e w h hl hw

end Go.Proofs.Ytalaidlnhoonfaa
