/-
  vector.Below, Right, Order: the contracts, by walks. Conditions: none.
-/
import Derived.Test.YtcgbiikphcgoaaaVecAsk
namespace Go.Proofs.Ytcgbiikphcgoaaa
open Go.RowKit

theorem run_below (f g : Nat → Int) (w : World) : (binOp .eql 23 (.agg (vA (joinV f g))) (.agg (vA g))).run Try.prog w = .ok (.bool (leV f g)) w := by
  rw [run_eqV, leV_join]
theorem guardV (x y : Operand) (a b : Array Value) (w : World) : (eqGuard .eql 23 x y (.agg a) (.agg b)).run Try.prog w = .ok () w := run_eqGuard_agg _ _ _ _ _ _ _ (by kernel_rfl)
/-- May a vector be? -/
def rightV (f : Nat → Int) : Bool := eqV f (clampV f)

set_option maxRecDepth 100000 in
set_option maxHeartbeats 1000000 in
theorem below_any (f g : Nat → Int) (w : World) : Calls Try.prog 14 #[.agg (vA f), .agg (vA g)] w fun e w' => e = .returned (.bool (leV f g)) ∧ Below w.heap.size w w' := by
  obtain ⟨X, hX⟩ : ∃ X, X = (w.alloc (.cells (vA f) 23)).alloc (.cells (vA g) 23) := ⟨_, rfl⟩
  have hv1 : VB X w.heap.size f := by rw [hX]; exact (VB.new_ f rfl).alloc_ _
  have hv2 : VB X (w.heap.size + 1) g := by rw [hX]; exact VB.new_ g (by simp)
  have hb : Below w.heap.size w X := by rw [hX]; exact ((Below.refl _ _).alloc (Nat.le_refl _) _).alloc (by simp) _
  have HX := Lib.hid hX
  have H1 := Lib.hid hv1
  have H2 := Lib.hid hv2
  have HB := Lib.hid hb
  clear hX hv1 hv2 hb
  go_enter Try.func14, Try.ntmps14
  go_upto_region 1 with fail
  rw [← HX.out]
  refine wp_region_any (by kernel_rfl) ?_
  refine wpAny_below (fun i v _ => v = ([.agg (vA f), .agg (vA g), .agg (vA (joinV f g)), .agg (vA g), .bool (leV f g), .bool (leV f g)] : List Value).getD i undef) _ X (by kernel_rfl) (by kernel_rfl) (by kernel_rfl) (fun i v w w' _ h => h) ?_ ?_
  · refine ⟨?_, ?_, ?_, ?_, ?_, ?_, trivial⟩
    · intro a W hI hun haft hi
      have e2 : a.eval (.tmp 2) = .pointer (some ⟨w.heap.size, 0, none⟩) := hun 2 (by kernel_rfl)
      exact b_same hi hI rfl _ (run_load_op rfl e2 (Blk.below H1.out hI (Blk.lt H1.out)) Try.underlying23 rfl (sizeV f)) rfl
    · intro a W hI hun haft hi
      have e3 : a.eval (.tmp 3) = .pointer (some ⟨w.heap.size + 1, 0, none⟩) := hun 3 (by kernel_rfl)
      exact b_same hi hI rfl _ (run_load_op rfl e3 (Blk.below H2.out hI (Blk.lt H2.out)) Try.underlying23 rfl (sizeV g)) rfl
    · intro a W hI hun haft hi
      have f0 : a.eval (.tmp 5) = .agg (vA f) := haft ⟨0, .data⟩ (by simp) rfl _ _ rfl rfl
      have f1 : a.eval (.tmp 6) = .agg (vA g) := haft ⟨1, .data⟩ (by simp) rfl _ _ rfl rfl
      refine b_call hi hI rfl _ _ (run_call_op (args := #[.agg (vA f), .agg (vA g)]) rfl (by simp [f0, f1]) (by kernel_rfl)) ?_
      exact (join_any f g W).mono fun e w' H => ⟨_, H.1, rfl, H.2⟩
    · intro a W hI hun haft hi
      have e3 : a.eval (.tmp 3) = .pointer (some ⟨w.heap.size + 1, 0, none⟩) := hun 3 (by kernel_rfl)
      exact b_same hi hI rfl _ (run_load_op rfl e3 (Blk.below H2.out hI (Blk.lt H2.out)) Try.underlying23 rfl (sizeV g)) rfl
    · intro a W hI hun haft hi
      have f2 : a.eval (.tmp 7) = .agg (vA (joinV f g)) := haft ⟨2, .data⟩ (by simp) rfl _ _ rfl rfl
      have f3 : a.eval (.tmp 8) = .agg (vA g) := haft ⟨3, .data⟩ (by simp) rfl _ _ rfl rfl
      exact b_same hi hI rfl (.bool (leV f g)) (run_bin_op rfl f2 f3 (guardV _ _ _ _ _) (run_below f g _)) rfl
    · intro a W hI hun haft hi
      have f4 : a.eval (.tmp 9) = .bool (leV f g) := haft ⟨4, .data⟩ (by simp) rfl _ _ rfl rfl
      exact b_same hi hI rfl _ (run_assign_op rfl f4) rfl
  · intro vals W hI hp
    have hl5 : vals 5 = .bool (leV f g) := hp 5 (by decide)
    have HI := Lib.hid hI
    clear hp hI
    simp only [layN, List.size_toArray, List.length_cons, List.length_nil, List.range, List.range.loop, if_true, List.getElem?_toArray, List.getElem?_cons_zero, List.getElem?_cons_succ, Act.put, List.setIfInBounds_toArray, List.set_cons_zero, List.set_cons_succ, Nat.zero_add, Nat.reduceAdd, hl5]
    clear hl5
    go_wp2
    go_ret
    exact ⟨rfl, HB.out.trans (HI.out.mono HB.out.size)⟩

set_option maxRecDepth 100000 in
set_option maxHeartbeats 1000000 in
theorem right_any (f : Nat → Int) (w : World) : Calls Try.prog 16 #[.agg (vA f)] w fun e w' => e = .returned (.bool (rightV f)) ∧ Below w.heap.size w w' := by
  obtain ⟨X, hX⟩ : ∃ X, X = w.alloc (.cells (vA f) 23) := ⟨_, rfl⟩
  have hv1 : VB X w.heap.size f := by rw [hX]; exact VB.new_ f rfl
  have hb : Below w.heap.size w X := by rw [hX]; exact (Below.refl _ _).alloc (Nat.le_refl _) _
  have HX := Lib.hid hX
  have H1 := Lib.hid hv1
  have HB := Lib.hid hb
  clear hX hv1 hb
  go_enter Try.func16, Try.ntmps16
  go_upto_region 1 with fail
  rw [← HX.out]
  refine wp_region_any (by kernel_rfl) ?_
  refine wpAny_below (fun i v _ => v = ([.agg (vA f), .agg (vA f), .agg (vA (clampV f)), .bool (rightV f), .bool (rightV f)] : List Value).getD i undef) _ X (by kernel_rfl) (by kernel_rfl) (by kernel_rfl) (fun i v w w' _ h => h) ?_ ?_
  · refine ⟨?_, ?_, ?_, ?_, ?_, trivial⟩
    · intro a W hI hun haft hi
      have e1 : a.eval (.tmp 1) = .pointer (some ⟨w.heap.size, 0, none⟩) := hun 1 (by kernel_rfl)
      exact b_same hi hI rfl _ (run_load_op rfl e1 (Blk.below H1.out hI (Blk.lt H1.out)) Try.underlying23 rfl (sizeV f)) rfl
    · intro a W hI hun haft hi
      have e1 : a.eval (.tmp 1) = .pointer (some ⟨w.heap.size, 0, none⟩) := hun 1 (by kernel_rfl)
      exact b_same hi hI rfl _ (run_load_op rfl e1 (Blk.below H1.out hI (Blk.lt H1.out)) Try.underlying23 rfl (sizeV f)) rfl
    · intro a W hI hun haft hi
      have f1 : a.eval (.tmp 4) = .agg (vA f) := haft ⟨1, .data⟩ (by simp) rfl _ _ rfl rfl
      refine b_call hi hI rfl _ _ (run_call_op (args := #[.agg (vA f)]) rfl (by simp [f1]) (by kernel_rfl)) ?_
      exact (clamp_any f W).mono fun e w' H => ⟨_, H.1, rfl, H.2⟩
    · intro a W hI hun haft hi
      have f0 : a.eval (.tmp 3) = .agg (vA f) := haft ⟨0, .data⟩ (by simp) rfl _ _ rfl rfl
      have f2 : a.eval (.tmp 5) = .agg (vA (clampV f)) := haft ⟨2, .data⟩ (by simp) rfl _ _ rfl rfl
      exact b_same hi hI rfl (.bool (rightV f)) (run_bin_op rfl f0 f2 (guardV _ _ _ _ _) (run_eqV _ f (clampV f))) rfl
    · intro a W hI hun haft hi
      have f3 : a.eval (.tmp 6) = .bool (rightV f) := haft ⟨3, .data⟩ (by simp) rfl _ _ rfl rfl
      exact b_same hi hI rfl _ (run_assign_op rfl f3) rfl
  · intro vals W hI hp
    have hl4 : vals 4 = .bool (rightV f) := hp 4 (by decide)
    have HI := Lib.hid hI
    clear hp hI
    simp only [layN, List.size_toArray, List.length_cons, List.length_nil, List.range, List.range.loop, if_true, List.getElem?_toArray, List.getElem?_cons_zero, List.getElem?_cons_succ, Act.put, List.setIfInBounds_toArray, List.set_cons_zero, List.set_cons_succ, Nat.zero_add, Nat.reduceAdd, hl4]
    clear hl4
    go_wp2
    go_ret
    exact ⟨rfl, HB.out.trans (HI.out.mono HB.out.size)⟩

/-- Two vectors, held against each other. -/
def ordV (f g : Nat → Int) : Int := if eqV f g = true then 0 else if leV f g = true then -1 else if leV g f = true then 1 else 2

set_option maxRecDepth 100000 in
set_option maxHeartbeats 1000000 in
theorem order_any (f g : Nat → Int) (w : World) : Calls Try.prog 15 #[.agg (vA f), .agg (vA g)] w fun e w' => e = .returned (.int .i64 (ordV f g)) ∧ Below w.heap.size w w' := by
  obtain ⟨X, hX⟩ : ∃ X, X = (w.alloc (.cells (vA f) 23)).alloc (.cells (vA g) 23) := ⟨_, rfl⟩
  have hv1 : VB X w.heap.size f := by rw [hX]; exact (VB.new_ f rfl).alloc_ _
  have hv2 : VB X (w.heap.size + 1) g := by rw [hX]; exact VB.new_ g (by simp)
  have hb : Below w.heap.size w X := by rw [hX]; exact ((Below.refl _ _).alloc (Nat.le_refl _) _).alloc (by simp) _
  have HX := Lib.hid hX
  have H1 := Lib.hid hv1
  have H2 := Lib.hid hv2
  have HB := Lib.hid hb
  clear hX hv1 hv2 hb
  have hg := fun (x y : Operand) (a b : Array Value) (w : World) => guardV x y a b w
  have HE : Hid (ordV f g = if eqV f g = true then 0 else if leV f g = true then -1 else if leV g f = true then 1 else 2) := Lib.hid rfl
  have HL : Hid (∀ b, leV f g = b → ∀ w, Calls Try.prog 14 #[.agg (vA f), .agg (vA g)] w fun e w' => e = .returned (.bool b) ∧ Below w.heap.size w w') := Lib.hid (fun b h w => h ▸ below_any f g w)
  have HM : Hid (∀ b, leV g f = b → ∀ w, Calls Try.prog 14 #[.agg (vA g), .agg (vA f)] w fun e w' => e = .returned (.bool b) ∧ Below w.heap.size w w') := Lib.hid (fun b h w => h ▸ below_any g f w)
  cases he : eqV f g
  · have hq := fun (w : World) => (run_eqV w f g).trans (by rw [he])
    rw [he] at HE
    clear he
    cases hl : leV f g
    · have hl' := HL.out _ hl
      rw [hl] at HE
      have HL' := Lib.hid hl'
      clear hl hl' HL
      cases hm : leV g f
      all_goals
        have hm' := HM.out _ hm
        rw [hm] at HE
        have HM' := Lib.hid hm'
        clear hm hm' HM
        go_enter Try.func15, Try.ntmps15
        go_upto_region 1 with fail
        rw [← HX.out]
        go_wp2_with (first | (refine wpList_load_row rfl 23 (.tmp 2) rfl w.heap.size rfl _ _ _ _ H1.out Try.underlying23 rfl (sizeV f) ?_) | (refine wpList_load_row rfl 23 (.tmp 3) rfl (w.heap.size + 1) rfl _ _ _ _ H2.out Try.underlying23 rfl (sizeV g) ?_))
        refine (HL'.out _).mono ?_
        rintro e w1 ⟨rfl, hb1⟩
        have K1 := Lib.hid (H1.out.keep hb1)
        have K2 := Lib.hid (H2.out.keep hb1)
        have HB1 := Lib.hid (HB.out.trans (hb1.mono HB.out.size))
        clear hb1
        go_wp2_with (first | (refine wpList_load_row rfl 23 (.tmp 2) rfl w.heap.size rfl _ _ _ _ K1.out Try.underlying23 rfl (sizeV f) ?_) | (refine wpList_load_row rfl 23 (.tmp 3) rfl (w.heap.size + 1) rfl _ _ _ _ K2.out Try.underlying23 rfl (sizeV g) ?_))
        refine (HM'.out _).mono ?_
        rintro e w2 ⟨rfl, hb2⟩
        have HB2 := Lib.hid (HB1.out.trans (hb2.mono HB1.out.size))
        clear hb2
        go_wp2
        go_ret
        exact ⟨by rw [HE.out]; rfl, HB2.out⟩
    · have hl' := HL.out _ hl
      rw [hl] at HE
      have HL' := Lib.hid hl'
      clear hl hl' HL HM
      go_enter Try.func15, Try.ntmps15
      go_upto_region 1 with fail
      rw [← HX.out]
      go_wp2_with (first | (refine wpList_load_row rfl 23 (.tmp 2) rfl w.heap.size rfl _ _ _ _ H1.out Try.underlying23 rfl (sizeV f) ?_) | (refine wpList_load_row rfl 23 (.tmp 3) rfl (w.heap.size + 1) rfl _ _ _ _ H2.out Try.underlying23 rfl (sizeV g) ?_))
      refine (HL'.out _).mono ?_
      rintro e w1 ⟨rfl, hb1⟩
      have HB1 := Lib.hid (HB.out.trans (hb1.mono HB.out.size))
      clear hb1
      go_wp2
      go_ret
      exact ⟨by rw [HE.out]; rfl, HB1.out⟩
  · have hq := fun (w : World) => (run_eqV w f g).trans (by rw [he])
    rw [he] at HE
    clear he HL HM
    go_enter Try.func15, Try.ntmps15
    go_upto_region 1 with fail
    rw [← HX.out]
    go_wp2_with (first | (refine wpList_load_row rfl 23 (.tmp 2) rfl w.heap.size rfl _ _ _ _ H1.out Try.underlying23 rfl (sizeV f) ?_) | (refine wpList_load_row rfl 23 (.tmp 3) rfl (w.heap.size + 1) rfl _ _ _ _ H2.out Try.underlying23 rfl (sizeV g) ?_))
    go_ret
    exact ⟨by rw [HE.out]; rfl, HB.out⟩

end Go.Proofs.Ytcgbiikphcgoaaa
