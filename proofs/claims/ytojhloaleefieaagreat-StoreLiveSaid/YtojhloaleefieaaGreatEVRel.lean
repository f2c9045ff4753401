/-
  vector.Below, Right, Order: the contracts, by walks. Conditions: none.
-/
import Derived.Test.YtojhloaleefieaaGreatEVAsk
namespace Go.Proofs.YtojhloaleefieaaGreat
open Go.RowKit

theorem guardV (x y : Operand) (a b : Array Value) (w : World) : (eqGuard .eql 28 x y (.agg a) (.agg b)).run Tryz.prog w = .ok () w := run_eqGuard_agg _ _ _ _ _ _ _ (by kernel_rfl)
/-- May a vector be? -/
def rightV (f : Nat → Int) : Bool := eqV f (clampV f)

set_option maxRecDepth 100000 in
set_option maxHeartbeats 1000000 in
theorem vright_any (f : Nat → Int) (w : World) : Calls Tryz.prog 36 #[.agg (vA f)] w fun e w' => e = .returned (.bool (rightV f)) ∧ Below w.heap.size w w' := by
  obtain ⟨X, hX⟩ : ∃ X, X = w.alloc (.cells (vA f) 28) := ⟨_, rfl⟩
  have hv1 : VB X w.heap.size f := by rw [hX]; exact VB.new_ f rfl
  have hb : Below w.heap.size w X := by rw [hX]; exact (Below.refl _ _).alloc (Nat.le_refl _) _
  have HX := Lib.hid hX
  have H1 := Lib.hid hv1
  have HB := Lib.hid hb
  clear hX hv1 hb
  go_enter Tryz.func36, Tryz.ntmps36
  go_upto_region 1 with fail
  rw [← HX.out]
  refine wp_region_any (by kernel_rfl) ?_
  refine wpAny_below (fun i v _ => v = ([.agg (vA f), .agg (vA f), .agg (vA (clampV f)), .bool (rightV f), .bool (rightV f)] : List Value).getD i undef) _ X (by kernel_rfl) (by kernel_rfl) (by kernel_rfl) (fun i v w w' _ h => h) ?_ ?_
  · refine ⟨?_, ?_, ?_, ?_, ?_, trivial⟩
    · intro a W hI hun haft hi
      have e1 : a.eval (.tmp 1) = .pointer (some ⟨w.heap.size, 0, none⟩) := hun 1 (by kernel_rfl)
      exact b_same hi hI rfl _ (run_load_op rfl e1 (Blk.below H1.out hI (Blk.lt H1.out)) Tryz.underlying28 rfl (sizeV f)) rfl
    · intro a W hI hun haft hi
      have e1 : a.eval (.tmp 1) = .pointer (some ⟨w.heap.size, 0, none⟩) := hun 1 (by kernel_rfl)
      exact b_same hi hI rfl _ (run_load_op rfl e1 (Blk.below H1.out hI (Blk.lt H1.out)) Tryz.underlying28 rfl (sizeV f)) rfl
    · intro a W hI hun haft hi
      have f1 : a.eval (.tmp 4) = .agg (vA f) := haft ⟨1, .data⟩ (by simp) rfl _ _ rfl rfl
      refine b_call hi hI rfl _ _ (run_call_op (args := #[.agg (vA f)]) rfl (by simp [f1]) (by kernel_rfl)) ?_
      exact (clamp_any f W).mono fun e w' H => ⟨_, H.1, rfl, H.2⟩
    · intro a W hI hun haft hi
      have f0 : a.eval (.tmp 3) = .agg (vA f) := haft ⟨0, .data⟩ (by simp) rfl _ _ rfl rfl
      have f2 : a.eval (.tmp 5) = .agg (vA (clampV f)) := haft ⟨2, .data⟩ (by simp) rfl _ _ rfl rfl
      exact b_same hi hI rfl (.bool (rightV f)) (run_bin_op rfl f0 f2 (guardV _ _ _ _ _) (run_eqV _ f (clampV f))) rfl
    · intro a W hI hun haft hi
      have f3 : a.eval (.tmp 6) = .bool (rightV f) := haft ⟨3, .data⟩ (by simp) rfl _ _ rfl rfl
      exact b_same hi hI rfl _ (run_assign_op rfl f3) rfl
  · intro vals W hI hp
    have hl4 : vals 4 = .bool (rightV f) := hp 4 (by decide)
    have HI := Lib.hid hI
    clear hp hI
    simp only [layN, List.size_toArray, List.length_cons, List.length_nil, List.range, List.range.loop, if_true, List.getElem?_toArray, List.getElem?_cons_zero, List.getElem?_cons_succ, Act.put, List.setIfInBounds_toArray, List.set_cons_zero, List.set_cons_succ, Nat.zero_add, Nat.reduceAdd, hl4]
    clear hl4
    go_wp2
    go_ret
    exact ⟨rfl, HB.out.trans (HI.out.mono HB.out.size)⟩


end Go.Proofs.YtojhloaleefieaaGreat
