/-
  event.Right: the contract, by a walk. Conditions: CutOk, texts that are not too long.
-/
import Derived.Test.YtojhloaleefieaaGreatEvOf
namespace Go.Proofs.YtojhloaleefieaaGreat
open Go.RowKit

theorem vnext_is (f : Nat → Int) (r c : Int) (b : Bool) (h : nextB f r c = b) (w : World) : Calls Tryz.prog 35 #[.agg (vA f), dv r c] w (Gives w (.bool b)) := by
  have := next_any f r c w; rwa [h] at this
theorem vright_is (f : Nat → Int) (b : Bool) (h : rightV f = b) (w : World) : Calls Tryz.prog 36 #[.agg (vA f)] w (Gives w (.bool b)) := by
  have := vright_any f w; rwa [h] at this

set_option maxRecDepth 100000 in
set_option maxHeartbeats 600000 in
theorem eright_any (e : Ev) (w : World) (hl : Lens e) (hw : CutOk w) : Calls Tryz.prog 20 #[evV e] w (Gives w (.int .i64 (codeI (okB e)))) := by
  have HL := Lib.hid hl
  have HN := Lib.hid (vnext_is e.p e.r e.c)
  have HR := Lib.hid (vright_is e.p)
  have HC : Hid (okB e = (nextB e.p e.r e.c && rightV e.p && changeB e)) := Lib.hid rfl
  obtain ⟨X, hX⟩ : ∃ X, X = w.alloc (.cells (evC e) 38) := ⟨_, rfl⟩
  have HX := Lib.hid hX
  have hk : EB X w.heap.size e := by rw [hX]; exact EB.new_ w e
  have hy : Below w.heap.size w X := by rw [hX]; exact (Below.refl _ _).alloc (Nat.le_refl _) _
  have hww : CutOk X := by rw [hX]; exact hw.alloc _
  have K := Lib.hid hk
  have HY := Lib.hid hy
  have HW := Lib.hid hww
  clear hX hk hy hww hl hw
  unfold evV
  cases h1 : nextB e.p e.r e.c
  · rw [h1] at HC
    have HN' := Lib.hid (HN.out _ h1)
    clear HN HR h1
    go_enter Tryz.func20, Tryz.ntmps20
    go_upto_region 1 with fail
    rw [← HX.out]
    go_wp2_with (first | (refine wpList_load_midif rfl 28 (.tmp 3) rfl w.heap.size 2 rfl _ _ K.out.past Tryz.underlying28 rfl (by kernel_rfl) ?_) | (refine wpList_load_midif rfl 34 (.tmp 5) rfl w.heap.size 0 rfl _ _ K.out.dot Tryz.underlying34 rfl (by kernel_rfl) ?_) | (refine wpList_load_midif rfl 28 (.tmp 10) rfl w.heap.size 2 rfl _ _ K.out.past Tryz.underlying28 rfl (by kernel_rfl) ?_) | (refine wpList_load_if rfl 38 (.tmp 15) rfl w.heap.size rfl _ _ _ _ K.out Tryz.underlying38 rfl (sizeE _) ?_) | (refine wpList_load_if rfl 38 (.tmp 1) rfl w.heap.size rfl _ _ _ _ K.out Tryz.underlying38 rfl (sizeE _) ?_))
    refine (HN'.out _).mono ?_
    rintro e' w1 ⟨rfl, hb⟩
    have K1 := Lib.hid (EB.keep K.out hb)
    have Y1 := Lib.hid (HY.out.trans (hb.mono HY.out.size))
    have HW1 := Lib.hid (CutOk.below HW.out hb)
    clear hb K HY HW
    go_wp2
    go_ret
    exact ⟨by rw [HC.out]; rfl, Y1.out⟩
  · rw [h1] at HC
    have HN' := Lib.hid (HN.out _ h1)
    clear HN h1
    cases h2 : rightV e.p
    · rw [h2] at HC
      have HR' := Lib.hid (HR.out _ h2)
      clear HR h2
      go_enter Tryz.func20, Tryz.ntmps20
      go_upto_region 1 with fail
      rw [← HX.out]
      go_wp2_with (first | (refine wpList_load_midif rfl 28 (.tmp 3) rfl w.heap.size 2 rfl _ _ K.out.past Tryz.underlying28 rfl (by kernel_rfl) ?_) | (refine wpList_load_midif rfl 34 (.tmp 5) rfl w.heap.size 0 rfl _ _ K.out.dot Tryz.underlying34 rfl (by kernel_rfl) ?_) | (refine wpList_load_midif rfl 28 (.tmp 10) rfl w.heap.size 2 rfl _ _ K.out.past Tryz.underlying28 rfl (by kernel_rfl) ?_) | (refine wpList_load_if rfl 38 (.tmp 15) rfl w.heap.size rfl _ _ _ _ K.out Tryz.underlying38 rfl (sizeE _) ?_) | (refine wpList_load_if rfl 38 (.tmp 1) rfl w.heap.size rfl _ _ _ _ K.out Tryz.underlying38 rfl (sizeE _) ?_))
      refine (HN'.out _).mono ?_
      rintro e' w1 ⟨rfl, hb⟩
      have K1 := Lib.hid (EB.keep K.out hb)
      have Y1 := Lib.hid (HY.out.trans (hb.mono HY.out.size))
      have HW1 := Lib.hid (CutOk.below HW.out hb)
      clear hb K HY HW
      go_wp2_with (first | (refine wpList_load_midif rfl 28 (.tmp 3) rfl w.heap.size 2 rfl _ _ K1.out.past Tryz.underlying28 rfl (by kernel_rfl) ?_) | (refine wpList_load_midif rfl 34 (.tmp 5) rfl w.heap.size 0 rfl _ _ K1.out.dot Tryz.underlying34 rfl (by kernel_rfl) ?_) | (refine wpList_load_midif rfl 28 (.tmp 10) rfl w.heap.size 2 rfl _ _ K1.out.past Tryz.underlying28 rfl (by kernel_rfl) ?_) | (refine wpList_load_if rfl 38 (.tmp 15) rfl w.heap.size rfl _ _ _ _ K1.out Tryz.underlying38 rfl (sizeE _) ?_) | (refine wpList_load_if rfl 38 (.tmp 1) rfl w.heap.size rfl _ _ _ _ K1.out Tryz.underlying38 rfl (sizeE _) ?_))
      refine (HR'.out _).mono ?_
      rintro e' w2 ⟨rfl, hb⟩
      have K2 := Lib.hid (EB.keep K1.out hb)
      have Y2 := Lib.hid (Y1.out.trans (hb.mono Y1.out.size))
      have HW2 := Lib.hid (CutOk.below HW1.out hb)
      clear hb K1 Y1 HW1
      go_wp2
      go_ret
      exact ⟨by rw [HC.out]; rfl, Y2.out⟩
    · rw [h2, Bool.true_and, Bool.true_and] at HC
      have HR' := Lib.hid (HR.out _ h2)
      clear HR h2
      go_enter Tryz.func20, Tryz.ntmps20
      go_upto_region 1 with fail
      rw [← HX.out]
      go_wp2_with (first | (refine wpList_load_midif rfl 28 (.tmp 3) rfl w.heap.size 2 rfl _ _ K.out.past Tryz.underlying28 rfl (by kernel_rfl) ?_) | (refine wpList_load_midif rfl 34 (.tmp 5) rfl w.heap.size 0 rfl _ _ K.out.dot Tryz.underlying34 rfl (by kernel_rfl) ?_) | (refine wpList_load_midif rfl 28 (.tmp 10) rfl w.heap.size 2 rfl _ _ K.out.past Tryz.underlying28 rfl (by kernel_rfl) ?_) | (refine wpList_load_if rfl 38 (.tmp 15) rfl w.heap.size rfl _ _ _ _ K.out Tryz.underlying38 rfl (sizeE _) ?_) | (refine wpList_load_if rfl 38 (.tmp 1) rfl w.heap.size rfl _ _ _ _ K.out Tryz.underlying38 rfl (sizeE _) ?_))
      refine (HN'.out _).mono ?_
      rintro e' w1 ⟨rfl, hb⟩
      have K1 := Lib.hid (EB.keep K.out hb)
      have Y1 := Lib.hid (HY.out.trans (hb.mono HY.out.size))
      have HW1 := Lib.hid (CutOk.below HW.out hb)
      clear hb K HY HW
      go_wp2_with (first | (refine wpList_load_midif rfl 28 (.tmp 3) rfl w.heap.size 2 rfl _ _ K1.out.past Tryz.underlying28 rfl (by kernel_rfl) ?_) | (refine wpList_load_midif rfl 34 (.tmp 5) rfl w.heap.size 0 rfl _ _ K1.out.dot Tryz.underlying34 rfl (by kernel_rfl) ?_) | (refine wpList_load_midif rfl 28 (.tmp 10) rfl w.heap.size 2 rfl _ _ K1.out.past Tryz.underlying28 rfl (by kernel_rfl) ?_) | (refine wpList_load_if rfl 38 (.tmp 15) rfl w.heap.size rfl _ _ _ _ K1.out Tryz.underlying38 rfl (sizeE _) ?_) | (refine wpList_load_if rfl 38 (.tmp 1) rfl w.heap.size rfl _ _ _ _ K1.out Tryz.underlying38 rfl (sizeE _) ?_))
      refine (HR'.out _).mono ?_
      rintro e' w2 ⟨rfl, hb⟩
      have K2 := Lib.hid (EB.keep K1.out hb)
      have Y2 := Lib.hid (Y1.out.trans (hb.mono Y1.out.size))
      have HW2 := Lib.hid (CutOk.below HW1.out hb)
      clear hb K1 Y1 HW1
      go_wp2_with (first | (refine wpList_load_midif rfl 28 (.tmp 3) rfl w.heap.size 2 rfl _ _ K2.out.past Tryz.underlying28 rfl (by kernel_rfl) ?_) | (refine wpList_load_midif rfl 34 (.tmp 5) rfl w.heap.size 0 rfl _ _ K2.out.dot Tryz.underlying34 rfl (by kernel_rfl) ?_) | (refine wpList_load_midif rfl 28 (.tmp 10) rfl w.heap.size 2 rfl _ _ K2.out.past Tryz.underlying28 rfl (by kernel_rfl) ?_) | (refine wpList_load_if rfl 38 (.tmp 15) rfl w.heap.size rfl _ _ _ _ K2.out Tryz.underlying38 rfl (sizeE _) ?_) | (refine wpList_load_if rfl 38 (.tmp 1) rfl w.heap.size rfl _ _ _ _ K2.out Tryz.underlying38 rfl (sizeE _) ?_))
      refine (eof_any e _).mono ?_
      rintro e' w3 ⟨rfl, hb⟩
      have K3 := Lib.hid (EB.keep K2.out hb)
      have Y3 := Lib.hid (Y2.out.trans (hb.mono Y2.out.size))
      have HW3 := Lib.hid (CutOk.below HW2.out hb)
      clear hb K2 Y2 HW2
      go_wp2_with (first | (refine wpList_load_midif rfl 28 (.tmp 3) rfl w.heap.size 2 rfl _ _ K3.out.past Tryz.underlying28 rfl (by kernel_rfl) ?_) | (refine wpList_load_midif rfl 34 (.tmp 5) rfl w.heap.size 0 rfl _ _ K3.out.dot Tryz.underlying34 rfl (by kernel_rfl) ?_) | (refine wpList_load_midif rfl 28 (.tmp 10) rfl w.heap.size 2 rfl _ _ K3.out.past Tryz.underlying28 rfl (by kernel_rfl) ?_) | (refine wpList_load_if rfl 38 (.tmp 15) rfl w.heap.size rfl _ _ _ _ K3.out Tryz.underlying38 rfl (sizeE _) ?_) | (refine wpList_load_if rfl 38 (.tmp 1) rfl w.heap.size rfl _ _ _ _ K3.out Tryz.underlying38 rfl (sizeE _) ?_))
      refine (change_any e _ HL.out HW3.out).mono ?_
      rintro e' w4 ⟨rfl, hb⟩
      have K4 := Lib.hid (EB.keep K3.out hb)
      have Y4 := Lib.hid (Y3.out.trans (hb.mono Y3.out.size))
      have HW4 := Lib.hid (CutOk.below HW3.out hb)
      clear hb K3 Y3 HW3
      go_wp2
      go_ret
      exact ⟨by rw [HC.out]; rfl, Y4.out⟩

end Go.Proofs.YtojhloaleefieaaGreat
