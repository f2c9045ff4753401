/-
  event.Right: the contract, by a walk. Slices of the call's own; a past's parts. Conditions: lengths.
-/
import Derived.Test.YtmhechlfpaciiaaJEvFits
import Derived.Deep.DeepCutAuto
namespace Go.Proofs.Ytmhechlfpaciiaa
open Go.RowKit

theorem vnext_is (f : Nat → Int) (r c : Int) (b : Bool) (h : nextB f r c = b) (w : World) : Calls Try.prog 58 #[.agg (vA f), dv r c] w (Gives w (.bool b)) := by
  have := next_any f r c w; rwa [h] at this
theorem vright_is (f : Nat → Int) (b : Bool) (h : rightV f = b) (w : World) : Calls Try.prog 65 #[.agg (vA f)] w (Gives w (.bool b)) := by
  have := vright_any f w; rwa [h] at this

set_option maxRecDepth 100000 in
set_option maxHeartbeats 600000 in
theorem eright_any (e : Ev) (w : World) (hl : Lens e) (hw : CutOk w) : Calls Try.prog 39 #[evV e] w (Gives w (.int .i64 (codeI (okB e)))) := by
  have HL := Lib.hid hl
  have HN := Lib.hid (vnext_is e.p e.r e.c)
  have HR := Lib.hid (vright_is e.p)
  have HC : Hid (okB e = (nextB e.p e.r e.c && rightV e.p && changeB e)) := Lib.hid rfl
  obtain ⟨X, hX⟩ : ∃ X, X = w.alloc (.cells (evC e) 39) := ⟨_, rfl⟩
  have HX := Lib.hid hX
  have hk : EB X w.heap.size e := by rw [hX]; exact EB.new_ w e
  have hy : Below w.heap.size w X := by rw [hX]; exact (Below.refl _ _).alloc (Nat.le_refl _) _
  have hww : CutOk X := by rw [hX]; exact hw.alloc _
  have K := Lib.hid hk
  have HY := Lib.hid hy
  have HW := Lib.hid hww
  clear hX hk hy hww hl hw
  unfold evV
  cases h1 : nextB e.p e.r e.c
  · rw [h1] at HC
    have HN' := Lib.hid (HN.out _ h1)
    clear HN HR h1
    go_enter Try.func39, Try.ntmps39
    go_upto_region 1 with fail
    rw [← HX.out]
    go_wp2_with (first | (refine wpList_load_midif rfl 27 (.tmp 3) rfl w.heap.size 2 rfl _ _ K.out.past Try.underlying27 rfl (by kernel_rfl) ?_) | (refine wpList_load_midif rfl 33 (.tmp 5) rfl w.heap.size 0 rfl _ _ K.out.dot Try.underlying33 rfl (by kernel_rfl) ?_) | (refine wpList_load_midif rfl 27 (.tmp 10) rfl w.heap.size 2 rfl _ _ K.out.past Try.underlying27 rfl (by kernel_rfl) ?_) | (refine wpList_load_if rfl 39 (.tmp 15) rfl w.heap.size rfl _ _ _ _ K.out Try.underlying39 rfl (sizeE _) ?_) | (refine wpList_load_if rfl 39 (.tmp 1) rfl w.heap.size rfl _ _ _ _ K.out Try.underlying39 rfl (sizeE _) ?_))
    refine (HN'.out _).mono ?_
    rintro e' w1 ⟨rfl, hb⟩
    have K1 := Lib.hid (EB.keep K.out hb)
    have Y1 := Lib.hid (HY.out.trans (hb.mono HY.out.size))
    have HW1 := Lib.hid (CutOk.below HW.out hb)
    clear hb K HY HW
    go_wp2
    go_ret
    exact ⟨by rw [HC.out]; rfl, Y1.out⟩
  · rw [h1] at HC
    have HN' := Lib.hid (HN.out _ h1)
    clear HN h1
    cases h2 : rightV e.p
    · rw [h2] at HC
      have HR' := Lib.hid (HR.out _ h2)
      clear HR h2
      go_enter Try.func39, Try.ntmps39
      go_upto_region 1 with fail
      rw [← HX.out]
      go_wp2_with (first | (refine wpList_load_midif rfl 27 (.tmp 3) rfl w.heap.size 2 rfl _ _ K.out.past Try.underlying27 rfl (by kernel_rfl) ?_) | (refine wpList_load_midif rfl 33 (.tmp 5) rfl w.heap.size 0 rfl _ _ K.out.dot Try.underlying33 rfl (by kernel_rfl) ?_) | (refine wpList_load_midif rfl 27 (.tmp 10) rfl w.heap.size 2 rfl _ _ K.out.past Try.underlying27 rfl (by kernel_rfl) ?_) | (refine wpList_load_if rfl 39 (.tmp 15) rfl w.heap.size rfl _ _ _ _ K.out Try.underlying39 rfl (sizeE _) ?_) | (refine wpList_load_if rfl 39 (.tmp 1) rfl w.heap.size rfl _ _ _ _ K.out Try.underlying39 rfl (sizeE _) ?_))
      refine (HN'.out _).mono ?_
      rintro e' w1 ⟨rfl, hb⟩
      have K1 := Lib.hid (EB.keep K.out hb)
      have Y1 := Lib.hid (HY.out.trans (hb.mono HY.out.size))
      have HW1 := Lib.hid (CutOk.below HW.out hb)
      clear hb K HY HW
      go_wp2_with (first | (refine wpList_load_midif rfl 27 (.tmp 3) rfl w.heap.size 2 rfl _ _ K1.out.past Try.underlying27 rfl (by kernel_rfl) ?_) | (refine wpList_load_midif rfl 33 (.tmp 5) rfl w.heap.size 0 rfl _ _ K1.out.dot Try.underlying33 rfl (by kernel_rfl) ?_) | (refine wpList_load_midif rfl 27 (.tmp 10) rfl w.heap.size 2 rfl _ _ K1.out.past Try.underlying27 rfl (by kernel_rfl) ?_) | (refine wpList_load_if rfl 39 (.tmp 15) rfl w.heap.size rfl _ _ _ _ K1.out Try.underlying39 rfl (sizeE _) ?_) | (refine wpList_load_if rfl 39 (.tmp 1) rfl w.heap.size rfl _ _ _ _ K1.out Try.underlying39 rfl (sizeE _) ?_))
      refine (HR'.out _).mono ?_
      rintro e' w2 ⟨rfl, hb⟩
      have K2 := Lib.hid (EB.keep K1.out hb)
      have Y2 := Lib.hid (Y1.out.trans (hb.mono Y1.out.size))
      have HW2 := Lib.hid (CutOk.below HW1.out hb)
      clear hb K1 Y1 HW1
      go_wp2
      go_ret
      exact ⟨by rw [HC.out]; rfl, Y2.out⟩
    · rw [h2, Bool.true_and, Bool.true_and] at HC
      have HR' := Lib.hid (HR.out _ h2)
      clear HR h2
      go_enter Try.func39, Try.ntmps39
      go_upto_region 1 with fail
      rw [← HX.out]
      go_wp2_with (first | (refine wpList_load_midif rfl 27 (.tmp 3) rfl w.heap.size 2 rfl _ _ K.out.past Try.underlying27 rfl (by kernel_rfl) ?_) | (refine wpList_load_midif rfl 33 (.tmp 5) rfl w.heap.size 0 rfl _ _ K.out.dot Try.underlying33 rfl (by kernel_rfl) ?_) | (refine wpList_load_midif rfl 27 (.tmp 10) rfl w.heap.size 2 rfl _ _ K.out.past Try.underlying27 rfl (by kernel_rfl) ?_) | (refine wpList_load_if rfl 39 (.tmp 15) rfl w.heap.size rfl _ _ _ _ K.out Try.underlying39 rfl (sizeE _) ?_) | (refine wpList_load_if rfl 39 (.tmp 1) rfl w.heap.size rfl _ _ _ _ K.out Try.underlying39 rfl (sizeE _) ?_))
      refine (HN'.out _).mono ?_
      rintro e' w1 ⟨rfl, hb⟩
      have K1 := Lib.hid (EB.keep K.out hb)
      have Y1 := Lib.hid (HY.out.trans (hb.mono HY.out.size))
      have HW1 := Lib.hid (CutOk.below HW.out hb)
      clear hb K HY HW
      go_wp2_with (first | (refine wpList_load_midif rfl 27 (.tmp 3) rfl w.heap.size 2 rfl _ _ K1.out.past Try.underlying27 rfl (by kernel_rfl) ?_) | (refine wpList_load_midif rfl 33 (.tmp 5) rfl w.heap.size 0 rfl _ _ K1.out.dot Try.underlying33 rfl (by kernel_rfl) ?_) | (refine wpList_load_midif rfl 27 (.tmp 10) rfl w.heap.size 2 rfl _ _ K1.out.past Try.underlying27 rfl (by kernel_rfl) ?_) | (refine wpList_load_if rfl 39 (.tmp 15) rfl w.heap.size rfl _ _ _ _ K1.out Try.underlying39 rfl (sizeE _) ?_) | (refine wpList_load_if rfl 39 (.tmp 1) rfl w.heap.size rfl _ _ _ _ K1.out Try.underlying39 rfl (sizeE _) ?_))
      refine (HR'.out _).mono ?_
      rintro e' w2 ⟨rfl, hb⟩
      have K2 := Lib.hid (EB.keep K1.out hb)
      have Y2 := Lib.hid (Y1.out.trans (hb.mono Y1.out.size))
      have HW2 := Lib.hid (CutOk.below HW1.out hb)
      clear hb K1 Y1 HW1
      go_wp2_with (first | (refine wpList_load_midif rfl 27 (.tmp 3) rfl w.heap.size 2 rfl _ _ K2.out.past Try.underlying27 rfl (by kernel_rfl) ?_) | (refine wpList_load_midif rfl 33 (.tmp 5) rfl w.heap.size 0 rfl _ _ K2.out.dot Try.underlying33 rfl (by kernel_rfl) ?_) | (refine wpList_load_midif rfl 27 (.tmp 10) rfl w.heap.size 2 rfl _ _ K2.out.past Try.underlying27 rfl (by kernel_rfl) ?_) | (refine wpList_load_if rfl 39 (.tmp 15) rfl w.heap.size rfl _ _ _ _ K2.out Try.underlying39 rfl (sizeE _) ?_) | (refine wpList_load_if rfl 39 (.tmp 1) rfl w.heap.size rfl _ _ _ _ K2.out Try.underlying39 rfl (sizeE _) ?_))
      refine (eof_any e _).mono ?_
      rintro e' w3 ⟨rfl, hb⟩
      have K3 := Lib.hid (EB.keep K2.out hb)
      have Y3 := Lib.hid (Y2.out.trans (hb.mono Y2.out.size))
      have HW3 := Lib.hid (CutOk.below HW2.out hb)
      clear hb K2 Y2 HW2
      go_wp2_with (first | (refine wpList_load_midif rfl 27 (.tmp 3) rfl w.heap.size 2 rfl _ _ K3.out.past Try.underlying27 rfl (by kernel_rfl) ?_) | (refine wpList_load_midif rfl 33 (.tmp 5) rfl w.heap.size 0 rfl _ _ K3.out.dot Try.underlying33 rfl (by kernel_rfl) ?_) | (refine wpList_load_midif rfl 27 (.tmp 10) rfl w.heap.size 2 rfl _ _ K3.out.past Try.underlying27 rfl (by kernel_rfl) ?_) | (refine wpList_load_if rfl 39 (.tmp 15) rfl w.heap.size rfl _ _ _ _ K3.out Try.underlying39 rfl (sizeE _) ?_) | (refine wpList_load_if rfl 39 (.tmp 1) rfl w.heap.size rfl _ _ _ _ K3.out Try.underlying39 rfl (sizeE _) ?_))
      refine (change_any e _ HL.out HW3.out).mono ?_
      rintro e' w4 ⟨rfl, hb⟩
      have K4 := Lib.hid (EB.keep K3.out hb)
      have Y4 := Lib.hid (Y3.out.trans (hb.mono Y3.out.size))
      have HW4 := Lib.hid (CutOk.below HW3.out hb)
      clear hb K3 Y3 HW3
      go_wp2
      go_ret
      exact ⟨by rw [HC.out]; rfl, Y4.out⟩

end Go.Proofs.Ytmhechlfpaciiaa

namespace Go.Proofs.Ytmhechlfpaciiaa
open Go.RowKit

theorem own_form {w : World} {base size n : Nat} {e : TypeId} {v : Value} {xs : List Value} (h : w.ownsRow base e size v n xs) : ∃ A c, v = .slice A n c := by
  rcases h.2 with ⟨rfl, rfl⟩ | ⟨g, cap, cur, rfl, _⟩
  · exact ⟨none, 0, rfl⟩
  · exact ⟨_, _, rfl⟩
theorem own_lt {w : World} {base size n : Nat} {e : TypeId} {v : Value} {xs : List Value} (h : w.ownsRow base e size v n xs) : ∀ q, v.ownBlock = some q → base ≤ q := by
  intro q hq
  rcases h.2 with ⟨rfl, rfl⟩ | ⟨g, cap, cur, rfl, hb, _⟩
  · cases hq
  · have : g = q := Option.some.inj hq
    omega
theorem own_base {w : World} {base b' size n : Nat} {e : TypeId} {v : Value} {xs : List Value} (h : w.ownsRow base e size v n xs) (hb : b' ≤ base) : w.ownsRow b' e size v n xs := by
  refine ⟨h.1, ?_⟩
  rcases h.2 with h2 | ⟨g, cap, cur, h1, h2, h3⟩
  · exact .inl h2
  · exact .inr ⟨g, cap, cur, h1, by omega, h3⟩
theorem index_V (f : Nat → Int) (k : Nat) (h : k < 16) (w : World) : (Instr.index 27 (.agg (vA f)) (.int .i64 k)).run Try.prog w = .ok (.int .i64 (f k)) w := by
  have h2 : (0 : Int) ≤ k ∧ (k : Int) < 16 := by omega
  have h3 := vA_at f k h
  have hs : (Go.sizeOf 3).run Try.prog w = .ok 1 w := by
    have hz := sizeI
    cases hq : Try.prog.info? 3 with
    | none => simp [hq] at hz
    | some i => simp [hq] at hz; simp [sizeOf, typeInfo, hq, hz]
  simp only [Instr.index, asIntOf, Sem.run_bind, Sem.run_pure, Result.andThen_ok, run_underlying Try.underlying27 w]
  simp [h2, hs, part, Sem.run_bind, h3, iv]
theorem past_at (e : Ev) (k : Nat) (h : k < 16) : (evC e)[2 + k]? = some (.int .i64 (e.p k)) := by
  have : k = 0 ∨ k = 1 ∨ k = 2 ∨ k = 3 ∨ k = 4 ∨ k = 5 ∨ k = 6 ∨ k = 7 ∨ k = 8 ∨ k = 9 ∨ k = 10 ∨ k = 11 ∨ k = 12 ∨ k = 13 ∨ k = 14 ∨ k = 15 := by omega
  rcases this with rfl | rfl | rfl | rfl | rfl | rfl | rfl | rfl | rfl | rfl | rfl | rfl | rfl | rfl | rfl | rfl <;> rfl

end Go.Proofs.Ytmhechlfpaciiaa
