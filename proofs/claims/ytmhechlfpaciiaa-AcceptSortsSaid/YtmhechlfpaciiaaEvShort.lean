/-
  hedgerowref06.Short: the contract, by a walk. Conditions: texts that are not too long.
-/
import Derived.Test.YtmhechlfpaciiaaJEvRight
namespace Go.Proofs.Ytmhechlfpaciiaa
open Go.RowKit

/-- Aren't its texts too long? -/
def shortB (e : Ev) : Bool := decide (e.a.size + e.b.size + e.cc.size + e.d.size + e.t.size ≤ 300)
/-- Texts that can be. -/
def Fit (e : Ev) : Prop := e.a.size ≤ 140737488355328 ∧ e.b.size ≤ 140737488355328 ∧ e.cc.size ≤ 140737488355328 ∧ e.d.size ≤ 140737488355328 ∧ e.t.size ≤ 140737488355328
theorem short_lens (e : Ev) (h : shortB e = true) : Lens e := by
  unfold shortB at h
  rw [decide_eq_true_eq] at h
  exact ⟨by omega, by omega, by omega, by omega, by omega⟩

set_option maxRecDepth 100000 in
set_option maxHeartbeats 1000000 in
theorem short_any (e : Ev) (w : World) (hl : Fit e) : Calls Try.prog 37 #[evV e] w (Gives w (.bool (shortB e))) := by
  obtain ⟨r, c, p, op, ek, a, b, cc, d, vk, vn, t⟩ := e
  obtain ⟨l1, l2, l3, l4, l5⟩ := hl
  dsimp only at l1 l2 l3 l4 l5
  have HS : Hid (shortB ⟨r, c, p, op, ek, a, b, cc, d, vk, vn, t⟩ = decide ((a.size : Int) + b.size + cc.size + d.size + t.size ≤ 300)) := Lib.hid (by unfold shortB; exact decide_eq_decide.2 (by dsimp only; omega))
  have hk := EB.new_ w ⟨r, c, p, op, ek, a, b, cc, d, vk, vn, t⟩
  have hy : Below w.heap.size w (w.alloc (.cells (evC ⟨r, c, p, op, ek, a, b, cc, d, vk, vn, t⟩) 39)) := (Below.refl _ _).alloc (Nat.le_refl _) _
  obtain ⟨X, hX⟩ : ∃ X, X = w.alloc (.cells (evC ⟨r, c, p, op, ek, a, b, cc, d, vk, vn, t⟩) 39) := ⟨_, rfl⟩
  rw [← hX] at hk hy
  have c1 : X.cell? ⟨w.heap.size, 20, none⟩ = some (.string a) := (Blk.cell hk 20).trans rfl
  have c2 : X.cell? ⟨w.heap.size, 21, none⟩ = some (.string b) := (Blk.cell hk 21).trans rfl
  have c3 : X.cell? ⟨w.heap.size, 22, none⟩ = some (.string cc) := (Blk.cell hk 22).trans rfl
  have c4 : X.cell? ⟨w.heap.size, 23, none⟩ = some (.string d) := (Blk.cell hk 23).trans rfl
  have c5 : X.cell? ⟨w.heap.size, 26, none⟩ = some (.string t) := (Blk.cell hk 26).trans rfl
  have HX := Lib.hid hX
  have HY := Lib.hid hy
  clear hX hk hy
  unfold evV
  go_enter Try.func37, Try.ntmps37
  go_upto_region 1 with fail
  rw [← HX.out]
  go_wp2
  go_ret
  exact ⟨by rw [HS.out]; rfl, HY.out⟩

end Go.Proofs.Ytmhechlfpaciiaa
