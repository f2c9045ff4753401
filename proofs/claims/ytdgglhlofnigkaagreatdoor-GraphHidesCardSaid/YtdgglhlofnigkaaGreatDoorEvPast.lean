/-
  Slices of the call's own; a past's parts. Conditions: none.
-/
import Derived.Test.YtdgglhlofnigkaaGreatDoorJEvOf
import Derived.Deep.DeepCutAuto
namespace Go.Proofs.YtdgglhlofnigkaaGreatDoor
open Go.RowKit
theorem index_V (f : Nat → Int) (k : Nat) (h : k < 16) (w : World) : (Instr.index 26 (.agg (vA f)) (.int .i64 k)).run Tryz.prog w = .ok (.int .i64 (f k)) w := by
 have h2 : (0 : Int) ≤ k ∧ (k : Int) < 16 := by omega
 have h3 := vA_at f k h
 have hs : (Go.sizeOf 3).run Tryz.prog w = .ok 1 w := by
  have hz := sizeI
  cases hq : Tryz.prog.info? 3 with
  | none => simp [hq] at hz
  | some i => simp [hq] at hz; simp [sizeOf, typeInfo, hq, hz]
 simp only [Instr.index, asIntOf, Sem.run_bind, Sem.run_pure, Result.andThen_ok, run_underlying Tryz.underlying26 w]
 simp [h2, hs, part, Sem.run_bind, h3, iv]
theorem past_at (e : Ev) (k : Nat) (h : k < 16) : (evC e)[2 + k]? = some (.int .i64 (e.p k)) := by
 have : k = 0 ∨ k = 1 ∨ k = 2 ∨ k = 3 ∨ k = 4 ∨ k = 5 ∨ k = 6 ∨ k = 7 ∨ k = 8 ∨ k = 9 ∨ k = 10 ∨ k = 11 ∨ k = 12 ∨ k = 13 ∨ k = 14 ∨ k = 15 := by omega
 rcases this with rfl | rfl | rfl | rfl | rfl | rfl | rfl | rfl | rfl | rfl | rfl | rfl | rfl | rfl | rfl | rfl <;> rfl
end Go.Proofs.YtdgglhlofnigkaaGreatDoor
