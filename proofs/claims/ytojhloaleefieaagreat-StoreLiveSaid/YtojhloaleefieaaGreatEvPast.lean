/-
  Slices of the call's own; a past's parts. Conditions: none.
-/
import Derived.Test.YtojhloaleefieaaGreatEvRight
import Derived.Deep.DeepCutAuto
namespace Go.Proofs.YtojhloaleefieaaGreat
open Go.RowKit

theorem own_form {w : World} {base size n : Nat} {e : TypeId} {v : Value} {xs : List Value} (h : w.ownsRow base e size v n xs) : ∃ A c, v = .slice A n c := by
  rcases h.2 with ⟨rfl, rfl⟩ | ⟨g, cap, cur, rfl, _⟩
  · exact ⟨none, 0, rfl⟩
  · exact ⟨_, _, rfl⟩
theorem own_lt {w : World} {base size n : Nat} {e : TypeId} {v : Value} {xs : List Value} (h : w.ownsRow base e size v n xs) : ∀ q, v.ownBlock = some q → base ≤ q := by
  intro q hq
  rcases h.2 with ⟨rfl, rfl⟩ | ⟨g, cap, cur, rfl, hb, _⟩
  · cases hq
  · have : g = q := Option.some.inj hq
    omega
theorem own_base {w : World} {base b' size n : Nat} {e : TypeId} {v : Value} {xs : List Value} (h : w.ownsRow base e size v n xs) (hb : b' ≤ base) : w.ownsRow b' e size v n xs := by
  refine ⟨h.1, ?_⟩
  rcases h.2 with h2 | ⟨g, cap, cur, h1, h2, h3⟩
  · exact .inl h2
  · exact .inr ⟨g, cap, cur, h1, by omega, h3⟩
theorem index_V (f : Nat → Int) (k : Nat) (h : k < 16) (w : World) : (Instr.index 28 (.agg (vA f)) (.int .i64 k)).run Tryz.prog w = .ok (.int .i64 (f k)) w := by
  have h2 : (0 : Int) ≤ k ∧ (k : Int) < 16 := by omega
  have h3 := vA_at f k h
  have hs : (Go.sizeOf 3).run Tryz.prog w = .ok 1 w := by
    have hz := sizeI
    cases hq : Tryz.prog.info? 3 with
    | none => simp [hq] at hz
    | some i => simp [hq] at hz; simp [sizeOf, typeInfo, hq, hz]
  simp only [Instr.index, asIntOf, Sem.run_bind, Sem.run_pure, Result.andThen_ok, run_underlying Tryz.underlying28 w]
  simp [h2, hs, part, Sem.run_bind, h3, iv]
theorem past_at (e : Ev) (k : Nat) (h : k < 16) : (evC e)[2 + k]? = some (.int .i64 (e.p k)) := by
  have : k = 0 ∨ k = 1 ∨ k = 2 ∨ k = 3 ∨ k = 4 ∨ k = 5 ∨ k = 6 ∨ k = 7 ∨ k = 8 ∨ k = 9 ∨ k = 10 ∨ k = 11 ∨ k = 12 ∨ k = 13 ∨ k = 14 ∨ k = 15 := by omega
  rcases this with rfl | rfl | rfl | rfl | rfl | rfl | rfl | rfl | rfl | rfl | rfl | rfl | rfl | rfl | rfl | rfl <;> rfl

end Go.Proofs.YtojhloaleefieaaGreat
