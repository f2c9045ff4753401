/-
  Slices of slices of bytes. Conditions: none.
-/
import Derived.Test.YtoicncmlmhljmaaWords
namespace Go.Proofs.Ytoicncmlmhljmaa
open Go.RowKit

def rv (r : (Option Addr × Nat × Nat) × List UInt8) : Value := .slice r.1.1 r.1.2.1 r.1.2.2
/-- v is a slice of slices that read ls. -/
def RowsAt (w : World) (v : Value) (ls : List (List UInt8)) : Prop := ∃ rs : List ((Option Addr × Nat × Nat) × List UInt8), Sl rv w v rs ∧ (∀ r ∈ rs, Sl bv w (rv r) r.2) ∧ rs.map (·.2) = ls
theorem RowsAt.at_ {w : World} {v : Value} {ls : List (List UInt8)} (h : RowsAt w v ls) : ∃ A c, v = .slice A ls.length c ∧ ls.length ≤ c ∧ ∀ k (hk : k < ls.length), ∃ b o, A = some ⟨b, o, none⟩ ∧ b < w.heap.size ∧ ∃ A2 n2 c2, w.cell? ⟨b, o + k, none⟩ = some (.slice A2 n2 c2) ∧ Sl bv w (.slice A2 n2 c2) ls[k] := by
  obtain ⟨rs, h1, h2, h3⟩ := h
  have hl : rs.length = ls.length := by rw [← h3, List.length_map]
  obtain ⟨A, c, rfl, hlc, hx⟩ := h1.at_
  refine ⟨A, c, by rw [hl], by omega, fun k hk => ?_⟩
  obtain ⟨b, o, hA, hb, hcell⟩ := hx k (by omega)
  have hk' : k < rs.length := by omega
  refine ⟨b, o, hA, hb, _, _, _, hcell k rs[k] (List.getElem?_eq_getElem hk'), ?_⟩
  have := h2 rs[k] (List.getElem_mem hk')
  have e : ls[k] = rs[k].2 := by subst h3; simp
  rw [e]
  exact this

end Go.Proofs.Ytoicncmlmhljmaa
