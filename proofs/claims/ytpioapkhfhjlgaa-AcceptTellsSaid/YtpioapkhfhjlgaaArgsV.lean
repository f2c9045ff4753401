/-
  ARGUMENTS OPENED: a vector, as the walks' words have it. Conditions: none.
-/
import Derived.Test.YtpioapkhfhjlgaaVecMath
import Derived.Test.YtpioapkhfhjlgaaRow
namespace Go.Proofs.Ytpioapkhfhjlgaa
open Go.ChangeShapes Go.WideShapes Go.ChangeAt Go.RowKit

/-- A vector that came in. -/
theorem open_vec {H : Type} {enc : TypeId × Value → H} {P : Program} {t e : TypeId} {W : World} {v : Value} {d : DataW H} {p : List MemPlace} {r : Reach} {b0 : Nat} (ht : P.underlying t = some (.array 16 e)) (he : P.underlying e = some (.int .i64)) (hc : P.cellsOf e = 1) (hc16 : P.cellsOf t = 16)
    (hv : Value.okWide P W r b0 t v) (h : DataW.Trod enc P W 0 (fun _ => true) true t v d p) : ∃ f : Nat → Int, v = .agg (vA f) := by
  simp only [Value.okWide, ht] at hv
  obtain ⟨cs, rfl, hsz, _⟩ := hv
  obtain ⟨fuel, hf⟩ := h
  obtain ⟨xs, m, _, _, hlen, hl, hel⟩ := DataW.trod_array ht hf
  have hcells : (Value.agg cs).cells = cs := rfl
  rw [hcells] at hlen hel
  have key : ∀ i, i < 16 → ∃ n : Int, cs.toList[i]? = some (.int .i64 n) := by
    intro i hi
    have hE := hel i hi
    rw [hc, Nat.mul_one, List.getElem?_eq_getElem (by omega)] at hE
    obtain ⟨n, e1, _, _⟩ := DataW.trod_int he hE
    refine ⟨n, ?_⟩
    have h0 : ((cs.toList.drop i).take 1)[0]? = some (.int .i64 n) := by rw [e1]; rfl
    simpa using h0
  have h16 : cs.size = 16 := hsz.trans hc16
  refine ⟨fun i => match cs.toList[i]? with | some (.int _ n) => n | _ => 0, ?_⟩
  congr 1
  apply Array.ext_getElem?
  intro i
  by_cases hi : i < 16
  · obtain ⟨n, hn⟩ := key i hi
    rw [vA_at _ i hi, hn]
    rw [← Array.getElem?_toList, hn]; rfl
  · rw [Array.getElem?_eq_none (by omega), Array.getElem?_eq_none (by rw [vA_size]; omega)]

end Go.Proofs.Ytpioapkhfhjlgaa
