/-
  ARGUMENTS OPENED: an element, as the walks' words have it. Conditions: none.
-/
import Derived.Test.YtojhloaleefieaaGreatArgsS
namespace Go.Proofs.YtojhloaleefieaaGreat
open Go.ChangeShapes Go.WideShapes Go.ChangeAt Go.RowKit Go.MapKept Go.Sort

set_option maxRecDepth 100000 in
set_option maxHeartbeats 1000000 in
/-- An element that came in. -/
theorem open_elem {H : Type} {enc : TypeId × Value → H} {W : World} {v : Value} {d : DataW H} {p : List MemPlace} {r : Reach} {b0 : Nat}
    (hv : Value.okWide Tryz.prog W r b0 24 v) (h : DataW.Trod enc Tryz.prog W 0 (fun _ => true) true 24 v d p) : ∃ x : El, v = eE x := by
  simp only [Value.okWide, Tryz.underlying24] at hv
  obtain ⟨cs, rfl, hsz, _⟩ := hv
  obtain ⟨fuel, hf⟩ := h
  have hcells : (Value.agg cs).cells = cs := rfl
  rw [hcells] at hf
  have h5 : cs.toList.length = 5 := by rw [Array.length_toList, hsz]; exact cElem
  obtain ⟨l, hl⟩ : ∃ l, cs.toList = l := ⟨_, rfl⟩
  rw [hl] at hf h5
  match l, h5 with
  | [c0, c1, c2, c3, c4], _ =>
    obtain ⟨z3, n3, _, hz3, _, hl3, h3⟩ := DataW.trod_struct Tryz.underlying24 hf
    match z3, hl3 with
    | [b0, b1, b2, b3, b4], _ =>
      have k2 : DataW.trod enc Tryz.prog W 0 (fun _ => true) true n3 3 [c0] = some b0 := by simpa [cInt] using h3 0 _ rfl
      have k3 : DataW.trod enc Tryz.prog W 0 (fun _ => true) true n3 9 [c1] = some b1 := by simpa [cStr] using h3 1 _ rfl
      have k4 : DataW.trod enc Tryz.prog W 0 (fun _ => true) true n3 9 [c2] = some b2 := by simpa [cStr] using h3 2 _ rfl
      have k5 : DataW.trod enc Tryz.prog W 0 (fun _ => true) true n3 9 [c3] = some b3 := by simpa [cStr] using h3 3 _ rfl
      have k6 : DataW.trod enc Tryz.prog W 0 (fun _ => true) true n3 9 [c4] = some b4 := by simpa [cStr] using h3 4 _ rfl
      obtain ⟨ek, e3, _, _⟩ := DataW.trod_int Tryz.underlying3 k2
      obtain ⟨sa, e4, d4, _⟩ := DataW.trod_string Tryz.underlying9 k3
      obtain ⟨sb, e5, d5, _⟩ := DataW.trod_string Tryz.underlying9 k4
      obtain ⟨sc, e6, d6, _⟩ := DataW.trod_string Tryz.underlying9 k5
      obtain ⟨sd, e7, d7, _⟩ := DataW.trod_string Tryz.underlying9 k6
      simp only [List.cons.injEq, and_true] at e3 e4 e5 e6 e7
      subst e3 e4 e5 e6 e7
      refine ⟨⟨ek, sa, sb, sc, sd⟩, ?_⟩
      unfold eE elV
      congr 1
      rw [← Array.toList_inj, hl]

end Go.Proofs.YtojhloaleefieaaGreat
