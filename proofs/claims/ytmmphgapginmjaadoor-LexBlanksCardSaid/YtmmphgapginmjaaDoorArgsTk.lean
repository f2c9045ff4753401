/-
  ARGUMENTS OPENED: a slice of tokens, as the walks' words have it. Conditions: none.
-/
import Derived.Test.YtmmphgapginmjaaDoorLxTks
import Derived.Test.YtmmphgapginmjaaDoorRow
import Derived.Carry
namespace Go.Proofs.YtmmphgapginmjaaDoor
open Go.ChangeShapes Go.WideShapes Go.ChangeAt Go.RowKit

/-- An int that stands in a cell that came in. -/
theorem int_cell {H : Type} {enc : TypeId × Value → H} {W : World} {fuel : Nat} {cs : List Value} {x : DataW H × List MemPlace} (h : DataW.trod enc Tryd.prog W 0 (fun _ => true) true fuel 3 cs = some x) :
    ∃ n : Int, cs = [.int .i64 n] := by
  obtain ⟨n, hcs, _, _⟩ := DataW.trod_int Tryd.underlying3 h
  exact ⟨n, hcs⟩

theorem cellsTk : Tryd.prog.cellsOf 30 = 3 := by kernel_rfl
theorem bytesTk : Tryd.prog.bytesOf 30 = 32 := by kernel_rfl
theorem cellsIntT : Tryd.prog.cellsOf 3 = 1 := by kernel_rfl
theorem cellsStrT : Tryd.prog.cellsOf 9 = 1 := by kernel_rfl

theorem tok_cells {H : Type} {enc : TypeId × Value → H} {W : World} {cs : List Value} {x : DataW H × List MemPlace} {fuel : Nat} (hsz : cs.length = 3) (h : DataW.trod enc Tryd.prog W 0 (fun _ => true) true fuel 30 cs = some x) :
    ∃ t : Lx.Tk, cs = encT t := by
  match cs, hsz with
  | [c0, c1, c2], _ =>
    obtain ⟨xs, n, _, hx, _, hxl, hg⟩ := DataW.trod_struct Tryd.underlying30 h
    match xs, hxl with
    | [y0, y1, y2], _ =>
      have g0 : DataW.trod enc Tryd.prog W 0 (fun _ => true) true n 3 [c0] = some y0 := by simpa [Value.cells, cellsIntT] using hg 0 _ rfl
      have g1 : DataW.trod enc Tryd.prog W 0 (fun _ => true) true n 3 [c1] = some y1 := by simpa [Value.cells, cellsIntT] using hg 1 _ rfl
      have g2 : DataW.trod enc Tryd.prog W 0 (fun _ => true) true n 9 [c2] = some y2 := by simpa [Value.cells, cellsStrT] using hg 2 _ rfl
      obtain ⟨z0, e0⟩ := int_cell g0
      obtain ⟨z1, e1⟩ := int_cell g1
      obtain ⟨s, e2, _, _⟩ := DataW.trod_string Tryd.underlying9 g2
      simp only [List.cons.injEq, and_true] at e0 e1 e2
      subst e0 e1 e2
      refine ⟨(z0, z1, s.data.toList), ?_⟩
      unfold encT
      rw [str_id s]

theorem list_of {α : Type} {P : Nat → α → Prop} : ∀ n : Nat, (∀ i, i < n → ∃ e, P i e) → ∃ l : List α, l.length = n ∧ ∀ i e, l[i]? = some e → P i e
  | 0, _ => ⟨[], rfl, fun i e h => by cases h⟩
  | n + 1, h => by
    obtain ⟨l, hl, hp⟩ := list_of n fun i hi => h i (by omega)
    obtain ⟨e, he⟩ := h n (by omega)
    refine ⟨l ++ [e], by simp [hl], fun i x hx => ?_⟩
    by_cases hi : i < n
    · rw [List.getElem?_append_left (by omega)] at hx; exact hp i x hx
    · rw [List.getElem?_append_right (by omega)] at hx
      have h2 : i - l.length < 1 := by have := (List.getElem?_eq_some_iff.1 hx).1; simpa using this
      have h3 : i = n := by omega
      subst h3
      rw [hl, Nat.sub_self] at hx
      have : e = x := by simpa using hx
      rw [← this]; exact he

set_option maxRecDepth 100000 in
/-- A slice of tokens that came in. -/
theorem toks_in {H : Type} {enc : TypeId × Value → H} {ts : List TypeId} {ds : List (DataW H)} {j : Nat} {W : World} {v : Value} {d : DataW H} {p : List MemPlace} {r : Reach} {b0 : Nat}
    (hsz : (DataW.weightsEach Tryd.prog ts ds).all (· ≤ reachBytes) = true) (ht : ts[j]? = some 24) (hd : ds[j]? = some d)
    (hv : Value.okWide Tryd.prog W r b0 24 v) (h : DataW.Trod enc Tryd.prog W 0 (fun _ => true) true 24 v d p) :
    ∃ (A : Option Addr) (N c : Nat) (l : List Lx.Tk), v = .slice A N c ∧ SlK encT 3 W (.slice A N c) l ∧ l.length = N ∧ l.length ≤ 4611686018427387903 := by
  obtain ⟨a0, len, cap, rfl⟩ := okWide_slice Tryd.underlying24 hv
  obtain ⟨fuel, hf⟩ := h
  rcases DataW.trod_slice Tryd.underlying24 hf with ⟨hcs, hx⟩ | ⟨a, len', cap', elems, rest, n, _, hcs, hx, _, hl, hm, hle, hel, _⟩
  · simp [Value.cells] at hcs
    obtain ⟨rfl, rfl, rfl⟩ := hcs
    exact ⟨none, 0, 0, [], rfl, SlK.nil_ _ _ _, rfl, Nat.zero_le _⟩
  · simp [Value.cells] at hcs
    obtain ⟨rfl, rfl, rfl⟩ := hcs
    simp only [Prod.mk.injEq] at hx
    obtain ⟨rfl, _⟩ := hx
    obtain ⟨b, off, spot⟩ := a
    have key : ∀ i, i < len → ∃ q : Lx.Tk, ∀ m, m < 3 → W.cell? ((Addr.add ⟨b, off, spot⟩ (i * 3)).add m) = (encT q)[m]? := by
      intro i hi
      have h1 := hel i hi
      rw [cellsTk, List.getElem?_eq_getElem (by omega)] at h1
      cases hc : W.cells? 0 (Addr.add ⟨b, off, spot⟩ (i * 3)) 3 with
      | none => rw [hc] at h1; cases h1
      | some cs =>
        rw [hc] at h1
        obtain ⟨_, h2, h3⟩ := World.cells?_some hc
        obtain ⟨q, rfl⟩ := tok_cells h2 h1
        exact ⟨q, h3⟩
    obtain ⟨l, hll, hlp⟩ := list_of len key
    have hsl := sized_slice hsz (j := j) (t := 24) (e := 30) ht hd Tryd.underlying24
    rw [bytesTk] at hsl
    simp only [reachBytes, List.length_map] at hsl
    refine ⟨some ⟨b, off, spot⟩, len, cap, l, rfl, ⟨_, cap, by rw [hll], by omega, fun hn => ?_⟩, hll, by omega⟩
    · have hl0 : 0 < len := by
        rw [← hll]; exact List.length_pos_iff.2 hn
      obtain ⟨q0, hc0⟩ := key 0 hl0
      have h0 := hc0 0 (by decide)
      have hspot : spot = none := by
        have h1 : W.cell? ((Addr.add ⟨b, off, spot⟩ (0 * 3)).add 0) = some (.int .i64 q0.1) := h0
        simpa [Addr.add] using World.cell?_spot h1
      subst hspot
      have hlt : b < W.heap.size := by
        have h1 : W.cell? ((Addr.add ⟨b, off, none⟩ (0 * 3)).add 0) = some (.int .i64 q0.1) := h0
        simpa [Addr.add] using World.block_lt_of_cell? _ _ h1
      refine ⟨b, off, rfl, hlt, fun i x hq q u hu => ?_⟩
      have hq2 : q < 3 := (List.getElem?_eq_some_iff.1 hu).1
      have := hlp i x hq q hq2
      rw [hu, Addr.add_lit, Addr.add_lit] at this
      exact this

end Go.Proofs.YtmmphgapginmjaaDoor
