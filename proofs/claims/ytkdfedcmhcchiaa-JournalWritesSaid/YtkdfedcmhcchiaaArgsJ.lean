/-
  ARGUMENTS OPENED: a slice of records, as the walks' words have it. Conditions: none.
-/
import Derived.Test.YtkdfedcmhcchiaaJnFixed
import Derived.Test.YtkdfedcmhcchiaaArgsB
import Derived.Carry
namespace Go.Proofs.Ytkdfedcmhcchiaa
open Go.ChangeShapes Go.WideShapes Go.ChangeAt Go.RowKit

/-- A slice of bytes that stands in a cell that came in. -/
theorem sl_cell {H : Type} {enc : TypeId × Value → H} {W : World} {fuel : Nat} {cs : List Value} {x : DataW H × List MemPlace} (h : DataW.trod enc Try.prog W 0 (fun _ => true) true fuel 34 cs = some x) :
    ∃ A n c, ∃ l : List UInt8, cs = [.slice A n c] ∧ Sl bv W (.slice A n c) l := by
  rcases open_ints Try.underlying34 Try.underlying5 cellsU h with ⟨hcs, _⟩ | ⟨a, len, cap, zs, hcs, _, hl, hm, hz, _, hcell, hwz⟩
  · exact ⟨none, 0, 0, [], hcs, Sl.nil_ _ _⟩
  · simp only [if_true] at hz
    have hln : ((zs.take len).map fun n => UInt8.ofNat n.toNat).length = len := by rw [List.length_map, List.length_take]; omega
    refine ⟨some a, len, cap, (zs.take len).map fun n => UInt8.ofNat n.toNat, hcs, some a, cap, by rw [hln], by omega, fun hn => ?_⟩
    have hl0 : 0 < len := by
      rcases Nat.eq_zero_or_pos len with h0 | h0
      · subst h0; simp at hn
      · exact h0
    obtain ⟨b, off, spot⟩ := a
    have hspot : spot = none := by simpa [Addr.add] using World.cell?_spot (hcell 0 (by omega))
    subst hspot
    have hbW : b < W.heap.size := by simpa [Addr.add] using World.block_lt_of_cell? _ _ (hcell 0 (by omega))
    refine ⟨b, off, rfl, hbW, fun j u hu => ?_⟩
    have hj : j < len := by have := (List.getElem?_eq_some_iff.1 hu).1; omega
    have := hcell j (by omega)
    rw [add_plain] at this
    rw [this]
    have hjz : j < zs.length := by omega
    rw [List.getElem?_map, List.getElem?_take] at hu
    simp [hj, List.getElem?_eq_getElem hjz] at hu
    have hb := u8_bounds (hwz zs[j] (List.getElem_mem hjz))
    subst hu
    simp only [List.getD, List.getElem?_eq_getElem hjz, Option.getD_some, bv]
    have e : ((UInt8.ofNat zs[j].toNat).toNat : Int) = zs[j] := by
      have : (UInt8.ofNat zs[j].toNat).toNat = zs[j].toNat := by simp; omega
      rw [this]; omega
    rw [e]
/-- A byte that stands in a cell that came in. -/
theorem u8_cell {H : Type} {enc : TypeId × Value → H} {W : World} {fuel : Nat} {cs : List Value} {x : DataW H × List MemPlace} (h : DataW.trod enc Try.prog W 0 (fun _ => true) true fuel 5 cs = some x) :
    ∃ k : UInt8, cs = [bv k] := by
  obtain ⟨n, hcs, _, hw⟩ := DataW.trod_int Try.underlying5 h
  have hb := u8_bounds hw
  refine ⟨UInt8.ofNat n.toNat, ?_⟩
  rw [hcs]
  have : ((UInt8.ofNat n.toNat).toNat : Int) = n := by
    have : (UInt8.ofNat n.toNat).toNat = n.toNat := by simp; omega
    rw [this]; omega
  simp only [bv, this]

theorem cellsRec : Try.prog.cellsOf 37 = 2 := by kernel_rfl
theorem bytesRec : Try.prog.bytesOf 37 = 32 := by kernel_rfl
theorem cellsSl : Try.prog.cellsOf 34 = 1 := by kernel_rfl

theorem rec_cells {H : Type} {enc : TypeId × Value → H} {W : World} {cs : List Value} {x : DataW H × List MemPlace} {fuel : Nat} (hsz : cs.length = 2) (h : DataW.trod enc Try.prog W 0 (fun _ => true) true fuel 37 cs = some x) :
    ∃ r : Rj, cs = r.cells ∧ r.Ok W := by
  match cs, hsz with
  | [c0, c1], _ =>
    obtain ⟨xs, n, _, hx, _, hxl, hg⟩ := DataW.trod_struct Try.underlying37 h
    match xs, hxl with
    | [y0, y1], _ =>
      have g0 : DataW.trod enc Try.prog W 0 (fun _ => true) true n 5 [c0] = some y0 := by simpa [Value.cells, cellsU] using hg 0 _ rfl
      have g1 : DataW.trod enc Try.prog W 0 (fun _ => true) true n 34 [c1] = some y1 := by simpa [Value.cells, cellsSl] using hg 1 _ rfl
      obtain ⟨k, e0⟩ := u8_cell g0
      obtain ⟨A, m, c, l, e1, hs⟩ := sl_cell g1
      simp only [List.cons.injEq, and_true] at e0 e1
      subst e0 e1
      exact ⟨⟨k, A, m, c, l⟩, rfl, hs⟩

theorem list_of {α : Type} {P : Nat → α → Prop} : ∀ n : Nat, (∀ i, i < n → ∃ e, P i e) → ∃ l : List α, l.length = n ∧ ∀ i e, l[i]? = some e → P i e
  | 0, _ => ⟨[], rfl, fun i e h => by cases h⟩
  | n + 1, h => by
    obtain ⟨l, hl, hp⟩ := list_of n fun i hi => h i (by omega)
    obtain ⟨e, he⟩ := h n (by omega)
    refine ⟨l ++ [e], by simp [hl], fun i x hx => ?_⟩
    by_cases hi : i < n
    · rw [List.getElem?_append_left (by omega)] at hx; exact hp i x hx
    · rw [List.getElem?_append_right (by omega)] at hx
      have h2 : i - l.length < 1 := by have := (List.getElem?_eq_some_iff.1 hx).1; simpa using this
      have h3 : i = n := by omega
      subst h3
      rw [hl, Nat.sub_self] at hx
      have : e = x := by simpa using hx
      rw [← this]; exact he

/-- A slice of records that came in. -/
theorem recs_in {H : Type} {enc : TypeId × Value → H} {ts : List TypeId} {ds : List (DataW H)} {j : Nat} {W : World} {v : Value} {d : DataW H} {p : List MemPlace} {r : Reach} {b0 : Nat}
    (hsz : (DataW.weightsEach Try.prog ts ds).all (· ≤ reachBytes) = true) (ht : ts[j]? = some 22) (hd : ds[j]? = some d)
    (hv : Value.okWide Try.prog W r b0 22 v) (h : DataW.Trod enc Try.prog W 0 (fun _ => true) true 22 v d p) :
    ∃ l : List (UInt8 × List UInt8), RecsAt W v l ∧ l.length ≤ 4611686018427387903 := by
  obtain ⟨a0, len, cap, rfl⟩ := okWide_slice Try.underlying22 hv
  obtain ⟨fuel, hf⟩ := h
  rcases DataW.trod_slice Try.underlying22 hf with ⟨hcs, hx⟩ | ⟨a, len', cap', elems, rest, n, _, hcs, hx, _, hl, hm, hle, hel, _⟩
  · simp [Value.cells] at hcs
    obtain ⟨rfl, rfl, rfl⟩ := hcs
    exact ⟨[], ⟨[], SlK.nil_ _ _ _, (fun r hr => by cases hr), rfl⟩, Nat.zero_le _⟩
  · simp [Value.cells] at hcs
    obtain ⟨rfl, rfl, rfl⟩ := hcs
    simp only [Prod.mk.injEq] at hx
    obtain ⟨rfl, _⟩ := hx
    obtain ⟨b, off, spot⟩ := a
    have key : ∀ i, i < len → ∃ q : Rj, (∀ m, m < 2 → W.cell? ((Addr.add ⟨b, off, spot⟩ (i * 2)).add m) = q.cells[m]?) ∧ q.Ok W := by
      intro i hi
      have h1 := hel i hi
      rw [cellsRec, List.getElem?_eq_getElem (by omega)] at h1
      cases hc : W.cells? 0 (Addr.add ⟨b, off, spot⟩ (i * 2)) 2 with
      | none => rw [hc] at h1; cases h1
      | some cs =>
        rw [hc] at h1
        obtain ⟨_, h2, h3⟩ := World.cells?_some hc
        obtain ⟨q, rfl, hok⟩ := rec_cells h2 h1
        exact ⟨q, h3, hok⟩
    obtain ⟨l, hll, hlp⟩ := list_of len key
    have hsl := sized_slice hsz (j := j) (t := 22) (e := 37) ht hd Try.underlying22
    rw [bytesRec] at hsl
    simp only [reachBytes, List.length_map] at hsl
    refine ⟨l.map Rj.val, ⟨l, ⟨_, cap, by rw [hll], by omega, fun hn => ?_⟩, fun q hq => ?_, rfl⟩, by rw [List.length_map]; omega⟩
    · have hl0 : 0 < len := by
        rw [← hll]; exact List.length_pos_iff.2 hn
      obtain ⟨q0, hc0, _⟩ := key 0 hl0
      have h0 := hc0 0 (by decide)
      have hspot : spot = none := by
        have h1 : W.cell? ((Addr.add ⟨b, off, spot⟩ (0 * 2)).add 0) = some (bv q0.k) := h0
        simpa [Addr.add] using World.cell?_spot h1
      subst hspot
      have hlt : b < W.heap.size := by
        have h1 : W.cell? ((Addr.add ⟨b, off, none⟩ (0 * 2)).add 0) = some (bv q0.k) := h0
        simpa [Addr.add] using World.block_lt_of_cell? _ _ h1
      refine ⟨b, off, rfl, hlt, fun i x hq q u hu => ?_⟩
      have hq2 : q < 2 := (List.getElem?_eq_some_iff.1 hu).1
      have := (hlp i x hq).1 q hq2
      rw [hu, Addr.add_lit, Addr.add_lit] at this
      exact this
    · obtain ⟨i, hi⟩ := List.getElem?_of_mem hq
      exact (hlp i q hi).2

end Go.Proofs.Ytkdfedcmhcchiaa
