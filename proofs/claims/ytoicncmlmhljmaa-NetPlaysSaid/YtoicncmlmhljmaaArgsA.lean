/-
  ARGUMENTS OPENED: a slice of the law's acts, as the walks' words have it. Conditions: none.
-/
import Derived.Test.YtoicncmlmhljmaaArgsB
import Derived.Test.YtoicncmlmhljmaaSlK
import Derived.Test.YtoicncmlmhljmaaArgsB
import Derived.Carry
namespace Go.Proofs.Ytoicncmlmhljmaa
open Go.ChangeShapes Go.WideShapes Go.ChangeAt Go.RowKit

/-- A slice of bytes that stands in a cell that came in. -/
theorem sl_cell {H : Type} {enc : TypeId × Value → H} {W : World} {fuel : Nat} {cs : List Value} {x : DataW H × List MemPlace} (h : DataW.trod enc Try.prog W 0 (fun _ => true) true fuel 27 cs = some x) :
    ∃ A n c, ∃ l : List UInt8, cs = [.slice A n c] ∧ Sl bv W (.slice A n c) l := by
  rcases open_ints Try.underlying27 Try.underlying5 cellsU h with ⟨hcs, _⟩ | ⟨a, len, cap, zs, hcs, _, hl, hm, hz, _, hcell, hwz⟩
  · exact ⟨none, 0, 0, [], hcs, Sl.nil_ _ _⟩
  · simp only [if_true] at hz
    have hln : ((zs.take len).map fun n => UInt8.ofNat n.toNat).length = len := by rw [List.length_map, List.length_take]; omega
    refine ⟨some a, len, cap, (zs.take len).map fun n => UInt8.ofNat n.toNat, hcs, some a, cap, by rw [hln], by omega, fun hn => ?_⟩
    have hl0 : 0 < len := by
      rcases Nat.eq_zero_or_pos len with h0 | h0
      · subst h0; simp at hn
      · exact h0
    obtain ⟨b, off, spot⟩ := a
    have hspot : spot = none := by simpa [Addr.add] using World.cell?_spot (hcell 0 (by omega))
    subst hspot
    have hbW : b < W.heap.size := by simpa [Addr.add] using World.block_lt_of_cell? _ _ (hcell 0 (by omega))
    refine ⟨b, off, rfl, hbW, fun j u hu => ?_⟩
    have hj : j < len := by have := (List.getElem?_eq_some_iff.1 hu).1; omega
    have := hcell j (by omega)
    rw [add_plain] at this
    rw [this]
    have hjz : j < zs.length := by omega
    rw [List.getElem?_map, List.getElem?_take] at hu
    simp [hj, List.getElem?_eq_getElem hjz] at hu
    have hb := u8_bounds (hwz zs[j] (List.getElem_mem hjz))
    subst hu
    simp only [List.getD, List.getElem?_eq_getElem hjz, Option.getD_some, bv]
    have e : ((UInt8.ofNat zs[j].toNat).toNat : Int) = zs[j] := by
      have : (UInt8.ofNat zs[j].toNat).toNat = zs[j].toNat := by simp; omega
      rw [this]; omega
    rw [e]
/-- A byte that stands in a cell that came in. -/
theorem u8_cell {H : Type} {enc : TypeId × Value → H} {W : World} {fuel : Nat} {cs : List Value} {x : DataW H × List MemPlace} (h : DataW.trod enc Try.prog W 0 (fun _ => true) true fuel 5 cs = some x) :
    ∃ k : UInt8, cs = [bv k] := by
  obtain ⟨n, hcs, _, hw⟩ := DataW.trod_int Try.underlying5 h
  have hb := u8_bounds hw
  refine ⟨UInt8.ofNat n.toNat, ?_⟩
  rw [hcs]
  have : ((UInt8.ofNat n.toNat).toNat : Int) = n := by
    have : (UInt8.ofNat n.toNat).toNat = n.toNat := by simp; omega
    rw [this]; omega
  simp only [bv, this]

/-- An int that stands in a cell that came in. -/
theorem int_cell {H : Type} {enc : TypeId × Value → H} {W : World} {fuel : Nat} {cs : List Value} {x : DataW H × List MemPlace} (h : DataW.trod enc Try.prog W 0 (fun _ => true) true fuel 3 cs = some x) :
    ∃ n : Int, cs = [.int .i64 n] := by
  obtain ⟨n, hcs, _, _⟩ := DataW.trod_int Try.underlying3 h
  exact ⟨n, hcs⟩

/-- An act of the law's. -/
structure Ac where
  k : UInt8
  t : Int
  A : Option Addr
  n : Nat
  c : Nat
  d : List UInt8
  m : Int
  a : Int
  y : UInt8
def Ac.cells (r : Ac) : List Value := [bv r.k, .int .i64 r.t, .slice r.A r.n r.c, .int .i64 r.m, .int .i64 r.a, bv r.y]
def Ac.Ok (w : World) (r : Ac) : Prop := Sl bv w (.slice r.A r.n r.c) r.d
/-- A slice of acts. -/
def ActsAt (w : World) (v : Value) (rs : List Ac) : Prop := SlK Ac.cells 6 w v rs ∧ ∀ r ∈ rs, r.Ok w
theorem ActsAt.at_ {w : World} {v : Value} {l : List Ac} (h : ActsAt w v l) : ∃ A c, v = .slice A l.length c ∧ ∀ k (hk : k < l.length), ∃ b o, A = some ⟨b, o, none⟩ ∧ b < w.heap.size ∧ w.rangeAt b (o + k * 6) l[k].cells ∧ l[k].Ok w := by
  obtain ⟨⟨A, c, hv, hlc, hx⟩, h2⟩ := h
  refine ⟨A, c, hv, fun k hk => ?_⟩
  obtain ⟨b, o, hA, hb, hc⟩ := hx (by rintro rfl; simp at hk)
  exact ⟨b, o, hA, hb, hc k _ (List.getElem?_eq_getElem hk), h2 _ (List.getElem_mem hk)⟩

theorem cellsAct : Try.prog.cellsOf 29 = 6 := by kernel_rfl
theorem bytesAct : Try.prog.bytesOf 29 = 64 := by kernel_rfl
theorem cellsSl : Try.prog.cellsOf 27 = 1 := by kernel_rfl
theorem cellsInt : Try.prog.cellsOf 3 = 1 := by kernel_rfl

theorem act_cells {H : Type} {enc : TypeId × Value → H} {W : World} {cs : List Value} {x : DataW H × List MemPlace} {fuel : Nat} (hsz : cs.length = 6) (h : DataW.trod enc Try.prog W 0 (fun _ => true) true fuel 29 cs = some x) :
    ∃ r : Ac, cs = r.cells ∧ r.Ok W := by
  match cs, hsz with
  | [c0, c1, c2, c3, c4, c5], _ =>
    obtain ⟨xs, n, _, hx, _, hxl, hg⟩ := DataW.trod_struct Try.underlying29 h
    match xs, hxl with
    | [y0, y1, y2, y3, y4, y5], _ =>
      have g0 : DataW.trod enc Try.prog W 0 (fun _ => true) true n 5 [c0] = some y0 := by simpa [Value.cells, cellsU] using hg 0 _ rfl
      have g1 : DataW.trod enc Try.prog W 0 (fun _ => true) true n 3 [c1] = some y1 := by simpa [Value.cells, cellsInt] using hg 1 _ rfl
      have g2 : DataW.trod enc Try.prog W 0 (fun _ => true) true n 27 [c2] = some y2 := by simpa [Value.cells, cellsSl] using hg 2 _ rfl
      have g3 : DataW.trod enc Try.prog W 0 (fun _ => true) true n 3 [c3] = some y3 := by simpa [Value.cells, cellsInt] using hg 3 _ rfl
      have g4 : DataW.trod enc Try.prog W 0 (fun _ => true) true n 3 [c4] = some y4 := by simpa [Value.cells, cellsInt] using hg 4 _ rfl
      have g5 : DataW.trod enc Try.prog W 0 (fun _ => true) true n 5 [c5] = some y5 := by simpa [Value.cells, cellsU] using hg 5 _ rfl
      obtain ⟨k, e0⟩ := u8_cell g0
      obtain ⟨z1, e1⟩ := int_cell g1
      obtain ⟨A, m, c, l, e2, hs⟩ := sl_cell g2
      obtain ⟨z3, e3⟩ := int_cell g3
      obtain ⟨z4, e4⟩ := int_cell g4
      obtain ⟨y, e5⟩ := u8_cell g5
      simp only [List.cons.injEq, and_true] at e0 e1 e2 e3 e4 e5
      subst e0 e1 e2 e3 e4 e5
      exact ⟨⟨k, z1, A, m, c, l, z3, z4, y⟩, rfl, hs⟩

theorem list_of {α : Type} {P : Nat → α → Prop} : ∀ n : Nat, (∀ i, i < n → ∃ e, P i e) → ∃ l : List α, l.length = n ∧ ∀ i e, l[i]? = some e → P i e
  | 0, _ => ⟨[], rfl, fun i e h => by cases h⟩
  | n + 1, h => by
    obtain ⟨l, hl, hp⟩ := list_of n fun i hi => h i (by omega)
    obtain ⟨e, he⟩ := h n (by omega)
    refine ⟨l ++ [e], by simp [hl], fun i x hx => ?_⟩
    by_cases hi : i < n
    · rw [List.getElem?_append_left (by omega)] at hx; exact hp i x hx
    · rw [List.getElem?_append_right (by omega)] at hx
      have h2 : i - l.length < 1 := by have := (List.getElem?_eq_some_iff.1 hx).1; simpa using this
      have h3 : i = n := by omega
      subst h3
      rw [hl, Nat.sub_self] at hx
      have : e = x := by simpa using hx
      rw [← this]; exact he

/-- A slice of acts that came in. -/
theorem acts_in {H : Type} {enc : TypeId × Value → H} {ts : List TypeId} {ds : List (DataW H)} {j : Nat} {W : World} {v : Value} {d : DataW H} {p : List MemPlace} {r : Reach} {b0 : Nat}
    (hsz : (DataW.weightsEach Try.prog ts ds).all (· ≤ reachBytes) = true) (ht : ts[j]? = some 22) (hd : ds[j]? = some d)
    (hv : Value.okWide Try.prog W r b0 22 v) (h : DataW.Trod enc Try.prog W 0 (fun _ => true) true 22 v d p) :
    ∃ l : List Ac, ActsAt W v l ∧ l.length ≤ 4611686018427387903 := by
  obtain ⟨a0, len, cap, rfl⟩ := okWide_slice Try.underlying22 hv
  obtain ⟨fuel, hf⟩ := h
  rcases DataW.trod_slice Try.underlying22 hf with ⟨hcs, hx⟩ | ⟨a, len', cap', elems, rest, n, _, hcs, hx, _, hl, hm, hle, hel, _⟩
  · simp [Value.cells] at hcs
    obtain ⟨rfl, rfl, rfl⟩ := hcs
    exact ⟨[], ⟨SlK.nil_ _ _ _, (fun r hr => by cases hr)⟩, Nat.zero_le _⟩
  · simp [Value.cells] at hcs
    obtain ⟨rfl, rfl, rfl⟩ := hcs
    simp only [Prod.mk.injEq] at hx
    obtain ⟨rfl, _⟩ := hx
    obtain ⟨b, off, spot⟩ := a
    have key : ∀ i, i < len → ∃ q : Ac, (∀ m, m < 6 → W.cell? ((Addr.add ⟨b, off, spot⟩ (i * 6)).add m) = q.cells[m]?) ∧ q.Ok W := by
      intro i hi
      have h1 := hel i hi
      rw [cellsAct, List.getElem?_eq_getElem (by omega)] at h1
      cases hc : W.cells? 0 (Addr.add ⟨b, off, spot⟩ (i * 6)) 6 with
      | none => rw [hc] at h1; cases h1
      | some cs =>
        rw [hc] at h1
        obtain ⟨_, h2, h3⟩ := World.cells?_some hc
        obtain ⟨q, rfl, hok⟩ := act_cells h2 h1
        exact ⟨q, h3, hok⟩
    obtain ⟨l, hll, hlp⟩ := list_of len key
    have hsl := sized_slice hsz (j := j) (t := 22) (e := 29) ht hd Try.underlying22
    rw [bytesAct] at hsl
    simp only [reachBytes, List.length_map] at hsl
    refine ⟨l, ⟨⟨_, cap, by rw [hll], by omega, fun hn => ?_⟩, fun q hq => ?_⟩, by omega⟩
    · have hl0 : 0 < len := by
        rw [← hll]; exact List.length_pos_iff.2 hn
      obtain ⟨q0, hc0, _⟩ := key 0 hl0
      have h0 := hc0 0 (by decide)
      have hspot : spot = none := by
        have h1 : W.cell? ((Addr.add ⟨b, off, spot⟩ (0 * 6)).add 0) = some (bv q0.k) := h0
        simpa [Addr.add] using World.cell?_spot h1
      subst hspot
      have hlt : b < W.heap.size := by
        have h1 : W.cell? ((Addr.add ⟨b, off, none⟩ (0 * 6)).add 0) = some (bv q0.k) := h0
        simpa [Addr.add] using World.block_lt_of_cell? _ _ h1
      refine ⟨b, off, rfl, hlt, fun i x hq q u hu => ?_⟩
      have hq2 : q < 6 := (List.getElem?_eq_some_iff.1 hu).1
      have := (hlp i x hq).1 q hq2
      rw [hu, Addr.add_lit, Addr.add_lit] at this
      exact this
    · obtain ⟨i, hi⟩ := List.getElem?_of_mem hq
      exact (hlp i q hi).2

end Go.Proofs.Ytoicncmlmhljmaa
