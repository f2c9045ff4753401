/-
  crc's Sum: New, Add, Value, Of, Bytes: the contracts, by walks. Conditions: bounds on lengths.
-/
import Derived.Test.YtkdfedcmhcchiaaCrcTable
import Derived.Deep.MidRow
import Derived.Great.Ranges
import Derived.Deep.DeepCutAuto
namespace Go.Proofs.Ytkdfedcmhcchiaa
open Go.RowKit

theorem But.setCells (g : Nat) : ∀ (vs : List Value) (o : Nat) (w : World), But g w (w.setCells g o vs)
  | [], _, w => But.refl g w
  | v :: vs, o, w => (But.setCell w g o v).trans (But.setCells g vs (o + 1) _)
theorem But.frozen {g : Nat} {w w' : World} (h : But g w w') {p : Addr} (hp : p.block < w.heap.size) (hg : p.block ≠ g) : w'.frozen? p = w.frozen? p :=
  World.frozen?_of_block (h.block p.block hp (by simpa using hg))

/-- Block g is a Sum: its register turned, whether its table is made, its table. -/
def SumAt (w : World) (g : Nat) (r : BitVec 32) (made : Bool) (tb : Array (BitVec 32)) : Prop :=
  g < w.heap.size ∧ w.cell? ⟨g, 0, none⟩ = some (uv r) ∧ (∀ i x, tb[i]? = some x → w.cell? ⟨g, 1 + i, none⟩ = some (uv x)) ∧ tb.size = 256 ∧ w.cell? ⟨g, 257, none⟩ = some (.bool made) ∧ (∀ i, w.frozen? ⟨g, i, none⟩ = false)
/-- A Sum of bytes. -/
def SumOf (w : World) (g : Nat) (l : List UInt8) : Prop := ∃ (made : Bool) (tb : Array (BitVec 32)), (made = true → tb = tabB 256) ∧ SumAt w g (crcOf l) made tb

section
variable {w w' : World} {g : Nat} {r : BitVec 32} {made : Bool} {tb : Array (BitVec 32)}
theorem SumAt.kept (h : SumAt w g r made tb) (hs : w.heap.size ≤ w'.heap.size) (hb : w'.heap[g]? = w.heap[g]?) : SumAt w' g r made tb := by
  obtain ⟨h1, h2, h3, h4, h5, h6⟩ := h
  have c : ∀ i, w'.cell? ⟨g, i, none⟩ = w.cell? ⟨g, i, none⟩ := fun i => World.cell?_of_block (w := w) hb
  have f : ∀ i, w'.frozen? ⟨g, i, none⟩ = w.frozen? ⟨g, i, none⟩ := fun i => World.frozen?_of_block (w := w) hb
  exact ⟨by omega, (c 0).trans h2, fun i x hx => (c _).trans (h3 i x hx), h4, (c 257).trans h5, fun i => (f i).trans (h6 i)⟩
theorem SumAt.below {B : Nat} (h : SumAt w g r made tb) (hb : Below B w w') (hB : g < B) : SumAt w' g r made tb := h.kept hb.size (hb.block g hB)
theorem SumAt.but {k : Nat} (h : SumAt w g r made tb) (hb : But k w w') (hk : g ≠ k) : SumAt w' g r made tb := h.kept hb.size (hb.block g h.1 (by simpa using hk))
theorem SumAt.setReg (h : SumAt w g r made tb) (s : BitVec 32) : SumAt (w.setCell ⟨g, 0, none⟩ (uv s)) g s made tb := by
  obtain ⟨h1, h2, h3, h4, h5, h6⟩ := h
  refine ⟨by simpa [World.setCell] using h1, World.cell?_setCell_same _ _ _ h2, fun i x hx => ?_, h4, ?_, fun i => (World.frozen?_setCell _ _ _ _).trans (h6 i)⟩
  · rw [World.cell?_setCell_other _ _ _ _ (by simp)]; exact h3 i x hx
  · rw [World.cell?_setCell_other _ _ _ _ (by simp)]; exact h5
theorem SumAt.setMade (h : SumAt w g r made tb) (m : Bool) : SumAt (w.setCell ⟨g, 257, none⟩ (.bool m)) g r m tb := by
  obtain ⟨h1, h2, h3, h4, h5, h6⟩ := h
  refine ⟨by simpa [World.setCell] using h1, ?_, fun i x hx => ?_, h4, World.cell?_setCell_same _ _ _ h5, fun i => (World.frozen?_setCell _ _ _ _).trans (h6 i)⟩
  · rw [World.cell?_setCell_other _ _ _ _ (by simp)]; exact h2
  · have hi : i < 256 := by rw [← h4]; exact (Array.getElem?_eq_some_iff.1 hx).1
    rw [World.cell?_setCell_other _ _ _ _ (by intro e; injection e with _ e; omega)]; exact h3 i x hx
theorem SumAt.there_ (h : SumAt w g r made tb) : w.there g 1 256 := fun j hj => by
  obtain ⟨x, hx⟩ := old_uv tb j (by rw [h.2.2.2.1]; exact hj)
  exact ⟨by rw [h.2.2.1 j x hx]; rfl, h.2.2.2.2.2 _⟩
theorem SumAt.setTab (h : SumAt w g r made tb) (t2 : Array (BitVec 32)) (h2 : t2.size = 256) : SumAt (w.setCells g 1 (t2.map uv).toList) g r made t2 := by
  have ht := h.there_
  have hb := But.setCells g (t2.map uv).toList 1 w
  obtain ⟨h1, hr, h3, h4, h5, h6⟩ := h
  have hl : (t2.map uv).toList.length = 256 := by simp [h2]
  refine ⟨Nat.lt_of_lt_of_le h1 hb.size, ?_, fun i x hx => ?_, h2, ?_, fun i => (World.frozen?_setCells g _ _ _ _).trans (h6 i)⟩
  · rw [World.cell?_setCells_out g _ 1 w _ (fun _ _ => Or.inl (by simp))]; exact hr
  · have hi : i < 256 := by rw [← h2]; exact (Array.getElem?_eq_some_iff.1 hx).1
    rw [World.cell?_setCells_in g _ 1 w (fun j hj => (ht j (by omega)).1) i (by omega)]
    have : (t2.map uv).toList[i]? = some (uv x) := by simp [hx]
    rw [List.getElem?_eq_getElem (by omega)] at this
    exact this
  · rw [World.cell?_setCells_out g _ 1 w _ (fun _ _ => Or.inr (by rw [hl]; simp))]; exact h5
end

/-- A new Sum's cells. -/
def sumZ : Array Value := #[uv 0#32] ++ (powsB 0).map uv ++ #[.bool false]
theorem zero53 : (Try.prog.info? 77).map (fun i => (i.zero, i.size)) = some (some (.agg sumZ), 258) := by kernel_rfl
theorem sum_new (w : World) (t : TypeId) : SumOf (w.alloc (.cells sumZ t)) w.heap.size [] := by
  have hB := Blk.new w t sumZ
  refine ⟨false, powsB 0, (fun h => by cases h), hB.lt, ?_, fun i x hx => ?_, powsB_size 0, ?_, fun i => hB.free i⟩
  · rw [hB.cell 0, show crcOf [] = 0#32 by decide]; unfold sumZ; rw [Array.getElem?_append_left (by simp; omega), Array.getElem?_append_left (by simp)]; rfl
  · have hi : i < 256 := by rw [← powsB_size 0]; exact (Array.getElem?_eq_some_iff.1 hx).1
    rw [hB.cell (1 + i)]
    unfold sumZ
    rw [Array.getElem?_append_left (by simp [powsB_size]; omega), Array.getElem?_append_right (by simp)]
    simp [hx]
  · rw [hB.cell 257]
    unfold sumZ
    rw [Array.getElem?_append_right (by simp [powsB_size])]
    simp [powsB_size]

set_option maxHeartbeats 400000 in
theorem new_any (w : World) : Calls Try.prog 42 #[] w fun e w' => e = .returned (.pointer (some ⟨w.heap.size, 0, none⟩)) ∧ SumOf w' w.heap.size [] ∧ Below w.heap.size w w' := by
  have hn := sum_new w 77
  have hb := (Below.refl w.heap.size w).alloc (Nat.le_refl _) (.cells sumZ 77)
  have HN := Lib.hid hn
  have HB := Lib.hid hb
  clear hn hb
  have hz := (zero_of_info zero53).1
  go_enter Try.func42, Try.ntmps42
  go_wp2
  go_ret
  exact ⟨rfl, HN.out, HB.out⟩

end Go.Proofs.Ytkdfedcmhcchiaa
