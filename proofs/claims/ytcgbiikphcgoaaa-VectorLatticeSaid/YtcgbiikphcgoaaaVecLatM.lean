/-
  hedgerowlaw05.VectorLattice: what its third region keeps, whatever its order. Conditions: none.
-/
import Derived.Test.YtcgbiikphcgoaaaVecSums
namespace Go.Proofs.Ytcgbiikphcgoaaa
open Go.RowKit

theorem below_is (f g : Nat → Int) (b : Bool) (h : leV f g = b) (w : World) : Calls Try.prog 14 #[.agg (vA f), .agg (vA g)] w fun e w' => e = .returned (.bool b) ∧ Below w.heap.size w w' := by
  have := below_any f g w
  rwa [h] at this
theorem le_join1 (f g : Nat → Int) : leV f (joinV f g) = true := by rw [leV_iff]; intro i _; unfold joinV; omega
theorem le_join2 (f g : Nat → Int) : leV g (joinV f g) = true := by rw [leV_iff]; intro i _; unfold joinV; omega
theorem le_meet1 (f g : Nat → Int) : leV (meetV f g) f = true := by rw [leV_iff]; intro i _; unfold meetV; omega
theorem le_meet2 (f g : Nat → Int) : leV (meetV f g) g = true := by rw [leV_iff]; intro i _; unfold meetV; omega
theorem le_join3 (f g h : Nat → Int) (a : leV f h = true) (b : leV g h = true) : leV (joinV f g) h = true := by
  rw [leV_iff] at *; intro i hi; have := a i hi; have := b i hi; unfold joinV; omega
theorem le_meet3 (f g h : Nat → Int) (a : leV h f = true) (b : leV h g = true) : leV h (meetV f g) = true := by
  rw [leV_iff] at *; intro i hi; have := a i hi; have := b i hi; unfold meetV; omega

theorem run_allocV_op {o : Oper} {ρ : Operand → Value} {w : World} (ho : o.op = .alloc 23) : (execOp ρ o).run Try.prog w = .ok (.value (pv w.heap.size)) (w.alloc (.cells (vA fun _ => 0) 23)) := by
  have hz := (zero_of_info zeroV).1
  unfold execOp pv
  simp only [ho]
  go_simp

/-- What the region keeps: what is yielded so far; the two new blocks. -/
def LInv (Y : World) (ex : Nat → Value) (j m : Nat → Int) (L : Nat → Bool) (vals : Nat → Value) (W : World) : Prop :=
  Below Y.heap.size Y W ∧ (∀ k, k < 6 → L k = true → vals k = ex k) ∧
  (L 6 = true → ∃ g, vals 6 = pv g ∧ Y.heap.size ≤ g ∧ VB W g (if L 8 = true then j else fun _ => 0)) ∧
  (L 7 = true → ∃ g, vals 7 = pv g ∧ Y.heap.size ≤ g ∧ VB W g (if L 9 = true then m else fun _ => 0)) ∧
  (L 6 = true → L 7 = true → vals 6 ≠ vals 7)
theorem pv_inj {a b : Nat} (h : pv a = pv b) : a = b := by
  unfold pv at h
  simpa using h
theorem LInv.keep {Y : World} {ex : Nat → Value} {j m : Nat → Int} {L : Nat → Bool} {vals : Nat → Value} {W W' : World} (h : LInv Y ex j m L vals W) (i : Nat) (hi : i < 6) (v : Value) (hv : v = ex i) (hb : Below W.heap.size W W')
    (L' : Nat → Bool) (hL : ∀ k, k ≠ i → L' k = L k) (_ : L' i = true) : LInv Y ex j m L' (fun k => if k = i then v else vals k) W' := by
  obtain ⟨h1, h2, h3, h4, h5⟩ := h
  refine ⟨h1.trans (hb.mono h1.size), fun k hk hl => ?_, fun hl => ?_, fun hl => ?_, fun ha hb2 => ?_⟩
  · by_cases e : k = i
    · subst e; exact (if_pos rfl).trans hv
    · exact (if_neg e).trans (h2 k hk (by rw [← hL k e]; exact hl))
  · obtain ⟨g, e1, e2, e3⟩ := h3 (by rw [← hL 6 (by omega)]; exact hl)
    exact ⟨g, (if_neg (by omega)).trans e1, e2, by rw [hL 8 (by omega)]; exact VB.keep e3 hb⟩
  · obtain ⟨g, e1, e2, e3⟩ := h4 (by rw [← hL 7 (by omega)]; exact hl)
    exact ⟨g, (if_neg (by omega)).trans e1, e2, by rw [hL 9 (by omega)]; exact VB.keep e3 hb⟩
  · show (if (6 : Nat) = _ then _ else _) ≠ (if (7 : Nat) = _ then _ else _)
    rw [if_neg (by omega), if_neg (by omega)]
    exact h5 (by rw [← hL 6 (by omega)]; exact ha) (by rw [← hL 7 (by omega)]; exact hb2)
theorem LInv.alloc6 {Y : World} {ex : Nat → Value} {j m : Nat → Int} {L : Nat → Bool} {vals : Nat → Value} {W : World} (h : LInv Y ex j m L vals W) (h8 : L 8 = false)
    (L' : Nat → Bool) (hL : ∀ k, k ≠ 6 → L' k = L k) (_ : L' 6 = true) : LInv Y ex j m L' (fun k => if k = 6 then pv W.heap.size else vals k) (W.alloc (.cells (vA fun _ => 0) 23)) := by
  obtain ⟨h1, h2, h3, h4, h5⟩ := h
  refine ⟨h1.alloc h1.size _, fun k hk hl => (if_neg (by omega)).trans (h2 k hk (by rw [← hL k (by omega)]; exact hl)), fun _ => ?_, fun hl => ?_, fun _ hb2 => ?_⟩
  · exact ⟨W.heap.size, if_pos rfl, h1.size, by rw [hL 8 (by omega), h8]; exact VB.new_ _ rfl⟩
  · obtain ⟨g, e1, e2, e3⟩ := h4 (by rw [← hL 7 (by omega)]; exact hl)
    exact ⟨g, (if_neg (by omega)).trans e1, e2, by rw [hL 9 (by omega)]; exact VB.alloc_ e3 _⟩
  · obtain ⟨g, e1, e2, e3⟩ := h4 (by rw [← hL 7 (by omega)]; exact hb2)
    show (if (6 : Nat) = _ then _ else _) ≠ (if (7 : Nat) = _ then _ else _)
    rw [if_pos rfl, if_neg (by omega), e1]
    intro e
    have := pv_inj e
    have := Blk.lt e3
    omega
theorem LInv.alloc7 {Y : World} {ex : Nat → Value} {j m : Nat → Int} {L : Nat → Bool} {vals : Nat → Value} {W : World} (h : LInv Y ex j m L vals W) (h9 : L 9 = false)
    (L' : Nat → Bool) (hL : ∀ k, k ≠ 7 → L' k = L k) (_ : L' 7 = true) : LInv Y ex j m L' (fun k => if k = 7 then pv W.heap.size else vals k) (W.alloc (.cells (vA fun _ => 0) 23)) := by
  obtain ⟨h1, h2, h3, h4, h5⟩ := h
  refine ⟨h1.alloc h1.size _, fun k hk hl => (if_neg (by omega)).trans (h2 k hk (by rw [← hL k (by omega)]; exact hl)), fun hl => ?_, fun _ => ?_, fun ha _ => ?_⟩
  · obtain ⟨g, e1, e2, e3⟩ := h3 (by rw [← hL 6 (by omega)]; exact hl)
    exact ⟨g, (if_neg (by omega)).trans e1, e2, by rw [hL 8 (by omega)]; exact VB.alloc_ e3 _⟩
  · exact ⟨W.heap.size, if_pos rfl, h1.size, by rw [hL 9 (by omega), h9]; exact VB.new_ _ rfl⟩
  · obtain ⟨g, e1, e2, e3⟩ := h3 (by rw [← hL 6 (by omega)]; exact ha)
    show (if (6 : Nat) = _ then _ else _) ≠ (if (7 : Nat) = _ then _ else _)
    rw [if_pos rfl, if_neg (by omega), e1]
    intro e
    have := pv_inj e
    have := Blk.lt e3
    omega
theorem LInv.store8 {Y : World} {ex : Nat → Value} {j m : Nat → Int} {L : Nat → Bool} {vals : Nat → Value} {W : World} (h : LInv Y ex j m L vals W) (g : Nat) (hv : vals 6 = pv g) (hl6 : L 6 = true)
    (L' : Nat → Bool) (hL : ∀ k, k ≠ 8 → L' k = L k) (h8 : L' 8 = true) : LInv Y ex j m L' (fun k => if k = 8 then undef else vals k) (W.setRow g (vA j)) := by
  obtain ⟨h1, h2, h3, h4, h5⟩ := h
  obtain ⟨g', e1, e2, e3⟩ := h3 hl6
  obtain rfl := pv_inj (hv.symm.trans e1)
  refine ⟨h1.trans (setRow_below W g _ _ e2), fun k hk hl => (if_neg (by omega)).trans (h2 k hk (by rw [← hL k (by omega)]; exact hl)), fun _ => ?_, fun hl => ?_, fun ha hb2 => ?_⟩
  · exact ⟨g, (if_neg (by omega)).trans hv, e2, by rw [h8]; exact setRow_VB W g _ j e3⟩
  · have hl7 : L 7 = true := by rw [← hL 7 (by omega)]; exact hl
    obtain ⟨g2, a1, a2, a3⟩ := h4 hl7
    refine ⟨g2, (if_neg (by omega)).trans a1, a2, ?_⟩
    rw [hL 9 (by omega)]
    refine (setRow_other W g g2 _ ?_).trans a3
    intro e
    subst e
    exact h5 hl6 hl7 (hv.trans a1.symm)
  · show (if (6 : Nat) = _ then _ else _) ≠ (if (7 : Nat) = _ then _ else _)
    rw [if_neg (by omega), if_neg (by omega)]
    exact h5 (by rw [← hL 6 (by omega)]; exact ha) (by rw [← hL 7 (by omega)]; exact hb2)
theorem LInv.store9 {Y : World} {ex : Nat → Value} {j m : Nat → Int} {L : Nat → Bool} {vals : Nat → Value} {W : World} (h : LInv Y ex j m L vals W) (g : Nat) (hv : vals 7 = pv g) (hl7 : L 7 = true)
    (L' : Nat → Bool) (hL : ∀ k, k ≠ 9 → L' k = L k) (h9 : L' 9 = true) : LInv Y ex j m L' (fun k => if k = 9 then undef else vals k) (W.setRow g (vA m)) := by
  obtain ⟨h1, h2, h3, h4, h5⟩ := h
  obtain ⟨g', e1, e2, e3⟩ := h4 hl7
  obtain rfl := pv_inj (hv.symm.trans e1)
  refine ⟨h1.trans (setRow_below W g _ _ e2), fun k hk hl => (if_neg (by omega)).trans (h2 k hk (by rw [← hL k (by omega)]; exact hl)), fun hl => ?_, fun _ => ?_, fun ha hb2 => ?_⟩
  · have hl6 : L 6 = true := by rw [← hL 6 (by omega)]; exact hl
    obtain ⟨g2, a1, a2, a3⟩ := h3 hl6
    refine ⟨g2, (if_neg (by omega)).trans a1, a2, ?_⟩
    rw [hL 8 (by omega)]
    refine (setRow_other W g g2 _ ?_).trans a3
    intro e
    subst e
    exact h5 hl6 hl7 (a1.trans hv.symm)
  · exact ⟨g, (if_neg (by omega)).trans hv, e2, by rw [h9]; exact setRow_VB W g _ m e3⟩
  · show (if (6 : Nat) = _ then _ else _) ≠ (if (7 : Nat) = _ then _ else _)
    rw [if_neg (by omega), if_neg (by omega)]
    exact h5 (by rw [← hL 6 (by omega)]; exact ha) (by rw [← hL 7 (by omega)]; exact hb2)

end Go.Proofs.Ytcgbiikphcgoaaa
