/-
  A REGION THAT DRAWS ITS ORDER, WHOSE LAST OPERATION WAITS FOR ALL: the rule. Conditions: none.
-/
import Derived.Test.YtoicncmlmhljmaaMid
namespace Go.Proofs.Ytoicncmlmhljmaa.Lt
open Go.RowKit

section
variable {P : Program} {ops : Array Oper} {Q : Exit → Act → World → Prop} {md : Region.Mode}
/-- THE RULE where the last operation waits for all others, and nothing that was there turns ahead of it. -/
theorem wpAny_last (p : Nat → Value → World → Prop) (a0 : Act) (w1 : World) (last : Nat) (ol : Oper) (J : (Nat → Value) → World → Prop)
    (hsz : ops.size = last + 1) (hol : ops[last]? = some ol) (hwait : (List.range last).all (reachB md ops last (aftB md ol)) = true)
    (hap : apartB ops = true) (hah : aheadB md ops = true) (hin : (List.range ops.size).all (fun i => match ops[i]? with | some o => (match o.dst with | some d => decide (d < a0.tmps.size) | none => true) | none => true) = true)
    (hst : ∀ i v w w', Below w.heap.size w w' → p i v w → p i v w')
    (hop : AllIdx (fun i o => i < last → ∀ (a : Act) (w : World), Below w1.heap.size w1 w → (∀ d : Tmp, (ops.all fun o => o.dst != some d) = true → a.eval (.tmp d) = a0.eval (.tmp d)) →
      (∀ e ∈ o.after, Region.binds md e = true → ∀ oj d, ops[e.on]? = some oj → oj.dst = some d → p e.on (a.eval (.tmp d)) w) → ops[i]? = some o → wpOp P ops Q i (Step1 w1 p i a o w) a w) 0 ops.toList)
    (hlast : ∀ (vals : Nat → Value) (a : Act) (w : World), Below w1.heap.size w1 w → (∀ d : Tmp, (ops.all fun o => o.dst != some d) = true → a.eval (.tmp d) = a0.eval (.tmp d)) →
      (∀ (j : Nat) (oj : Oper) (d : Tmp), ops[j]? = some oj → j < last → oj.dst = some d → a.eval (.tmp d) = vals j) → (∀ j, j < last → p j (vals j) w) →
      wpOp P ops Q last (fun a' w' => ∃ v, a' = a.put ol.dst v ∧ ∀ vals' : Nat → Value, (∀ j, j < last → vals' j = vals j) → vals' last = v → J vals' w') a w)
    (hend : ∀ vals w, J vals w → Q .normal (layN ops (fun _ => true) vals (List.range ops.size) a0) w) :
    wpAny P md ops Q ops.size (Array.replicate ops.size false) a0 w1.drew := by
  refine wpAny_inv (fun L vals w => if L last = true then (∀ i, i < last → L i = true) ∧ J vals w else Below w1.heap.size w1 w ∧ ∀ i, i < last → L i = true → p i (vals i) w) a0 w1.drew hap hah hin ?_ ?_ ?_
  · intro L hL
    rw [if_neg (by rw [hL]; exact Bool.false_ne_true)]
    exact ⟨(Below.refl _ _).drew, fun i _ h => by rw [hL] at h; cases h⟩
  · have hall : ∀ (i : Nat) (o : Oper), ops[i]? = some o → ∀ (L : Nat → Bool) (vals : Nat → Value) (a : Act) (w : World), Finds md ops a0 i o L vals a →
        (if L last = true then (∀ i, i < last → L i = true) ∧ J vals w else Below w1.heap.size w1 w ∧ ∀ i, i < last → L i = true → p i (vals i) w) →
        wpOp P ops Q i (Leaves (fun L vals w => if L last = true then (∀ i, i < last → L i = true) ∧ J vals w else Below w1.heap.size w1 w ∧ ∀ i, i < last → L i = true → p i (vals i) w) i o L vals a) a w := by
      intro i o hi L vals a w hF hI
      have hil : i < ops.size := (Array.getElem?_eq_some_iff.1 hi).1
      by_cases hlt : i < last
      · have hnl : ¬ L last = true := by
          intro h
          rw [if_pos h] at hI
          have := hI.1 i hlt
          rw [hF.open_] at this
          cases this
        rw [if_neg hnl] at hI
        have h1 := allIdx_get ops.toList 0 i o hop (by simpa using hi)
        rw [Nat.zero_add] at h1
        refine wpOp_mono ?_ (h1 hlt a w hI.1 hF.old (fun e he hb oj d hoj hd => ?_) hi)
        · rintro a' w' ⟨⟨v, rfl, hp⟩, h2, h3⟩
          refine ⟨v, rfl, fun L' hL' hi' => ?_⟩
          have : ¬ L' last = true := by rw [hL' last (by omega)]; exact hnl
          show if L' last = true then _ else _
          rw [if_neg this]
          refine ⟨h3, fun j hj hlj => ?_⟩
          by_cases hji : j = i
          · subst hji; simpa using hp
          · simp only [hji, if_false]
            exact hst j _ w w' h2 (hI.2 j hj (by rw [← hL' j hji]; exact hlj))
        · have hl := hF.ahead e he hb
          have hel : e.on < ops.size := (Array.getElem?_eq_some_iff.1 hoj).1
          have hne : e.on ≠ last := fun h => hnl (by rw [← h]; exact hl)
          rw [hF.slot e.on oj d hoj hd hl]
          exact hI.2 e.on (by omega) hl
      · have hie : i = last := by omega
        subst hie
        have hoo : o = ol := by rw [hi] at hol; exact Option.some.inj hol
        subst hoo
        rw [if_neg (by rw [hF.open_]; exact Bool.false_ne_true)] at hI
        have hL : ∀ j, j < i → L j = true := by
          intro j hj
          simp only [List.all_eq_true, List.mem_range] at hwait
          refine reachB_spec hF.closed i _ (fun k hk => ?_) j (hwait j hj)
          unfold aftB at hk
          rw [Array.any_eq_true'] at hk
          obtain ⟨e, he, h2⟩ := hk
          simp only [Bool.and_eq_true, beq_iff_eq] at h2
          rw [← h2.1]
          exact hF.ahead e he h2.2
        refine wpOp_mono ?_ (hlast vals a w hI.1 hF.old (fun j oj d hoj hj hd => hF.slot j oj d hoj hd (hL j hj)) (fun j hj => hI.2 j hj (hL j hj)))
        rintro a' w' ⟨v, rfl, hJ⟩
        refine ⟨v, rfl, fun L' hL' hi' => ?_⟩
        show if L' i = true then _ else _
        rw [if_pos hi']
        refine ⟨fun j hj => by rw [hL' j (by omega)]; exact hL j hj, hJ _ (fun j hj => ?_) (by simp)⟩
        have : j ≠ i := by omega
        simp [this]
    have go : ∀ (l : List Oper) (k : Nat), (∀ i o, l[i]? = some o → ops[k + i]? = some o) → AllIdx (fun i o => ∀ (L : Nat → Bool) (vals : Nat → Value) (a : Act) (w : World), Finds md ops a0 i o L vals a →
        (if L last = true then (∀ i, i < last → L i = true) ∧ J vals w else Below w1.heap.size w1 w ∧ ∀ i, i < last → L i = true → p i (vals i) w) →
        wpOp P ops Q i (Leaves (fun L vals w => if L last = true then (∀ i, i < last → L i = true) ∧ J vals w else Below w1.heap.size w1 w ∧ ∀ i, i < last → L i = true → p i (vals i) w) i o L vals a) a w) k l := by
      intro l
      induction l with
      | nil => intro k _; trivial
      | cons o l ih =>
        intro k h
        refine ⟨hall k o (by simpa using h 0 o rfl), ih (k + 1) fun i o' ho' => ?_⟩
        have := h (i + 1) o' (by simpa using ho')
        rwa [show k + 1 + i = k + (i + 1) from by omega]
    exact go ops.toList 0 (fun i o h => by simpa using h)
  · intro L vals w hL hI
    rw [if_pos (hL last (by omega))] at hI
    exact hend vals w hI.2

/-- The last operation: a store that yields nothing. -/
theorem l_skip {i : Nat} {o : Oper} {a : Act} {w : World} {K : Act → World → Prop} (hi : ops[i]? = some o) (hw : Region.wanted o (yielded ops a.tmps) = true) (w' : World) (hr : (execOp a.eval o).run P w = .ok .skip w')
    (hK : K (a.put o.dst undef) w') : wpOp P ops Q i K a w := by
  unfold wpOp
  simp only [hi, hw, if_true]
  left
  unfold Oper.wp
  rw [hr]
  exact hK
end

end Go.Proofs.Ytoicncmlmhljmaa.Lt
