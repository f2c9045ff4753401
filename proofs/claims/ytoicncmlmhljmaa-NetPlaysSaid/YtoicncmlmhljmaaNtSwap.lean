/-
  A REGION THAT DRAWS ITS ORDER, WITH TWO STORES: the rule. Conditions: none.
-/
import Derived.Test.YtoicncmlmhljmaaLast
namespace Go.Proofs.Ytoicncmlmhljmaa
open Go.RowKit

section
variable {P : Program} {ops : Array Oper} {Q : Exit → Act → World → Prop} {md : Region.Mode}
/-- THE RULE for two stores, the second one, which waits for all, the last: who reads memory may read it ahead of the first one, or behind it. -/
theorem wpAny_swapS (p : Nat → Value → Prop) (a0 : Act) (w1 : World) (s1 s2 : Nat) (o1 o2 : Oper) (O M F : World → Prop)
    (hsz : ops.size = s2 + 1) (h12 : s1 < s2) (ho1 : ops[s1]? = some o1) (ho2 : ops[s2]? = some o2) (hd1 : o1.dst = none) (hd2 : o2.dst = none)
    (hwl : Lt.aftB md o2 s1 = true) (hall : (List.range s2).all (Lt.reachB md ops s2 (Lt.aftB md o2)) = true)
    (hap : apartB ops = true) (hah : aheadB md ops = true) (hin : (List.range ops.size).all (fun i => match ops[i]? with | some o => (match o.dst with | some d => decide (d < a0.tmps.size) | none => true) | none => true) = true)
    (h0 : O w1.drew)
    (hop : AllIdx (fun i o => i ≠ s1 → i ≠ s2 → ∀ (a : Act) (w : World), (∀ d : Tmp, (ops.all fun oj => oj.dst != some d) = true → a.eval (.tmp d) = a0.eval (.tmp d)) →
      (∀ e ∈ o.after, Region.binds md e = true → ∀ oj d, ops[e.on]? = some oj → oj.dst = some d → p e.on (a.eval (.tmp d))) → (O w ∨ M w) → ops[i]? = some o →
      wpOp P ops Q i (fun a' w' => ∃ v, a' = a.put o.dst v ∧ w' = w ∧ p i v) a w) 0 ops.toList)
    (h1 : ∀ (a : Act) (w : World), O w → (∀ e ∈ o1.after, Region.binds md e = true → ∀ oj d, ops[e.on]? = some oj → oj.dst = some d → p e.on (a.eval (.tmp d))) →
      wpOp P ops Q s1 (fun a' w' => a' = a.put o1.dst undef ∧ M w') a w)
    (h2 : ∀ (a : Act) (w : World), M w → (∀ e ∈ o2.after, Region.binds md e = true → ∀ oj d, ops[e.on]? = some oj → oj.dst = some d → p e.on (a.eval (.tmp d))) →
      wpOp P ops Q s2 (fun a' w' => a' = a.put o2.dst undef ∧ F w') a w)
    (hend : ∀ vals w, F w → (∀ i, i < ops.size → i ≠ s1 → i ≠ s2 → p i (vals i)) → Q .normal (layN ops (fun _ => true) vals (List.range ops.size) a0) w) :
    wpAny P md ops Q ops.size (Array.replicate ops.size false) a0 w1.drew := by
  obtain ⟨Inv, hInv⟩ : ∃ Inv : (Nat → Bool) → (Nat → Value) → World → Prop, Inv = fun L vals w => (∀ i, L i = true → i ≠ s1 → i ≠ s2 → p i (vals i)) ∧ (if L s2 = true then F w else if L s1 = true then M w else O w) := ⟨_, rfl⟩
  have aft_of : ∀ {o : Oper} {j : Nat}, Lt.aftB md o j = true → ∃ e ∈ o.after, e.on = j ∧ Region.binds md e = true := by
    intro o j h
    unfold Lt.aftB at h
    rw [Array.any_eq_true'] at h
    obtain ⟨e, he, h2⟩ := h
    simp only [Bool.and_eq_true, beq_iff_eq] at h2
    exact ⟨e, he, h2.1, h2.2⟩
  refine Lt.wpAny_inv Inv a0 w1.drew hap hah hin (fun L h => ?_) (Lt.allIdx_of _ _ fun i o hi => ?_) (fun L vals w hL hI => ?_)
  · rw [hInv]
    refine ⟨fun i hl => (by rw [h i] at hl; cases hl), ?_⟩
    rw [if_neg (by rw [h]; exact Bool.false_ne_true), if_neg (by rw [h]; exact Bool.false_ne_true)]
    exact h0
  · rw [Nat.zero_add]
    intro L vals a w hF hI
    rw [hInv] at hI
    obtain ⟨hv, hw⟩ := hI
    have dep : ∀ e ∈ o.after, Region.binds md e = true → ∀ oj d, ops[e.on]? = some oj → oj.dst = some d → p e.on (a.eval (.tmp d)) := by
      intro e he hb oj d hoj hd
      have hl := hF.ahead e he hb
      rw [hF.slot e.on oj d hoj hd hl]
      refine hv e.on hl (fun h => ?_) (fun h => ?_)
      · rw [h, ho1] at hoj; cases hoj; rw [hd1] at hd; cases hd
      · rw [h, ho2] at hoj; cases hoj; rw [hd2] at hd; cases hd
    have late : ∀ (j : Nat) (oj : Oper), ops[j]? = some oj → Lt.aftB md oj i = true → L j = false := by
      intro j oj hj ha
      cases hl : L j with
      | false => rfl
      | true =>
        obtain ⟨e, he, h1, h2⟩ := aft_of ha
        have := hF.closed j oj hj hl e he h2
        rw [h1, hF.open_] at this
        cases this
    by_cases i1 : i = s1
    · subst i1
      have hoo : o = o1 := by have := hF.it; rw [ho1] at this; exact (Option.some.inj this).symm
      subst hoo
      have hs2 : L s2 = false := late s2 o2 ho2 hwl
      rw [if_neg (by rw [hs2]; exact Bool.false_ne_true), if_neg (by rw [hF.open_]; exact Bool.false_ne_true)] at hw
      refine wpOp_mono ?_ (h1 a w hw dep)
      rintro a' w' ⟨rfl, hM⟩
      refine ⟨undef, rfl, fun L' q1 q2 => ?_⟩
      rw [hInv]
      refine ⟨fun j hl n1 n2 => ?_, ?_⟩
      · have hji : j ≠ i := n1
        simp only [hji, if_false]
        exact hv j (by rw [← q1 j hji]; exact hl) n1 n2
      · rw [if_neg (by rw [q1 s2 (by omega), hs2]; exact Bool.false_ne_true), if_pos q2]
        exact hM
    · by_cases i2 : i = s2
      · subst i2
        have hoo : o = o2 := by have := hF.it; rw [ho2] at this; exact (Option.some.inj this).symm
        subst hoo
        have hl1 : L s1 = true := by
          obtain ⟨e, he, h1, h2⟩ := aft_of hwl
          rw [← h1]; exact hF.ahead e he h2
        rw [if_neg (by rw [hF.open_]; exact Bool.false_ne_true), if_pos hl1] at hw
        refine wpOp_mono ?_ (h2 a w hw dep)
        rintro a' w' ⟨rfl, hM⟩
        refine ⟨undef, rfl, fun L' q1 q2 => ?_⟩
        rw [hInv]
        refine ⟨fun j hl n1 n2 => ?_, ?_⟩
        · have hji : j ≠ i := n2
          simp only [hji, if_false]
          exact hv j (by rw [← q1 j hji]; exact hl) n1 n2
        · rw [if_pos q2]
          exact hM
      · have h3 := allIdx_get ops.toList 0 i o hop (by simpa using hi)
        rw [Nat.zero_add] at h3
        refine wpOp_mono ?_ (h3 i1 i2 a w hF.old dep ?_ hF.it)
        · rintro a' w' ⟨v, rfl, rfl, hp⟩
          refine ⟨v, rfl, fun L' q1 q2 => ?_⟩
          rw [hInv]
          refine ⟨fun j hl n1 n2 => ?_, ?_⟩
          · by_cases hji : j = i
            · subst hji; simpa using hp
            · simp only [hji, if_false]
              exact hv j (by rw [← q1 j hji]; exact hl) n1 n2
          · rw [q1 s2 (fun h => i2 h.symm), q1 s1 (fun h => i1 h.symm)]
            exact hw
        · have hil : i < ops.size := (Array.getElem?_eq_some_iff.1 hF.it).1
          have hl2 : L s2 = false := by
            cases hl : L s2 with
            | false => rfl
            | true =>
              simp only [List.all_eq_true, List.mem_range] at hall
              have h2 := Lt.reachB_spec hF.closed s2 _ (fun k hk => by
                obtain ⟨e, he, h3, h4⟩ := aft_of hk
                rw [← h3]
                exact hF.closed s2 o2 ho2 hl e he h4) i (hall i (by omega))
              rw [hF.open_] at h2; cases h2
          rw [if_neg (by rw [hl2]; exact Bool.false_ne_true)] at hw
          split at hw
          · exact .inr hw
          · exact .inl hw
  · rw [hInv] at hI
    obtain ⟨hv, hw⟩ := hI
    rw [if_pos (hL s2 (by omega))] at hw
    exact hend vals w hw fun i hi n1 n2 => hv i (hL i hi) n1 n2
end

end Go.Proofs.Ytoicncmlmhljmaa
