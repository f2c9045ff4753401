/-
  A REGION THAT DRAWS ITS ORDER, IN WHICH ONE OPERATION, WHICH WAITS FOR ALL AHEAD OF IT, TURNS MEMORY; all behind it wait for it, and only read slots: the rule. Conditions: none.
-/
import Derived.Test.YtejljikikhecnaaGreatNSb
namespace Go.Proofs.YtejljikikhecnaaGreat.Lt
open Go.RowKit

section
variable {P : Program} {ops : Array Oper} {Q : Exit → Act → World → Prop} {md : Region.Mode}
theorem wpAny_after (p : Nat → Value → World → Prop) (q : Nat → Value → Prop) (K : World → Prop) (a0 : Act) (w1 : World) (mid : Nat) (om : Oper)
    (hml : mid < ops.size) (hom : ops[mid]? = some om) (hwait : (List.range mid).all (reachB md ops mid (aftB md om)) = true)
    (hlate : (List.range ops.size).all (fun i => decide (i ≤ mid) || match ops[i]? with | some o => reachB md ops i (aftB md o) mid | none => true) = true)
    (hap : apartB ops = true) (hah : aheadB md ops = true) (hin : (List.range ops.size).all (fun i => match ops[i]? with | some o => (match o.dst with | some d => decide (d < a0.tmps.size) | none => true) | none => true) = true)
    (hst : ∀ i v w w', Below w.heap.size w w' → p i v w → p i v w') (hpq : ∀ i v w, i < mid → p i v w → q i v)
    (hop : AllIdx (fun i o => i < mid → ∀ (a : Act) (w : World), Below w1.heap.size w1 w → (∀ d : Tmp, (ops.all fun oj => oj.dst != some d || oj.after.any fun e => e.on == i && Region.binds md e) = true → a.eval (.tmp d) = a0.eval (.tmp d)) →
      (∀ e ∈ o.after, Region.binds md e = true → ∀ oj d, ops[e.on]? = some oj → oj.dst = some d → p e.on (a.eval (.tmp d)) w) → ops[i]? = some o → wpOp P ops Q i (Step1 w1 p i a o w) a w) 0 ops.toList)
    (hmid : ∀ (a : Act) (w : World), Below w1.heap.size w1 w →
      (∀ e ∈ om.after, Region.binds md e = true → ∀ oj d, ops[e.on]? = some oj → oj.dst = some d → p e.on (a.eval (.tmp d)) w) → ops[mid]? = some om →
      wpOp P ops Q mid (fun a' w' => ∃ v, a' = a.put om.dst v ∧ q mid v ∧ K w') a w)
    (hlat : AllIdx (fun i o => mid < i → ∀ (a : Act) (w : World), K w →
      (∀ e ∈ o.after, Region.binds md e = true → ∀ oj d, ops[e.on]? = some oj → oj.dst = some d → q e.on (a.eval (.tmp d))) → ops[i]? = some o → wpOp P ops Q i (fun a' w' => ∃ v, a' = a.put o.dst v ∧ q i v ∧ w' = w) a w) 0 ops.toList)
    (hend : ∀ vals w, K w → (∀ i, i < ops.size → q i (vals i)) → Q .normal (layN ops (fun _ => true) vals (List.range ops.size) a0) w) :
    wpAny P md ops Q ops.size (Array.replicate ops.size false) a0 w1.drew := by
  obtain ⟨Inv, hInv⟩ : ∃ Inv : (Nat → Bool) → (Nat → Value) → World → Prop, Inv = fun L vals w => if L mid = true then (∀ i, i < mid → L i = true) ∧ K w ∧ (∀ i, i < ops.size → L i = true → q i (vals i)) else (∀ i, mid < i → i < ops.size → L i = false) ∧ Below w1.heap.size w1 w ∧ ∀ i, i < mid → L i = true → p i (vals i) w := ⟨_, rfl⟩
  refine wpAny_inv Inv a0 w1.drew hap hah hin (fun L h => ?_) (allIdx_of _ _ fun i o hi => ?_) (fun L vals w hL hI => ?_)
  · rw [hInv]
    show if L mid = true then _ else _
    rw [if_neg (by rw [h]; exact Bool.false_ne_true)]
    exact ⟨fun i _ _ => h i, (Below.refl _ _).drew, fun i _ hl => by rw [h i] at hl; cases hl⟩
  · rw [Nat.zero_add]
    intro L vals a w hF hI
    rw [hInv] at hI
    replace hI : if L mid = true then (∀ i, i < mid → L i = true) ∧ K w ∧ (∀ i, i < ops.size → L i = true → q i (vals i)) else (∀ i, mid < i → i < ops.size → L i = false) ∧ Below w1.heap.size w1 w ∧ ∀ i, i < mid → L i = true → p i (vals i) w := hI
    have hil : i < ops.size := (Array.getElem?_eq_some_iff.1 hF.it).1
    have key : ∀ (j : Nat) (oj : Oper), oj = o → reachB md ops i (aftB md oj) j = true → L j = true := fun j oj hoj hr => by
      subst hoj
      refine reachB_spec hF.closed i _ (fun k hk => ?_) j hr
      unfold aftB at hk
      rw [Array.any_eq_true'] at hk
      obtain ⟨e, he, h2⟩ := hk
      simp only [Bool.and_eq_true, beq_iff_eq] at h2
      rw [← h2.1]
      exact hF.ahead e he h2.2
    by_cases hlt : i < mid
    · have hnl : ¬ L mid = true := by
        intro h
        rw [if_pos h] at hI
        have := hI.1 i hlt
        rw [hF.open_] at this
        cases this
      rw [if_neg hnl] at hI
      have h1 := allIdx_get ops.toList 0 i o hop hi
      rw [Nat.zero_add] at h1
      refine wpOp_mono ?_ (h1 hlt a w hI.2.1 (fun d hd => hF.later d fun j oj hj hl hjd => ?_) (fun e he hb oj d hoj hd => ?_) hF.it)
      · rintro a' w' ⟨⟨v, rfl, hp⟩, hb, hI'⟩
        refine ⟨v, rfl, fun L' h2 h3 => ?_⟩
        rw [hInv]
        show if L' mid = true then _ else _
        rw [if_neg (by rw [h2 mid (by omega)]; exact hnl)]
        refine ⟨fun k h4 h5 => by rw [h2 k (by omega)]; exact hI.1 k h4 h5, hI', fun j hj hl => ?_⟩
        by_cases hji : j = i
        · subst hji; simpa using hp
        · simp only [hji, if_false]
          exact hst j _ w w' hb (hI.2.2 j hj (by rw [← h2 j hji]; exact hl))
      · obtain ⟨hjl, rfl⟩ := Array.getElem?_eq_some_iff.1 hj
        rw [Array.all_eq_true] at hd
        have h2 := hd j hjl
        rw [hjd] at h2
        simp only [bne_self_eq_false, Bool.false_or, Array.any_eq_true', Bool.and_eq_true, beq_iff_eq] at h2
        obtain ⟨e, he, hei, hb⟩ := h2
        have h3 := hF.closed j _ hj hl e he hb
        rw [hei, hF.open_] at h3
        cases h3
      · have hl := hF.ahead e he hb
        have hel : e.on < ops.size := (Array.getElem?_eq_some_iff.1 hoj).1
        have hne : e.on ≠ mid := fun h => hnl (by rw [← h]; exact hl)
        have hle : ¬ mid < e.on := fun h => by rw [hI.1 e.on h hel] at hl; cases hl
        rw [hF.slot e.on oj d hoj hd hl]
        exact hI.2.2 e.on (by omega) hl
    · by_cases him : i = mid
      · subst him
        have hoo : o = om := by
          have := hF.it
          rw [hom] at this; exact (Option.some.inj this).symm
        subst hoo
        rw [if_neg (by rw [hF.open_]; exact Bool.false_ne_true)] at hI
        have hL : ∀ j, j < i → L j = true := by
          intro j hj
          simp only [List.all_eq_true, List.mem_range] at hwait
          exact key j o rfl (hwait j hj)
        refine wpOp_mono ?_ (hmid a w hI.2.1 (fun e he hb oj d hoj hd => ?_) hom)
        · rintro a' w' ⟨v, rfl, hq, hK⟩
          refine ⟨v, rfl, fun L' h2 h3 => ?_⟩
          rw [hInv]
          show if L' i = true then _ else _
          rw [if_pos h3]
          refine ⟨fun j hj => by rw [h2 j (by omega)]; exact hL j hj, hK, fun j hj hl => ?_⟩
          by_cases hji : j = i
          · subst hji; simpa using hq
          · simp only [hji, if_false]
            by_cases hjl : j < i
            · exact hpq j _ w hjl (hI.2.2 j hjl (hL j hjl))
            · rw [h2 j hji, hI.1 j (by omega) hj] at hl
              cases hl
        · have hl := hF.ahead e he hb
          have hel : e.on < ops.size := (Array.getElem?_eq_some_iff.1 hoj).1
          have hne : e.on ≠ i := fun h => by rw [h, hF.open_] at hl; cases hl
          have hle : ¬ i < e.on := fun h => by rw [hI.1 e.on h hel] at hl; cases hl
          rw [hF.slot e.on oj d hoj hd hl]
          exact hI.2.2 e.on (by omega) hl
      · have hgt : mid < i := by omega
        have hLm : L mid = true := by
          simp only [List.all_eq_true, List.mem_range] at hlate
          have h1 := hlate i hil
          rw [decide_eq_false (by omega), Bool.false_or, hF.it] at h1
          exact key mid o rfl h1
        rw [if_pos hLm] at hI
        have h1 := allIdx_get ops.toList 0 i o hlat hi
        rw [Nat.zero_add] at h1
        refine wpOp_mono ?_ (h1 hgt a w hI.2.1 (fun e he hb oj d hoj hd => ?_) hF.it)
        · rintro a' w' ⟨v, rfl, hq, rfl⟩
          refine ⟨v, rfl, fun L' h2 h3 => ?_⟩
          rw [hInv]
          show if L' mid = true then _ else _
          rw [if_pos (by rw [h2 mid (by omega)]; exact hLm)]
          refine ⟨fun j hj => by rw [h2 j (by omega)]; exact hI.1 j hj, hI.2.1, fun j hj hl => ?_⟩
          by_cases hji : j = i
          · subst hji; simpa using hq
          · simp only [hji, if_false]
            exact hI.2.2 j hj (by rw [← h2 j hji]; exact hl)
        · have hl := hF.ahead e he hb
          have hel : e.on < ops.size := (Array.getElem?_eq_some_iff.1 hoj).1
          rw [hF.slot e.on oj d hoj hd hl]
          exact hI.2.2 e.on hel hl
  · rw [hInv] at hI
    replace hI : if L mid = true then (∀ i, i < mid → L i = true) ∧ K w ∧ (∀ i, i < ops.size → L i = true → q i (vals i)) else (∀ i, mid < i → i < ops.size → L i = false) ∧ Below w1.heap.size w1 w ∧ ∀ i, i < mid → L i = true → p i (vals i) w := hI
    rw [if_pos (hL mid hml)] at hI
    exact hend vals w hI.2.1 fun i hi => hI.2.2 i hi (hL i hi)
end
end Go.Proofs.YtejljikikhecnaaGreat.Lt
