/-
  A REGION THAT DRAWS ITS ORDER, IN WHICH TWO OPERATIONS TURN MEMORY, ONE BEHIND THE OTHER, AND TWO STORES FOLLOW (x.f, x.g = append(x.f, a), append(x.g, b)): the rule. Conditions: none.
-/
import Derived.Test.YtejljikikhecnaaGreatNSb
namespace Go.Proofs.YtejljikikhecnaaGreat.Lt
open Go.RowKit

section
variable {P : Program} {ops : Array Oper} {Q : Exit → Act → World → Prop} {md : Region.Mode}
theorem wpAny_four (pure : Nat → Bool) (p : Nat → Value → World → Prop) (St : World → World → Prop) (a0 : Act) (w1 : World) (s1 s2 s3 s4 : Nat) (o1 o2 o3 o4 : Oper) (J0 : World → Prop) (J1 : Value → World → Prop) (J2 : Value → Value → World → Prop) (J3 J4 : Value → World → Prop)
    (hsz : ops.size = s4 + 1) (h12 : s1 < s2) (h23 : s2 < s3) (h34 : s3 < s4) (ho1 : ops[s1]? = some o1) (ho2 : ops[s2]? = some o2) (ho3 : ops[s3]? = some o3) (ho4 : ops[s4]? = some o4)
    (hpure : pure s1 = false ∧ pure s2 = false ∧ pure s3 = false ∧ pure s4 = false)
    (hw2 : aftB md o2 s1 = true) (hw3 : (List.range s4).all (fun i => pure i || i == s3 || reachB md ops s4 (aftB md o3) i) = true) (hw4 : (List.range s4).all (reachB md ops s4 (aftB md o4)) = true)
    (hap : apartB ops = true) (hah : aheadB md ops = true) (hin : (List.range ops.size).all (fun i => match ops[i]? with | some o => (match o.dst with | some d => decide (d < a0.tmps.size) | none => true) | none => true) = true)
    (hSt : ∀ w w', Below w.heap.size w w' → St w w') (hst : ∀ i v w w', St w w' → p i v w → p i v w') (hpw : ∀ i v w w', pure i = true → p i v w → p i v w')
    (hJ0 : ∀ w w', Below w.heap.size w w' → J0 w → J0 w') (hJ1 : ∀ v w w', Below w.heap.size w w' → J1 v w → J1 v w') (hJ2 : ∀ v u w w', Below w.heap.size w w' → J2 v u w → J2 v u w')
    (h0 : J0 w1.drew)
    (hop : AllIdx (fun i o => i ≠ s1 → i ≠ s2 → i ≠ s3 → i ≠ s4 → pure i = false → ∀ (a : Act) (w : World), (J0 w ∨ (∃ v, J1 v w) ∨ ∃ v u, J2 v u w) → (∀ d : Tmp, (ops.all fun o => o.dst != some d) = true → a.eval (.tmp d) = a0.eval (.tmp d)) →
      (∀ e ∈ o.after, Region.binds md e = true → ∀ oj d, ops[e.on]? = some oj → oj.dst = some d → p e.on (a.eval (.tmp d)) w) → ops[i]? = some o → wpOp P ops Q i (fun a' w' => ∃ v, a' = a.put o.dst v ∧ p i v w' ∧ Below w.heap.size w w') a w) 0 ops.toList)
    (hpu : AllIdx (fun i o => pure i = true → ∀ (a : Act) (w : World), (∀ d : Tmp, (ops.all fun o => o.dst != some d) = true → a.eval (.tmp d) = a0.eval (.tmp d)) →
      (∀ e ∈ o.after, Region.binds md e = true → pure e.on = true → ∀ oj d, ops[e.on]? = some oj → oj.dst = some d → p e.on (a.eval (.tmp d)) w) → ops[i]? = some o → wpOp P ops Q i (fun a' w' => ∃ v, a' = a.put o.dst v ∧ p i v w ∧ w' = w) a w) 0 ops.toList)
    (h1 : ∀ (a : Act) (w : World), J0 w → (∀ e ∈ o1.after, Region.binds md e = true → ∀ oj d, ops[e.on]? = some oj → oj.dst = some d → p e.on (a.eval (.tmp d)) w) →
      wpOp P ops Q s1 (fun a' w' => ∃ v, a' = a.put o1.dst v ∧ St w w' ∧ p s1 v w' ∧ J1 v w') a w)
    (h2 : ∀ (v1 : Value) (a : Act) (w : World), J1 v1 w → (∀ e ∈ o2.after, Region.binds md e = true → ∀ oj d, ops[e.on]? = some oj → oj.dst = some d → p e.on (a.eval (.tmp d)) w) →
      wpOp P ops Q s2 (fun a' w' => ∃ v, a' = a.put o2.dst v ∧ St w w' ∧ p s2 v w' ∧ J2 v1 v w') a w)
    (h3 : ∀ (vals : Nat → Value) (a : Act) (w : World), J2 (vals s1) (vals s2) w → (∀ (j : Nat) (oj : Oper) (d : Tmp), ops[j]? = some oj → j < s3 → pure j = false → oj.dst = some d → a.eval (.tmp d) = vals j) →
      (∀ e ∈ o3.after, Region.binds md e = true → pure e.on = true → ∀ oj d, ops[e.on]? = some oj → oj.dst = some d → p e.on (a.eval (.tmp d)) w) →
      wpOp P ops Q s3 (fun a' w' => ∃ v, a' = a.put o3.dst v ∧ J3 (vals s2) w') a w)
    (h4 : ∀ (vals : Nat → Value) (a : Act) (w : World), J3 (vals s2) w → (∀ (j : Nat) (oj : Oper) (d : Tmp), ops[j]? = some oj → j < s4 → oj.dst = some d → a.eval (.tmp d) = vals j) →
      (∀ j, j < s4 → pure j = true → p j (vals j) w) → wpOp P ops Q s4 (fun a' w' => ∃ v, a' = a.put o4.dst v ∧ J4 (vals s2) w') a w)
    (hend : ∀ vals w, J4 (vals s2) w → Q .normal (layN ops (fun _ => true) vals (List.range ops.size) a0) w) :
    wpAny P md ops Q ops.size (Array.replicate ops.size false) a0 w1.drew := by
  obtain ⟨pu1, pu2, pu3, pu4⟩ := hpure
  obtain ⟨Inv, hInv⟩ : ∃ Inv : (Nat → Bool) → (Nat → Value) → World → Prop, Inv = fun L vals w => (∀ i, L i = true → pure i = true → p i (vals i) w) ∧
    (if L s4 = true then J4 (vals s2) w else if L s3 = true then (∀ i, i < s4 → i ≠ s3 → pure i = false → L i = true) ∧ J3 (vals s2) w else
      (∀ i, L i = true → p i (vals i) w) ∧ (if L s2 = true then J2 (vals s1) (vals s2) w else if L s1 = true then J1 (vals s1) w else J0 w)) := ⟨_, rfl⟩
  have aft_of : ∀ {o : Oper} {j : Nat}, aftB md o j = true → ∃ e ∈ o.after, e.on = j ∧ Region.binds md e = true := by
    intro o j h
    unfold aftB at h
    rw [Array.any_eq_true'] at h
    obtain ⟨e, he, h2⟩ := h
    simp only [Bool.and_eq_true, beq_iff_eq] at h2
    exact ⟨e, he, h2.1, h2.2⟩
  have ff : ¬ (false = true) := Bool.false_ne_true
  refine wpAny_inv Inv a0 w1.drew hap hah hin (fun L h => ?_) (allIdx_of _ _ fun i o hi => ?_) (fun L vals w hL hI => ?_)
  · rw [hInv]
    refine ⟨fun i hl => (by rw [h i] at hl; cases hl), ?_⟩
    rw [if_neg (by rw [h]; exact ff), if_neg (by rw [h]; exact ff)]
    refine ⟨fun i hl => (by rw [h i] at hl; cases hl), ?_⟩
    rw [if_neg (by rw [h]; exact ff), if_neg (by rw [h]; exact ff)]
    exact h0
  · rw [Nat.zero_add]
    intro L vals a w hF hI
    rw [hInv] at hI
    obtain ⟨hpure_, hw⟩ := hI
    have hil : i < ops.size := (Array.getElem?_eq_some_iff.1 hF.it).1
    simp only [List.all_eq_true, List.mem_range, Bool.or_eq_true, beq_iff_eq] at hw3
    simp only [List.all_eq_true, List.mem_range] at hw4
    have same : ∀ {k : Nat} {ok : Oper}, ops[k]? = some ok → i = k → o = ok := fun hk e => by subst e; exact Option.some.inj (hF.it.symm.trans hk)
    have up : ∀ {k : Nat} {ok : Oper} (n : Nat), ops[k]? = some ok → L k = true → reachB md ops n (aftB md ok) i = true → False := fun {k ok} n hk hl hr => by
      have := reachB_spec hF.closed n _ (fun j hj => by
        obtain ⟨e, he, h3, h4⟩ := aft_of hj
        rw [← h3]
        exact hF.closed k ok hk hl e he h4) i hr
      rw [hF.open_] at this; cases this
    have down : ∀ (n j : Nat), reachB md ops n (aftB md o) j = true → L j = true := fun n j hr => reachB_spec hF.closed n _ (fun j hj => by
        obtain ⟨e, he, h3, h4⟩ := aft_of hj
        rw [← h3]
        exact hF.ahead e he h4) j hr
    have pstep : ∀ (v : Value) (w' : World) (L' : Nat → Bool), (∀ j, j ≠ i → L' j = L j) → pure i = false → ∀ j, L' j = true → pure j = true → p j ((fun j => if j = i then v else vals j) j) w' := by
      intro v w' L' q1 hpi j hl hpj
      have hji : j ≠ i := fun e => by rw [e, hpi] at hpj; cases hpj
      simp only [hji, if_false]
      exact hpw j _ w w' hpj (hpure_ j (by rw [← q1 j hji]; exact hl) hpj)
    by_cases i4 : i = s4
    · have hoo := same ho4 i4
      subst hoo
      subst i4
      have hall : ∀ j, j < i → L j = true := fun j hj => down i j (hw4 j hj)
      rw [if_neg (by rw [hF.open_]; exact ff), if_pos (hall s3 h34)] at hw
      refine wpOp_mono ?_ (h4 vals a w hw.2 (fun j oj d hj hlt hd => hF.slot j oj d hj hd (hall j hlt)) (fun j hj hpj => hpure_ j (hall j hj) hpj))
      rintro a' w' ⟨v, rfl, hJ⟩
      refine ⟨v, rfl, fun L' q1 q2 => ?_⟩
      rw [hInv]
      refine ⟨pstep v w' L' q1 pu4, ?_⟩
      rw [if_pos q2]
      have : s2 ≠ i := by omega
      simpa only [this, if_false] using hJ
    · have hlt : i < s4 := by omega
      have l4 : L s4 = false := by
        cases hl : L s4 with
        | false => rfl
        | true => exact (up s4 ho4 hl (hw4 i hlt)).elim
      rw [if_neg (by rw [l4]; exact ff)] at hw
      by_cases hpi : pure i = true
      · have n1 : i ≠ s1 := fun e => by rw [e, pu1] at hpi; cases hpi
        have n2 : i ≠ s2 := fun e => by rw [e, pu2] at hpi; cases hpi
        have n3 : i ≠ s3 := fun e => by rw [e, pu3] at hpi; cases hpi
        have hx := allIdx_get ops.toList 0 i o hpu hi
        rw [Nat.zero_add] at hx
        refine wpOp_mono ?_ (hx hpi a w hF.old (fun e he hb hpe oj d hoj hd => by
          rw [hF.slot e.on oj d hoj hd (hF.ahead e he hb)]
          exact hpure_ e.on (hF.ahead e he hb) hpe) hF.it)
        rintro a' w' ⟨v, rfl, hp, rfl⟩
        refine ⟨v, rfl, fun L' q1 q2 => ?_⟩
        rw [hInv]
        have e1 : s1 ≠ i := fun e => n1 e.symm
        have e2 : s2 ≠ i := fun e => n2 e.symm
        have e3 : s3 ≠ i := fun e => n3 e.symm
        have e4 : s4 ≠ i := fun e => i4 e.symm
        refine ⟨fun j hl hpj => ?_, ?_⟩
        · by_cases hji : j = i
          · subst hji; simpa using hp
          · simp only [hji, if_false]
            exact hpure_ j (by rw [← q1 j hji]; exact hl) hpj
        · rw [q1 s4 e4, q1 s3 e3, q1 s2 e2, q1 s1 e1, if_neg (by rw [l4]; exact ff)]
          simp only [e1, e2, if_false]
          split
          · rename_i h3'
            rw [if_pos h3'] at hw
            refine ⟨fun j hj hn hpj => ?_, hw.2⟩
            have hji : j ≠ i := fun e => by rw [e, hpi] at hpj; cases hpj
            rw [q1 j hji]
            exact hw.1 j hj hn hpj
          · rename_i h3'
            rw [if_neg h3'] at hw
            refine ⟨fun j hl => ?_, hw.2⟩
            by_cases hji : j = i
            · subst hji; simpa using hp
            · simp only [hji, if_false]
              exact hw.1 j (by rw [← q1 j hji]; exact hl)
      · have hpf : pure i = false := by simpa using hpi
        by_cases i3 : i = s3
        · have hoo := same ho3 i3
          subst hoo
          subst i3
          have hall : ∀ j, j < s4 → j ≠ i → pure j = false → L j = true := fun j hj hn hpj => by
            rcases hw3 j hj with (h | h) | h
            · rw [hpj] at h; cases h
            · exact absurd h hn
            · exact down s4 j h
          have l2 : L s2 = true := hall s2 (by omega) (by omega) pu2
          rw [if_neg (by rw [hF.open_]; exact ff), if_pos l2] at hw
          refine wpOp_mono ?_ (h3 vals a w hw.2 (fun j oj d hj hlt' hpj hd => hF.slot j oj d hj hd (hall j (by omega) (by omega) hpj)) (fun e he hb hpe oj d hoj hd => by
            rw [hF.slot e.on oj d hoj hd (hF.ahead e he hb)]
            exact hpure_ e.on (hF.ahead e he hb) hpe))
          rintro a' w' ⟨v, rfl, hJ⟩
          refine ⟨v, rfl, fun L' q1 q2 => ?_⟩
          rw [hInv]
          have e2 : s2 ≠ i := by omega
          refine ⟨pstep v w' L' q1 pu3, ?_⟩
          rw [if_neg (by rw [q1 s4 (by omega), l4]; exact ff), if_pos q2]
          refine ⟨fun j hj hn hpj => by rw [q1 j hn]; exact hall j hj hn hpj, ?_⟩
          simpa only [e2, if_false] using hJ
        · have l3 : L s3 = false := by
            cases hl : L s3 with
            | false => rfl
            | true =>
              rcases hw3 i hlt with (h | h) | h
              · rw [hpf] at h; cases h
              · exact absurd h i3
              · exact (up s4 ho3 hl h).elim
          rw [if_neg (by rw [l3]; exact ff)] at hw
          obtain ⟨hp, hJ⟩ := hw
          have dep : ∀ e ∈ o.after, Region.binds md e = true → ∀ oj d, ops[e.on]? = some oj → oj.dst = some d → p e.on (a.eval (.tmp d)) w := fun e he hb oj d hoj hd => by
            rw [hF.slot e.on oj d hoj hd (hF.ahead e he hb)]
            exact hp e.on (hF.ahead e he hb)
          have keep : ∀ (v : Value) (w' : World), St w w' → p i v w' → ∀ L' : Nat → Bool, (∀ j, j ≠ i → L' j = L j) → ∀ j, L' j = true → p j ((fun j => if j = i then v else vals j) j) w' := by
            intro v w' hs hpv L' q1 j hl
            by_cases hji : j = i
            · subst hji; simpa using hpv
            · simp only [hji, if_false]
              exact hst j _ w w' hs (hp j (by rw [← q1 j hji]; exact hl))
          have e3 : s3 ≠ i := fun e => i3 e.symm
          have e4 : s4 ≠ i := fun e => i4 e.symm
          by_cases i2 : i = s2
          · have hoo := same ho2 i2
            subst hoo
            subst i2
            have l1 : L s1 = true := by
              obtain ⟨e, he, h3', h4'⟩ := aft_of hw2
              rw [← h3']; exact hF.ahead e he h4'
            rw [if_neg (by rw [hF.open_]; exact ff), if_pos l1] at hJ
            refine wpOp_mono ?_ (h2 (vals s1) a w hJ dep)
            rintro a' w' ⟨v, rfl, hs, hpv, hJ'⟩
            refine ⟨v, rfl, fun L' q1 q2 => ?_⟩
            rw [hInv]
            refine ⟨pstep v w' L' q1 pu2, ?_⟩
            rw [if_neg (by rw [q1 s4 e4, l4]; exact ff), if_neg (by rw [q1 s3 e3, l3]; exact ff), if_pos q2]
            have e1 : s1 ≠ i := by omega
            refine ⟨keep v w' hs hpv L' q1, ?_⟩
            simpa only [e1, if_false, if_true] using hJ'
          · by_cases i1 : i = s1
            · have hoo := same ho1 i1
              subst hoo
              subst i1
              have l2 : L s2 = false := by
                cases hl : L s2 with
                | false => rfl
                | true =>
                  obtain ⟨e, he, h3', h4'⟩ := aft_of hw2
                  have := hF.closed s2 o2 ho2 hl e he h4'
                  rw [h3', hF.open_] at this
                  cases this
              rw [if_neg (by rw [l2]; exact ff), if_neg (by rw [hF.open_]; exact ff)] at hJ
              refine wpOp_mono ?_ (h1 a w hJ dep)
              rintro a' w' ⟨v, rfl, hs, hpv, hJ'⟩
              refine ⟨v, rfl, fun L' q1 q2 => ?_⟩
              rw [hInv]
              refine ⟨pstep v w' L' q1 pu1, ?_⟩
              have e2 : s2 ≠ i := by omega
              rw [if_neg (by rw [q1 s4 e4, l4]; exact ff), if_neg (by rw [q1 s3 e3, l3]; exact ff), if_neg (by rw [q1 s2 e2, l2]; exact ff), if_pos q2]
              refine ⟨keep v w' hs hpv L' q1, ?_⟩
              simpa only [if_true] using hJ'
            · have hx := allIdx_get ops.toList 0 i o hop hi
              rw [Nat.zero_add] at hx
              have e1 : s1 ≠ i := fun e => i1 e.symm
              have e2 : s2 ≠ i := fun e => i2 e.symm
              refine wpOp_mono ?_ (hx i1 i2 i3 i4 hpf a w (by
                split at hJ
                · exact .inr (.inr ⟨_, _, hJ⟩)
                · split at hJ
                  · exact .inr (.inl ⟨_, hJ⟩)
                  · exact .inl hJ) hF.old dep hF.it)
              rintro a' w' ⟨v, rfl, hpv, hb⟩
              refine ⟨v, rfl, fun L' q1 q2 => ?_⟩
              rw [hInv]
              refine ⟨pstep v w' L' q1 hpf, ?_⟩
              rw [q1 s4 e4, q1 s3 e3, q1 s2 e2, q1 s1 e1, if_neg (by rw [l4]; exact ff), if_neg (by rw [l3]; exact ff)]
              refine ⟨keep v w' (hSt w w' hb) hpv L' q1, ?_⟩
              simp only [e1, e2, if_false]
              split
              · rename_i h2'
                rw [if_pos h2'] at hJ
                exact hJ2 _ _ w w' hb hJ
              · rename_i h2'
                rw [if_neg h2'] at hJ
                split
                · rename_i h1'
                  rw [if_pos h1'] at hJ
                  exact hJ1 _ w w' hb hJ
                · rename_i h1'
                  rw [if_neg h1'] at hJ
                  exact hJ0 w w' hb hJ
  · rw [hInv] at hI
    obtain ⟨_, hw⟩ := hI
    rw [if_pos (hL s4 (by omega))] at hw
    exact hend vals w hw
/-- The last operation: a store that yields nothing. -/
theorem l_skip {i : Nat} {o : Oper} {a : Act} {w : World} {K : Act → World → Prop} (hi : ops[i]? = some o) (hw : Region.wanted o (yielded ops a.tmps) = true) (w' : World) (hr : (execOp a.eval o).run P w = .ok .skip w')
    (hK : K (a.put o.dst undef) w') : wpOp P ops Q i K a w := by
  unfold wpOp
  simp only [hi, hw, if_true]
  left
  unfold Oper.wp
  rw [hr]
  exact hK
end

end Go.Proofs.YtejljikikhecnaaGreat.Lt
