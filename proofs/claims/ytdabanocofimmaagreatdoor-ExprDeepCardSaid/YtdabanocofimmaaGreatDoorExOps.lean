/-
  Operations of regions that draw their order: the rules, in which one turns memory, or the last alone; loads, stores, calls. Conditions: none.
-/
import Derived.Test.YtdabanocofimmaaGreatDoorJTkName
namespace Go.Proofs.YtdabanocofimmaaGreatDoor
open Go.RowKit

theorem allIdx_of {R : Nat → Oper → Prop} : ∀ (l : List Oper) (k : Nat), (∀ i o, l[i]? = some o → R (k + i) o) → AllIdx R k l
  | [], _, _ => trivial
  | x :: xs, k, h => ⟨h 0 x rfl, allIdx_of xs (k + 1) fun i o hi => by
      have := h (i + 1) o (by simpa using hi)
      rwa [show k + (i + 1) = k + 1 + i from by omega] at this⟩
section
variable {P : Program}
theorem run_nilCheck_op {o : Oper} {ρ : Operand → Value} {w : World} {x : Operand} {ad : Addr} (ho : o.op = .nilCheck x) (hx : ρ x = .pointer (some ad)) : (execOp ρ o).run P w = .ok (.value (.pointer (some ad))) w := by
  unfold execOp
  simp [ho, hx]
variable {ops : Array Oper} {Q : Exit → Act → World → Prop} {md : Region.Mode}

/-- What an operation waits for. -/
def aftB (md : Region.Mode) (o : Oper) (i : Nat) : Bool := o.after.any fun e => e.on == i && Region.binds md e
/-- .. and what these wait for. -/
def reachB (md : Region.Mode) (ops : Array Oper) : Nat → (Nat → Bool) → Nat → Bool
  | 0, S => S
  | k + 1, S => reachB md ops k (if S k = true then fun i => S i || (match ops[k]? with | some o => aftB md o i | none => false) else S)
theorem reachB_spec {L : Nat → Bool} (hc : ∀ (j : Nat) (oj : Oper), ops[j]? = some oj → L j = true → ∀ e ∈ oj.after, Region.binds md e = true → L e.on = true) :
    ∀ (k : Nat) (S : Nat → Bool), (∀ i, S i = true → L i = true) → ∀ i, reachB md ops k S i = true → L i = true
  | 0, S, h, i, hi => h i hi
  | k + 1, S, h, i, hi => by
    refine reachB_spec hc k _ ?_ i hi
    intro j hj
    by_cases hk : S k = true
    · simp only [hk, if_true, Bool.or_eq_true] at hj
      rcases hj with hj | hj
      · exact h j hj
      · cases ho : ops[k]? with
        | none => rw [ho] at hj; cases hj
        | some o =>
          rw [ho] at hj
          unfold aftB at hj
          rw [Array.any_eq_true'] at hj
          obtain ⟨e, he, h2⟩ := hj
          simp only [Bool.and_eq_true, beq_iff_eq] at h2
          rw [← h2.1]
          exact hc k o ho (h k hk) e he h2.2
    · simp only [hk, Bool.false_eq_true, if_false] at hj
      exact h j hj

/-- THE RULE where the last operation waits for all others, and nothing that was there turns ahead of it. -/
theorem wpAny_last (p : Nat → Value → World → Prop) (a0 : Act) (w1 : World) (last : Nat) (ol : Oper) (J : (Nat → Value) → World → Prop)
    (hsz : ops.size = last + 1) (hol : ops[last]? = some ol) (hwait : (List.range last).all (reachB md ops last (aftB md ol)) = true)
    (hap : apartB ops = true) (hah : aheadB md ops = true) (hin : (List.range ops.size).all (fun i => match ops[i]? with | some o => (match o.dst with | some d => decide (d < a0.tmps.size) | none => true) | none => true) = true)
    (hst : ∀ i v w w', Below w.heap.size w w' → p i v w → p i v w')
    (hop : AllIdx (fun i o => i < last → ∀ (a : Act) (w : World), Below w1.heap.size w1 w → (∀ d : Tmp, (ops.all fun o => o.dst != some d) = true → a.eval (.tmp d) = a0.eval (.tmp d)) →
      (∀ e ∈ o.after, Region.binds md e = true → ∀ oj d, ops[e.on]? = some oj → oj.dst = some d → p e.on (a.eval (.tmp d)) w) → ops[i]? = some o → wpOp P ops Q i (Step1 w1 p i a o w) a w) 0 ops.toList)
    (hlast : ∀ (vals : Nat → Value) (a : Act) (w : World), Below w1.heap.size w1 w → (∀ d : Tmp, (ops.all fun o => o.dst != some d) = true → a.eval (.tmp d) = a0.eval (.tmp d)) →
      (∀ (j : Nat) (oj : Oper) (d : Tmp), ops[j]? = some oj → j < last → oj.dst = some d → a.eval (.tmp d) = vals j) → (∀ j, j < last → p j (vals j) w) →
      wpOp P ops Q last (fun a' w' => ∃ v, a' = a.put ol.dst v ∧ ∀ vals' : Nat → Value, (∀ j, j < last → vals' j = vals j) → vals' last = v → J vals' w') a w)
    (hend : ∀ vals w, J vals w → Q .normal (layN ops (fun _ => true) vals (List.range ops.size) a0) w) :
    wpAny P md ops Q ops.size (Array.replicate ops.size false) a0 w1.drew := by
  refine wpAny_inv (fun L vals w => if L last = true then (∀ i, i < last → L i = true) ∧ J vals w else Below w1.heap.size w1 w ∧ ∀ i, i < last → L i = true → p i (vals i) w) a0 w1.drew hap hah hin ?_ ?_ ?_
  · intro L hL
    rw [if_neg (by rw [hL]; exact Bool.false_ne_true)]
    exact ⟨(Below.refl _ _).drew, fun i _ h => by rw [hL] at h; cases h⟩
  · have hall : ∀ (i : Nat) (o : Oper), ops[i]? = some o → ∀ (L : Nat → Bool) (vals : Nat → Value) (a : Act) (w : World), Finds md ops a0 i o L vals a →
        (if L last = true then (∀ i, i < last → L i = true) ∧ J vals w else Below w1.heap.size w1 w ∧ ∀ i, i < last → L i = true → p i (vals i) w) →
        wpOp P ops Q i (Leaves (fun L vals w => if L last = true then (∀ i, i < last → L i = true) ∧ J vals w else Below w1.heap.size w1 w ∧ ∀ i, i < last → L i = true → p i (vals i) w) i o L vals a) a w := by
      intro i o hi L vals a w hF hI
      have hil : i < ops.size := (Array.getElem?_eq_some_iff.1 hi).1
      by_cases hlt : i < last
      · have hnl : ¬ L last = true := by
          intro h
          rw [if_pos h] at hI
          have := hI.1 i hlt
          rw [hF.open_] at this
          cases this
        rw [if_neg hnl] at hI
        have h1 := allIdx_get ops.toList 0 i o hop (by simpa using hi)
        rw [Nat.zero_add] at h1
        refine wpOp_mono ?_ (h1 hlt a w hI.1 hF.old (fun e he hb oj d hoj hd => ?_) hi)
        · rintro a' w' ⟨⟨v, rfl, hp⟩, h2, h3⟩
          refine ⟨v, rfl, fun L' hL' hi' => ?_⟩
          have : ¬ L' last = true := by rw [hL' last (by omega)]; exact hnl
          show if L' last = true then _ else _
          rw [if_neg this]
          refine ⟨h3, fun j hj hlj => ?_⟩
          by_cases hji : j = i
          · subst hji; simpa using hp
          · simp only [hji, if_false]
            exact hst j _ w w' h2 (hI.2 j hj (by rw [← hL' j hji]; exact hlj))
        · have hl := hF.ahead e he hb
          have hel : e.on < ops.size := (Array.getElem?_eq_some_iff.1 hoj).1
          have hne : e.on ≠ last := fun h => hnl (by rw [← h]; exact hl)
          rw [hF.slot e.on oj d hoj hd hl]
          exact hI.2 e.on (by omega) hl
      · have hie : i = last := by omega
        subst hie
        have hoo : o = ol := by rw [hi] at hol; exact Option.some.inj hol
        subst hoo
        rw [if_neg (by rw [hF.open_]; exact Bool.false_ne_true)] at hI
        have hL : ∀ j, j < i → L j = true := by
          intro j hj
          simp only [List.all_eq_true, List.mem_range] at hwait
          refine reachB_spec hF.closed i _ (fun k hk => ?_) j (hwait j hj)
          unfold aftB at hk
          rw [Array.any_eq_true'] at hk
          obtain ⟨e, he, h2⟩ := hk
          simp only [Bool.and_eq_true, beq_iff_eq] at h2
          rw [← h2.1]
          exact hF.ahead e he h2.2
        refine wpOp_mono ?_ (hlast vals a w hI.1 hF.old (fun j oj d hoj hj hd => hF.slot j oj d hoj hd (hL j hj)) (fun j hj => hI.2 j hj (hL j hj)))
        rintro a' w' ⟨v, rfl, hJ⟩
        refine ⟨v, rfl, fun L' hL' hi' => ?_⟩
        show if L' i = true then _ else _
        rw [if_pos hi']
        refine ⟨fun j hj => by rw [hL' j (by omega)]; exact hL j hj, hJ _ (fun j hj => ?_) (by simp)⟩
        have : j ≠ i := by omega
        simp [this]
    have go : ∀ (l : List Oper) (k : Nat), (∀ i o, l[i]? = some o → ops[k + i]? = some o) → AllIdx (fun i o => ∀ (L : Nat → Bool) (vals : Nat → Value) (a : Act) (w : World), Finds md ops a0 i o L vals a →
        (if L last = true then (∀ i, i < last → L i = true) ∧ J vals w else Below w1.heap.size w1 w ∧ ∀ i, i < last → L i = true → p i (vals i) w) →
        wpOp P ops Q i (Leaves (fun L vals w => if L last = true then (∀ i, i < last → L i = true) ∧ J vals w else Below w1.heap.size w1 w ∧ ∀ i, i < last → L i = true → p i (vals i) w) i o L vals a) a w) k l := by
      intro l
      induction l with
      | nil => intro k _; trivial
      | cons o l ih =>
        intro k h
        refine ⟨hall k o (by simpa using h 0 o rfl), ih (k + 1) fun i o' ho' => ?_⟩
        have := h (i + 1) o' (by simpa using ho')
        rwa [show k + 1 + i = k + (i + 1) from by omega]
    exact go ops.toList 0 (fun i o h => by simpa using h)
  · intro L vals w hL hI
    rw [if_pos (hL last (by omega))] at hI
    exact hend vals w hI.2

/-- The last operation: a store that yields nothing. -/
theorem l_skip {i : Nat} {o : Oper} {a : Act} {w : World} {K : Act → World → Prop} (hi : ops[i]? = some o) (hw : Region.wanted o (yielded ops a.tmps) = true) (w' : World) (hr : (execOp a.eval o).run P w = .ok .skip w')
    (hK : K (a.put o.dst undef) w') : wpOp P ops Q i K a w := by
  unfold wpOp
  simp only [hi, hw, if_true]
  left
  unfold Oper.wp
  rw [hr]
  exact hK
end
section
variable {P : Program}
theorem run_buildSlice_op {o : Oper} {ρ : Operand → Value} {w w' : World} {t : TypeId} {len : Nat} {xs : Array (Nat × Operand)} {vs : Array (Nat × Value)} {v : Value} (ho : o.op = .buildSlice t len xs) (hx : xs.map (fun (i, x) => (i, ρ x)) = vs) (hr : (Instr.buildSlice t len vs).run P w = .ok v w') : (execOp ρ o).run P w = .ok (.value v) w' := by
  unfold execOp
  simp only [ho]
  rw [show (xs.map fun x => match x with | (i, x) => (i, ρ x)) = vs from hx]
  simp [hr]
theorem run_loadsl_op {o : Oper} {ρ : Operand → Value} {w : World} {ty e : TypeId} {x : Operand} {ad : Addr} {A : Option Addr} {n c : Nat} (ho : o.op = .load ty x) (hx : ρ x = .pointer (some ad)) (hu : P.underlying ty = some (.slice e)) (hc : w.cell? ad = some (.slice A n c)) :
    (execOp ρ o).run P w = .ok (.value (.slice A n c)) w := by
  unfold execOp
  have ha : (isAgg ty).run P w = .ok false w := by unfold isAgg; rw [Sem.run_bind, run_underlying hu w]; simp
  simp [ho, hx, Instr.loadAt, Instr.sureAddr, loadVar, ha, hc, go_sem]
theorem run_store1_op {o : Oper} {ρ : Operand → Value} {w : World} {ty : TypeId} {x y : Operand} {ad : Addr} {u v : Value} (ho : o.op = .store ty x y) (hx : ρ x = .pointer (some ad)) (hy : ρ y = v) (hv : v.oneCell' = true) (hcs : v.cells = #[v]) (hi : (P.info? ty).map (·.size) = some 1) (hc : w.cell? ad = some u) (hf : w.frozen? ad = false) :
    (execOp ρ o).run P w = .ok .skip (w.setCell ad v) := by
  cases hq : P.info? ty with
  | none => simp [hq] at hi
  | some i =>
    have hs : i.size = 1 := by simpa [hq] using hi
    have h2 : (storeVar ty ad v).run P w = .ok () (w.setCell ad v) := by
      simp [storeVar, hcs, sizeOf, typeInfo, hq, hs, storeCells, run_store P _ _ v _ hv, Addr.add_zero', hc, hf, Result.andThen]
    unfold execOp
    simp only [ho, hx, hy, Instr.storeAt, Instr.sureAddr, Sem.run_bind, Sem.run_pure, Result.andThen_ok, h2]
end
end Go.Proofs.YtdabanocofimmaaGreatDoor
namespace Go.Proofs.YtdabanocofimmaaGreatDoor.Lt
open Go.RowKit

section
variable {P : Program} {ops : Array Oper} {Q : Exit → Act → World → Prop} {md : Region.Mode}
theorem wpAny_chg (pure : Nat → Bool) (p : Nat → Value → World → Prop) (a0 : Act) (w1 : World) (mid last : Nat) (om ol : Oper) (J : Value → World → Prop) (K : World → Prop)
    (hsz : ops.size = last + 1) (hml : mid < last) (hom : ops[mid]? = some om) (hol : ops[last]? = some ol) (hpm : pure mid = false)
    (hwm : (List.range last).all (fun i => pure i || i == mid || reachB md ops mid (aftB md om) i) = true) (hwl : (List.range last).all (reachB md ops last (aftB md ol)) = true)
    (hap : apartB ops = true) (hah : aheadB md ops = true) (hin : (List.range ops.size).all (fun i => match ops[i]? with | some o => (match o.dst with | some d => decide (d < a0.tmps.size) | none => true) | none => true) = true)
    (hst : ∀ i v w w', Below w.heap.size w w' → p i v w → p i v w') (hpw : ∀ i v w w', pure i = true → p i v w → p i v w')
    (hop : AllIdx (fun i o => i < last → i ≠ mid → pure i = false → ∀ (a : Act) (w : World), Below w1.heap.size w1 w → (∀ d : Tmp, (ops.all fun o => o.dst != some d) = true → a.eval (.tmp d) = a0.eval (.tmp d)) →
      (∀ e ∈ o.after, Region.binds md e = true → ∀ oj d, ops[e.on]? = some oj → oj.dst = some d → p e.on (a.eval (.tmp d)) w) → ops[i]? = some o → wpOp P ops Q i (Step1 w1 p i a o w) a w) 0 ops.toList)
    (hpu : AllIdx (fun i o => i < last → pure i = true → ∀ (a : Act) (w : World), (Below w1.heap.size w1 w ∨ ∃ v, J v w) → (∀ d : Tmp, (ops.all fun o => o.dst != some d) = true → a.eval (.tmp d) = a0.eval (.tmp d)) →
      (∀ e ∈ o.after, Region.binds md e = true → pure e.on = true → ∀ oj d, ops[e.on]? = some oj → oj.dst = some d → p e.on (a.eval (.tmp d)) w) → ops[i]? = some o → wpOp P ops Q i (fun a' w' => ∃ v, a' = a.put o.dst v ∧ p i v w ∧ w' = w) a w) 0 ops.toList)
    (hmid : ∀ (a : Act) (w : World), Below w1.heap.size w1 w → (∀ d : Tmp, (ops.all fun o => o.dst != some d) = true → a.eval (.tmp d) = a0.eval (.tmp d)) →
      (∀ e ∈ om.after, Region.binds md e = true → ∀ oj d, ops[e.on]? = some oj → oj.dst = some d → p e.on (a.eval (.tmp d)) w) →
      wpOp P ops Q mid (fun a' w' => ∃ v, a' = a.put om.dst v ∧ J v w') a w)
    (hlast : ∀ (vals : Nat → Value) (a : Act) (w : World), J (vals mid) w →
      (∀ (j : Nat) (oj : Oper) (d : Tmp), ops[j]? = some oj → j < last → oj.dst = some d → a.eval (.tmp d) = vals j) → (∀ j, j < last → pure j = true → p j (vals j) w) →
      wpOp P ops Q last (fun a' w' => ∃ v, a' = a.put ol.dst v ∧ K w') a w)
    (hend : ∀ vals w, K w → Q .normal (layN ops (fun _ => true) vals (List.range ops.size) a0) w) :
    wpAny P md ops Q ops.size (Array.replicate ops.size false) a0 w1.drew := by
  obtain ⟨Inv, hInv⟩ : ∃ Inv : (Nat → Bool) → (Nat → Value) → World → Prop, Inv = fun L vals w => if L last = true then K w else if L mid = true then (∀ i, i < last → pure i = false → L i = true) ∧ J (vals mid) w ∧ (∀ i, i < last → pure i = true → L i = true → p i (vals i) w)
    else Below w1.heap.size w1 w ∧ ∀ i, i < last → L i = true → p i (vals i) w := ⟨_, rfl⟩
  refine wpAny_inv Inv a0 w1.drew hap hah hin (fun L h => ?_) (allIdx_of _ _ fun i o hi => ?_) (fun L vals w hL hI => ?_)
  · rw [hInv]
    show if L last = true then _ else if L mid = true then _ else _
    rw [if_neg (by rw [h]; exact Bool.false_ne_true), if_neg (by rw [h]; exact Bool.false_ne_true)]
    exact ⟨(Below.refl _ _).drew, fun i _ hl => by rw [h i] at hl; cases hl⟩
  · rw [Nat.zero_add]
    intro L vals a w hF hI
    have hil : i < ops.size := (Array.getElem?_eq_some_iff.1 hF.it).1
    have hnl : ¬ L last = true := by
      intro h
      by_cases hlt : i < last
      · have h1 := hF.closed last ol hol h
        simp only [List.all_eq_true, List.mem_range] at hwl
        have h2 := reachB_spec hF.closed last _ (fun k hk => by
          unfold aftB at hk
          rw [Array.any_eq_true'] at hk
          obtain ⟨e, he, h3⟩ := hk
          simp only [Bool.and_eq_true, beq_iff_eq] at h3
          rw [← h3.1]
          exact h1 e he h3.2) i (hwl i hlt)
        rw [hF.open_] at h2; cases h2
      · have : i = last := by omega
        subst this
        rw [hF.open_] at h; cases h
    rw [hInv] at hI
    replace hI : if L mid = true then (∀ i, i < last → pure i = false → L i = true) ∧ J (vals mid) w ∧ (∀ i, i < last → pure i = true → L i = true → p i (vals i) w)
      else Below w1.heap.size w1 w ∧ ∀ i, i < last → L i = true → p i (vals i) w := by
      have h : (if L last = true then _ else _) := hI
      rw [if_neg hnl] at h
      exact h
    have hsl : ∀ e ∈ o.after, Region.binds md e = true → ∀ oj d, ops[e.on]? = some oj → oj.dst = some d → a.eval (.tmp d) = vals e.on ∧ e.on < last ∧ L e.on = true := by
      intro e he hb oj d hoj hd
      have hl := hF.ahead e he hb
      have hel : e.on < ops.size := (Array.getElem?_eq_some_iff.1 hoj).1
      have hne : e.on ≠ last := fun h => hnl (by rw [← h]; exact hl)
      exact ⟨hF.slot e.on oj d hoj hd hl, by omega, hl⟩
    by_cases hlt : i < last
    · have hkeep : ∀ L' : Nat → Bool, (∀ j, j ≠ i → L' j = L j) → ¬ L' last = true := fun L' h h2 => hnl (by rw [← h last (by omega)]; exact h2)
      cases hpi : pure i
      · by_cases him : i = mid
        · subst him
          have hoo : o = om := by
            have := hF.it
            rw [hom] at this; exact (Option.some.inj this).symm
          subst hoo
          rw [if_neg (by rw [hF.open_]; exact Bool.false_ne_true)] at hI
          refine wpOp_mono ?_ (hmid a w hI.1 hF.old (fun e he hb oj d hoj hd => ?_))
          · rintro a' w' ⟨v, rfl, hJ⟩
            refine ⟨v, rfl, fun L' h2 h3 => ?_⟩
            rw [hInv]
            show if L' last = true then _ else if L' i = true then _ else _
            rw [if_neg (hkeep L' h2), if_pos h3]
            refine ⟨fun j hj hpj => ?_, by simpa using hJ, fun j hj hpj hl => ?_⟩
            · by_cases hji : j = i
              · subst hji; exact h3
              · rw [h2 j hji]
                simp only [List.all_eq_true, List.mem_range, Bool.or_eq_true, beq_iff_eq] at hwm
                rcases hwm j hj with (h | h) | h
                · rw [hpj] at h; cases h
                · exact absurd h hji
                · refine reachB_spec hF.closed i _ (fun k hk => ?_) j h
                  unfold aftB at hk
                  rw [Array.any_eq_true'] at hk
                  obtain ⟨e, he, h4⟩ := hk
                  simp only [Bool.and_eq_true, beq_iff_eq] at h4
                  rw [← h4.1]
                  exact hF.ahead e he h4.2
            · have hji : j ≠ i := fun e => by rw [e, hpi] at hpj; cases hpj
              simp only [hji, if_false]
              exact hpw j _ w w' hpj (hI.2 j hj (by rw [← h2 j hji]; exact hl))
          · obtain ⟨h1, h2, h3⟩ := hsl e he hb oj d hoj hd
            rw [h1]; exact hI.2 e.on h2 h3
        · have hnm : ¬ L mid = true := by
            intro h
            rw [if_pos h] at hI
            have := hI.1 i hlt hpi
            rw [hF.open_] at this; cases this
          rw [if_neg hnm] at hI
          have h1 := allIdx_get ops.toList 0 i o hop hi
          rw [Nat.zero_add] at h1
          refine wpOp_mono ?_ (h1 hlt him hpi a w hI.1 hF.old (fun e he hb oj d hoj hd => ?_) hF.it)
          · rintro a' w' ⟨⟨v, rfl, hp⟩, hb, hI'⟩
            refine ⟨v, rfl, fun L' h2 h3 => ?_⟩
            rw [hInv]
            show if L' last = true then _ else if L' mid = true then _ else _
            rw [if_neg (hkeep L' h2), if_neg (by rw [h2 mid (fun e => him e.symm)]; exact hnm)]
            refine ⟨hI', fun j hj hl => ?_⟩
            by_cases hji : j = i
            · subst hji; simpa using hp
            · simp only [hji, if_false]
              exact hst j _ w w' hb (hI.2 j hj (by rw [← h2 j hji]; exact hl))
          · obtain ⟨h2, h3, h4⟩ := hsl e he hb oj d hoj hd
            rw [h2]; exact hI.2 e.on h3 h4
      · have him : i ≠ mid := fun e => by rw [e, hpm] at hpi; cases hpi
        have h1 := allIdx_get ops.toList 0 i o hpu hi
        rw [Nat.zero_add] at h1
        have hpd : ∀ j, j < last → pure j = true → L j = true → p j (vals j) w := by
          intro j hj hpj hl
          by_cases hm : L mid = true
          · rw [if_pos hm] at hI; exact hI.2.2 j hj hpj hl
          · rw [if_neg hm] at hI; exact hI.2 j hj hl
        have hor : Below w1.heap.size w1 w ∨ ∃ v, J v w := by
          by_cases hm : L mid = true
          · rw [if_pos hm] at hI; exact .inr ⟨_, hI.2.1⟩
          · rw [if_neg hm] at hI; exact .inl hI.1
        refine wpOp_mono ?_ (h1 hlt hpi a w hor hF.old (fun e he hb hpe oj d hoj hd => ?_) hF.it)
        · rintro a' w' ⟨v, rfl, hp, rfl⟩
          refine ⟨v, rfl, fun L' h2 h3 => ?_⟩
          rw [hInv]
          show if L' last = true then _ else if L' mid = true then _ else _
          rw [if_neg (hkeep L' h2), h2 mid (fun e => him e.symm)]
          by_cases hm : L mid = true
          · rw [if_pos hm] at hI ⊢
            refine ⟨fun j hj hpj => ?_, ?_, fun j hj hpj hl => ?_⟩
            · have hji : j ≠ i := fun e => by rw [e, hpi] at hpj; cases hpj
              rw [h2 j hji]; exact hI.1 j hj hpj
            · simp only [Ne.symm him, if_false]; exact hI.2.1
            · by_cases hji : j = i
              · subst hji; simpa using hp
              · simp only [hji, if_false]
                exact hI.2.2 j hj hpj (by rw [← h2 j hji]; exact hl)
          · rw [if_neg hm] at hI ⊢
            refine ⟨hI.1, fun j hj hl => ?_⟩
            by_cases hji : j = i
            · subst hji; simpa using hp
            · simp only [hji, if_false]
              exact hI.2 j hj (by rw [← h2 j hji]; exact hl)
        · obtain ⟨h2, h3, h4⟩ := hsl e he hb oj d hoj hd
          rw [h2]; exact hpd e.on h3 hpe h4
    · have hie : i = last := by omega
      subst hie
      have hoo : o = ol := by
        have := hF.it
        rw [hol] at this; exact (Option.some.inj this).symm
      subst hoo
      have hall : ∀ j, j < i → L j = true := by
        intro j hj
        simp only [List.all_eq_true, List.mem_range] at hwl
        refine reachB_spec hF.closed i _ (fun k hk => ?_) j (hwl j hj)
        unfold aftB at hk
        rw [Array.any_eq_true'] at hk
        obtain ⟨e, he, h3⟩ := hk
        simp only [Bool.and_eq_true, beq_iff_eq] at h3
        rw [← h3.1]
        exact hF.ahead e he h3.2
      rw [if_pos (hall mid hml)] at hI
      refine wpOp_mono ?_ (hlast vals a w hI.2.1 (fun j oj d hoj hj hd => hF.slot j oj d hoj hd (hall j hj)) (fun j hj hpj => hI.2.2 j hj hpj (hall j hj)))
      rintro a' w' ⟨v, rfl, hK⟩
      refine ⟨v, rfl, fun L' h2 h3 => ?_⟩
      rw [hInv]
      show if L' i = true then _ else _
      rw [if_pos h3]
      exact hK
  · rw [hInv] at hI
    have h : (if L last = true then _ else _) := hI
    rw [if_pos (hL last (by omega))] at h
    exact hend vals w h
end

end Go.Proofs.YtdabanocofimmaaGreatDoor.Lt
