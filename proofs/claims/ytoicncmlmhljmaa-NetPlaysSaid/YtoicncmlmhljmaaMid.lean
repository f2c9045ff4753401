/-
  A REGION THAT DRAWS ITS ORDER, AND WRITES SLOTS AGAIN: an invariant of what is done, what it yielded, and the world. Conditions: none.
-/
import Derived.Test.YtoicncmlmhljmaaOrder
namespace Go.Proofs.Ytoicncmlmhljmaa.Lt
open Go.RowKit

section
variable {P : Program} {ops : Array Oper} {Q : Exit → Act → World → Prop} {md : Region.Mode}

/-- What an operation waits for. -/
def aftB (md : Region.Mode) (o : Oper) (i : Nat) : Bool := o.after.any fun e => e.on == i && Region.binds md e
/-- .. and what these wait for. -/
def reachB (md : Region.Mode) (ops : Array Oper) : Nat → (Nat → Bool) → Nat → Bool
  | 0, S => S
  | k + 1, S => reachB md ops k (if S k = true then fun i => S i || (match ops[k]? with | some o => aftB md o i | none => false) else S)
theorem reachB_spec {L : Nat → Bool} (hc : ∀ (j : Nat) (oj : Oper), ops[j]? = some oj → L j = true → ∀ e ∈ oj.after, Region.binds md e = true → L e.on = true) :
    ∀ (k : Nat) (S : Nat → Bool), (∀ i, S i = true → L i = true) → ∀ i, reachB md ops k S i = true → L i = true
  | 0, S, h, i, hi => h i hi
  | k + 1, S, h, i, hi => by
    refine reachB_spec hc k _ ?_ i hi
    intro j hj
    by_cases hk : S k = true
    · simp only [hk, if_true, Bool.or_eq_true] at hj
      rcases hj with hj | hj
      · exact h j hj
      · cases ho : ops[k]? with
        | none => rw [ho] at hj; cases hj
        | some o =>
          rw [ho] at hj
          unfold aftB at hj
          rw [Array.any_eq_true'] at hj
          obtain ⟨e, he, h2⟩ := hj
          simp only [Bool.and_eq_true, beq_iff_eq] at h2
          rw [← h2.1]
          exact hc k o ho (h k hk) e he h2.2
    · simp only [hk, Bool.false_eq_true, if_false] at hj
      exact h j hj


/-- What an operation finds. -/
structure Finds (md : Region.Mode) (ops : Array Oper) (a0 : Act) (i : Nat) (o : Oper) (L : Nat → Bool) (vals : Nat → Value) (a : Act) : Prop where
  it : ops[i]? = some o
  open_ : L i = false
  ahead : ∀ e ∈ o.after, Region.binds md e = true → L e.on = true
  closed : ∀ (j : Nat) (oj : Oper), ops[j]? = some oj → L j = true → ∀ e ∈ oj.after, Region.binds md e = true → L e.on = true
  slot : ∀ (j : Nat) (oj : Oper) (d : Tmp), ops[j]? = some oj → oj.dst = some d → L j = true → a.eval (.tmp d) = vals j
  later : ∀ d : Tmp, (∀ (j : Nat) (oj : Oper), ops[j]? = some oj → L j = true → oj.dst ≠ some d) → a.eval (.tmp d) = a0.eval (.tmp d)
  old : ∀ d : Tmp, (ops.all fun o => o.dst != some d) = true → a.eval (.tmp d) = a0.eval (.tmp d)
/-- What an operation leaves. -/
def Leaves (Inv : (Nat → Bool) → (Nat → Value) → World → Prop) (i : Nat) (o : Oper) (L : Nat → Bool) (vals : Nat → Value) (a a' : Act) (w' : World) : Prop :=
  ∃ v, a' = a.put o.dst v ∧ ∀ L' : Nat → Bool, (∀ j, j ≠ i → L' j = L j) → L' i = true → Inv L' (fun j => if j = i then v else vals j) w'

theorem wpAny_inv (Inv : (Nat → Bool) → (Nat → Value) → World → Prop) (a0 : Act) (w0 : World)
    (hap : apartB ops = true) (hah : aheadB md ops = true) (hin : (List.range ops.size).all (fun i => match ops[i]? with | some o => (match o.dst with | some d => decide (d < a0.tmps.size) | none => true) | none => true) = true)
    (h0 : ∀ L : Nat → Bool, (∀ i, L i = false) → Inv L (fun _ => undef) w0)
    (hop : AllIdx (fun i o => ∀ (L : Nat → Bool) (vals : Nat → Value) (a : Act) (w : World), Finds md ops a0 i o L vals a → Inv L vals w → wpOp P ops Q i (Leaves Inv i o L vals a) a w) 0 ops.toList)
    (hend : ∀ L vals w, (∀ i, i < ops.size → L i = true) → Inv L vals w → Q .normal (layN ops (fun _ => true) vals (List.range ops.size) a0) w) :
    wpAny P md ops Q ops.size (Array.replicate ops.size false) a0 w0 := by
  have hap' := apartB_spec hap
  have hin' : ∀ (i : Nat) (o : Oper) (d : Tmp), ops[i]? = some o → o.dst = some d → d < a0.tmps.size := by
    intro i o d hi hd
    have hil : i < ops.size := (Array.getElem?_eq_some_iff.1 hi).1
    simp only [List.all_eq_true, List.mem_range] at hin
    have := hin i hil
    simpa [hi, hd] using this
  have hah' : ∀ (i : Nat) (o : Oper), ops[i]? = some o → ∀ e ∈ o.after, Region.binds md e = true → e.on < i := by
    intro i o hi e he hb
    have hil : i < ops.size := (Array.getElem?_eq_some_iff.1 hi).1
    simp only [aheadB, List.all_eq_true, List.mem_range] at hah
    have := hah i hil
    simp only [hi, Array.all_eq_true'] at this
    have := this e he
    simpa [hb] using this
  have fin : ∀ (listed : Array Bool) (vals : Nat → Value) (w : World), Inv (fun i => listed.getD i false) vals w → (∀ i, i < ops.size → listed.getD i false = true) →
      Q .normal (layN ops (fun i => listed.getD i false) vals (List.range ops.size) a0) w := by
    intro listed vals w hI hall
    have e : layN ops (fun i => listed.getD i false) vals (List.range ops.size) a0 = layN ops (fun _ => true) vals (List.range ops.size) a0 := by
      have : ∀ (is : List Nat) (a : Act), (∀ i ∈ is, i < ops.size) → layN ops (fun i => listed.getD i false) vals is a = layN ops (fun _ => true) vals is a := by
        intro is
        induction is with
        | nil => intro a _; rfl
        | cons i is ih =>
          intro a hm
          simp only [layN, hall i (hm i (by simp)), if_true]
          exact ih _ (fun j hj => hm j (List.mem_cons_of_mem _ hj))
      exact this _ _ (fun i hi => List.mem_range.1 hi)
    rw [e]
    exact hend _ vals w hall hI
  have none_ready : ∀ (listed : Array Bool), listed.size = ops.size → Region.ready md ops listed = [] → ∀ i, i < ops.size → listed.getD i false = true := by
    intro listed hls hr i
    induction i using Nat.strongRecOn with
    | ind i ih =>
      intro hi
      cases hl : listed.getD i false with
      | true => rfl
      | false =>
        exfalso
        have hm : i ∈ Region.ready md ops listed := by
          refine mem_ready.2 ⟨?_, ops[i], Array.getElem?_eq_getElem hi, fun e he hb => ?_⟩
          · have : i < listed.size := by omega
            simp only [Array.getD, this] at hl ⊢
            simpa using hl
          · have hlt := hah' i ops[i] (Array.getElem?_eq_getElem hi) e he hb
            exact ih e.on hlt (by omega)
        rw [hr] at hm
        cases hm
  have main : ∀ (fuel : Nat) (listed : Array Bool) (vals : Nat → Value) (w : World), listed.size = ops.size → Inv (fun i => listed.getD i false) vals w →
      (∀ (j : Nat) (oj : Oper), ops[j]? = some oj → listed.getD j false = true → ∀ e ∈ oj.after, Region.binds md e = true → listed.getD e.on false = true) →
      ((List.range ops.size).filter fun i => !listed.getD i false).length ≤ fuel → wpAny P md ops Q fuel listed (layN ops (fun i => listed.getD i false) vals (List.range ops.size) a0) w := by
    intro fuel
    induction fuel with
    | zero =>
      intro listed vals w hls hI hcl hc
      have hall : ∀ i, i < ops.size → listed.getD i false = true := by
        intro i hi
        cases hl : listed.getD i false with
        | true => rfl
        | false =>
          have : i ∈ (List.range ops.size).filter fun i => !listed.getD i false := List.mem_filter.2 ⟨List.mem_range.2 hi, by rw [hl]; rfl⟩
          have hpos := List.length_pos_of_mem this
          omega
      refine ⟨?_, fin listed vals w hI hall⟩
      cases hr : Region.ready md ops listed with
      | nil => rfl
      | cons j js =>
        exfalso
        have hj : j ∈ Region.ready md ops listed := by rw [hr]; simp
        obtain ⟨h1, o, ho, _⟩ := mem_ready.1 hj
        have hjl : j < ops.size := (Array.getElem?_eq_some_iff.1 ho).1
        have := hall j hjl
        have hjs : j < listed.size := by omega
        simp only [Array.getD, hjs] at h1 this
        simp_all
    | succ fuel ih =>
      intro listed vals w hls hI hcl hc
      refine ⟨fun hr => fin listed vals w hI (none_ready listed hls hr), fun i hi => ?_⟩
      obtain ⟨hun, o, ho, haft⟩ := mem_ready.1 hi
      have hil : i < ops.size := (Array.getElem?_eq_some_iff.1 ho).1
      have hil' : i < listed.size := by omega
      have hun' : listed.getD i false = false := by
        simp only [Array.getD, hil'] at hun ⊢
        simpa using hun
      have h1 := allIdx_get ops.toList 0 i o hop (by simpa using ho)
      rw [Nat.zero_add] at h1
      have hF : Finds md ops a0 i o (fun i => listed.getD i false) vals (layN ops (fun i => listed.getD i false) vals (List.range ops.size) a0) := by
        refine ⟨ho, hun', haft, hcl, ?_, fun d hd => layN_other _ _ (fun j _ oj hoj hl => hd j oj hoj hl), ?_⟩
        · intro j oj d hj hd hl
          have hjl : j < ops.size := (Array.getElem?_eq_some_iff.1 hj).1
          exact layN_at hap' hj hd hl (List.range ops.size) a0 (List.mem_range.2 hjl) List.nodup_range (hin' j oj d hj hd)
        · intro d hd
          refine layN_other _ _ (fun j _ oj hoj _ => ?_)
          have hjl := (Array.getElem?_eq_some_iff.1 hoj)
          obtain ⟨hjl, rfl⟩ := hjl
          rw [Array.all_eq_true] at hd
          simpa using hd j hjl
      refine wpOp_mono ?_ (h1 _ vals _ w hF hI)
      rintro a' w' ⟨v, rfl, hI'⟩
      have e := lay_step (ops := ops) hap' (L := fun i => listed.getD i false) (L' := fun j => (listed.setIfInBounds i true).getD j false) (vals := vals) (vals' := fun j => if j = i then v else vals j) ho
        (fun j hj => by simp [Ne.symm hj]) (fun j hj => by simp [hj]) hun' (by simp [hil']) (List.range ops.size) a0 (List.mem_range.2 hil) List.nodup_range
      simp only [if_true] at e
      rw [e]
      refine ih (listed.setIfInBounds i true) (fun j => if j = i then v else vals j) w' (by simpa using hls) (hI' _ (fun j hj => by simp [Ne.symm hj]) (by simp [hil'])) ?_ ?_
      · intro j oj hj hl e' he hb
        have step : ∀ k, listed.getD k false = true → (listed.setIfInBounds i true).getD k false = true := by
          intro k hk
          by_cases hki : k = i
          · subst hki; simp [hil']
          · simpa [Array.getElem?_setIfInBounds, Ne.symm hki] using hk
        by_cases hji : j = i
        · subst hji
          have : oj = o := by rw [hj] at ho; exact Option.some.inj ho
          subst this
          exact step _ (haft e' he hb)
        · refine step _ (hcl j oj hj ?_ e' he hb)
          simpa [Array.getElem?_setIfInBounds, Ne.symm hji] using hl
      · have hsub : ((List.range ops.size).filter fun j => !(listed.setIfInBounds i true).getD j false).length < ((List.range ops.size).filter fun j => !listed.getD j false).length := by
          have h1 : ∀ (is : List Nat), is.Nodup → (is.filter fun j => !(listed.setIfInBounds i true).getD j false).length ≤ (is.filter fun j => !listed.getD j false).length ∧
              (i ∈ is → (is.filter fun j => !(listed.setIfInBounds i true).getD j false).length < (is.filter fun j => !listed.getD j false).length) := by
            intro is
            induction is with
            | nil => intro _; exact ⟨Nat.le_refl _, fun h => by simp at h⟩
            | cons j js ihs =>
              intro hnd
              rw [List.nodup_cons] at hnd
              obtain ⟨hle, hlt⟩ := ihs hnd.2
              by_cases hji : j = i
              · subst hji
                have e1 : (!(listed.setIfInBounds j true).getD j false) = false := by simp [hil']
                have e2 : (!listed.getD j false) = true := by rw [hun']; rfl
                rw [List.filter_cons, List.filter_cons, if_neg (by rw [e1]; simp), if_pos e2]
                simp only [List.length_cons]
                exact ⟨by omega, fun _ => by omega⟩
              · have e1 : (listed.setIfInBounds i true).getD j false = listed.getD j false := by simp [Ne.symm hji]
                rw [List.filter_cons, List.filter_cons, e1]
                split
                · simp only [List.length_cons]
                  refine ⟨by omega, fun hm => ?_⟩
                  have : i ∈ js := by
                    rcases List.mem_cons.1 hm with e | e
                    · exact absurd e.symm hji
                    · exact e
                  have := hlt this
                  omega
                · refine ⟨hle, fun hm => ?_⟩
                  rcases List.mem_cons.1 hm with e | e
                  · exact absurd e.symm hji
                  · exact hlt e
          exact (h1 _ List.nodup_range).2 (List.mem_range.2 hil)
        omega
  have := main ops.size (Array.replicate ops.size false) (fun _ => undef) w0 (by simp) (h0 _ (fun i => by by_cases hi : i < ops.size <;> simp [Array.getD, hi])) (fun j oj _ hl => by
      exfalso
      by_cases hi : j < ops.size <;> simp [Array.getD, hi] at hl) (Nat.le_trans (List.length_filter_le _ _) (by simp))
  rw [layN_none _ (fun i => by
    by_cases hi : i < ops.size <;> simp [Array.getD, hi])] at this
  exact this

theorem allIdx_of {R : Nat → Oper → Prop} : ∀ (l : List Oper) (k : Nat), (∀ i o, l[i]? = some o → R (k + i) o) → AllIdx R k l
  | [], _, _ => trivial
  | x :: xs, k, h => ⟨h 0 x rfl, allIdx_of xs (k + 1) fun i o hi => by
      have := h (i + 1) o (by simpa using hi)
      rwa [show k + (i + 1) = k + 1 + i from by omega] at this⟩

/-- THE RULE where nothing that was there turns, and slots are written again by operations that wait for those that read them. -/
theorem wpAny_late (p : Nat → Value → World → Prop) (a0 : Act) (w1 : World)
    (hap : apartB ops = true) (hah : aheadB md ops = true) (hin : (List.range ops.size).all (fun i => match ops[i]? with | some o => (match o.dst with | some d => decide (d < a0.tmps.size) | none => true) | none => true) = true)
    (hst : ∀ i v w w', Below w.heap.size w w' → p i v w → p i v w')
    (hop : AllIdx (fun i o => ∀ (a : Act) (w : World), Below w1.heap.size w1 w → (∀ d : Tmp, (ops.all fun oj => oj.dst != some d || oj.after.any fun e => e.on == i && Region.binds md e) = true → a.eval (.tmp d) = a0.eval (.tmp d)) →
      (∀ e ∈ o.after, Region.binds md e = true → ∀ oj d, ops[e.on]? = some oj → oj.dst = some d → p e.on (a.eval (.tmp d)) w) → ops[i]? = some o → wpOp P ops Q i (Step1 w1 p i a o w) a w) 0 ops.toList)
    (hend : ∀ vals w, Below w1.heap.size w1 w → (∀ i, i < ops.size → p i (vals i) w) → Q .normal (layN ops (fun _ => true) vals (List.range ops.size) a0) w) :
    wpAny P md ops Q ops.size (Array.replicate ops.size false) a0 w1.drew := by
  refine wpAny_inv (fun L vals w => Below w1.heap.size w1 w ∧ ∀ i, i < ops.size → L i = true → p i (vals i) w) a0 w1.drew hap hah hin (fun L h => ⟨(Below.refl _ _).drew, fun i _ hl => by rw [h i] at hl; cases hl⟩) (allIdx_of _ _ fun i o hi => ?_) (fun L vals w hL hI => hend vals w hI.1 fun i hi => hI.2 i hi (hL i hi))
  rw [Nat.zero_add]
  intro L vals a w hF hI
  have h1 := allIdx_get ops.toList 0 i o hop hi
  rw [Nat.zero_add] at h1
  refine wpOp_mono ?_ (h1 a w hI.1 (fun d hd => hF.later d fun j oj hj hl hjd => ?_) (fun e he hb oj d hoj hd => ?_) hF.it)
  · rintro a' w' ⟨⟨v, rfl, hp⟩, hb, hI'⟩
    refine ⟨v, rfl, fun L' h2 h3 => ⟨hI', fun j hj hl => ?_⟩⟩
    by_cases hji : j = i
    · subst hji; simpa using hp
    · simp only [hji, if_false]
      exact hst j _ w w' hb (hI.2 j hj (by rw [← h2 j hji]; exact hl))
  · obtain ⟨hjl, rfl⟩ := Array.getElem?_eq_some_iff.1 hj
    rw [Array.all_eq_true] at hd
    have h2 := hd j hjl
    rw [hjd] at h2
    simp only [bne_self_eq_false, Bool.false_or, Array.any_eq_true', Bool.and_eq_true, beq_iff_eq] at h2
    obtain ⟨e, he, hei, hb⟩ := h2
    have h3 := hF.closed j _ hj hl e he hb
    rw [hei, hF.open_] at h3
    cases h3
  · have hel : e.on < ops.size := (Array.getElem?_eq_some_iff.1 hoj).1
    rw [hF.slot e.on oj d hoj hd (hF.ahead e he hb)]
    exact hI.2 e.on hel (hF.ahead e he hb)

/-- THE RULE where the last but one waits for all ahead of it, and turns what was there; the last lays what that yielded into a slot. -/
theorem wpAny_mid (p : Nat → Value → World → Prop) (a0 : Act) (w1 : World) (mid : Nat) (om ol : Oper) (J : Value → World → Prop)
    (hsz : ops.size = mid + 2) (hom : ops[mid]? = some om) (hol : ops[mid + 1]? = some ol) (hwait : (List.range mid).all (reachB md ops mid (aftB md om)) = true) (hwl : aftB md ol mid = true)
    (hap : apartB ops = true) (hah : aheadB md ops = true) (hin : (List.range ops.size).all (fun i => match ops[i]? with | some o => (match o.dst with | some d => decide (d < a0.tmps.size) | none => true) | none => true) = true)
    (hst : ∀ i v w w', Below w.heap.size w w' → p i v w → p i v w')
    (hop : AllIdx (fun i o => i < mid → ∀ (a : Act) (w : World), Below w1.heap.size w1 w → (∀ d : Tmp, (ops.all fun oj => oj.dst != some d || oj.after.any fun e => e.on == i && Region.binds md e) = true → a.eval (.tmp d) = a0.eval (.tmp d)) →
      (∀ e ∈ o.after, Region.binds md e = true → ∀ oj d, ops[e.on]? = some oj → oj.dst = some d → p e.on (a.eval (.tmp d)) w) → ops[i]? = some o → wpOp P ops Q i (Step1 w1 p i a o w) a w) 0 ops.toList)
    (hmid : ∀ (a : Act) (w : World), Below w1.heap.size w1 w →
      (∀ e ∈ om.after, Region.binds md e = true → ∀ oj d, ops[e.on]? = some oj → oj.dst = some d → p e.on (a.eval (.tmp d)) w) →
      wpOp P ops Q mid (fun a' w' => ∃ v, a' = a.put om.dst v ∧ J v w') a w)
    (hlast : ∀ (v : Value) (a : Act) (w : World), (∀ d, om.dst = some d → a.eval (.tmp d) = v) → wpOp P ops Q (mid + 1) (fun a' w' => a' = a.put ol.dst v ∧ w' = w) a w)
    (hend : ∀ vals w, J (vals mid) w → vals (mid + 1) = vals mid → Q .normal (layN ops (fun _ => true) vals (List.range ops.size) a0) w) :
    wpAny P md ops Q ops.size (Array.replicate ops.size false) a0 w1.drew := by
  obtain ⟨Inv, hInv⟩ : ∃ Inv : (Nat → Bool) → (Nat → Value) → World → Prop, Inv = fun L vals w => if L mid = true then (∀ i, i < mid → L i = true) ∧ J (vals mid) w ∧ (L (mid + 1) = true → vals (mid + 1) = vals mid) else L (mid + 1) = false ∧ Below w1.heap.size w1 w ∧ ∀ i, i < mid → L i = true → p i (vals i) w := ⟨_, rfl⟩
  refine wpAny_inv Inv a0 w1.drew hap hah hin (fun L h => ?_) (allIdx_of _ _ fun i o hi => ?_) (fun L vals w hL hI => ?_)
  · rw [hInv]
    show if L mid = true then _ else _
    rw [if_neg (by rw [h]; exact Bool.false_ne_true)]
    exact ⟨h _, (Below.refl _ _).drew, fun i _ hl => by rw [h i] at hl; cases hl⟩
  · rw [Nat.zero_add]
    intro L vals a w hF hI
    rw [hInv] at hI
    replace hI : if L mid = true then (∀ i, i < mid → L i = true) ∧ J (vals mid) w ∧ (L (mid + 1) = true → vals (mid + 1) = vals mid) else L (mid + 1) = false ∧ Below w1.heap.size w1 w ∧ ∀ i, i < mid → L i = true → p i (vals i) w := hI
    have hil : i < ops.size := (Array.getElem?_eq_some_iff.1 hF.it).1
    by_cases hlt : i < mid
    · have hnl : ¬ L mid = true := by
        intro h
        rw [if_pos h] at hI
        have := hI.1 i hlt
        rw [hF.open_] at this
        cases this
      rw [if_neg hnl] at hI
      have h1 := allIdx_get ops.toList 0 i o hop hi
      rw [Nat.zero_add] at h1
      refine wpOp_mono ?_ (h1 hlt a w hI.2.1 (fun d hd => hF.later d fun j oj hj hl hjd => ?_) (fun e he hb oj d hoj hd => ?_) hF.it)
      · rintro a' w' ⟨⟨v, rfl, hp⟩, hb, hI'⟩
        refine ⟨v, rfl, fun L' h2 h3 => ?_⟩
        rw [hInv]
        show if L' mid = true then _ else _
        rw [if_neg (by rw [h2 mid (by omega)]; exact hnl)]
        refine ⟨by rw [h2 _ (by omega)]; exact hI.1, hI', fun j hj hl => ?_⟩
        by_cases hji : j = i
        · subst hji; simpa using hp
        · simp only [hji, if_false]
          exact hst j _ w w' hb (hI.2.2 j hj (by rw [← h2 j hji]; exact hl))
      · obtain ⟨hjl, rfl⟩ := Array.getElem?_eq_some_iff.1 hj
        rw [Array.all_eq_true] at hd
        have h2 := hd j hjl
        rw [hjd] at h2
        simp only [bne_self_eq_false, Bool.false_or, Array.any_eq_true', Bool.and_eq_true, beq_iff_eq] at h2
        obtain ⟨e, he, hei, hb⟩ := h2
        have h3 := hF.closed j _ hj hl e he hb
        rw [hei, hF.open_] at h3
        cases h3
      · have hl := hF.ahead e he hb
        have hel : e.on < ops.size := (Array.getElem?_eq_some_iff.1 hoj).1
        have hne : e.on ≠ mid := fun h => hnl (by rw [← h]; exact hl)
        have hne1 : e.on ≠ mid + 1 := fun h => by rw [h, hI.1] at hl; cases hl
        rw [hF.slot e.on oj d hoj hd hl]
        exact hI.2.2 e.on (by omega) hl
    · by_cases him : i = mid
      · subst him
        have hoo : o = om := by
          have := hF.it
          rw [hom] at this; exact (Option.some.inj this).symm
        subst hoo
        rw [if_neg (by rw [hF.open_]; exact Bool.false_ne_true)] at hI
        have hL : ∀ j, j < i → L j = true := by
          intro j hj
          simp only [List.all_eq_true, List.mem_range] at hwait
          refine reachB_spec hF.closed i _ (fun k hk => ?_) j (hwait j hj)
          unfold aftB at hk
          rw [Array.any_eq_true'] at hk
          obtain ⟨e, he, h2⟩ := hk
          simp only [Bool.and_eq_true, beq_iff_eq] at h2
          rw [← h2.1]
          exact hF.ahead e he h2.2
        refine wpOp_mono ?_ (hmid a w hI.2.1 (fun e he hb oj d hoj hd => ?_))
        · rintro a' w' ⟨v, rfl, hJ⟩
          refine ⟨v, rfl, fun L' h2 h3 => ?_⟩
          rw [hInv]
          show if L' i = true then _ else _
          rw [if_pos h3]
          refine ⟨fun j hj => by rw [h2 j (by omega)]; exact hL j hj, by simpa using hJ, fun h => ?_⟩
          rw [h2 _ (by omega), hI.1] at h
          cases h
        · have hl := hF.ahead e he hb
          have hel : e.on < ops.size := (Array.getElem?_eq_some_iff.1 hoj).1
          have hne : e.on ≠ i := fun h => by rw [h, hF.open_] at hl; cases hl
          have hne1 : e.on ≠ i + 1 := fun h => by rw [h, hI.1] at hl; cases hl
          rw [hF.slot e.on oj d hoj hd hl]
          exact hI.2.2 e.on (by omega) hl
      · have hie : i = mid + 1 := by omega
        subst hie
        have hoo : o = ol := by
          have := hF.it
          rw [hol] at this; exact (Option.some.inj this).symm
        subst hoo
        have hLm : L mid = true := by
          unfold aftB at hwl
          rw [Array.any_eq_true'] at hwl
          obtain ⟨e, he, h2⟩ := hwl
          simp only [Bool.and_eq_true, beq_iff_eq] at h2
          rw [← h2.1]
          exact hF.ahead e he h2.2
        rw [if_pos hLm] at hI
        refine wpOp_mono ?_ (hlast (vals mid) a w (fun d hd => hF.slot mid om d hom hd hLm))
        rintro a' w' ⟨rfl, rfl⟩
        refine ⟨_, rfl, fun L' h2 h3 => ?_⟩
        rw [hInv]
        show if L' mid = true then _ else _
        rw [if_pos (by rw [h2 mid (by omega)]; exact hLm)]
        refine ⟨fun j hj => by rw [h2 j (by omega)]; exact hI.1 j hj, by simpa using hI.2.1, fun _ => by simp⟩
  · rw [hInv] at hI
    replace hI : if L mid = true then (∀ i, i < mid → L i = true) ∧ J (vals mid) w ∧ (L (mid + 1) = true → vals (mid + 1) = vals mid) else L (mid + 1) = false ∧ Below w1.heap.size w1 w ∧ ∀ i, i < mid → L i = true → p i (vals i) w := hI
    rw [if_pos (hL mid (by omega))] at hI
    exact hend vals w hI.2.1 (hI.2.2 (hL _ (by omega)))

end
end Go.Proofs.Ytoicncmlmhljmaa.Lt
