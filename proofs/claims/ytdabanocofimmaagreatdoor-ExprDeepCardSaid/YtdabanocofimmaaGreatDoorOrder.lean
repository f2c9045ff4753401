/-
  A REGION THAT DRAWS ITS ORDER, WITHOUT GOING THROUGH ITS ORDERS: what each operation leaves, shown once for each operation, out of what those ahead of it left. Conditions: none.
-/
import Derived.WalkKit
import Derived.Orders
namespace Go.Proofs.YtdabanocofimmaaGreatDoor
open Go.RowKit

section
variable {P : Program} {ops : Array Oper} {Q : Exit → Act → World → Prop} {md : Region.Mode}

/-- The frame behind the operations that L marks, their values put in the order of the text. -/
def layN (ops : Array Oper) (L : Nat → Bool) (vals : Nat → Value) : List Nat → Act → Act
  | [], a => a
  | i :: is, a => layN ops L vals is (if L i = true then (match ops[i]? with | some o => a.put o.dst (vals i) | none => a) else a)

/-- No two operations write one slot. -/
def ApartD (ops : Array Oper) : Prop := ∀ (i j : Nat) (oi oj : Oper) (d : Tmp), ops[i]? = some oi → ops[j]? = some oj → i ≠ j → oi.dst = some d → oj.dst ≠ some d
def apartB (ops : Array Oper) : Bool := (List.range ops.size).all fun i => (List.range ops.size).all fun j => i == j || (match ops[i]?, ops[j]? with
  | some a, some b => (match a.dst with | none => true | some d => b.dst != some d)
  | _, _ => true)
theorem apartB_spec (h : apartB ops = true) : ApartD ops := by
  intro i j oi oj d hi hj hne hd
  have hil : i < ops.size := (Array.getElem?_eq_some_iff.1 hi).1
  have hjl : j < ops.size := (Array.getElem?_eq_some_iff.1 hj).1
  simp only [apartB, List.all_eq_true, List.mem_range] at h
  have := h i hil j hjl
  simp only [hi, hj, hd, Bool.or_eq_true, beq_iff_eq, bne_iff_ne] at this
  rcases this with h1 | h1
  · exact absurd h1 hne
  · exact h1
/-- What an operation waits for stands ahead of it. -/
def aheadB (md : Region.Mode) (ops : Array Oper) : Bool := (List.range ops.size).all fun i => match ops[i]? with
  | some o => o.after.all fun e => !Region.binds md e || decide (e.on < i)
  | none => true

theorem put_layN (hap : ApartD ops) {L L' : Nat → Bool} {vals vals' : Nat → Value} {i : Nat} {oi : Oper} (hi : ops[i]? = some oi) (v : Value) (hL : ∀ j, j ≠ i → L' j = L j) (hv : ∀ j, j ≠ i → vals' j = vals j) :
    ∀ (is : List Nat) (a : Act), i ∉ is → (layN ops L vals is a).put oi.dst v = layN ops L' vals' is (a.put oi.dst v)
  | [], _, _ => rfl
  | j :: js, a, hn => by
    have hji : j ≠ i := fun e => hn (by simp [e])
    have hn' : i ∉ js := fun h => hn (List.mem_cons_of_mem _ h)
    simp only [layN]
    rw [put_layN hap hi v hL hv js _ hn', hL j hji, hv j hji]
    cases hlj : L j with
    | false => simp
    | true =>
      cases hoj : ops[j]? with
      | none => simp
      | some oj =>
        simp only [if_true]
        rw [Act.put_comm a (vals j) v (fun d hd => hap j i oj oi d hoj hi hji hd)]

theorem lay_step (hap : ApartD ops) {L L' : Nat → Bool} {vals vals' : Nat → Value} {i : Nat} {oi : Oper} (hi : ops[i]? = some oi) (hL : ∀ j, j ≠ i → L' j = L j) (hv : ∀ j, j ≠ i → vals' j = vals j) (h0 : L i = false) (h1 : L' i = true) :
    ∀ (is : List Nat) (a : Act), i ∈ is → is.Nodup → (layN ops L vals is a).put oi.dst (vals' i) = layN ops L' vals' is a
  | [], _, h, _ => by simp at h
  | j :: js, a, h, hnd => by
    rw [List.nodup_cons] at hnd
    by_cases hji : j = i
    · subst hji
      simp only [layN, h0, h1, hi, if_true, Bool.false_eq_true, if_false]
      exact put_layN hap hi _ hL hv js a hnd.1
    · have hm : i ∈ js := by
        rcases List.mem_cons.1 h with e | e
        · exact absurd e.symm hji
        · exact e
      simp only [layN]
      rw [hL j hji, hv j hji]
      exact lay_step hap hi hL hv h0 h1 js _ hm hnd.2

theorem layN_none (vals : Nat → Value) {L : Nat → Bool} (hL : ∀ i, L i = false) : ∀ (is : List Nat) (a : Act), layN ops L vals is a = a
  | [], _ => rfl
  | i :: is, a => by simp only [layN, hL i, Bool.false_eq_true, if_false]; exact layN_none vals hL is a

theorem layN_size {L : Nat → Bool} {vals : Nat → Value} : ∀ (is : List Nat) (a : Act), (layN ops L vals is a).tmps.size = a.tmps.size ∧ (layN ops L vals is a).defers = a.defers
  | [], _ => ⟨rfl, rfl⟩
  | i :: is, a => by
    simp only [layN]
    obtain ⟨h1, h2⟩ := layN_size (L := L) (vals := vals) is (if L i = true then (match ops[i]? with | some o => a.put o.dst (vals i) | none => a) else a)
    rw [h1, h2]
    split
    · split
      · rename_i o _
        cases hd : o.dst <;> simp [Act.put]
      · exact ⟨rfl, rfl⟩
    · exact ⟨rfl, rfl⟩

theorem put_getD (a : Act) (x : Option Tmp) (v : Value) (d : Tmp) (h : x ≠ some d) : (a.put x v).tmps.getD d undef = a.tmps.getD d undef := by
  cases x with
  | none => rfl
  | some e =>
    have : e ≠ d := fun he => h (by rw [he])
    simp [Act.put, this]
theorem put_getD_same (a : Act) (v : Value) (d : Tmp) (h : d < a.tmps.size) : (a.put (some d) v).tmps.getD d undef = v := by
  simp [Act.put, h]

/-- A slot that nobody of the row writes. -/
theorem layN_other {L : Nat → Bool} {vals : Nat → Value} {d : Tmp} : ∀ (is : List Nat) (a : Act), (∀ i ∈ is, ∀ o, ops[i]? = some o → L i = true → o.dst ≠ some d) → (layN ops L vals is a).tmps.getD d undef = a.tmps.getD d undef
  | [], _, _ => rfl
  | i :: is, a, h => by
    simp only [layN]
    rw [layN_other is _ (fun j hj => h j (List.mem_cons_of_mem _ hj))]
    split
    · rename_i hl
      split
      · rename_i o ho
        exact put_getD a _ _ d (h i (by simp) o ho hl)
      · rfl
    · rfl
/-- A slot that one of the row has written. -/
theorem layN_at (hap : ApartD ops) {L : Nat → Bool} {vals : Nat → Value} {i : Nat} {oi : Oper} {d : Tmp} (hi : ops[i]? = some oi) (hd : oi.dst = some d) (hl : L i = true) : ∀ (is : List Nat) (a : Act), i ∈ is → is.Nodup → d < a.tmps.size → (layN ops L vals is a).tmps.getD d undef = vals i
  | [], _, h, _, _ => by simp at h
  | j :: js, a, h, hnd, hs => by
    rw [List.nodup_cons] at hnd
    simp only [layN]
    by_cases hji : j = i
    · subst hji
      rw [layN_other js _ (fun k hk o ho _ => hap j k oi o d hi ho (fun e => hnd.1 (e ▸ hk)) hd)]
      simp only [hl, if_true, hi, hd]
      exact put_getD_same a _ d hs
    · have hm : i ∈ js := by
        rcases List.mem_cons.1 h with e | e
        · exact absurd e.symm hji
        · exact e
      refine layN_at hap hi hd hl js _ hm hnd.2 ?_
      split
      · split
        · rename_i o _
          cases hd : o.dst <;> simp [Act.put, hs]
        · exact hs
      · exact hs

/-- THE RULE. I: what holds of the world throughout; p: what each operation leaves in its slot, in whatever world behind it. -/
theorem wpAny_each (I : World → Prop) (p : Nat → Value → World → Prop) (step : World → World → Prop) (a0 : Act) (w0 : World)
    (hap : apartB ops = true) (hah : aheadB md ops = true) (hin : (List.range ops.size).all (fun i => match ops[i]? with | some o => (match o.dst with | some d => decide (d < a0.tmps.size) | none => true) | none => true) = true)
    (h0 : I w0) (hst : ∀ i v w w', step w w' → p i v w → p i v w')
    (hop : ∀ (i : Nat) (o : Oper), ops[i]? = some o → ∀ (a : Act) (w : World), I w → a.tmps.size = a0.tmps.size → (∀ d : Tmp, (∀ (j : Nat) (oj : Oper), ops[j]? = some oj → oj.dst ≠ some d) → a.tmps.getD d undef = a0.tmps.getD d undef) →
      (∀ e ∈ o.after, Region.binds md e = true → ∀ oj d, ops[e.on]? = some oj → oj.dst = some d → p e.on (a.tmps.getD d undef) w) →
      wpOp P ops Q i (fun a' w' => (∃ v, a' = a.put o.dst v ∧ p i v w') ∧ step w w' ∧ I w') a w)
    (hend : ∀ vals w, I w → (∀ i, i < ops.size → p i (vals i) w) → Q .normal (layN ops (fun _ => true) vals (List.range ops.size) a0) w) :
    wpAny P md ops Q ops.size (Array.replicate ops.size false) a0 w0 := by
  have hap' := apartB_spec hap
  have hin' : ∀ (i : Nat) (o : Oper) (d : Tmp), ops[i]? = some o → o.dst = some d → d < a0.tmps.size := by
    intro i o d hi hd
    have hil : i < ops.size := (Array.getElem?_eq_some_iff.1 hi).1
    simp only [List.all_eq_true, List.mem_range] at hin
    have := hin i hil
    simpa [hi, hd] using this
  have hah' : ∀ (i : Nat) (o : Oper), ops[i]? = some o → ∀ e ∈ o.after, Region.binds md e = true → e.on < i := by
    intro i o hi e he hb
    have hil : i < ops.size := (Array.getElem?_eq_some_iff.1 hi).1
    simp only [aheadB, List.all_eq_true, List.mem_range] at hah
    have := hah i hil
    simp only [hi, Array.all_eq_true'] at this
    have := this e he
    simpa [hb] using this
  have main : ∀ (fuel : Nat) (listed : Array Bool) (vals : Nat → Value) (w : World), listed.size = ops.size → I w → (∀ i, i < ops.size → listed.getD i false = true → p i (vals i) w) →
      ((List.range ops.size).filter fun i => !listed.getD i false).length ≤ fuel → wpAny P md ops Q fuel listed (layN ops (fun i => listed.getD i false) vals (List.range ops.size) a0) w := by
    have fin : ∀ (listed : Array Bool) (vals : Nat → Value) (w : World), listed.size = ops.size → I w → (∀ i, i < ops.size → listed.getD i false = true → p i (vals i) w) → (∀ i, i < ops.size → listed.getD i false = true) →
        Q .normal (layN ops (fun i => listed.getD i false) vals (List.range ops.size) a0) w := by
      intro listed vals w _ hI hp hall
      have e : layN ops (fun i => listed.getD i false) vals (List.range ops.size) a0 = layN ops (fun _ => true) vals (List.range ops.size) a0 := by
        have : ∀ (is : List Nat) (a : Act), (∀ i ∈ is, i < ops.size) → layN ops (fun i => listed.getD i false) vals is a = layN ops (fun _ => true) vals is a := by
          intro is
          induction is with
          | nil => intro a _; rfl
          | cons i is ih =>
            intro a hm
            simp only [layN, hall i (hm i (by simp)), if_true]
            exact ih _ (fun j hj => hm j (List.mem_cons_of_mem _ hj))
        exact this _ _ (fun i hi => List.mem_range.1 hi)
      rw [e]
      exact hend vals w hI (fun i hi => hp i hi (hall i hi))
    have none_ready : ∀ (listed : Array Bool), listed.size = ops.size → Region.ready md ops listed = [] → ∀ i, i < ops.size → listed.getD i false = true := by
      intro listed hls hr i
      induction i using Nat.strongRecOn with
      | ind i ih =>
        intro hi
        cases hl : listed.getD i false with
        | true => rfl
        | false =>
          exfalso
          have hm : i ∈ Region.ready md ops listed := by
            refine mem_ready.2 ⟨?_, ops[i], Array.getElem?_eq_getElem hi, fun e he hb => ?_⟩
            · have : i < listed.size := by omega
              simp only [Array.getD, this] at hl ⊢
              simpa using hl
            · have hlt := hah' i ops[i] (Array.getElem?_eq_getElem hi) e he hb
              exact ih e.on hlt (by omega)
          rw [hr] at hm
          cases hm
    intro fuel
    induction fuel with
    | zero =>
      intro listed vals w hls hI hp hc
      have hall : ∀ i, i < ops.size → listed.getD i false = true := by
        intro i hi
        cases hl : listed.getD i false with
        | true => rfl
        | false =>
          have : i ∈ (List.range ops.size).filter fun i => !listed.getD i false := List.mem_filter.2 ⟨List.mem_range.2 hi, by rw [hl]; rfl⟩
          have hpos := List.length_pos_of_mem this
          omega
      refine ⟨?_, fin listed vals w hls hI hp hall⟩
      cases hr : Region.ready md ops listed with
      | nil => rfl
      | cons j js =>
        exfalso
        have hj : j ∈ Region.ready md ops listed := by rw [hr]; simp
        obtain ⟨h1, o, ho, _⟩ := mem_ready.1 hj
        have hjl : j < ops.size := (Array.getElem?_eq_some_iff.1 ho).1
        have := hall j hjl
        have hjs : j < listed.size := by omega
        simp only [Array.getD, hjs] at h1 this
        simp_all
    | succ fuel ih =>
      intro listed vals w hls hI hp hc
      refine ⟨fun hr => fin listed vals w hls hI hp (none_ready listed hls hr), fun i hi => ?_⟩
      obtain ⟨hun, o, ho, haft⟩ := mem_ready.1 hi
      have hil : i < ops.size := (Array.getElem?_eq_some_iff.1 ho).1
      have hil' : i < listed.size := by omega
      have hun' : listed.getD i false = false := by
        simp only [Array.getD, hil'] at hun ⊢
        simpa using hun
      have hsz := layN_size (ops := ops) (L := fun i => listed.getD i false) (vals := vals) (List.range ops.size) a0
      refine wpOp_mono ?_ (hop i o ho _ w hI hsz.1 ?_ ?_)
      · rintro a' w' ⟨⟨v, rfl, hpv⟩, hstep, hI'⟩
        have e := lay_step (ops := ops) hap' (L := fun i => listed.getD i false) (L' := fun j => (listed.setIfInBounds i true).getD j false) (vals := vals) (vals' := fun j => if j = i then v else vals j) ho
          (fun j hj => by simp [Ne.symm hj]) (fun j hj => by simp [hj]) hun' (by simp [hil']) (List.range ops.size) a0 (List.mem_range.2 hil) List.nodup_range
        simp only [if_true] at e
        rw [e]
        refine ih (listed.setIfInBounds i true) (fun j => if j = i then v else vals j) w' (by simpa using hls) hI' ?_ ?_
        · intro j hj hlj
          by_cases hji : j = i
          · subst hji; simpa using hpv
          · simp only [hji, if_false]
            refine hst j _ w w' hstep (hp j hj ?_)
            simpa [Array.getElem?_setIfInBounds, Ne.symm hji] using hlj
        · have hsub : ((List.range ops.size).filter fun j => !(listed.setIfInBounds i true).getD j false).length < ((List.range ops.size).filter fun j => !listed.getD j false).length := by
            have h1 : ∀ (is : List Nat), is.Nodup → (is.filter fun j => !(listed.setIfInBounds i true).getD j false).length ≤ (is.filter fun j => !listed.getD j false).length ∧
                (i ∈ is → (is.filter fun j => !(listed.setIfInBounds i true).getD j false).length < (is.filter fun j => !listed.getD j false).length) := by
              intro is
              induction is with
              | nil => intro _; exact ⟨Nat.le_refl _, fun h => by simp at h⟩
              | cons j js ihs =>
                intro hnd
                rw [List.nodup_cons] at hnd
                obtain ⟨hle, hlt⟩ := ihs hnd.2
                by_cases hji : j = i
                · subst hji
                  have e1 : (!(listed.setIfInBounds j true).getD j false) = false := by simp [hil']
                  have e2 : (!listed.getD j false) = true := by rw [hun']; rfl
                  rw [List.filter_cons, List.filter_cons, if_neg (by rw [e1]; simp), if_pos e2]
                  simp only [List.length_cons]
                  exact ⟨by omega, fun _ => by omega⟩
                · have e1 : (listed.setIfInBounds i true).getD j false = listed.getD j false := by simp [Ne.symm hji]
                  rw [List.filter_cons, List.filter_cons, e1]
                  split
                  · simp only [List.length_cons]
                    refine ⟨by omega, fun hm => ?_⟩
                    have : i ∈ js := by
                      rcases List.mem_cons.1 hm with e | e
                      · exact absurd e.symm hji
                      · exact e
                    have := hlt this
                    omega
                  · refine ⟨hle, fun hm => ?_⟩
                    rcases List.mem_cons.1 hm with e | e
                    · exact absurd e.symm hji
                    · exact hlt e
            exact (h1 _ List.nodup_range).2 (List.mem_range.2 hil)
          omega
      · intro d hd
        exact layN_other _ _ (fun j _ oj hoj _ => hd j oj hoj)
      · intro e he hb oj d hoj hd
        have hl := haft e he hb
        have hel : e.on < ops.size := (Array.getElem?_eq_some_iff.1 hoj).1
        rw [layN_at hap' hoj hd hl (List.range ops.size) a0 (List.mem_range.2 hel) List.nodup_range (hin' e.on oj d hoj hd)]
        exact hp e.on hel hl
  have := main ops.size (Array.replicate ops.size false) (fun _ => undef) w0 (by simp) h0 (fun i hi hl => by simp [hi] at hl) (Nat.le_trans (List.length_filter_le _ _) (by simp))
  rw [layN_none _ (fun i => by
    by_cases hi : i < ops.size <;> simp [Array.getD, hi])] at this
  exact this

/-- All operations, one by one. -/
def AllIdx (R : Nat → Oper → Prop) : Nat → List Oper → Prop
  | _, [] => True
  | k, o :: os => R k o ∧ AllIdx R (k + 1) os
theorem allIdx_get {R : Nat → Oper → Prop} : ∀ (l : List Oper) (k i : Nat) (o : Oper), AllIdx R k l → l[i]? = some o → R (k + i) o
  | [], _, i, _, _, h => by simp at h
  | x :: xs, k, 0, o, h, hg => by
    have : x = o := by simpa using hg
    subst this
    exact h.1
  | x :: xs, k, i + 1, o, h, hg => by
    have := allIdx_get xs (k + 1) i o h.2 (by simpa using hg)
    rwa [show k + 1 + i = k + (i + 1) from by omega] at this

/-- What an operation must show, where nothing that was there turns: behind it its slot holds what p tells, and nothing that was there has turned. -/
def Step1 (w1 : World) (p : Nat → Value → World → Prop) (i : Nat) (a : Act) (o : Oper) (w : World) (a' : Act) (w' : World) : Prop :=
  (∃ v, a' = a.put o.dst v ∧ p i v w') ∧ Below w.heap.size w w' ∧ Below w1.heap.size w1 w'

/-- THE RULE where nothing that was there turns. -/
theorem wpAny_below (p : Nat → Value → World → Prop) (a0 : Act) (w1 : World)
    (hap : apartB ops = true) (hah : aheadB md ops = true) (hin : (List.range ops.size).all (fun i => match ops[i]? with | some o => (match o.dst with | some d => decide (d < a0.tmps.size) | none => true) | none => true) = true)
    (hst : ∀ i v w w', Below w.heap.size w w' → p i v w → p i v w')
    (hop : AllIdx (fun i o => ∀ (a : Act) (w : World), Below w1.heap.size w1 w → (∀ d : Tmp, (ops.all fun o => o.dst != some d) = true → a.eval (.tmp d) = a0.eval (.tmp d)) →
      (∀ e ∈ o.after, Region.binds md e = true → ∀ oj d, ops[e.on]? = some oj → oj.dst = some d → p e.on (a.eval (.tmp d)) w) → ops[i]? = some o → wpOp P ops Q i (Step1 w1 p i a o w) a w) 0 ops.toList)
    (hend : ∀ vals w, Below w1.heap.size w1 w → (∀ i, i < ops.size → p i (vals i) w) → Q .normal (layN ops (fun _ => true) vals (List.range ops.size) a0) w) :
    wpAny P md ops Q ops.size (Array.replicate ops.size false) a0 w1.drew := by
  refine wpAny_each (fun w => Below w1.heap.size w1 w) p (fun w w' => Below w.heap.size w w') a0 w1.drew hap hah hin (Below.refl _ _).drew hst ?_ hend
  intro i o hi a w hI _ hun haft
  have h1 := allIdx_get ops.toList 0 i o hop (by simpa using hi)
  rw [Nat.zero_add] at h1
  refine wpOp_mono ?_ (h1 a w hI (fun d hd => hun d fun j oj hj => ?_) haft hi)
  · rintro a' w' ⟨h, h2, h3⟩
    exact ⟨h, h2, h3⟩
  · have hjl := (Array.getElem?_eq_some_iff.1 hj)
    obtain ⟨hjl, rfl⟩ := hjl
    rw [Array.all_eq_true] at hd
    simpa using hd j hjl

theorem wpOp_val {i : Nat} {o : Oper} {a : Act} {w : World} {K : Act → World → Prop} (hi : ops[i]? = some o) (hw : Region.wanted o (yielded ops a.tmps) = true) (v : Value) (w' : World)
    (hr : (execOp a.eval o).run P w = .ok (.value v) w') (hK : K (a.put o.dst v) w') : wpOp P ops Q i K a w := by
  unfold wpOp
  simp only [hi, hw, if_true]
  left
  unfold Oper.wp
  rw [hr]
  exact hK
theorem wpOp_enter {i : Nat} {o : Oper} {a : Act} {w : World} {K : Act → World → Prop} (hi : ops[i]? = some o) (hw : Region.wanted o (yielded ops a.tmps) = true) (f : FuncId) (args : Array Value)
    (hr : (execOp a.eval o).run P w = .ok (.enter f args) w) (h : Calls P f args w fun e w'' => ∃ v, e = .returned v ∧ K (a.put o.dst v) w'') : wpOp P ops Q i K a w := by
  unfold wpOp
  simp only [hi, hw, if_true]
  left
  unfold Oper.wp
  rw [hr]
  refine Calls.mono h ?_
  rintro e w'' ⟨v, rfl, hk⟩
  exact hk

/-- An operation that yields v. -/
theorem b_val {i : Nat} {o : Oper} {a : Act} {w w1 : World} {p : Nat → Value → World → Prop} (hi : ops[i]? = some o) (hI : Below w1.heap.size w1 w) (hw : Region.wanted o (yielded ops a.tmps) = true) (v : Value) (w' : World)
    (hr : (execOp a.eval o).run P w = .ok (.value v) w') (hb : Below w.heap.size w w') (hp : p i v w') : wpOp P ops Q i (Step1 w1 p i a o w) a w :=
  wpOp_val hi hw v w' hr ⟨⟨v, rfl, hp⟩, hb, hI.trans (hb.mono hI.size)⟩
/-- An operation that looks at no memory. -/
theorem b_same {i : Nat} {o : Oper} {a : Act} {w w1 : World} {p : Nat → Value → World → Prop} (hi : ops[i]? = some o) (hI : Below w1.heap.size w1 w) (hw : Region.wanted o (yielded ops a.tmps) = true) (v : Value)
    (hr : (execOp a.eval o).run P w = .ok (.value v) w) (hp : p i v w) : wpOp P ops Q i (Step1 w1 p i a o w) a w :=
  b_val hi hI hw v w hr (Below.refl _ _) hp
/-- A call. -/
theorem b_call {i : Nat} {o : Oper} {a : Act} {w w1 : World} {p : Nat → Value → World → Prop} (hi : ops[i]? = some o) (hI : Below w1.heap.size w1 w) (hw : Region.wanted o (yielded ops a.tmps) = true) (f : FuncId) (args : Array Value)
    (hr : (execOp a.eval o).run P w = .ok (.enter f args) w) (h : Calls P f args w fun e w'' => ∃ v, e = .returned v ∧ p i v w'' ∧ Below w.heap.size w w'') : wpOp P ops Q i (Step1 w1 p i a o w) a w :=
  wpOp_enter hi hw f args hr (h.mono fun _ _ ⟨v, he, hp, hb⟩ => ⟨v, he, ⟨v, rfl, hp⟩, hb, hI.trans (hb.mono hI.size)⟩)
/-- A guard that lets its operation run. -/
theorem guard_ok {o : Oper} {a : Act} {k : Nat} {want : Bool} {oj : Oper} {d : Tmp} (hg : o.guard = some (k, want)) (hj : ops[k]? = some oj) (hd : oj.dst = some d) (hv : a.eval (.tmp d) = .bool want) : Region.wanted o (yielded ops a.tmps) = true := by
  simp only [Region.wanted, hg, yielded, hj, Option.bind_some, hd]
  simp only [Act.eval, Array.getD_eq_getD_getElem?] at hv
  cases ht : a.tmps[d]? with
  | none => rw [ht] at hv; simp [undef] at hv
  | some u =>
    rw [ht] at hv
    simp only [Option.getD_some] at hv
    subst hv
    simp

/-- append, its run known. -/
theorem run_append_op {o : Oper} {ρ : Operand → Value} {w w' : World} {s x : Operand} {t tn : TypeId} {vs vx v' : Value} (ho : o.op = .call { callee := .builtin .append, args := #[s, x], argTypes := #[t, tn] }) (hs : ρ s = vs) (hx : ρ x = vx)
    (hr : (Builtin.append_ #[t, tn] o.type #[vs, vx]).run P w = .ok v' w') : (execOp ρ o).run P w = .ok (.value v') w' := by
  unfold execOp
  simp only [ho, resolve, invoke, builtin, Sem.run_bind, Sem.run_pure, Result.andThen_ok, List.map_toArray, List.map_cons, List.map_nil, hs, hx, hr]
theorem run_convert_op {o : Oper} {ρ : Operand → Value} {w : World} {s d : TypeId} {x : Operand} {vx v' : Value} (ho : o.op = .convert s d x) (hx : ρ x = vx) (hr : (convert s d vx).run P w = .ok v' w) : (execOp ρ o).run P w = .ok (.value v') w := by
  unfold execOp
  simp only [ho, Sem.run_bind, Sem.run_pure, Result.andThen_ok, hx, hr]
theorem run_move_op {o : Oper} {ρ : Operand → Value} {w : World} {x : Operand} {vx : Value} (ho : o.op = .move x) (hx : ρ x = vx) : (execOp ρ o).run P w = .ok (.value vx) w := by
  unfold execOp
  simp only [ho, Sem.run_pure, hx]
theorem run_pick_op {o : Oper} {ρ : Operand → Value} {w : World} {c x y : Operand} {b : Bool} {vx vy : Value} (ho : o.op = .pick c x y) (hc : ρ c = .bool b) (hx : ρ x = vx) (hy : ρ y = vy) : (execOp ρ o).run P w = .ok (.value (if b then vx else vy)) w := by
  unfold execOp
  simp [ho, hc, hx, hy, asBool]
theorem run_bin_op {o : Oper} {ρ : Operand → Value} {w : World} {op : BinOp} {t t2 : TypeId} {x y : Operand} {vx vy v' : Value} (ho : o.op = .binOp op t x y t2) (hx : ρ x = vx) (hy : ρ y = vy) (hg : (eqGuard op t x y vx vy).run P w = .ok () w) (hr : (binOp op t vx vy).run P w = .ok v' w) :
    (execOp ρ o).run P w = .ok (.value v') w := by
  unfold execOp
  simp only [ho, Sem.run_bind, Sem.run_pure, Result.andThen_ok, hx, hy, hg, hr]

theorem run_call_op {o : Oper} {a : Act} {w : World} {f : FuncId} {xs : Array Operand} {ts : Array TypeId} {args : Array Value} (ho : o.op = .call { callee := .value (.func f), args := xs, argTypes := ts }) (hargs : xs.map a.eval = args)
    (hf : (callFunc f args).run P w = .ok (.enter f args) w) : (execOp a.eval o).run P w = .ok (.enter f args) w := by
  have h1 : resolve a.eval { callee := .value (.func f), args := xs, argTypes := ts } o.type = pure { target := .fn (.func f) #[], args := #[] ++ xs.map a.eval } := rfl
  unfold execOp
  simp only [ho, h1, Sem.run_bind, Sem.run_pure, Result.andThen_ok, invoke, Array.append_empty, Array.empty_append, hargs]
  exact hf

end

end Go.Proofs.YtdabanocofimmaaGreatDoor
