/- What is seen of elements in order. -/import Derived.Test.YtdgglhlofnigkaaGreatDoorGrRef
namespace Go.Proofs.YtdgglhlofnigkaaGreatDoor
structure Vw where
 nodes : List ByteArray
 links : List Lk
 lab : ByteArray → List ByteArray
 out : ByteArray → List Lk
 inn : ByteArray → List Lk
 part : El → Option (List El)
 val : El → List Va
def lkOf (x : El) : Lk := ⟨x.a, x.b, x.c⟩
def updG {α β : Type} [DecidableEq α] (f : α → β) (x : α) (v : β) : α → β := fun y => if y = x then v else f y
theorem updG_self {α β : Type} [DecidableEq α] (f : α → β) (x : α) (v : β) : updG f x v x = v := if_pos rfl
def partW (vals : El → List Va) (V : Vw) (whole part : El) : Vw :=
 match V.part whole with
 | none => V
 | some ps => { V with part := updG V.part whole (some (ps ++ [part])), val := updG V.val part (vals part) }
def hasV (V : Vw) (key : ByteArray) : Bool := (V.part (nodeE key)).isSome
def seeV (vals : El → List Va) (V : Vw) (x : El) : Vw :=
 if x.k = 1 then { V with nodes := V.nodes ++ [x.a], part := updG V.part x (some []) }
 else if x.k = 2 then (if hasV V x.a then { V with lab := updG V.lab x.a (V.lab x.a ++ [x.d]) } else V)
 else if x.k = 3 then (if hasV V x.a && hasV V x.b then { V with links := V.links ++ [lkOf x], part := updG V.part x (some []) } else V)
 else if x.k = 4 then partW vals V (nodeE x.a) x
 else if x.k = 5 then partW vals V (linkE (lkOf x)) x
 else V
def noV : Vw := ⟨[], [], fun _ => [], fun _ => [], fun _ => [], fun _ => none, fun _ => []⟩
def nodeIn (E : List El) (key : ByteArray) : Bool := decide (nodeE key ∈ E)
def linkIn (E : List El) (x : Lk) : Bool := decide (linkE x ∈ E) && (nodeIn E x.f && nodeIn E x.t)
def wholeIn (E P : List El) (e : El) : Bool := decide (e ∈ P) && (decide (e.k = 1) || (decide (e.k = 3) && linkIn E (lkOf e)))
def partOf (e x : El) : Bool := (decide (e.k = 1) && (decide (x.k = 4) && decide (x.a = e.a))) || (decide (e.k = 3) && (decide (x.k = 5) && (decide (x.a = e.a) && (decide (x.b = e.b) && decide (x.c = e.c)))))
def seenIn (E : List El) (x : El) : Bool := (decide (x.k = 4) && nodeIn E x.a) || (decide (x.k = 5) && linkIn E (lkOf x))
def prefV (vals : El → List Va) (E P : List El) : Vw where
 nodes := (P.filter fun x => decide (x.k = 1)).map (·.a)
 links := (P.filter fun x => decide (x.k = 3) && linkIn E (lkOf x)).map lkOf
 lab := fun key => (P.filter fun x => decide (x.k = 2) && (decide (x.a = key) && nodeIn E key)).map (·.d)
 out := fun _ => []
 inn := fun _ => []
 part := fun e => if wholeIn E P e = true then some (P.filter (partOf e)) else none
 val := fun x => if x ∈ P ∧ seenIn E x = true then vals x else []
structure ElOk (x : El) : Prop where
 lo : 1 ≤ x.k
 hi : x.k ≤ 5
 node : x.k = 1 → x = nodeE x.a
 link : x.k = 3 → x = linkE (lkOf x)
theorem Vw.ext' {V W : Vw} (h1 : V.nodes = W.nodes) (h2 : V.links = W.links) (h3 : ∀ x, V.lab x = W.lab x) (h4 : ∀ x, V.out x = W.out x) (h5 : ∀ x, V.inn x = W.inn x) (h6 : ∀ x, V.part x = W.part x) (h7 : ∀ x, V.val x = W.val x) : V = W := by
 obtain ⟨a, b, c, d, e, f, g⟩ := V
 obtain ⟨a', b', c', d', e', f', g'⟩ := W
 simp only at *
 subst h1 h2
 simp only [Vw.mk.injEq, true_and]
 exact ⟨funext h3, funext h4, funext h5, funext h6, funext h7⟩
section
variable {vals : El → List Va} {E P R : List El} {x : El}
theorem filter_snoc {α : Type} (p : α → Bool) (P : List α) (x : α) : (P ++ [x]).filter p = P.filter p ++ (if p x = true then [x] else []) := by
 rw [List.filter_append]; congr 1
 cases h : p x <;> simp [h]
theorem see_step (hE : E = P ++ x :: R) (hlow : ∀ y ∈ E, y.k < x.k → y ∈ P) (hup : ∀ y ∈ P, y.k ≤ x.k) (hx : x ∉ P) (hok : ElOk x) (hoP : ∀ y ∈ P, ElOk y) : seeV vals (prefV vals E P) x = prefV vals E (P ++ [x]) := by
 have hxE : x ∈ E := by rw [hE]; simp
 have hPE : ∀ y ∈ P, y ∈ E := fun y hy => by rw [hE]; simp [hy]
 have hnode : ∀ key, 1 < x.k → hasV (prefV vals E P) key = nodeIn E key := by
  intro key hk
  have h1 : (nodeE key ∈ P) ↔ (nodeE key ∈ E) := ⟨hPE _, fun h => hlow _ h hk⟩
  unfold hasV nodeIn prefV wholeIn
  simp only [show (nodeE key).k = 1 from rfl, h1]
  by_cases h : nodeE key ∈ E <;> simp [h]
 obtain ⟨lo, hi, hnd, hlk⟩ := hok
 have hc : x.k = 1 ∨ x.k = 2 ∨ x.k = 3 ∨ x.k = 4 ∨ x.k = 5 := by omega
 have hnew : ∀ e, e ∈ P ++ [x] ↔ e ∈ P ∨ e = x := fun e => by simp
 rcases hc with hk | hk | hk | hk | hk
 ·-- a node
  unfold seeV
  rw [if_pos hk]
  refine Vw.ext' ?_ ?_ (fun y => ?_) (fun _ => rfl) (fun _ => rfl) (fun y => ?_) (fun y => ?_)
  ·simp only [prefV, filter_snoc, hk]; simp
  ·simp only [prefV, filter_snoc, hk]; simp
  ·simp only [prefV, filter_snoc, hk]; simp
  ·simp only [prefV, updG]
   have hno : partOf y x = false := by simp [partOf, hk]
   rw [filter_snoc, hno]
   by_cases hy : y = x
   ·subst hy
    have hf : P.filter (partOf y) = [] := by
     rw [List.filter_eq_nil_iff]
     intro z hz
     have := hup z hz
     simp only [partOf, hk, Bool.or_eq_true, Bool.and_eq_true, decide_eq_true_eq]
     omega
    rw [if_pos rfl, hf]
    simp [wholeIn, hk]
   ·rw [if_neg hy]
    simp [wholeIn, hnew, hy]
  ·simp only [prefV, hnew]
   by_cases hy : y = x
   ·subst hy
    have : seenIn E y = false := by simp [seenIn, hk]
    simp [this]
   ·simp [hy]
 ·-- a label
  have hn := hnode x.a (by omega)
  unfold seeV
  rw [if_neg (by omega), if_pos hk, hn]
  have hpart : ∀ y, (prefV vals E P).part y = (prefV vals E (P ++ [x])).part y := by
   intro y
   have hno : partOf y x = false := by simp [partOf, hk]
   have hw : wholeIn E (P ++ [x]) y = wholeIn E P y := by
    simp only [wholeIn, hnew]
    by_cases hy : y = x
    ·subst hy; simp [hk]
    ·simp [hy]
   simp only [prefV]
   rw [filter_snoc, hno, hw]; simp
  have hval : ∀ y, (prefV vals E P).val y = (prefV vals E (P ++ [x])).val y := by
   intro y
   simp only [prefV, hnew]
   by_cases hy : y = x
   ·subst hy
    have : seenIn E y = false := by simp [seenIn, hk]
    simp [this]
   ·simp [hy]
  split
  ·rename_i h
   refine Vw.ext' ?_ ?_ (fun y => ?_) (fun _ => rfl) (fun _ => rfl) hpart hval
   ·simp only [prefV, filter_snoc, hk]; simp
   ·simp only [prefV, filter_snoc, hk]; simp
   ·simp only [prefV, updG, filter_snoc, hk]
    by_cases hy : y = x.a
    ·subst hy; simp [h]
    ·simp [hy, Ne.symm hy]
  ·rename_i h
   refine Vw.ext' ?_ ?_ (fun y => ?_) (fun _ => rfl) (fun _ => rfl) hpart hval
   ·simp only [prefV, filter_snoc, hk]; simp
   ·simp only [prefV, filter_snoc, hk]; simp
   ·simp only [prefV, filter_snoc, hk]
    by_cases hy : x.a = y
    ·subst hy; simp [h]
    ·simp [hy]
 ·-- an edge
  have hn := hnode x.a (by omega)
  have hm := hnode x.b (by omega)
  have hl : linkIn E (lkOf x) = (nodeIn E x.a && nodeIn E x.b) := by
   unfold linkIn
   rw [← hlk hk]
   simp [hxE, lkOf]
  unfold seeV
  rw [if_neg (by omega), if_neg (by omega), if_pos hk, hn, hm, ← hl]
  have hval : ∀ y, (prefV vals E P).val y = (prefV vals E (P ++ [x])).val y := by
   intro y
   simp only [prefV, hnew]
   by_cases hy : y = x
   ·subst hy
    have : seenIn E y = false := by simp [seenIn, hk]
    simp [this]
   ·simp [hy]
  have hno : ∀ y, partOf y x = false := fun y => by simp [partOf, hk]
  split
  ·rename_i h
   refine Vw.ext' ?_ ?_ (fun y => ?_) (fun _ => rfl) (fun _ => rfl) (fun y => ?_) hval
   ·simp only [prefV, filter_snoc, hk]; simp
   ·simp only [prefV, filter_snoc, hk, h]; simp
   ·simp only [prefV, filter_snoc, hk]; simp
   ·simp only [prefV, updG]
    rw [filter_snoc, hno]
    by_cases hy : y = x
    ·subst hy
     have hf : P.filter (partOf y) = [] := by
      rw [List.filter_eq_nil_iff]
      intro z hz
      have := hup z hz
      simp only [partOf, hk, Bool.or_eq_true, Bool.and_eq_true, decide_eq_true_eq]
      omega
     rw [if_pos rfl, hf]
     simp [wholeIn, hk, h]
    ·rw [if_neg hy]
     simp [wholeIn, hnew, hy]
  ·rename_i h
   refine Vw.ext' ?_ ?_ (fun y => ?_) (fun _ => rfl) (fun _ => rfl) (fun y => ?_) hval
   ·simp only [prefV, filter_snoc, hk]; simp
   ·simp only [prefV, filter_snoc, hk, h]; simp
   ·simp only [prefV, filter_snoc, hk]; simp
   ·simp only [prefV]
    rw [filter_snoc, hno]
    have hw : wholeIn E (P ++ [x]) y = wholeIn E P y := by
     simp only [wholeIn, hnew]
     by_cases hy : y = x
     ·subst hy; simp [hk, h, hx]
     ·simp [hy]
    rw [hw]; simp
 ·-- a property
  have hn := hnode x.a (by omega)
  unfold seeV
  rw [if_neg (by omega), if_neg (by omega), if_neg (by omega), if_pos hk]
  have hw : ∀ y, wholeIn E (P ++ [x]) y = wholeIn E P y := by
   intro y
   simp only [wholeIn, hnew]
   by_cases hy : y = x
   ·subst hy; simp [hk]
   ·simp [hy]
  have hse : seenIn E x = nodeIn E x.a := by simp [seenIn, hk]
  unfold partW
  cases hp : (prefV vals E P).part (nodeE x.a) with
  | none =>
   have h : nodeIn E x.a = false := by rw [← hn]; simp [hasV, hp]
   refine Vw.ext' ?_ ?_ (fun y => ?_) (fun _ => rfl) (fun _ => rfl) (fun y => ?_) (fun y => ?_)
   ·simp only [prefV, filter_snoc, hk]; simp
   ·simp only [prefV, filter_snoc, hk]; simp
   ·simp only [prefV, filter_snoc, hk]; simp
   ·simp only [prefV, hw, filter_snoc]
    by_cases hy : wholeIn E P y = true
    ·have hq : partOf y x = false := by
      cases hq : partOf y x with
      | false => rfl
      | true =>
       exfalso
       simp only [partOf, hk, Bool.or_eq_true, Bool.and_eq_true, decide_eq_true_eq] at hq
       rcases hq with ⟨h1, _, h2⟩ | ⟨_, h1, _⟩
       ·have hyP : y ∈ P := by simp only [wholeIn, Bool.and_eq_true, decide_eq_true_eq] at hy; exact hy.1
        have := (hoP y hyP).node h1
        rw [h2, nodeIn, ← this, decide_eq_false_iff_not] at h
        exact h (hPE y hyP)
       ·omega
     simp [hy, hq]
    ·simp [hy]
   ·simp only [prefV, hnew]
    by_cases hy : y = x
    ·subst hy; simp [hse, h]
    ·simp [hy]
  | some ps =>
   have h : nodeIn E x.a = true := by rw [← hn]; simp [hasV, hp]
   have hps : wholeIn E P (nodeE x.a) = true ∧ ps = P.filter (partOf (nodeE x.a)) := by
    simp only [prefV] at hp
    split at hp
    ·exact ⟨by assumption, (Option.some.inj hp).symm⟩
    ·cases hp
   refine Vw.ext' ?_ ?_ (fun y => ?_) (fun _ => rfl) (fun _ => rfl) (fun y => ?_) (fun y => ?_)
   ·simp only [prefV, filter_snoc, hk]; simp
   ·simp only [prefV, filter_snoc, hk]; simp
   ·simp only [prefV, filter_snoc, hk]; simp
   ·simp only [prefV, hw, filter_snoc, updG]
    by_cases hy : y = nodeE x.a
    ·subst hy
     have hq : partOf (nodeE x.a) x = true := by simp [partOf, hk, nodeE]
     rw [if_pos rfl, if_pos hps.1, if_pos hq, hps.2]
    ·rw [if_neg hy]
     by_cases hyw : wholeIn E P y = true
     ·have hq : partOf y x = false := by
       cases hq : partOf y x with
       | false => rfl
       | true =>
        exfalso
        simp only [partOf, hk, Bool.or_eq_true, Bool.and_eq_true, decide_eq_true_eq] at hq
        rcases hq with ⟨h1, _, h2⟩ | ⟨_, h1, _⟩
        ·have hyP : y ∈ P := by simp only [wholeIn, Bool.and_eq_true, decide_eq_true_eq] at hyw; exact hyw.1
         exact hy (by rw [h2]; exact (hoP y hyP).node h1)
        ·omega
      simp [hyw, hq]
     ·simp [hyw]
   ·simp only [prefV, hnew, updG]
    by_cases hy : y = x
    ·subst hy; simp [hse, h]
    ·simp [hy]
 ·-- a trait
  have hx1 : ∀ y : El, y.k = 3 → y ∈ P → linkE ⟨y.a, y.b, y.c⟩ = y := fun y hy hyP => ((hoP y hyP).link hy).symm
  have hn := hnode x.a (by omega)
  have hlP : linkE (lkOf x) ∈ P ↔ linkE (lkOf x) ∈ E := ⟨hPE _, fun h => hlow _ h (by simp only [linkE]; omega)⟩
  have hll : lkOf (linkE (lkOf x)) = lkOf x := rfl
  have hwl : wholeIn E P (linkE (lkOf x)) = linkIn E (lkOf x) := by
   simp only [wholeIn, hlP, hll, show (linkE (lkOf x)).k = 3 from rfl]
   by_cases hq : linkE (lkOf x) ∈ E
   ·simp [hq]
   ·simp [hq, linkIn]
  unfold seeV
  rw [if_neg (by omega), if_neg (by omega), if_neg (by omega), if_neg (by omega), if_pos hk]
  have hw : ∀ y, wholeIn E (P ++ [x]) y = wholeIn E P y := by
   intro y
   simp only [wholeIn, hnew]
   by_cases hy : y = x
   ·subst hy; simp [hk]
   ·simp [hy]
  have hse : seenIn E x = linkIn E (lkOf x) := by simp [seenIn, hk]
  unfold partW
  cases hp : (prefV vals E P).part (linkE (lkOf x)) with
  | none =>
   have h : linkIn E (lkOf x) = false := by
    rw [← hwl]
    simp only [prefV] at hp
    split at hp
    ·cases hp
    ·exact Bool.eq_false_iff.2 (by assumption)
   refine Vw.ext' ?_ ?_ (fun y => ?_) (fun _ => rfl) (fun _ => rfl) (fun y => ?_) (fun y => ?_)
   ·simp only [prefV, filter_snoc, hk]; simp
   ·simp only [prefV, filter_snoc, hk]; simp
   ·simp only [prefV, filter_snoc, hk]; simp
   ·simp only [prefV, hw, filter_snoc]
    by_cases hy : wholeIn E P y = true
    ·have hq : partOf y x = false := by
      cases hq : partOf y x with
      | false => rfl
      | true =>
       exfalso
       simp only [partOf, hk, Bool.or_eq_true, Bool.and_eq_true, decide_eq_true_eq] at hq
       rcases hq with ⟨_, h1, _⟩ | ⟨h1, _, h2, h3, h4⟩
       ·omega
       ·have hyP : y ∈ P := by simp only [wholeIn, Bool.and_eq_true, decide_eq_true_eq] at hy; exact hy.1
        have he : linkE (lkOf x) = y := by rw [show lkOf x = ⟨y.a, y.b, y.c⟩ from by unfold lkOf; rw [h2, h3, h4]]; exact hx1 y h1 hyP
        rw [← hwl, he, hy] at h; cases h
     simp [hy, hq]
    ·simp [hy]
   ·simp only [prefV, hnew]
    by_cases hy : y = x
    ·subst hy; simp [hse, h]
    ·simp [hy]
  | some ps =>
   have hps : wholeIn E P (linkE (lkOf x)) = true ∧ ps = P.filter (partOf (linkE (lkOf x))) := by
    simp only [prefV] at hp
    split at hp
    ·exact ⟨by assumption, (Option.some.inj hp).symm⟩
    ·cases hp
   have h : linkIn E (lkOf x) = true := by rw [← hwl]; exact hps.1
   refine Vw.ext' ?_ ?_ (fun y => ?_) (fun _ => rfl) (fun _ => rfl) (fun y => ?_) (fun y => ?_)
   ·simp only [prefV, filter_snoc, hk]; simp
   ·simp only [prefV, filter_snoc, hk]; simp
   ·simp only [prefV, filter_snoc, hk]; simp
   ·simp only [prefV, hw, filter_snoc, updG]
    by_cases hy : y = linkE (lkOf x)
    ·subst hy
     have hq : partOf (linkE (lkOf x)) x = true := by simp [partOf, hk, linkE, lkOf]
     rw [if_pos rfl, if_pos hps.1, if_pos hq, hps.2]
    ·rw [if_neg hy]
     by_cases hyw : wholeIn E P y = true
     ·have hq : partOf y x = false := by
       cases hq : partOf y x with
       | false => rfl
       | true =>
        exfalso
        simp only [partOf, hk, Bool.or_eq_true, Bool.and_eq_true, decide_eq_true_eq] at hq
        rcases hq with ⟨_, h1, _⟩ | ⟨h1, _, h2, h3, h4⟩
        ·omega
        ·have hyP : y ∈ P := by simp only [wholeIn, Bool.and_eq_true, decide_eq_true_eq] at hyw; exact hyw.1
         exact hy (by rw [show lkOf x = ⟨y.a, y.b, y.c⟩ from by unfold lkOf; rw [h2, h3, h4]]; exact (hx1 y h1 hyP).symm)
      simp [hyw, hq]
     ·simp [hyw]
   ·simp only [prefV, hnew, updG]
    by_cases hy : y = x
    ·subst hy; simp [hse, h]
    ·simp [hy]
end
def KRise (E : List El) : Prop := E.Pairwise fun a b => a.k ≤ b.k ∧ a ≠ b
theorem see_next {vals : El → List Va} {E P R : List El} {x : El} (hE : E = P ++ x :: R) (hr : KRise E) (hok : ∀ y ∈ E, ElOk y) : seeV vals (prefV vals E P) x = prefV vals E (P ++ [x]) := by
 have hr0 := hr
 rw [hE, KRise, List.pairwise_append] at hr0
 obtain ⟨_, h2, h3⟩ := hr0
 rw [List.pairwise_cons] at h2
 refine see_step hE (fun y hy hk => ?_) (fun y hy => (h3 y hy x List.mem_cons_self).1) (fun h => (h3 x h x List.mem_cons_self).2 rfl) (hok x (by rw [hE]; simp)) (fun y hy => hok y (by rw [hE]; simp [hy]))
 rw [hE, List.mem_append, List.mem_cons] at hy
 rcases hy with hy | rfl | hy
 ·exact hy
 ·omega
 ·have := (h2.1 y hy).1; omega
theorem see_take {vals : El → List Va} {E : List El} {j : Nat} {x : El} (hj : E[j]? = some x) (hr : KRise E) (hok : ∀ y ∈ E, ElOk y) : seeV vals (prefV vals E (E.take j)) x = prefV vals E (E.take (j + 1)) := by
 have hlt := (List.getElem?_eq_some_iff.1 hj).1
 have hx := (List.getElem?_eq_some_iff.1 hj).2
 rw [List.take_add_one, hj]
 refine see_next (R := E.drop (j + 1)) ?_ hr hok
 rw [← hx, ← List.drop_eq_getElem_cons hlt, List.take_append_drop]
theorem pref_start (vals : El → List Va) (E : List El) : prefV vals E [] = noV := by
 refine Vw.ext' rfl rfl (fun _ => rfl) (fun _ => rfl) (fun _ => rfl) (fun y => ?_) (fun y => ?_)
 ·simp [prefV, wholeIn, noV]
 ·simp [prefV, noV]
def outL (l : List Lk) (key : ByteArray) : List Lk := l.filter fun x => decide (x.f = key)
def innL (l : List Lk) (key : ByteArray) : List Lk := l.filter fun x => decide (x.t = key)
theorem outL_snoc (l : List Lk) (x : Lk) : outL (l ++ [x]) = updG (outL l) x.f (outL l x.f ++ [x]) := by
 funext key
 unfold outL updG
 rw [filter_snoc]
 by_cases h : key = x.f
 ·subst h; simp
 ·simp [h, Ne.symm h]
theorem innL_snoc (l : List Lk) (x : Lk) : innL (l ++ [x]) = updG (innL l) x.t (innL l x.t ++ [x]) := by
 funext key
 unfold innL updG
 rw [filter_snoc]
 by_cases h : key = x.t
 ·subst h; simp
 ·simp [h, Ne.symm h]
def linkH (has : El → Bool) (x : Lk) : Bool := has (linkE x) && (has (nodeE x.f) && has (nodeE x.t))
def seenH (has : El → Bool) (x : El) : Bool := if x.k = 2 ∨ x.k = 4 then has (nodeE x.a) else if x.k = 5 then linkH has (lkOf x) else false
def nodesR (has : El → Bool) (L : List El) : List ByteArray := (L.filter fun e => decide (e.k = 1) && has (nodeE e.a)).map (·.a)
def labR (has : El → Bool) (L : List El) (key : ByteArray) : List ByteArray := (L.filter fun e => decide (e.k = 2) && (decide (e.a = key) && (has e && seenH has e))).map (·.d)
def linksR (has : El → Bool) (L : List El) : List Lk := (L.filter fun e => decide (e.k = 3) && linkH has (lkOf e)).map lkOf
def bearB (x : El) : Bool := (decide (x.k = 1) || decide (x.k = 3)) && (decide (x.d = ⟨#[]⟩) && (!decide (x.k = 1) || (decide (x.b = ⟨#[]⟩) && decide (x.c = ⟨#[]⟩))))
def hasValR (has : El → Bool) (x : El) : Bool := decide (4 ≤ x.k) && (seenH has x && has x)
def namesR (has : El → Bool) (L : List El) (x : El) : List ByteArray := (L.filter fun e => bearB x && (partOf x e && hasValR has e)).map (·.d)
section
variable {has : El → Bool} {L : List El} {vals : El → List Va}
theorem nodeIn_has (hm : ∀ x, has x = true → x ∈ L) (key : ByteArray) : nodeIn (L.filter has) key = has (nodeE key) := by
 unfold nodeIn
 by_cases h : has (nodeE key) = true
 ·rw [h]; simpa using ⟨hm _ h, h⟩
 ·simp [h]
theorem linkIn_has (hm : ∀ x, has x = true → x ∈ L) (x : Lk) : linkIn (L.filter has) x = linkH has x := by
 unfold linkIn linkH
 rw [nodeIn_has hm, nodeIn_has hm]
 congr 1
 by_cases h : has (linkE x) = true
 ·rw [h]; simpa using ⟨hm _ h, h⟩
 ·simp [h]
theorem nodes_eq (hok : ∀ x ∈ L, ElOk x) : nodesR has L = (prefV vals (L.filter has) (L.filter has)).nodes := by
 unfold nodesR prefV
 dsimp only
 rw [List.filter_filter]
 congr 1
 refine List.filter_congr fun x hx => ?_
 by_cases hk : x.k = 1
 ·rw [← (hok x hx).node hk]
 ·simp [hk]
theorem lab_eq (hm : ∀ x, has x = true → x ∈ L) (key : ByteArray) : labR has L key = (prefV vals (L.filter has) (L.filter has)).lab key := by
 unfold labR prefV
 dsimp only
 rw [List.filter_filter]
 congr 1
 refine List.filter_congr fun x hx => ?_
 by_cases hk : x.k = 2
 ·rw [nodeIn_has hm]
  by_cases ha : x.a = key
  ·subst ha
   simp only [seenH, hk, true_or, if_true, decide_true, Bool.true_and, Bool.and_comm]
  ·simp [ha]
 ·simp [hk]
theorem links_eq (hm : ∀ x, has x = true → x ∈ L) (hok : ∀ x ∈ L, ElOk x) : linksR has L = (prefV vals (L.filter has) (L.filter has)).links := by
 unfold linksR prefV
 dsimp only
 rw [List.filter_filter]
 congr 1
 refine List.filter_congr fun x hx => ?_
 rw [linkIn_has hm]
 by_cases hk : x.k = 3
 ·simp only [hk, decide_true, Bool.true_and, linkH]
  rw [← (hok x hx).link hk]
  cases has x <;> simp
 ·simp [hk]
theorem names_eq (hm : ∀ x, has x = true → x ∈ L) (hok : ∀ x ∈ L, ElOk x) (x : El) : namesR has L x = (((prefV vals (L.filter has) (L.filter has)).part x).getD []).map (·.d) := by
 unfold namesR prefV
 dsimp only
 by_cases hw : wholeIn (L.filter has) (L.filter has) x = true
 ·rw [if_pos hw]
  simp only [Option.getD_some]
  rw [List.filter_filter]
  congr 1
  simp only [wholeIn, Bool.and_eq_true, decide_eq_true_eq, Bool.or_eq_true, List.mem_filter] at hw
  obtain ⟨⟨hxL, hx⟩, hw⟩ := hw
  refine List.filter_congr fun y hy => ?_
  rcases hw with h1 | ⟨h3, hl⟩
  ·have he := (hok x hxL).node h1
   have hb : bearB x = true := by rw [he]; simp [bearB, nodeE]
   by_cases hq : partOf x y = true
   ·have hq' := hq
    simp only [partOf, Bool.or_eq_true, Bool.and_eq_true, decide_eq_true_eq] at hq'
    rcases hq' with ⟨_, h4, ha⟩ | ⟨h3, _⟩
    ·have hs : seenH has y = true := by
      simp only [seenH, h4, or_true, if_true, ha]; rw [← he]; exact hx
     rw [hb, hq]
     simp [hasValR, h4, hs]
    ·omega
   ·simp [hq]
  ·have he := (hok x hxL).link h3
   have hb : bearB x = true := by rw [he]; simp [bearB, linkE]
   rw [linkIn_has hm] at hl
   by_cases hq : partOf x y = true
   ·have hq' := hq
    simp only [partOf, Bool.or_eq_true, Bool.and_eq_true, decide_eq_true_eq] at hq'
    rcases hq' with ⟨h1, _⟩ | ⟨_, h5, ha, hb', hc⟩
    ·omega
    ·have hs : seenH has y = true := by
      have hy : lkOf y = lkOf x := by unfold lkOf; rw [ha, hb', hc]
      simp only [seenH, h5, hy]
      simpa using hl
     rw [hb, hq]
     simp [hasValR, h5, hs]
   ·simp [hq]
 ·rw [if_neg hw]
  simp only [Option.getD_none, List.map_nil]
  rw [List.map_eq_nil_iff, List.filter_eq_nil_iff]
  intro y hy h
  apply hw
  simp only [Bool.and_eq_true] at h
  obtain ⟨hb, hq, hv⟩ := h
  simp only [hasValR, Bool.and_eq_true, decide_eq_true_eq] at hv
  obtain ⟨_, hs, _⟩ := hv
  simp only [bearB, Bool.and_eq_true, Bool.or_eq_true, decide_eq_true_eq, Bool.not_eq_true', decide_eq_false_iff_not] at hb
  obtain ⟨_, hd, hb⟩ := hb
  simp only [partOf, Bool.or_eq_true, Bool.and_eq_true, decide_eq_true_eq] at hq
  rcases hq with ⟨h1, h4, ha⟩ | ⟨h3, h5, ha, hb', hc⟩
  ·have hx : x = nodeE x.a := (El.ext_iff' _ _).2 ⟨h1, rfl, by rcases hb with h | h; exact absurd h1 h; exact h.1, by rcases hb with h | h; exact absurd h1 h; exact h.2, hd⟩
   have hn : has x = true := by
    simp only [seenH, h4, or_true, if_true, ha] at hs
    rw [hx]; exact hs
   simp only [wholeIn, List.mem_filter, Bool.and_eq_true, decide_eq_true_eq, Bool.or_eq_true]
   exact ⟨⟨hm _ hn, hn⟩, .inl h1⟩
  ·have hx : x = linkE (lkOf x) := (El.ext_iff' _ _).2 ⟨h3, rfl, rfl, rfl, hd⟩
   have hl : linkH has (lkOf x) = true := by
    have hy : lkOf y = lkOf x := by unfold lkOf; rw [ha, hb', hc]
    simp only [seenH, h5, hy] at hs
    simpa using hs
   have hn : has x = true := by
    simp only [linkH, Bool.and_eq_true] at hl
    rw [hx]; exact hl.1
   simp only [wholeIn, List.mem_filter, Bool.and_eq_true, decide_eq_true_eq, Bool.or_eq_true]
   exact ⟨⟨hm _ hn, hn⟩, .inr ⟨h3, by rw [linkIn_has hm]; exact hl⟩⟩
theorem val_eq (hm : ∀ x, has x = true → x ∈ L) (x : El) : (prefV vals (L.filter has) (L.filter has)).val x = if hasValR has x = true ∧ x.k ≤ 5 then vals x else [] := by
 unfold prefV
 dsimp only
 have h : (x ∈ L.filter has ∧ seenIn (L.filter has) x = true) ↔ (hasValR has x = true ∧ x.k ≤ 5) := by
  simp only [seenIn, hasValR, nodeIn_has hm, linkIn_has hm, Bool.or_eq_true, Bool.and_eq_true, decide_eq_true_eq, List.mem_filter]
  constructor
  ·rintro ⟨⟨h1, h2⟩, ⟨h4, h5⟩ | ⟨h4, h5⟩⟩
   ·exact ⟨⟨by omega, by simp [seenH, h4, h5], h2⟩, by omega⟩
   ·exact ⟨⟨by omega, by simpa [seenH, h4] using h5, h2⟩, by omega⟩
  ·rintro ⟨⟨h1, h2, h3⟩, h4⟩
   refine ⟨⟨hm _ h3, h3⟩, ?_⟩
   have : x.k = 4 ∨ x.k = 5 := by omega
   rcases this with hk | hk
   ·exact .inl ⟨hk, by simpa [seenH, hk] using h2⟩
   ·exact .inr ⟨hk, by simpa [seenH, hk] using h2⟩
 by_cases hq : hasValR has x = true ∧ x.k ≤ 5
 ·rw [if_pos (h.2 hq), if_pos hq]
 ·rw [if_neg (fun e => hq (h.1 e)), if_neg hq]
end
end Go.Proofs.YtdgglhlofnigkaaGreatDoor
