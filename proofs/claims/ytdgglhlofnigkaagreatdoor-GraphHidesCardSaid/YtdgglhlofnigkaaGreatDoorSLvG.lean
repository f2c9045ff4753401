/-
  A REGION THAT DRAWS ITS ORDER, IN WHICH ONE OPERATION TURNS MEMORY, THE LAST BUT ONE, WHICH WAITS FOR ALL AHEAD OF IT, TURNS IT AGAIN, AND THE LAST LAYS ITS VALUE INTO A SLOT (s = append(append(.., x), ..)): the rule. StoreLive's mathematics: events sorted by dots, elements in order, what is left of each. hedgerowref07.Sorted: the contract, by a walk. hedgerowref07.Elems: the contract, by a walk. hedgerowlaw07.sameEntries: the contract, by a walk; what StoreLive asks. Conditions: lengths.
-/
import Derived.Test.YtdgglhlofnigkaaGreatDoorStGF
import Derived.Test.YtdgglhlofnigkaaGreatDoorJSPuM
import Derived.Test.YtdgglhlofnigkaaGreatDoorStGI
namespace Go.Proofs.YtdgglhlofnigkaaGreatDoor.Lt
open Go.RowKit
section
variable {P : Program} {ops : Array Oper} {Q : Exit → Act → World → Prop} {md : Region.Mode}
theorem Finds.lateB {a0 a : Act} {i : Nat} {o : Oper} {L : Nat → Bool} {vals : Nat → Value} (hF : Finds md ops a0 i o L vals a) : ∀ d : Tmp, (ops.all fun oj => oj.dst != some d || oj.after.any fun e => e.on == i && Region.binds md e) = true → a.eval (.tmp d) = a0.eval (.tmp d) := fun d hd => hF.later d fun j oj hj hl hjd => by
 obtain ⟨hjl, rfl⟩ := Array.getElem?_eq_some_iff.1 hj
 rw [Array.all_eq_true] at hd
 have h2 := hd j hjl
 rw [hjd] at h2
 simp only [bne_self_eq_false, Bool.false_or, Array.any_eq_true', Bool.and_eq_true, beq_iff_eq] at h2
 obtain ⟨e, he, hei, hb⟩ := h2
 have h3 := hF.closed j _ hj hl e he hb
 rw [hei, hF.open_] at h3
 cases h3
theorem wpAny_two (pure : Nat → Bool) (p : Nat → Value → World → Prop) (a0 : Act) (w1 : World) (mid last : Nat) (om ol oz : Oper) (J J2 : Value → World → Prop)
  (hsz : ops.size = last + 2) (hml : mid < last) (hom : ops[mid]? = some om) (hol : ops[last]? = some ol) (hoz : ops[last + 1]? = some oz) (hpm : pure mid = false)
  (hwm : (List.range last).all (fun i => pure i || i == mid || reachB md ops mid (aftB md om) i) = true) (hwl : (List.range last).all (reachB md ops last (aftB md ol)) = true) (hwz : (List.range (last + 1)).all (reachB md ops (last + 1) (aftB md oz)) = true)
  (hap : apartB ops = true) (hah : aheadB md ops = true) (hin : (List.range ops.size).all (fun i => match ops[i]? with | some o => (match o.dst with | some d => decide (d < a0.tmps.size) | none => true) | none => true) = true)
  (hst : ∀ i v w w', Below w.heap.size w w' → p i v w → p i v w') (hpw : ∀ i v w w', pure i = true → p i v w → p i v w')
  (hop : AllIdx (fun i o => i < last → i ≠ mid → pure i = false → ∀ (a : Act) (w : World), Below w1.heap.size w1 w → (∀ d : Tmp, (ops.all fun oj => oj.dst != some d || oj.after.any fun e => e.on == i && Region.binds md e) = true → a.eval (.tmp d) = a0.eval (.tmp d)) →
   (∀ e ∈ o.after, Region.binds md e = true → ∀ oj d, ops[e.on]? = some oj → oj.dst = some d → p e.on (a.eval (.tmp d)) w) → ops[i]? = some o → wpOp P ops Q i (Step1 w1 p i a o w) a w) 0 ops.toList)
  (hpu : AllIdx (fun i o => i < last → pure i = true → ∀ (a : Act) (w : World), (∀ d : Tmp, (ops.all fun oj => oj.dst != some d || oj.after.any fun e => e.on == i && Region.binds md e) = true → a.eval (.tmp d) = a0.eval (.tmp d)) →
   (∀ e ∈ o.after, Region.binds md e = true → pure e.on = true → ∀ oj d, ops[e.on]? = some oj → oj.dst = some d → p e.on (a.eval (.tmp d)) w) → ops[i]? = some o → wpOp P ops Q i (fun a' w' => ∃ v, a' = a.put o.dst v ∧ p i v w ∧ w' = w) a w) 0 ops.toList)
  (hmid : ∀ (a : Act) (w : World), Below w1.heap.size w1 w → (∀ d : Tmp, (ops.all fun o => o.dst != some d) = true → a.eval (.tmp d) = a0.eval (.tmp d)) →
   (∀ e ∈ om.after, Region.binds md e = true → ∀ oj d, ops[e.on]? = some oj → oj.dst = some d → p e.on (a.eval (.tmp d)) w) →
   wpOp P ops Q mid (fun a' w' => ∃ v, a' = a.put om.dst v ∧ J v w') a w)
  (hlast : ∀ (vals : Nat → Value) (a : Act) (w : World), J (vals mid) w →
   (∀ (j : Nat) (oj : Oper) (d : Tmp), ops[j]? = some oj → j < last → oj.dst = some d → a.eval (.tmp d) = vals j) → (∀ j, j < last → pure j = true → p j (vals j) w) →
   wpOp P ops Q last (fun a' w' => ∃ v, a' = a.put ol.dst v ∧ J2 v w') a w)
  (hfin : ∀ (v : Value) (a : Act) (w : World), J2 v w → (∀ d : Tmp, ol.dst = some d → a.eval (.tmp d) = v) → wpOp P ops Q (last + 1) (fun a' w' => ∃ v', a' = a.put oz.dst v' ∧ v' = v ∧ J2 v w') a w)
  (hend : ∀ vals w, J2 (vals (last + 1)) w → Q .normal (layN ops (fun _ => true) vals (List.range ops.size) a0) w) :
  wpAny P md ops Q ops.size (Array.replicate ops.size false) a0 w1.drew := by
 obtain ⟨Inv, hInv⟩ : ∃ Inv : (Nat → Bool) → (Nat → Value) → World → Prop, Inv = fun L vals w => if L (last + 1) = true then J2 (vals (last + 1)) w else if L last = true then J2 (vals last) w else if L mid = true then (∀ i, i < last → pure i = false → L i = true) ∧ J (vals mid) w ∧ (∀ i, i < last → pure i = true → L i = true → p i (vals i) w)
  else Below w1.heap.size w1 w ∧ ∀ i, i < last → L i = true → p i (vals i) w := ⟨_, rfl⟩
 refine wpAny_inv Inv a0 w1.drew hap hah hin (fun L h => ?_) (allIdx_of _ _ fun i o hi => ?_) (fun L vals w hL hI => ?_)
 ·rw [hInv]
  show if L (last + 1) = true then _ else if L last = true then _ else if L mid = true then _ else _
  rw [if_neg (by rw [h]; exact Bool.false_ne_true), if_neg (by rw [h]; exact Bool.false_ne_true), if_neg (by rw [h]; exact Bool.false_ne_true)]
  exact ⟨(Below.refl _ _).drew, fun i _ hl => by rw [h i] at hl; cases hl⟩
 ·rw [Nat.zero_add]
  intro L vals a w hF hI
  have hil : i < ops.size := (Array.getElem?_eq_some_iff.1 hF.it).1
  have hnz : ¬ L (last + 1) = true := by
   intro h
   by_cases hlt : i < last + 1
   ·have h1 := hF.closed (last + 1) oz hoz h
    simp only [List.all_eq_true, List.mem_range] at hwz
    have h2 := reachB_spec hF.closed (last + 1) _ (fun k hk => by
     unfold aftB at hk
     rw [Array.any_eq_true'] at hk
     obtain ⟨e, he, h3⟩ := hk
     simp only [Bool.and_eq_true, beq_iff_eq] at h3
     rw [← h3.1]
     exact h1 e he h3.2) i (hwz i hlt)
    rw [hF.open_] at h2; cases h2
   ·have : i = last + 1 := by omega
    subst this
    rw [hF.open_] at h; cases h
  by_cases hiz : i = last + 1
  ·subst hiz
   have hoo : o = oz := by
    have := hF.it
    rw [hoz] at this; exact (Option.some.inj this).symm
   subst hoo
   have hl : L last = true := by
    simp only [List.all_eq_true, List.mem_range] at hwz
    refine reachB_spec hF.closed (last + 1) _ (fun k hk => ?_) last (hwz last (Nat.lt_succ_self _))
    unfold aftB at hk
    rw [Array.any_eq_true'] at hk
    obtain ⟨e, he, h3⟩ := hk
    simp only [Bool.and_eq_true, beq_iff_eq] at h3
    rw [← h3.1]
    exact hF.ahead e he h3.2
   rw [hInv] at hI
   replace hI : J2 (vals last) w := by
    have h : (if L (last + 1) = true then _ else if L last = true then _ else _) := hI
    rw [if_neg hnz, if_pos hl] at h
    exact h
   refine wpOp_mono ?_ (hfin (vals last) a w hI fun d hd => hF.slot last ol d hol hd hl)
   rintro a' w' ⟨v, rfl, rfl, hK⟩
   refine ⟨_, rfl, fun L' h2 h3 => ?_⟩
   rw [hInv]
   show if L' (last + 1) = true then _ else _
   rw [if_pos h3]
   simpa using hK
  have hil1 : i < last + 1 := by omega
  have hnl : ¬ L last = true := by
   intro h
   by_cases hlt : i < last
   ·have h1 := hF.closed last ol hol h
    simp only [List.all_eq_true, List.mem_range] at hwl
    have h2 := reachB_spec hF.closed last _ (fun k hk => by
     unfold aftB at hk
     rw [Array.any_eq_true'] at hk
     obtain ⟨e, he, h3⟩ := hk
     simp only [Bool.and_eq_true, beq_iff_eq] at h3
     rw [← h3.1]
     exact h1 e he h3.2) i (hwl i hlt)
    rw [hF.open_] at h2; cases h2
   ·have : i = last := by omega
    subst this
    rw [hF.open_] at h; cases h
  rw [hInv] at hI
  replace hI : if L mid = true then (∀ i, i < last → pure i = false → L i = true) ∧ J (vals mid) w ∧ (∀ i, i < last → pure i = true → L i = true → p i (vals i) w)
   else Below w1.heap.size w1 w ∧ ∀ i, i < last → L i = true → p i (vals i) w := by
   have h : (if L (last + 1) = true then _ else if L last = true then _ else _) := hI
   rw [if_neg hnz, if_neg hnl] at h
   exact h
  have hsl : ∀ e ∈ o.after, Region.binds md e = true → ∀ oj d, ops[e.on]? = some oj → oj.dst = some d → a.eval (.tmp d) = vals e.on ∧ e.on < last ∧ L e.on = true := by
   intro e he hb oj d hoj hd
   have hl := hF.ahead e he hb
   have hel : e.on < ops.size := (Array.getElem?_eq_some_iff.1 hoj).1
   have hne : e.on ≠ last := fun h => hnl (by rw [← h]; exact hl)
   have hne2 : e.on ≠ last + 1 := fun h => hnz (by rw [← h]; exact hl)
   exact ⟨hF.slot e.on oj d hoj hd hl, by omega, hl⟩
  by_cases hlt : i < last
  ·have hkeep : ∀ L' : Nat → Bool, (∀ j, j ≠ i → L' j = L j) → ¬ L' last = true := fun L' h h2 => hnl (by rw [← h last (by omega)]; exact h2)
   have hkeepz : ∀ L' : Nat → Bool, (∀ j, j ≠ i → L' j = L j) → ¬ L' (last + 1) = true := fun L' h h2 => hnz (by rw [← h (last + 1) (by omega)]; exact h2)
   cases hpi : pure i
   ·by_cases him : i = mid
    ·subst him
     have hoo : o = om := by
      have := hF.it
      rw [hom] at this; exact (Option.some.inj this).symm
     subst hoo
     rw [if_neg (by rw [hF.open_]; exact Bool.false_ne_true)] at hI
     refine wpOp_mono ?_ (hmid a w hI.1 hF.old (fun e he hb oj d hoj hd => ?_))
     ·rintro a' w' ⟨v, rfl, hJ⟩
      refine ⟨v, rfl, fun L' h2 h3 => ?_⟩
      rw [hInv]
      show if L' (last + 1) = true then _ else if L' last = true then _ else if L' i = true then _ else _
      rw [if_neg (hkeepz L' h2), if_neg (hkeep L' h2), if_pos h3]
      refine ⟨fun j hj hpj => ?_, by simpa using hJ, fun j hj hpj hl => ?_⟩
      ·by_cases hji : j = i
       ·subst hji; exact h3
       ·rw [h2 j hji]
        simp only [List.all_eq_true, List.mem_range, Bool.or_eq_true, beq_iff_eq] at hwm
        rcases hwm j hj with (h | h) | h
        ·rw [hpj] at h; cases h
        ·exact absurd h hji
        ·refine reachB_spec hF.closed i _ (fun k hk => ?_) j h
         unfold aftB at hk
         rw [Array.any_eq_true'] at hk
         obtain ⟨e, he, h4⟩ := hk
         simp only [Bool.and_eq_true, beq_iff_eq] at h4
         rw [← h4.1]
         exact hF.ahead e he h4.2
      ·have hji : j ≠ i := fun e => by rw [e, hpi] at hpj; cases hpj
       simp only [hji, if_false]
       exact hpw j _ w w' hpj (hI.2 j hj (by rw [← h2 j hji]; exact hl))
     ·obtain ⟨h1, h2, h3⟩ := hsl e he hb oj d hoj hd
      rw [h1]; exact hI.2 e.on h2 h3
    ·have hnm : ¬ L mid = true := by
      intro h
      rw [if_pos h] at hI
      have := hI.1 i hlt hpi
      rw [hF.open_] at this; cases this
     rw [if_neg hnm] at hI
     have h1 := allIdx_get ops.toList 0 i o hop hi
     rw [Nat.zero_add] at h1
     refine wpOp_mono ?_ (h1 hlt him hpi a w hI.1 (Finds.lateB hF) (fun e he hb oj d hoj hd => ?_) hF.it)
     ·rintro a' w' ⟨⟨v, rfl, hp⟩, hb, hI'⟩
      refine ⟨v, rfl, fun L' h2 h3 => ?_⟩
      rw [hInv]
      show if L' (last + 1) = true then _ else if L' last = true then _ else if L' mid = true then _ else _
      rw [if_neg (hkeepz L' h2), if_neg (hkeep L' h2), if_neg (by rw [h2 mid (fun e => him e.symm)]; exact hnm)]
      refine ⟨hI', fun j hj hl => ?_⟩
      by_cases hji : j = i
      ·subst hji; simpa using hp
      ·simp only [hji, if_false]
       exact hst j _ w w' hb (hI.2 j hj (by rw [← h2 j hji]; exact hl))
     ·obtain ⟨h2, h3, h4⟩ := hsl e he hb oj d hoj hd
      rw [h2]; exact hI.2 e.on h3 h4
   ·have him : i ≠ mid := fun e => by rw [e, hpm] at hpi; cases hpi
    have h1 := allIdx_get ops.toList 0 i o hpu hi
    rw [Nat.zero_add] at h1
    have hpd : ∀ j, j < last → pure j = true → L j = true → p j (vals j) w := by
     intro j hj hpj hl
     by_cases hm : L mid = true
     ·rw [if_pos hm] at hI; exact hI.2.2 j hj hpj hl
     ·rw [if_neg hm] at hI; exact hI.2 j hj hl
    refine wpOp_mono ?_ (h1 hlt hpi a w (Finds.lateB hF) (fun e he hb hpe oj d hoj hd => ?_) hF.it)
    ·rintro a' w' ⟨v, rfl, hp, rfl⟩
     refine ⟨v, rfl, fun L' h2 h3 => ?_⟩
     rw [hInv]
     show if L' (last + 1) = true then _ else if L' last = true then _ else if L' mid = true then _ else _
     rw [if_neg (hkeepz L' h2), if_neg (hkeep L' h2), h2 mid (fun e => him e.symm)]
     by_cases hm : L mid = true
     ·rw [if_pos hm] at hI ⊢
      refine ⟨fun j hj hpj => ?_, ?_, fun j hj hpj hl => ?_⟩
      ·have hji : j ≠ i := fun e => by rw [e, hpi] at hpj; cases hpj
       rw [h2 j hji]; exact hI.1 j hj hpj
      ·simp only [Ne.symm him, if_false]; exact hI.2.1
      ·by_cases hji : j = i
       ·subst hji; simpa using hp
       ·simp only [hji, if_false]
        exact hI.2.2 j hj hpj (by rw [← h2 j hji]; exact hl)
     ·rw [if_neg hm] at hI ⊢
      refine ⟨hI.1, fun j hj hl => ?_⟩
      by_cases hji : j = i
      ·subst hji; simpa using hp
      ·simp only [hji, if_false]
       exact hI.2 j hj (by rw [← h2 j hji]; exact hl)
    ·obtain ⟨h2, h3, h4⟩ := hsl e he hb oj d hoj hd
     rw [h2]; exact hpd e.on h3 hpe h4
  ·have hie : i = last := by omega
   subst hie
   have hoo : o = ol := by
    have := hF.it
    rw [hol] at this; exact (Option.some.inj this).symm
   subst hoo
   have hall : ∀ j, j < i → L j = true := by
    intro j hj
    simp only [List.all_eq_true, List.mem_range] at hwl
    refine reachB_spec hF.closed i _ (fun k hk => ?_) j (hwl j hj)
    unfold aftB at hk
    rw [Array.any_eq_true'] at hk
    obtain ⟨e, he, h3⟩ := hk
    simp only [Bool.and_eq_true, beq_iff_eq] at h3
    rw [← h3.1]
    exact hF.ahead e he h3.2
   rw [if_pos (hall mid hml)] at hI
   refine wpOp_mono ?_ (hlast vals a w hI.2.1 (fun j oj d hoj hj hd => hF.slot j oj d hoj hd (hall j hj)) (fun j hj hpj => hI.2.2 j hj hpj (hall j hj)))
   rintro a' w' ⟨v, rfl, hK⟩
   refine ⟨v, rfl, fun L' h2 h3 => ?_⟩
   rw [hInv]
   show if L' (i + 1) = true then _ else if L' i = true then _ else _
   rw [if_neg (by rw [h2 (i + 1) (by omega)]; exact hnz), if_pos h3]
   simpa using hK
 ·rw [hInv] at hI
  have h : (if L (last + 1) = true then _ else _) := hI
  rw [if_pos (hL (last + 1) (by omega))] at h
  exact hend vals w h
end
end Go.Proofs.YtdgglhlofnigkaaGreatDoor.Lt
namespace Go.Proofs.YtdgglhlofnigkaaGreatDoor
open Go.RowKit Go.MapKept Go.Sort
section
variable {α : Type} {c : α → α → Int}
def insP (p : α → Bool) (x : α) (l : List α) : List α := l.takeWhile p ++ x :: l.dropWhile p
theorem insP_perm (p : α → Bool) (x : α) (l : List α) : (insP p x l).Perm (x :: l) := by
 unfold insP
 refine List.perm_middle.trans ?_
 rw [List.takeWhile_append_dropWhile]
theorem tw_all {p : α → Bool} : ∀ (l : List α), ∀ y ∈ l.takeWhile p, p y = true
 | [], y, h => by cases h
 | a :: l, y, h => by
  simp only [List.takeWhile_cons] at h
  split at h
  ·rename_i hp
   rcases List.mem_cons.1 h with rfl | h
   ·exact hp
   ·exact tw_all l y h
  ·cases h
theorem dw_head {p : α → Bool} : ∀ (l : List α) (y : α) (m : List α), l.dropWhile p = y :: m → p y = false
 | [], y, m, h => by cases h
 | a :: l, y, m, h => by
  simp only [List.dropWhile_cons] at h
  split at h
  ·exact dw_head l y m h
  ·rename_i hp
   injection h with h1 h2
   subst h1
   simpa using hp
theorem insP_sorted (hc : CmpOk c) (x : α) {l : List α} (h : l.Pairwise fun a b => ltOf c b a = false) : (insP (fun y => decide (c y x < 0)) x l).Pairwise fun a b => ltOf c b a = false := by
 have h0 : (l.takeWhile (fun y => decide (c y x < 0)) ++ l.dropWhile (fun y => decide (c y x < 0))).Pairwise fun a b => ltOf c b a = false := by rwa [List.takeWhile_append_dropWhile]
 obtain ⟨h1, h2, h3⟩ := List.pairwise_append.1 h0
 have hx : ∀ y ∈ l.dropWhile (fun y => decide (c y x < 0)), ltOf c y x = false := by
  cases hd : l.dropWhile (fun y => decide (c y x < 0)) with
  | nil => intro y hy; cases hy
  | cons a m =>
   have ha := dw_head l a m hd
   rw [hd] at h2
   intro y hy
   have e1 := of_decide_eq_false ha
   unfold ltOf
   apply decide_eq_false
   rcases List.mem_cons.1 hy with rfl | hy
   ·exact e1
   ·have e2 := (List.pairwise_cons.1 h2).1 y hy
    unfold ltOf at e2
    have e2 := of_decide_eq_false e2
    have a1 := hc.anti a x
    have a2 := hc.anti y a
    have a3 := hc.anti y x
    have := hc.trans x a y (by omega) (by omega)
    have := hc.anti x y
    omega
 unfold insP
 refine List.pairwise_append.2 ⟨h1, List.pairwise_cons.2 ⟨hx, h2⟩, fun a ha b hb => ?_⟩
 rcases List.mem_cons.1 hb with rfl | hb
 ·have e1 := of_decide_eq_true (tw_all l a ha)
  have := hc.anti a b
  unfold ltOf
  apply decide_eq_false
  omega
 ·exact h3 a ha b hb
end
def evP (e : Ev) : Dt × Va := (dtOf e, vaOf e)
theorem live_iff {L : List Ev} (hL : ∀ e ∈ L, okB e = true) {x : El} {e : Ev} (he : e ∈ L) : liveB L x e = true ↔ liveP L x e := by
 obtain ⟨n, hn, h16, h1, h2⟩ := ok_dot (hL e he)
 have hd : dotB e.r e.c = true := (dotB_iff _ _).2 ⟨n, hn, h16, h1, h2⟩
 unfold liveB liveP
 simp only [Bool.and_eq_true, decide_eq_true_eq, Bool.or_eq_true, beq_iff_eq, List.all_eq_true]
 constructor
 ·rintro ⟨⟨a, b⟩, c⟩
  refine ⟨a, b, fun f hf h1 h2 h3 => ?_⟩
  have := c f hf
  simp [undoB, h1, h2, h3] at this
  unfold knD knowsB dtOf
  simp only [hd, Bool.true_and]
  exact decide_eq_false (by omega)
 ·rintro ⟨a, b, c⟩
  refine ⟨⟨a, b⟩, fun f hf => ?_⟩
  by_cases h1 : elOf f = x
  ·by_cases h2 : f.op = 1
   ·simp [undoB, h2]
   ·by_cases h3 : dtOf f = dtOf e
    ·simp [undoB, h3]
    ·have := c f hf h1 h2 h3
     unfold knD knowsB dtOf at this
     simp only [hd, Bool.true_and] at this
     have h4 := of_decide_eq_false this
     simp [undoB, h4]
  ·simp [undoB, h1]
theorem live_perm {row : List Ev} (hc : CausL row) (hl : ∀ e ∈ row, Lens e) (x : El) : ((liveL row x).map evP).Perm (entS x (runS row)) := by
 have hok : ∀ e ∈ row, okB e = true := fun e he => (hc.1 e he).1
 have hn2 := keys_nodup_list (OkS.ent_nodup (x := x) (runS_ok row hl).1)
 have hn1 : ((liveL row x).map evP).Nodup := by
  have h1 : ((liveL row x).map dtOf).Nodup := (List.Sublist.map dtOf List.filter_sublist).nodup hc.dots
  refine List.pairwise_map.2 ((List.pairwise_map.1 h1).imp fun {a b} hab e => hab ?_)
  exact (Prod.mk.inj e).1
 refine (List.perm_ext_iff_of_nodup hn1 hn2).2 fun q => ?_
 rw [ent_live _ row rfl hc hl x q]
 unfold liveL
 simp only [List.mem_map, List.mem_filter]
 constructor
 ·rintro ⟨e, ⟨he, h1⟩, rfl⟩
  exact ⟨e, he, (live_iff hok he).1 h1, rfl⟩
 ·rintro ⟨e, he, h1, rfl⟩
  exact ⟨e, ⟨he, (live_iff hok he).2 h1⟩, rfl⟩
theorem live_len {row : List Ev} (hc : CausL row) (hl : ∀ e ∈ row, Lens e) (x : El) : (entS x (runS row)).length = (liveL row x).length := by
 rw [← (live_perm hc hl x).length_eq, List.length_map]
def addL7 (x : El) (out : List El) : List El := if (out.dropWhile fun y => lessB y x).head? = some x then out else insP (fun y => lessB y x) x out
def elsL (l : List Ev) : List El := l.foldl (fun out e => addL7 (elOf e) out) []
def Rise (l : List El) : Prop := l.Pairwise fun a b => cfE a b < 0
theorem cfE_self (a : El) : cfE a a = 0 := by have := cfE_ok.anti a a; omega
theorem cfE_lt {a b c : El} (h : cfE a b < 0) (k : cfE b c < 0) : cfE a c < 0 := by
 have h3 := cfE_ok.trans a b c (by omega) (by omega)
 rcases Int.lt_or_eq_of_le h3 with h4 | h4
 ·exact h4
 ·have := (cfE_ok.zero (x := a) (y := b) (z := c) (by omega) (by omega) h4).1; omega
theorem add_rise {x : El} {l : List El} (h : Rise l) : Rise (addL7 x l) := by
 unfold addL7
 split
 ·exact h
 ·rename_i hne
  have h0 : (l.takeWhile (fun y => lessB y x) ++ l.dropWhile (fun y => lessB y x)).Pairwise fun a b => cfE a b < 0 := by rw [List.takeWhile_append_dropWhile]; exact h
  obtain ⟨h1, h2, h3⟩ := List.pairwise_append.1 h0
  have hx : ∀ y ∈ l.dropWhile (fun y => lessB y x), cfE x y < 0 := by
   cases hd : l.dropWhile (fun y => lessB y x) with
   | nil => intro y hy; cases hy
   | cons a m =>
    have ha := dw_head l a m hd
    rw [hd] at h2 hne
    have hax : cfE x a < 0 := by
     have e1 := of_decide_eq_false ha
     have e2 := cfE_ok.anti a x
     have e3 : cfE a x ≠ 0 := fun e => hne (by rw [cfE_zero _ _ e]; rfl)
     omega
    intro y hy
    rcases List.mem_cons.1 hy with rfl | hy
    ·exact hax
    ·exact cfE_lt hax ((List.pairwise_cons.1 h2).1 y hy)
  unfold insP
  refine List.pairwise_append.2 ⟨h1, List.pairwise_cons.2 ⟨hx, h2⟩, fun a ha b hb => ?_⟩
  rcases List.mem_cons.1 hb with rfl | hb
  ·exact of_decide_eq_true (tw_all l a ha)
  ·exact h3 a ha b hb
theorem add_mem {x y : El} {l : List El} : y ∈ addL7 x l ↔ y = x ∨ y ∈ l := by
 unfold addL7
 split
 ·rename_i h
  constructor
  ·exact .inr
  ·rintro (rfl | h')
   ·have : y ∈ l.dropWhile fun z => lessB z y := by
     cases hd : l.dropWhile fun z => lessB z y with
     | nil => rw [hd] at h; cases h
     | cons a m =>
      rw [hd] at h
      simp only [List.head?_cons, Option.some.injEq] at h
      rw [h]; exact List.mem_cons_self
    exact (List.dropWhile_sublist _).subset this
   ·exact h'
 ·rw [(insP_perm _ x l).mem_iff]
  exact List.mem_cons
theorem add_len (x : El) (l : List El) : (addL7 x l).length ≤ l.length + 1 := by
 unfold addL7
 split
 ·omega
 ·rw [(insP_perm _ x l).length_eq]; simp
theorem els_rise (l : List Ev) : Rise (elsL l) := by
 suffices h : ∀ (l : List Ev) (o : List El), Rise o → Rise (l.foldl (fun out e => addL7 (elOf e) out) o) from h l [] List.Pairwise.nil
 intro l
 induction l with
 | nil => intro o h; exact h
 | cons e l ih => intro o h; exact ih _ (add_rise h)
theorem els_mem (l : List Ev) (x : El) : x ∈ elsL l ↔ ∃ e ∈ l, elOf e = x := by
 suffices h : ∀ (l : List Ev) (o : List El), x ∈ l.foldl (fun out e => addL7 (elOf e) out) o ↔ x ∈ o ∨ ∃ e ∈ l, elOf e = x by
  have := h l []
  unfold elsL
  rw [this]
  simp
 intro l
 induction l with
 | nil => intro o; simp
 | cons e l ih =>
  intro o
  rw [List.foldl_cons, ih, add_mem]
  simp only [List.mem_cons]
  constructor
  ·rintro ((rfl | h) | ⟨f, hf, h⟩)
   ·exact .inr ⟨e, .inl rfl, rfl⟩
   ·exact .inl h
   ·exact .inr ⟨f, .inr hf, h⟩
  ·rintro (h | ⟨f, rfl | hf, h⟩)
   ·exact .inl (.inr h)
   ·exact .inl (.inl h.symm)
   ·exact .inr ⟨f, hf, h⟩
theorem els_len (l : List Ev) : (elsL l).length ≤ l.length := by
 suffices h : ∀ (l : List Ev) (o : List El), (l.foldl (fun out e => addL7 (elOf e) out) o).length ≤ o.length + l.length by simpa [elsL] using h l []
 intro l
 induction l with
 | nil => intro o; simp
 | cons e l ih =>
  intro o
  refine Nat.le_trans (ih _) ?_
  have := add_len (elOf e) o
  simp only [List.length_cons]
  omega
theorem rise_sorted {l : List El} (h : Rise l) : l.Pairwise fun x y => ltOf cfE y x = false := h.imp fun {a b} hab => by
 have := cfE_ok.anti a b
 unfold ltOf
 apply decide_eq_false
 omega
theorem rise_nodup {l : List El} (h : Rise l) : l.Nodup := h.imp fun {a b} hab e => by rw [e, cfE_self] at hab; omega
end Go.Proofs.YtdgglhlofnigkaaGreatDoor
namespace Go.Proofs.YtdgglhlofnigkaaGreatDoor
open Go.RowKit Go.MapKept Go.Sort
section
variable {α : Type} {p : α → Bool}
end
end Go.Proofs.YtdgglhlofnigkaaGreatDoor
namespace Go.Proofs.YtdgglhlofnigkaaGreatDoor
open Go.RowKit Go.MapKept Go.Sort
theorem sizeL (_ : El) : (Tryz.prog.info? 38).map (·.size) = some 5 := by kernel_rfl
theorem bsEl (x : El) (w : World) : (Instr.buildSlice 80 1 #[(0, eE x)]).run Tryz.prog w = .ok (.slice (some ⟨w.heap.size, 0, none⟩) 1 1) (w.alloc (.cells (enL x).toArray 38)) := by
 unfold eE elV enL; go_simp
theorem sl_oneL (x : El) (w : World) : SlK enL 5 (w.alloc (.cells (enL x).toArray 38)) (.slice (some ⟨w.heap.size, 0, none⟩) 1 1) [x] := ⟨_, _, rfl, Nat.le_refl _, fun _ => ⟨w.heap.size, 0, rfl, by simp, fun q y hq => by
 have hq0 : q = 0 := by have := (List.getElem?_eq_some_iff.1 hq).1; simp at this; exact this
 subst hq0
 have hy : y = x := by simpa using hq.symm
 subst hy
 intro i u hu
 rw [Blk.cell (Blk.new w _ _)]
 simpa using hu⟩⟩
end Go.Proofs.YtdgglhlofnigkaaGreatDoor
namespace Go.Proofs.YtdgglhlofnigkaaGreatDoor
open Go.RowKit Go.MapKept Go.Sort
end Go.Proofs.YtdgglhlofnigkaaGreatDoor
