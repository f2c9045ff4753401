/- A REGION THAT DRAWS ITS ORDER, IN WHICH ONE OPERATION TURNS MEMORY, THE LAST BUT ONE, WHICH WAITS FOR ALL AHEA. -/import Derived.Test.YtdgglhlofnigkaaGreatDoorStGF
import Derived.Test.YtdgglhlofnigkaaGreatDoorJStGG
import Derived.Test.YtdgglhlofnigkaaGreatDoorStGI
namespace Go.Proofs.YtdgglhlofnigkaaGreatDoor.Lt
open Go.RowKit
section
variable {P : Program} {ops : Array Oper} {Q : Exit → Act → World → Prop} {md : Region.Mode}
theorem Finds.lateB {a0 a : Act} {i : Nat} {o : Oper} {L : Nat → Bool} {vals : Nat → Value} (hF : Finds md ops a0 i o L vals a) : ∀ d : Tmp, (ops.all fun oj => oj.dst != some d || oj.after.any fun e => e.on == i && Region.binds md e) = true → a.eval (.tmp d) = a0.eval (.tmp d) := fun d hd => hF.later d fun j oj hj hl hjd => by
 obtain ⟨hjl, rfl⟩ := Array.getElem?_eq_some_iff.1 hj
 rw [Array.all_eq_true] at hd
 have h2 := hd j hjl
 rw [hjd] at h2
 simp only [bne_self_eq_false, Bool.false_or, Array.any_eq_true', Bool.and_eq_true, beq_iff_eq] at h2
 obtain ⟨e, he, hei, hb⟩ := h2
 have h3 := hF.closed j _ hj hl e he hb
 rw [hei, hF.open_] at h3
 cases h3
theorem wpAny_two (pure : Nat → Bool) (p : Nat → Value → World → Prop) (a0 : Act) (w1 : World) (mid last : Nat) (om ol oz : Oper) (J J2 : Value → World → Prop)
  (hsz : ops.size = last + 2) (hml : mid < last) (hom : ops[mid]? = some om) (hol : ops[last]? = some ol) (hoz : ops[last + 1]? = some oz) (hpm : pure mid = false)
  (hwm : (List.range last).all (fun i => pure i || i == mid || reachB md ops mid (aftB md om) i) = true) (hwl : (List.range last).all (reachB md ops last (aftB md ol)) = true) (hwz : (List.range (last + 1)).all (reachB md ops (last + 1) (aftB md oz)) = true)
  (hap : apartB ops = true) (hah : aheadB md ops = true) (hin : (List.range ops.size).all (fun i => match ops[i]? with | some o => (match o.dst with | some d => decide (d < a0.tmps.size) | none => true) | none => true) = true)
  (hst : ∀ i v w w', Below w.heap.size w w' → p i v w → p i v w') (hpw : ∀ i v w w', pure i = true → p i v w → p i v w')
  (hop : AllIdx (fun i o => i < last → i ≠ mid → pure i = false → ∀ (a : Act) (w : World), Below w1.heap.size w1 w → (∀ d : Tmp, (ops.all fun oj => oj.dst != some d || oj.after.any fun e => e.on == i && Region.binds md e) = true → a.eval (.tmp d) = a0.eval (.tmp d)) →
   (∀ e ∈ o.after, Region.binds md e = true → ∀ oj d, ops[e.on]? = some oj → oj.dst = some d → p e.on (a.eval (.tmp d)) w) → ops[i]? = some o → wpOp P ops Q i (Step1 w1 p i a o w) a w) 0 ops.toList)
  (hpu : AllIdx (fun i o => i < last → pure i = true → ∀ (a : Act) (w : World), (∀ d : Tmp, (ops.all fun oj => oj.dst != some d || oj.after.any fun e => e.on == i && Region.binds md e) = true → a.eval (.tmp d) = a0.eval (.tmp d)) →
   (∀ e ∈ o.after, Region.binds md e = true → pure e.on = true → ∀ oj d, ops[e.on]? = some oj → oj.dst = some d → p e.on (a.eval (.tmp d)) w) → ops[i]? = some o → wpOp P ops Q i (fun a' w' => ∃ v, a' = a.put o.dst v ∧ p i v w ∧ w' = w) a w) 0 ops.toList)
  (hmid : ∀ (a : Act) (w : World), Below w1.heap.size w1 w → (∀ d : Tmp, (ops.all fun o => o.dst != some d) = true → a.eval (.tmp d) = a0.eval (.tmp d)) →
   (∀ e ∈ om.after, Region.binds md e = true → ∀ oj d, ops[e.on]? = some oj → oj.dst = some d → p e.on (a.eval (.tmp d)) w) →
   wpOp P ops Q mid (fun a' w' => ∃ v, a' = a.put om.dst v ∧ J v w') a w)
  (hlast : ∀ (vals : Nat → Value) (a : Act) (w : World), J (vals mid) w →
   (∀ (j : Nat) (oj : Oper) (d : Tmp), ops[j]? = some oj → j < last → oj.dst = some d → a.eval (.tmp d) = vals j) → (∀ j, j < last → pure j = true → p j (vals j) w) →
   wpOp P ops Q last (fun a' w' => ∃ v, a' = a.put ol.dst v ∧ J2 v w') a w)
  (hfin : ∀ (v : Value) (a : Act) (w : World), J2 v w → (∀ d : Tmp, ol.dst = some d → a.eval (.tmp d) = v) → wpOp P ops Q (last + 1) (fun a' w' => ∃ v', a' = a.put oz.dst v' ∧ v' = v ∧ J2 v w') a w)
  (hend : ∀ vals w, J2 (vals (last + 1)) w → Q .normal (layN ops (fun _ => true) vals (List.range ops.size) a0) w) :
  wpAny P md ops Q ops.size (Array.replicate ops.size false) a0 w1.drew := by
 obtain ⟨Inv, hInv⟩ : ∃ Inv : (Nat → Bool) → (Nat → Value) → World → Prop, Inv = fun L vals w => if L (last + 1) = true then J2 (vals (last + 1)) w else if L last = true then J2 (vals last) w else if L mid = true then (∀ i, i < last → pure i = false → L i = true) ∧ J (vals mid) w ∧ (∀ i, i < last → pure i = true → L i = true → p i (vals i) w)
  else Below w1.heap.size w1 w ∧ ∀ i, i < last → L i = true → p i (vals i) w := ⟨_, rfl⟩
 refine wpAny_inv Inv a0 w1.drew hap hah hin (fun L h => ?_) (allIdx_of _ _ fun i o hi => ?_) (fun L vals w hL hI => ?_)
 ·rw [hInv]
  show if L (last + 1) = true then _ else if L last = true then _ else if L mid = true then _ else _
  rw [if_neg (by rw [h]; exact Bool.false_ne_true), if_neg (by rw [h]; exact Bool.false_ne_true), if_neg (by rw [h]; exact Bool.false_ne_true)]
  exact ⟨(Below.refl _ _).drew, fun i _ hl => by rw [h i] at hl; cases hl⟩
 ·rw [Nat.zero_add]
  intro L vals a w hF hI
  have hil : i < ops.size := (Array.getElem?_eq_some_iff.1 hF.it).1
  have hnz : ¬ L (last + 1) = true := by
   intro h
   by_cases hlt : i < last + 1
   ·have h1 := hF.closed (last + 1) oz hoz h
    simp only [List.all_eq_true, List.mem_range] at hwz
    have h2 := reachB_spec hF.closed (last + 1) _ (fun k hk => by
     unfold aftB at hk
     rw [Array.any_eq_true'] at hk
     obtain ⟨e, he, h3⟩ := hk
     simp only [Bool.and_eq_true, beq_iff_eq] at h3
     rw [← h3.1]
     exact h1 e he h3.2) i (hwz i hlt)
    rw [hF.open_] at h2; cases h2
   ·have : i = last + 1 := by omega
    subst this
    rw [hF.open_] at h; cases h
  by_cases hiz : i = last + 1
  ·subst hiz
   have hoo : o = oz := by
    have := hF.it
    rw [hoz] at this; exact (Option.some.inj this).symm
   subst hoo
   have hl : L last = true := by
    simp only [List.all_eq_true, List.mem_range] at hwz
    refine reachB_spec hF.closed (last + 1) _ (fun k hk => ?_) last (hwz last (Nat.lt_succ_self _))
    unfold aftB at hk
    rw [Array.any_eq_true'] at hk
    obtain ⟨e, he, h3⟩ := hk
    simp only [Bool.and_eq_true, beq_iff_eq] at h3
    rw [← h3.1]
    exact hF.ahead e he h3.2
   rw [hInv] at hI
   replace hI : J2 (vals last) w := by
    have h : (if L (last + 1) = true then _ else if L last = true then _ else _) := hI
    rw [if_neg hnz, if_pos hl] at h
    exact h
   refine wpOp_mono ?_ (hfin (vals last) a w hI fun d hd => hF.slot last ol d hol hd hl)
   rintro a' w' ⟨v, rfl, rfl, hK⟩
   refine ⟨_, rfl, fun L' h2 h3 => ?_⟩
   rw [hInv]
   show if L' (last + 1) = true then _ else _
   rw [if_pos h3]
   simpa using hK
  have hil1 : i < last + 1 := by omega
  have hnl : ¬ L last = true := by
   intro h
   by_cases hlt : i < last
   ·have h1 := hF.closed last ol hol h
    simp only [List.all_eq_true, List.mem_range] at hwl
    have h2 := reachB_spec hF.closed last _ (fun k hk => by
     unfold aftB at hk
     rw [Array.any_eq_true'] at hk
     obtain ⟨e, he, h3⟩ := hk
     simp only [Bool.and_eq_true, beq_iff_eq] at h3
     rw [← h3.1]
     exact h1 e he h3.2) i (hwl i hlt)
    rw [hF.open_] at h2; cases h2
   ·have : i = last := by omega
    subst this
    rw [hF.open_] at h; cases h
  rw [hInv] at hI
  replace hI : if L mid = true then (∀ i, i < last → pure i = false → L i = true) ∧ J (vals mid) w ∧ (∀ i, i < last → pure i = true → L i = true → p i (vals i) w)
   else Below w1.heap.size w1 w ∧ ∀ i, i < last → L i = true → p i (vals i) w := by
   have h : (if L (last + 1) = true then _ else if L last = true then _ else _) := hI
   rw [if_neg hnz, if_neg hnl] at h
   exact h
  have hsl : ∀ e ∈ o.after, Region.binds md e = true → ∀ oj d, ops[e.on]? = some oj → oj.dst = some d → a.eval (.tmp d) = vals e.on ∧ e.on < last ∧ L e.on = true := by
   intro e he hb oj d hoj hd
   have hl := hF.ahead e he hb
   have hel : e.on < ops.size := (Array.getElem?_eq_some_iff.1 hoj).1
   have hne : e.on ≠ last := fun h => hnl (by rw [← h]; exact hl)
   have hne2 : e.on ≠ last + 1 := fun h => hnz (by rw [← h]; exact hl)
   exact ⟨hF.slot e.on oj d hoj hd hl, by omega, hl⟩
  by_cases hlt : i < last
  ·have hkeep : ∀ L' : Nat → Bool, (∀ j, j ≠ i → L' j = L j) → ¬ L' last = true := fun L' h h2 => hnl (by rw [← h last (by omega)]; exact h2)
   have hkeepz : ∀ L' : Nat → Bool, (∀ j, j ≠ i → L' j = L j) → ¬ L' (last + 1) = true := fun L' h h2 => hnz (by rw [← h (last + 1) (by omega)]; exact h2)
   cases hpi : pure i
   ·by_cases him : i = mid
    ·subst him
     have hoo : o = om := by
      have := hF.it
      rw [hom] at this; exact (Option.some.inj this).symm
     subst hoo
     rw [if_neg (by rw [hF.open_]; exact Bool.false_ne_true)] at hI
     refine wpOp_mono ?_ (hmid a w hI.1 hF.old (fun e he hb oj d hoj hd => ?_))
     ·rintro a' w' ⟨v, rfl, hJ⟩
      refine ⟨v, rfl, fun L' h2 h3 => ?_⟩
      rw [hInv]
      show if L' (last + 1) = true then _ else if L' last = true then _ else if L' i = true then _ else _
      rw [if_neg (hkeepz L' h2), if_neg (hkeep L' h2), if_pos h3]
      refine ⟨fun j hj hpj => ?_, by simpa using hJ, fun j hj hpj hl => ?_⟩
      ·by_cases hji : j = i
       ·subst hji; exact h3
       ·rw [h2 j hji]
        simp only [List.all_eq_true, List.mem_range, Bool.or_eq_true, beq_iff_eq] at hwm
        rcases hwm j hj with (h | h) | h
        ·rw [hpj] at h; cases h
        ·exact absurd h hji
        ·refine reachB_spec hF.closed i _ (fun k hk => ?_) j h
         unfold aftB at hk
         rw [Array.any_eq_true'] at hk
         obtain ⟨e, he, h4⟩ := hk
         simp only [Bool.and_eq_true, beq_iff_eq] at h4
         rw [← h4.1]
         exact hF.ahead e he h4.2
      ·have hji : j ≠ i := fun e => by rw [e, hpi] at hpj; cases hpj
       simp only [hji, if_false]
       exact hpw j _ w w' hpj (hI.2 j hj (by rw [← h2 j hji]; exact hl))
     ·obtain ⟨h1, h2, h3⟩ := hsl e he hb oj d hoj hd
      rw [h1]; exact hI.2 e.on h2 h3
    ·have hnm : ¬ L mid = true := by
      intro h
      rw [if_pos h] at hI
      have := hI.1 i hlt hpi
      rw [hF.open_] at this; cases this
     rw [if_neg hnm] at hI
     have h1 := allIdx_get ops.toList 0 i o hop hi
     rw [Nat.zero_add] at h1
     refine wpOp_mono ?_ (h1 hlt him hpi a w hI.1 (Finds.lateB hF) (fun e he hb oj d hoj hd => ?_) hF.it)
     ·rintro a' w' ⟨⟨v, rfl, hp⟩, hb, hI'⟩
      refine ⟨v, rfl, fun L' h2 h3 => ?_⟩
      rw [hInv]
      show if L' (last + 1) = true then _ else if L' last = true then _ else if L' mid = true then _ else _
      rw [if_neg (hkeepz L' h2), if_neg (hkeep L' h2), if_neg (by rw [h2 mid (fun e => him e.symm)]; exact hnm)]
      refine ⟨hI', fun j hj hl => ?_⟩
      by_cases hji : j = i
      ·subst hji; simpa using hp
      ·simp only [hji, if_false]
       exact hst j _ w w' hb (hI.2 j hj (by rw [← h2 j hji]; exact hl))
     ·obtain ⟨h2, h3, h4⟩ := hsl e he hb oj d hoj hd
      rw [h2]; exact hI.2 e.on h3 h4
   ·have him : i ≠ mid := fun e => by rw [e, hpm] at hpi; cases hpi
    have h1 := allIdx_get ops.toList 0 i o hpu hi
    rw [Nat.zero_add] at h1
    have hpd : ∀ j, j < last → pure j = true → L j = true → p j (vals j) w := by
     intro j hj hpj hl
     by_cases hm : L mid = true
     ·rw [if_pos hm] at hI; exact hI.2.2 j hj hpj hl
     ·rw [if_neg hm] at hI; exact hI.2 j hj hl
    refine wpOp_mono ?_ (h1 hlt hpi a w (Finds.lateB hF) (fun e he hb hpe oj d hoj hd => ?_) hF.it)
    ·rintro a' w' ⟨v, rfl, hp, rfl⟩
     refine ⟨v, rfl, fun L' h2 h3 => ?_⟩
     rw [hInv]
     show if L' (last + 1) = true then _ else if L' last = true then _ else if L' mid = true then _ else _
     rw [if_neg (hkeepz L' h2), if_neg (hkeep L' h2), h2 mid (fun e => him e.symm)]
     by_cases hm : L mid = true
     ·rw [if_pos hm] at hI ⊢
      refine ⟨fun j hj hpj => ?_, ?_, fun j hj hpj hl => ?_⟩
      ·have hji : j ≠ i := fun e => by rw [e, hpi] at hpj; cases hpj
       rw [h2 j hji]; exact hI.1 j hj hpj
      ·simp only [Ne.symm him, if_false]; exact hI.2.1
      ·by_cases hji : j = i
       ·subst hji; simpa using hp
       ·simp only [hji, if_false]
        exact hI.2.2 j hj hpj (by rw [← h2 j hji]; exact hl)
     ·rw [if_neg hm] at hI ⊢
      refine ⟨hI.1, fun j hj hl => ?_⟩
      by_cases hji : j = i
      ·subst hji; simpa using hp
      ·simp only [hji, if_false]
       exact hI.2 j hj (by rw [← h2 j hji]; exact hl)
    ·obtain ⟨h2, h3, h4⟩ := hsl e he hb oj d hoj hd
     rw [h2]; exact hpd e.on h3 hpe h4
  ·have hie : i = last := by omega
   subst hie
   have hoo : o = ol := by
    have := hF.it
    rw [hol] at this; exact (Option.some.inj this).symm
   subst hoo
   have hall : ∀ j, j < i → L j = true := by
    intro j hj
    simp only [List.all_eq_true, List.mem_range] at hwl
    refine reachB_spec hF.closed i _ (fun k hk => ?_) j (hwl j hj)
    unfold aftB at hk
    rw [Array.any_eq_true'] at hk
    obtain ⟨e, he, h3⟩ := hk
    simp only [Bool.and_eq_true, beq_iff_eq] at h3
    rw [← h3.1]
    exact hF.ahead e he h3.2
   rw [if_pos (hall mid hml)] at hI
   refine wpOp_mono ?_ (hlast vals a w hI.2.1 (fun j oj d hoj hj hd => hF.slot j oj d hoj hd (hall j hj)) (fun j hj hpj => hI.2.2 j hj hpj (hall j hj)))
   rintro a' w' ⟨v, rfl, hK⟩
   refine ⟨v, rfl, fun L' h2 h3 => ?_⟩
   rw [hInv]
   show if L' (i + 1) = true then _ else if L' i = true then _ else _
   rw [if_neg (by rw [h2 (i + 1) (by omega)]; exact hnz), if_pos h3]
   simpa using hK
 ·rw [hInv] at hI
  have h : (if L (last + 1) = true then _ else _) := hI
  rw [if_pos (hL (last + 1) (by omega))] at h
  exact hend vals w h
end
end Go.Proofs.YtdgglhlofnigkaaGreatDoor.Lt
namespace Go.Proofs.YtdgglhlofnigkaaGreatDoor
open Lib (hid)
open Go.RowKit Go.MapKept Go.Sort
section
variable {α : Type} {c : α → α → Int}
def insP (p : α → Bool) (x : α) (l : List α) : List α := l.takeWhile p ++ x :: l.dropWhile p
theorem insP_perm (p : α → Bool) (x : α) (l : List α) : (insP p x l).Perm (x :: l) := by
 unfold insP
 refine List.perm_middle.trans ?_
 rw [List.takeWhile_append_dropWhile]
theorem tw_all {p : α → Bool} : ∀ (l : List α), ∀ y ∈ l.takeWhile p, p y = true
 | [], y, h => by cases h
 | a :: l, y, h => by
  simp only [List.takeWhile_cons] at h
  split at h
  ·rename_i hp
   rcases List.mem_cons.1 h with rfl | h
   ·exact hp
   ·exact tw_all l y h
  ·cases h
theorem dw_head {p : α → Bool} : ∀ (l : List α) (y : α) (m : List α), l.dropWhile p = y :: m → p y = false
 | [], y, m, h => by cases h
 | a :: l, y, m, h => by
  simp only [List.dropWhile_cons] at h
  split at h
  ·exact dw_head l y m h
  ·rename_i hp
   injection h with h1 h2
   subst h1
   simpa using hp
theorem insP_sorted (hc : CmpOk c) (x : α) {l : List α} (h : l.Pairwise fun a b => ltOf c b a = false) : (insP (fun y => decide (c y x < 0)) x l).Pairwise fun a b => ltOf c b a = false := by
 have h0 : (l.takeWhile (fun y => decide (c y x < 0)) ++ l.dropWhile (fun y => decide (c y x < 0))).Pairwise fun a b => ltOf c b a = false := by rwa [List.takeWhile_append_dropWhile]
 obtain ⟨h1, h2, h3⟩ := List.pairwise_append.1 h0
 have hx : ∀ y ∈ l.dropWhile (fun y => decide (c y x < 0)), ltOf c y x = false := by
  cases hd : l.dropWhile (fun y => decide (c y x < 0)) with
  | nil => intro y hy; cases hy
  | cons a m =>
   have ha := dw_head l a m hd
   rw [hd] at h2
   intro y hy
   have e1 := of_decide_eq_false ha
   unfold ltOf
   apply decide_eq_false
   rcases List.mem_cons.1 hy with rfl | hy
   ·exact e1
   ·have e2 := (List.pairwise_cons.1 h2).1 y hy
    unfold ltOf at e2
    have e2 := of_decide_eq_false e2
    have a1 := hc.anti a x
    have a2 := hc.anti y a
    have a3 := hc.anti y x
    have := hc.trans x a y (by omega) (by omega)
    have := hc.anti x y
    omega
 unfold insP
 refine List.pairwise_append.2 ⟨h1, List.pairwise_cons.2 ⟨hx, h2⟩, fun a ha b hb => ?_⟩
 rcases List.mem_cons.1 hb with rfl | hb
 ·have e1 := of_decide_eq_true (tw_all l a ha)
  have := hc.anti a b
  unfold ltOf
  apply decide_eq_false
  omega
 ·exact h3 a ha b hb
end
def evP (e : Ev) : Dt × Va := (dtOf e, vaOf e)
theorem live_iff {L : List Ev} (hL : ∀ e ∈ L, okB e = true) {x : El} {e : Ev} (he : e ∈ L) : liveB L x e = true ↔ liveP L x e := by
 obtain ⟨n, hn, h16, h1, h2⟩ := ok_dot (hL e he)
 have hd : dotB e.r e.c = true := (dotB_iff _ _).2 ⟨n, hn, h16, h1, h2⟩
 unfold liveB liveP
 simp only [Bool.and_eq_true, decide_eq_true_eq, Bool.or_eq_true, beq_iff_eq, List.all_eq_true]
 constructor
 ·rintro ⟨⟨a, b⟩, c⟩
  refine ⟨a, b, fun f hf h1 h2 h3 => ?_⟩
  have := c f hf
  simp [undoB, h1, h2, h3] at this
  unfold knD knowsB dtOf
  simp only [hd, Bool.true_and]
  exact decide_eq_false (by omega)
 ·rintro ⟨a, b, c⟩
  refine ⟨⟨a, b⟩, fun f hf => ?_⟩
  by_cases h1 : elOf f = x
  ·by_cases h2 : f.op = 1
   ·simp [undoB, h2]
   ·by_cases h3 : dtOf f = dtOf e
    ·simp [undoB, h3]
    ·have := c f hf h1 h2 h3
     unfold knD knowsB dtOf at this
     simp only [hd, Bool.true_and] at this
     have h4 := of_decide_eq_false this
     simp [undoB, h4]
  ·simp [undoB, h1]
theorem live_perm {row : List Ev} (hc : CausL row) (hl : ∀ e ∈ row, Lens e) (x : El) : ((liveL row x).map evP).Perm (entS x (runS row)) := by
 have hok : ∀ e ∈ row, okB e = true := fun e he => (hc.1 e he).1
 have hn2 := keys_nodup_list (OkS.ent_nodup (x := x) (runS_ok row hl).1)
 have hn1 : ((liveL row x).map evP).Nodup := by
  have h1 : ((liveL row x).map dtOf).Nodup := (List.Sublist.map dtOf List.filter_sublist).nodup hc.dots
  refine List.pairwise_map.2 ((List.pairwise_map.1 h1).imp fun {a b} hab e => hab ?_)
  exact (Prod.mk.inj e).1
 refine (List.perm_ext_iff_of_nodup hn1 hn2).2 fun q => ?_
 rw [ent_live _ row rfl hc hl x q]
 unfold liveL
 simp only [List.mem_map, List.mem_filter]
 constructor
 ·rintro ⟨e, ⟨he, h1⟩, rfl⟩
  exact ⟨e, he, (live_iff hok he).1 h1, rfl⟩
 ·rintro ⟨e, he, h1, rfl⟩
  exact ⟨e, ⟨he, (live_iff hok he).2 h1⟩, rfl⟩
theorem live_len {row : List Ev} (hc : CausL row) (hl : ∀ e ∈ row, Lens e) (x : El) : (entS x (runS row)).length = (liveL row x).length := by
 rw [← (live_perm hc hl x).length_eq, List.length_map]
def addL7 (x : El) (out : List El) : List El := if (out.dropWhile fun y => lessB y x).head? = some x then out else insP (fun y => lessB y x) x out
def elsL (l : List Ev) : List El := l.foldl (fun out e => addL7 (elOf e) out) []
theorem elsL_next {l : List Ev} {j : Nat} {e : Ev} (h : l[j]? = some e) : elsL (l.take (j + 1)) = addL7 (elOf e) (elsL (l.take j)) := by
 unfold elsL
 rw [List.take_add_one, h, List.foldl_append]
 rfl
def Rise (l : List El) : Prop := l.Pairwise fun a b => cfE a b < 0
theorem cfE_self (a : El) : cfE a a = 0 := by have := cfE_ok.anti a a; omega
theorem cfE_lt {a b c : El} (h : cfE a b < 0) (k : cfE b c < 0) : cfE a c < 0 := by
 have h3 := cfE_ok.trans a b c (by omega) (by omega)
 rcases Int.lt_or_eq_of_le h3 with h4 | h4
 ·exact h4
 ·have := (cfE_ok.zero (x := a) (y := b) (z := c) (by omega) (by omega) h4).1; omega
theorem add_rise {x : El} {l : List El} (h : Rise l) : Rise (addL7 x l) := by
 unfold addL7
 split
 ·exact h
 ·rename_i hne
  have h0 : (l.takeWhile (fun y => lessB y x) ++ l.dropWhile (fun y => lessB y x)).Pairwise fun a b => cfE a b < 0 := by rw [List.takeWhile_append_dropWhile]; exact h
  obtain ⟨h1, h2, h3⟩ := List.pairwise_append.1 h0
  have hx : ∀ y ∈ l.dropWhile (fun y => lessB y x), cfE x y < 0 := by
   cases hd : l.dropWhile (fun y => lessB y x) with
   | nil => intro y hy; cases hy
   | cons a m =>
    have ha := dw_head l a m hd
    rw [hd] at h2 hne
    have hax : cfE x a < 0 := by
     have e1 := of_decide_eq_false ha
     have e2 := cfE_ok.anti a x
     have e3 : cfE a x ≠ 0 := fun e => hne (by rw [cfE_zero _ _ e]; rfl)
     omega
    intro y hy
    rcases List.mem_cons.1 hy with rfl | hy
    ·exact hax
    ·exact cfE_lt hax ((List.pairwise_cons.1 h2).1 y hy)
  unfold insP
  refine List.pairwise_append.2 ⟨h1, List.pairwise_cons.2 ⟨hx, h2⟩, fun a ha b hb => ?_⟩
  rcases List.mem_cons.1 hb with rfl | hb
  ·exact of_decide_eq_true (tw_all l a ha)
  ·exact h3 a ha b hb
theorem add_mem {x y : El} {l : List El} : y ∈ addL7 x l ↔ y = x ∨ y ∈ l := by
 unfold addL7
 split
 ·rename_i h
  constructor
  ·exact .inr
  ·rintro (rfl | h')
   ·have : y ∈ l.dropWhile fun z => lessB z y := by
     cases hd : l.dropWhile fun z => lessB z y with
     | nil => rw [hd] at h; cases h
     | cons a m =>
      rw [hd] at h
      simp only [List.head?_cons, Option.some.injEq] at h
      rw [h]; exact List.mem_cons_self
    exact (List.dropWhile_sublist _).subset this
   ·exact h'
 ·rw [(insP_perm _ x l).mem_iff]
  exact List.mem_cons
theorem add_len (x : El) (l : List El) : (addL7 x l).length ≤ l.length + 1 := by
 unfold addL7
 split
 ·omega
 ·rw [(insP_perm _ x l).length_eq]; simp
theorem els_rise (l : List Ev) : Rise (elsL l) := by
 suffices h : ∀ (l : List Ev) (o : List El), Rise o → Rise (l.foldl (fun out e => addL7 (elOf e) out) o) from h l [] List.Pairwise.nil
 intro l
 induction l with
 | nil => intro o h; exact h
 | cons e l ih => intro o h; exact ih _ (add_rise h)
theorem els_mem (l : List Ev) (x : El) : x ∈ elsL l ↔ ∃ e ∈ l, elOf e = x := by
 suffices h : ∀ (l : List Ev) (o : List El), x ∈ l.foldl (fun out e => addL7 (elOf e) out) o ↔ x ∈ o ∨ ∃ e ∈ l, elOf e = x by
  have := h l []
  unfold elsL
  rw [this]
  simp
 intro l
 induction l with
 | nil => intro o; simp
 | cons e l ih =>
  intro o
  rw [List.foldl_cons, ih, add_mem]
  simp only [List.mem_cons]
  constructor
  ·rintro ((rfl | h) | ⟨f, hf, h⟩)
   ·exact .inr ⟨e, .inl rfl, rfl⟩
   ·exact .inl h
   ·exact .inr ⟨f, .inr hf, h⟩
  ·rintro (h | ⟨f, rfl | hf, h⟩)
   ·exact .inl (.inr h)
   ·exact .inl (.inl h.symm)
   ·exact .inr ⟨f, hf, h⟩
theorem els_len (l : List Ev) : (elsL l).length ≤ l.length := by
 suffices h : ∀ (l : List Ev) (o : List El), (l.foldl (fun out e => addL7 (elOf e) out) o).length ≤ o.length + l.length by simpa [elsL] using h l []
 intro l
 induction l with
 | nil => intro o; simp
 | cons e l ih =>
  intro o
  refine Nat.le_trans (ih _) ?_
  have := add_len (elOf e) o
  simp only [List.length_cons]
  omega
theorem rise_sorted {l : List El} (h : Rise l) : l.Pairwise fun x y => ltOf cfE y x = false := h.imp fun {a b} hab => by
 have := cfE_ok.anti a b
 unfold ltOf
 apply decide_eq_false
 omega
theorem rise_nodup {l : List El} (h : Rise l) : l.Nodup := h.imp fun {a b} hab e => by rw [e, cfE_self] at hab; omega
section
variable {α : Type} {p : α → Bool}
theorem tw_at : ∀ (l : List α) (i : Nat), i < (l.takeWhile p).length → ∃ y, l[i]? = some y ∧ p y = true
 | [], i, h => by simp at h
 | a :: l, i, h => by
  simp only [List.takeWhile_cons] at h
  split at h
  ·rename_i hp
   cases i with
   | zero => exact ⟨a, rfl, hp⟩
   | succ i =>
    obtain ⟨y, h1, h2⟩ := tw_at l i (by simpa using h)
    exact ⟨y, by simpa using h1, h2⟩
  ·simp at h
theorem tw_end : ∀ (l : List α) (y : α), l[(l.takeWhile p).length]? = some y → p y = false
 | [], y, h => by simp at h
 | a :: l, y, h => by
  simp only [List.takeWhile_cons] at h
  split at h
  ·exact tw_end l y (by simpa using h)
  ·rename_i hp
   simp only [List.length_nil, List.getElem?_cons_zero, Option.some.injEq] at h
   subst h
   simpa using hp
theorem tw_take (l : List α) : l.take (l.takeWhile p).length = l.takeWhile p := by
 conv => lhs; rw [← List.takeWhile_append_dropWhile (p := p) (l := l)]
 rw [List.take_append_of_le_length (by simp [List.takeWhile_append_dropWhile]), List.take_of_length_le (by simp [List.takeWhile_append_dropWhile])]
theorem tw_drop (l : List α) : l.drop (l.takeWhile p).length = l.dropWhile p := by
 conv => lhs; rw [← List.takeWhile_append_dropWhile (p := p) (l := l)]
 rw [List.drop_append_of_le_length (by simp [List.takeWhile_append_dropWhile]), List.drop_of_length_le (by simp [List.takeWhile_append_dropWhile])]
 try simp
theorem insP_at (x : α) (l : List α) : insP p x l = (l.take (l.takeWhile p).length ++ [x]) ++ l.drop (l.takeWhile p).length := by
 rw [tw_take, tw_drop, List.append_assoc]
 rfl
theorem tw_le (l : List α) : (l.takeWhile p).length ≤ l.length := (List.takeWhile_sublist p).length_le
end
theorem run_ltn {a b : Nat} {q : Bool} (h : decide (a < b) = q) (w : World) : (binOp .lss 3 (.int .i64 a) (.int .i64 b)).run Tryz.prog w = .ok (.bool q) w := by
 subst h
 go_simp
theorem infoLK : ∃ i, Tryz.prog.info? 38 = some i ∧ i.zero = some (.agg #[.int .i64 0, .string ⟨#[]⟩, .string ⟨#[]⟩, .string ⟨#[]⟩, .string ⟨#[]⟩]) ∧ i.size = 5 ∧ i.bytes = 72 := info_parts infoL
theorem append_el (R : Nat) (w : World) (v : Value) (xs : List El) (hown : OwnK enL R 38 5 w v xs) (v2 : Value) (l : List El) (hl : SlK enL 5 w v2 l) (hn : xs.length + l.length ≤ 1000000) (hR : R ≤ w.heap.size) :
  ∃ v' w', (Builtin.append_ #[80, 80] 80 #[v, v2]).run Tryz.prog w = .ok v' w' ∧ OwnK enL R 38 5 w' v' (xs ++ l) ∧ w.grownBy w' v.ownBlock ∧ (v'.ownBlock = v.ownBlock ∨ (Below w.heap.size w w' ∧ ∀ g, v'.ownBlock = some g → w.heap.size ≤ g)) := by
 obtain ⟨i, hi, hz0, hz1, hz2⟩ := infoLK
 exact run_append_at (P := Tryz.prog) enL_len (by decide) R w 80 80 38 i _ 72 Tryz.underlying80 hi hz0 hz1 hz2 rfl v xs hown v2 l hl (fun e => enL_one e) (by omega) (by omega) hR
theorem bsNilL (w : World) : (Instr.buildSlice 80 0 #[]).run Tryz.prog w = .ok (.slice (some ⟨w.heap.size, 0, none⟩) 0 0) (w.alloc (.cells #[] 38)) := by
 go_simp
theorem own_emptyL (w : World) : OwnK enL w.heap.size 38 5 (w.alloc (.cells #[] 38)) (.slice (some ⟨w.heap.size, 0, none⟩) 0 0) [] :=
 ⟨by simp, .inr ⟨w.heap.size, 0, #[], rfl, Nat.le_refl _, heap_alloc_new w _, Nat.le_refl _, Nat.zero_le _, by simp, by simp⟩⟩
theorem append_newL (R : Nat) (w : World) (v2 : Value) (l : List El) (hl : SlK enL 5 w v2 l) (hn : l.length ≤ 1000000) (g : Nat) (hg : OwnK enL R 38 5 w (.slice (some ⟨g, 0, none⟩) 0 0) []) (hR : R ≤ w.heap.size) :
  ∃ v' w', (Builtin.append_ #[80, 80] 80 #[.slice (some ⟨g, 0, none⟩) 0 0, v2]).run Tryz.prog w = .ok v' w' ∧ OwnK enL R 38 5 w' v' l ∧ Below w.heap.size w w' := by
 obtain ⟨i, hi, hz0, hz1, hz2⟩ := infoLK
 obtain ⟨A, c, rfl, hlc, hx⟩ := hl
 by_cases hn0 : l = []
 ·subst hn0
  refine ⟨.slice (some ⟨g, 0, none⟩) 0 0, w, ?_, hg, Below.refl _ _⟩
  rcases A with _ | ad
  ·simp [Builtin.append_, run_underlying Tryz.underlying80, sizeOf, typeInfo, hi, Builtin.lenOf, Builtin.firstCells, storeCells]
  ·have hf := run_firstCells_some (P := Tryz.prog) w i.size 0 ad 0 c [] (by simp) (by simp)
   simp [Builtin.append_, run_underlying Tryz.underlying80, sizeOf, typeInfo, hi, Builtin.lenOf, hf, storeCells]
 ·obtain ⟨b, o, rfl, hb, hcell⟩ := hx hn0
  have hpos := List.length_pos_iff.2 hn0
  obtain ⟨v', w', hr, ho, hg2⟩ := run_append_arg_grows (P := Tryz.prog) w 80 80 38 i _ 5 72 Tryz.underlying80 hi hz0 hz1 hz2 rfl (by decide) ⟨g, 0, none⟩ 0 0 [] (by simp)
   (fun j u hu => by simp at hu) ⟨b, o, none⟩ l.length c (l.flatMap enL) (flat_length enL_len l) (flat_cells enL_len (by decide) hcell) (by omega) (by unfold maxLen; omega) (by omega)
  have ho' : OwnK enL w.heap.size 38 5 w' v' l := by
   unfold OwnK; simpa using ho
  exact ⟨v', w', hr, ho'.base_ hR, ⟨hg2.os, hg2.tape, hg2.output, hg2.size, fun k hk => hg2.block k hk (by simp)⟩⟩
theorem sizeL (_ : El) : (Tryz.prog.info? 38).map (·.size) = some 5 := by kernel_rfl
theorem bsEl (x : El) (w : World) : (Instr.buildSlice 80 1 #[(0, eE x)]).run Tryz.prog w = .ok (.slice (some ⟨w.heap.size, 0, none⟩) 1 1) (w.alloc (.cells (enL x).toArray 38)) := by
 unfold eE elV enL; go_simp
theorem sl_oneL (x : El) (w : World) : SlK enL 5 (w.alloc (.cells (enL x).toArray 38)) (.slice (some ⟨w.heap.size, 0, none⟩) 1 1) [x] := ⟨_, _, rfl, Nat.le_refl _, fun _ => ⟨w.heap.size, 0, rfl, by simp, fun q y hq => by
 have hq0 : q = 0 := by have := (List.getElem?_eq_some_iff.1 hq).1; simp at this; exact this
 subst hq0
 have hy : y = x := by simpa using hq.symm
 subst hy
 intro i u hu
 rw [Blk.cell (Blk.new w _ _)]
 simpa using hu⟩⟩
theorem at_El0 (g c n k : Nat) (h : k < n) (w : World) : (Instr.indexAt 80 (.slice (some ⟨g, 0, none⟩) n c) (.int .i64 k)).run Tryz.prog w = .ok (.pointer (some ⟨g, k * 5, none⟩)) w := by
 have h2 : (k : Int) < n := by omega
 go_simp
theorem at_event3 (g q : Nat) (w : World) : (Instr.fieldAt 60 (.pointer (some ⟨g, q, none⟩)) 3).run Tryz.prog w = .ok (.pointer (some ⟨g, q + 19, none⟩)) w := by go_simp
theorem ne_EE (x y : El) {q : Bool} (h : decide (x = y) = q) (w : World) : (binOp .neq 38 (eE x) (eE y)).run Tryz.prog w = .ok (.bool (!q)) w := by
 have h1 := equal_E w x y
 rw [h] at h1
 unfold eE elV at h1 ⊢
 simp only [binOp, Sem.run_bind]
 rw [h1]
 simp only [Result.andThen_ok, Sem.run_pure]
theorem run_eqn {a b : Nat} {q : Bool} (h : decide (a = b) = q) (w : World) : (binOp .eql 3 (.int .i64 a) (.int .i64 b)).run Tryz.prog w = .ok (.bool q) w := by
 subst h
 go_simp
 by_cases h : a = b <;> simp [h] <;> omega
theorem add_at {x : El} {out : List El} {kk : Nat} (hk : (out.takeWhile fun y => lessB y x).length = kk) : addL7 x out = if out[kk]? = some x then out else (out.take kk ++ [x]) ++ out.drop kk := by
 unfold addL7
 rw [← tw_drop, insP_at, hk, List.head?_drop]
def pSL (R : Nat) (out : List El) (A : Option Addr) (n c k : Nat) (e : El) (bq : Nat) (i : Nat) (v : Value) (w : World) : Prop :=
 match i with
 | 0 => ∃ g, v = .slice (some ⟨g, 0, none⟩) 0 0 ∧ OwnK enL R 38 5 w v []
 | 1 => v = .slice A n c
 | 2 => v = .int .i64 (k : Nat)
 | 3 => v = .slice (slK A c 0 5) k c
 | 4 => OwnK enL R 38 5 w v (out.take k)
 | 5 => v = .pointer (some ⟨bq, 19, none⟩)
 | 6 => v = eE e
 | 7 => SlK enL 5 w v [e]
 | 9 => v = .slice A n c
 | 10 => v = .int .i64 (k : Nat)
 | 11 => v = .slice (slK A c k 5) (n - k) (c - k)
 | _ => True
theorem pSL_keep {R : Nat} {out : List El} {A : Option Addr} {n c k : Nat} {e : El} {bq : Nat} {i : Nat} {v : Value} {w w' : World} (hb : Below w.heap.size w w') (h : pSL R out A n c k e bq i v w) : pSL R out A n c k e bq i v w' := by
 unfold pSL at *
 split at h
 ·obtain ⟨g, h1, h2⟩ := h; exact ⟨g, h1, h2.keep hb⟩
 ·exact h
 ·exact h
 ·exact h
 ·exact OwnK.keep h hb
 ·exact h
 ·exact h
 ·exact SlK.below h hb
 ·exact h
 ·exact h
 ·exact h
 ·trivial
def puL (i : Nat) : Bool := [1, 2, 3, 9, 10, 11].contains i
theorem pSL_pure {R : Nat} {out : List El} {A : Option Addr} {n c k : Nat} {e : El} {bq : Nat} (i : Nat) (v : Value) (w w' : World) (hp : puL i = true) (h : pSL R out A n c k e bq i v w) : pSL R out A n c k e bq i v w' := by
 unfold puL at hp
 simp only [List.contains_iff_mem, List.mem_cons, List.not_mem_nil, or_false] at hp
 rcases hp with rfl | rfl | rfl | rfl | rfl | rfl <;> exact h
set_option maxRecDepth 100000 in
set_option maxHeartbeats 4000000 in
theorem els_any (l : List Ev) (A : Option Addr) (N c : Nat) (w : World) (hs : SlK encE 27 w (.slice A N c) l) (hN : l.length = N) (hN2 : N ≤ 10000) :
  Calls Tryz.prog 43 #[.slice A N c] w fun e w' => ∃ v, e = .returned v ∧ OwnK enL w.heap.size 38 5 w' v (elsL l) ∧ Below w.heap.size w w' := by
 obtain ⟨p, hp⟩ : ∃ p, w.heap.size = p := ⟨_, rfl⟩
 have HP := hid hp
 have HS := hid hs
 have HN := hid hN
 have HN2 := hid hN2
 have HZe := hid (zero_of_info zeroE).1
 rw [hp]
 clear hp hs hN hN2
 go_enter Tryz.func43, Tryz.ntmps43
 go_wp2_with fail
 go_loopw [3, 9] (fun v3 v9 wr => ∃ j : Nat, v9 = .int .i64 j ∧ j ≤ N ∧ OwnK enL p 38 5 wr v3 (elsL (l.take j)) ∧ Below w.heap.size w wr) (fun _ v9 _ => N - (intOf v9).toNat)
 case atStart => exact ⟨0, rfl, Nat.zero_le _, OwnK.nil_ _ _ _ _ _, Below.refl _ _⟩
 case round =>
  obtain ⟨j, rfl, hj, ho, hbw⟩ := hrel
  obtain ⟨wo, rfl⟩ : ∃ wo, wo = wr := ⟨_, rfl⟩
  have HBw := hid hbw
  by_cases hlt : j < N
  ·obtain ⟨e, he⟩ : ∃ e, l[j]? = some e := ⟨l[j]'(by rw [HN.out]; exact hlt), List.getElem?_eq_getElem _⟩
   obtain ⟨gs, o, hA, hgl, hce⟩ := (HS.out.below hbw).ev he
   subst hA
   have HCe := hid hce
   have HAt := hid (at_Ev gs o c N j hlt wo)
   obtain ⟨x, hx⟩ : ∃ x, elOf e = x := ⟨_, rfl⟩
   have hnx := elsL_next (l := l) he
   rw [hx] at hnx
   have HNx := hid hnx
   have HAl := hid fun c => World.setRow_alloc_new wo (evC ev0) c 60
   have HZz := hid (show Blk (wo.alloc (.cells (evC ev0) 60)) wo.heap.size 60 (evC ev0) from Blk.new _ _ _)
   obtain ⟨Y, hY⟩ : ∃ Y, Y = wo.alloc (.cells (evC e) 60) := ⟨_, rfl⟩
   have hbY : Below wo.heap.size wo Y := by rw [hY]; exact (Below.refl _ _).alloc (Nat.le_refl _) _
   have HBY := hid (show EB Y wo.heap.size e by rw [hY]; exact Blk.new _ _ _)
   have HYe := hid hY
   obtain ⟨out, hout⟩ : ∃ out, elsL (l.take j) = out := ⟨_, rfl⟩
   have hol : out.length ≤ j := by
    rw [← hout]
    have h1 := els_len (l.take j)
    rw [List.length_take] at h1
    omega
   rw [hout] at ho HNx
   obtain ⟨A3, c3, rfl, _, _⟩ := ho.read enL_len
   obtain ⟨m, hm⟩ : ∃ m, out.length = m := ⟨_, rfl⟩
   rw [hm] at ho ⊢
   have HOl := hid hm
   have HM9 := hid (show m ≤ 10000 by have := HN2.out; omega)
   have HOY := hid (ho.keep hbY)
   have HbY := hid (HBw.out.trans (hbY.mono HBw.out.size))
   obtain ⟨kk, hkk⟩ : ∃ kk, (out.takeWhile fun y => lessB y x).length = kk := ⟨_, rfl⟩
   have HKk := hid hkk
   have HAd := hid (add_at hkk)
   have HKm := hid (show kk ≤ m by rw [← hkk, ← hm]; exact tw_le _)
   have HKc := hid (show kk ≤ c3 by have := (ho.read enL_len).len_; have := HKm.out; omega)
   have HXe := hid hx
   have HW1 := hid (IntWalk.i64_in ((j : Int) + 1) (by have := HN2.out; omega))
   have HJ1 := hid (show ¬ 9223372036854775807 < j + 1 by have := HN2.out; omega)
   clear he hgl hce hY hbY ho hbw hout hol hm hkk hnx hx
   have hz := HZe.out
   go_upto_region 5 with (first
    | (refine wpList_val (o := ⟨some 11, _, _, _, _, _⟩) rfl (.pointer (some ⟨gs, o + j * 27, none⟩)) wo (run_indexAddr_op rfl rfl rfl HAt.out) ?_)
    | (refine' wpList_load_midif ?q1 60 (.tmp 11) ?q2 gs (o + j * 27) ?q3 (encE e) _ ?q4 Tryz.underlying60 ?q5 ?q6 ?_; (case q2 => rfl); (case q1 => rfl); (case q3 => rfl); (case q4 => exact HCe.out); (case q5 => rfl); (case q6 => exact (sizeE e)))
    | (refine wpList_store_row (o := ⟨none, _, _, _, _, _⟩) rfl 60 (.tmp 5) (.tmp 12) rfl wo.heap.size (evC e) rfl rfl _ _ HZz.out (sizeE e) rfl (by kernel_rfl) ?_; rw [HAl.out, ← HYe.out])
    | fail)
   clear hz HZz HAl HYe HAt HCe
   obtain ⟨b5, hb5⟩ : ∃ b5, wo.heap.size = b5 := ⟨_, rfl⟩
   rw [hb5] at HBY ⊢
   clear hb5
   have HDe := hid (show ∀ W : World, Below Y.heap.size Y W → W.rangeAt b5 19 (enL x) from fun W h => by
    rw [← HXe.out]
    exact World.rangeAt_of_block (C := evC e) (EB.keep HBY.out h) 19 5)
   go_wp2_with fail
   try simp only [Act.put]
   go_loopw [6] (fun v6 wr => ∃ a : Nat, v6 = .int .i64 a ∧ a ≤ kk ∧ Below Y.heap.size Y wr) (fun v6 _ => kk - (intOf v6).toNat)
   case atStart => exact ⟨0, by first | rfl | simp, Nat.zero_le _, Below.refl _ _⟩
   case round =>
    obtain ⟨ai, rfl, hai, hbi⟩ := hrel
    obtain ⟨wi, rfl⟩ : ∃ wi, wi = wr := ⟨_, rfl⟩
    have HBi := hid hbi
    have hwa := IntWalk.i64_in ((ai : Int) + 1) (by have := HM9.out; have := HKm.out; omega)
    have HWa := hid hwa
    clear hbi hwa
    by_cases hak : ai < kk
    ·obtain ⟨y, hy, hpy⟩ := tw_at (p := fun y => lessB y x) out ai (by rw [HKk.out]; exact hak)
     have ham : ai < m := by have := HKm.out; omega
     obtain ⟨g3, rfl, _, hg3, he3⟩ := HOY.out.at_ enL_len hy
     have HY3 := hid (show ∀ W : World, Below Y.heap.size Y W → W.rangeAt g3 (ai * 5) (enL y) from fun W h => rangeAt_below he3 hg3 h)
     have HFs := hid hpy
     clear hy hpy hg3 he3
     go_upto_region 6 with fail
     try simp only [Act.put]
     refine wp_region_any (by kernel_rfl) ?_
     refine wpAny_below (fun i uq _ => uq = ([.int .i64 (ai : Nat), .slice (some ⟨g3, 0, none⟩) m c3, .int .i64 m, .bool true, .bool true, .slice (some ⟨g3, 0, none⟩) m c3, .int .i64 (ai : Nat), .pointer (some ⟨g3, ai * 5, none⟩), eE y, .pointer (some ⟨b5, 19, none⟩), eE x, .bool true, .bool true] : List Value).getD i undef) _ wi (by kernel_rfl) (by kernel_rfl) (by kernel_rfl) (fun i v w w' _ h => h) ?_ ?_
     ·refine ⟨?_, ?_, ?_, ?_, ?_, ?_, ?_, ?_, ?_, ?_, ?_, ?_, ?_, trivial⟩
      ·intro a W hI hun haft hi
       have e6 := hun 6 (by kernel_rfl)
       exact b_same hi hI rfl _ (run_move_op rfl e6) rfl
      ·intro a W hI hun haft hi
       have e3 := hun 3 (by kernel_rfl)
       exact b_same hi hI rfl _ (run_move_op rfl e3) rfl
      ·intro a W hI hun haft hi
       have f1 := haft ⟨1, .data⟩ (by simp) rfl _ _ rfl rfl
       exact b_same hi hI rfl _ (run_len_op Tryz.underlying80 rfl f1) rfl
      ·intro a W hI hun haft hi
       have f0 : a.eval (.tmp 13) = .int .i64 (ai : Nat) := haft ⟨0, .data⟩ (by simp) rfl _ _ rfl rfl
       have f2 : a.eval (.tmp 15) = .int .i64 m := haft ⟨2, .data⟩ (by simp) rfl _ _ rfl rfl
       exact b_same hi hI rfl (.bool true) (run_bin_op rfl f0 f2 (by kernel_rfl) (run_ltn (decide_eq_true (by omega)) _)) rfl
      ·intro a W hI hun haft hi
       have f3 := haft ⟨3, .data⟩ (by simp) rfl _ _ rfl rfl
       exact b_same hi hI rfl _ (run_move_op rfl f3) rfl
      ·intro a W hI hun haft hi
       have fg := haft ⟨4, .guard⟩ (by simp) rfl _ _ rfl rfl
       have e3 := hun 3 (by kernel_rfl)
       exact b_same hi hI (guard_ok rfl rfl rfl fg) _ (run_move_op rfl e3) rfl
      ·intro a W hI hun haft hi
       have fg := haft ⟨4, .guard⟩ (by simp) rfl _ _ rfl rfl
       have e6 := hun 6 (by kernel_rfl)
       exact b_same hi hI (guard_ok rfl rfl rfl fg) _ (run_move_op rfl e6) rfl
      ·intro a W hI hun haft hi
       have fg := haft ⟨4, .guard⟩ (by simp) rfl _ _ rfl rfl
       have f5 := haft ⟨5, .data⟩ (by simp) rfl _ _ rfl rfl
       have f6 := haft ⟨6, .data⟩ (by simp) rfl _ _ rfl rfl
       exact b_same hi hI (guard_ok rfl rfl rfl fg) _ (run_indexAddr_op rfl f5 f6 (at_El0 g3 c3 m ai ham _)) rfl
      ·intro a W hI hun haft hi
       have fg : a.eval (.tmp 17) = .bool true := haft ⟨4, .guard⟩ (by simp) rfl _ _ rfl rfl
       have f7 : a.eval (.tmp 20) = .pointer (some ⟨g3, ai * 5, none⟩) := haft ⟨7, .data⟩ (by simp) rfl _ _ rfl rfl
       exact b_same hi hI (guard_ok rfl rfl rfl fg) _ (run_loadmid_op rfl f7 (HY3.out W (HBi.out.trans (hI.mono HBi.out.size))) Tryz.underlying38 rfl (by kernel_rfl)) rfl
      ·intro a W hI hun haft hi
       have fg := haft ⟨4, .guard⟩ (by simp) rfl _ _ rfl rfl
       have e5 := hun 5 (by kernel_rfl)
       exact b_same hi hI (guard_ok rfl rfl rfl fg) _ (run_fieldAddr_any rfl e5 (at_event3 _ 0 _)) rfl
      ·intro a W hI hun haft hi
       have fg : a.eval (.tmp 17) = .bool true := haft ⟨4, .guard⟩ (by simp) rfl _ _ rfl rfl
       have f9 : a.eval (.tmp 22) = .pointer (some ⟨b5, 19, none⟩) := haft ⟨9, .data⟩ (by simp) rfl _ _ rfl rfl
       exact b_same hi hI (guard_ok rfl rfl rfl fg) _ (run_loadmid_op rfl f9 (HDe.out W (HBi.out.trans (hI.mono HBi.out.size))) Tryz.underlying38 rfl (by kernel_rfl)) rfl
      ·intro a W hI hun haft hi
       have fg : a.eval (.tmp 17) = .bool true := haft ⟨4, .guard⟩ (by simp) rfl _ _ rfl rfl
       have f8 : a.eval (.tmp 21) = eE y := haft ⟨8, .data⟩ (by simp) rfl _ _ rfl rfl
       have f10 : a.eval (.tmp 23) = eE x := haft ⟨10, .data⟩ (by simp) rfl _ _ rfl rfl
       refine b_call hi hI (guard_ok rfl rfl rfl fg) _ _ (run_call_op (args := #[eE y, eE x]) rfl (by simp [f8, f10]) (by kernel_rfl)) ?_
       exact (less_is y x true HFs.out W).mono fun e w' H => ⟨_, H.1, rfl, H.2⟩
      ·intro a W hI hun haft hi
       have f4 := haft ⟨4, .data⟩ (by simp) rfl _ _ rfl rfl
       have f11 := haft ⟨11, .data⟩ (by simp) rfl _ _ rfl rfl
       exact b_same hi hI rfl _ (run_pick_op (b := true) rfl f4 f11 rfl) rfl
     ·intro vals W hI hp
      have hl12 : vals 12 = .bool true := hp 12 (by decide)
      have HI := hid hI
      clear hp hI
      simp only [layN, layS, List.range, List.range.loop, if_true, Act.put, Nat.zero_add, Nat.reduceAdd, hl12]
      clear hl12
      have HBk := hid (HBi.out.trans (HI.out.mono HBi.out.size))
      have hw := HWa.out
      clear HI
      go_wp2
      go_roundw
      case rel => exact ⟨ai + 1, by go_num, by omega, HBk.out⟩
      case measure => simp [intOf] <;> omega
    ·have hae : ai = kk := by omega
     subst hae
     by_cases ham : ai < m
     ·obtain ⟨y, hy⟩ : ∃ y, out[ai]? = some y := ⟨out[ai]'(by rw [HOl.out]; exact ham), List.getElem?_eq_getElem _⟩
      have hpy := tw_end (p := fun y => lessB y x) out y (by rw [HKk.out]; exact hy)
      obtain ⟨g3, rfl, _, hg3, he3⟩ := HOY.out.at_ enL_len hy
      have HY3 := hid (show ∀ W : World, Below Y.heap.size Y W → W.rangeAt g3 (ai * 5) (enL y) from fun W h => rangeAt_below he3 hg3 h)
      have HFs := hid hpy
      have HYy := hid hy
      clear hy hpy hg3 he3
      go_upto_region 6 with fail
      try simp only [Act.put]
      refine wp_region_any (by kernel_rfl) ?_
      refine wpAny_below (fun i uq _ => uq = ([.int .i64 (ai : Nat), .slice (some ⟨g3, 0, none⟩) m c3, .int .i64 m, .bool true, .bool true, .slice (some ⟨g3, 0, none⟩) m c3, .int .i64 (ai : Nat), .pointer (some ⟨g3, ai * 5, none⟩), eE y, .pointer (some ⟨b5, 19, none⟩), eE x, .bool false, .bool false] : List Value).getD i undef) _ wi (by kernel_rfl) (by kernel_rfl) (by kernel_rfl) (fun i v w w' _ h => h) ?_ ?_
      ·refine ⟨?_, ?_, ?_, ?_, ?_, ?_, ?_, ?_, ?_, ?_, ?_, ?_, ?_, trivial⟩
       ·intro a W hI hun haft hi
        have e6 := hun 6 (by kernel_rfl)
        exact b_same hi hI rfl _ (run_move_op rfl e6) rfl
       ·intro a W hI hun haft hi
        have e3 := hun 3 (by kernel_rfl)
        exact b_same hi hI rfl _ (run_move_op rfl e3) rfl
       ·intro a W hI hun haft hi
        have f1 := haft ⟨1, .data⟩ (by simp) rfl _ _ rfl rfl
        exact b_same hi hI rfl _ (run_len_op Tryz.underlying80 rfl f1) rfl
       ·intro a W hI hun haft hi
        have f0 : a.eval (.tmp 13) = .int .i64 (ai : Nat) := haft ⟨0, .data⟩ (by simp) rfl _ _ rfl rfl
        have f2 : a.eval (.tmp 15) = .int .i64 m := haft ⟨2, .data⟩ (by simp) rfl _ _ rfl rfl
        exact b_same hi hI rfl (.bool true) (run_bin_op rfl f0 f2 (by kernel_rfl) (run_ltn (decide_eq_true (by omega)) _)) rfl
       ·intro a W hI hun haft hi
        have f3 := haft ⟨3, .data⟩ (by simp) rfl _ _ rfl rfl
        exact b_same hi hI rfl _ (run_move_op rfl f3) rfl
       ·intro a W hI hun haft hi
        have fg := haft ⟨4, .guard⟩ (by simp) rfl _ _ rfl rfl
        have e3 := hun 3 (by kernel_rfl)
        exact b_same hi hI (guard_ok rfl rfl rfl fg) _ (run_move_op rfl e3) rfl
       ·intro a W hI hun haft hi
        have fg := haft ⟨4, .guard⟩ (by simp) rfl _ _ rfl rfl
        have e6 := hun 6 (by kernel_rfl)
        exact b_same hi hI (guard_ok rfl rfl rfl fg) _ (run_move_op rfl e6) rfl
       ·intro a W hI hun haft hi
        have fg := haft ⟨4, .guard⟩ (by simp) rfl _ _ rfl rfl
        have f5 := haft ⟨5, .data⟩ (by simp) rfl _ _ rfl rfl
        have f6 := haft ⟨6, .data⟩ (by simp) rfl _ _ rfl rfl
        exact b_same hi hI (guard_ok rfl rfl rfl fg) _ (run_indexAddr_op rfl f5 f6 (at_El0 g3 c3 m ai ham _)) rfl
       ·intro a W hI hun haft hi
        have fg : a.eval (.tmp 17) = .bool true := haft ⟨4, .guard⟩ (by simp) rfl _ _ rfl rfl
        have f7 : a.eval (.tmp 20) = .pointer (some ⟨g3, ai * 5, none⟩) := haft ⟨7, .data⟩ (by simp) rfl _ _ rfl rfl
        exact b_same hi hI (guard_ok rfl rfl rfl fg) _ (run_loadmid_op rfl f7 (HY3.out W (HBi.out.trans (hI.mono HBi.out.size))) Tryz.underlying38 rfl (by kernel_rfl)) rfl
       ·intro a W hI hun haft hi
        have fg := haft ⟨4, .guard⟩ (by simp) rfl _ _ rfl rfl
        have e5 := hun 5 (by kernel_rfl)
        exact b_same hi hI (guard_ok rfl rfl rfl fg) _ (run_fieldAddr_any rfl e5 (at_event3 _ 0 _)) rfl
       ·intro a W hI hun haft hi
        have fg : a.eval (.tmp 17) = .bool true := haft ⟨4, .guard⟩ (by simp) rfl _ _ rfl rfl
        have f9 : a.eval (.tmp 22) = .pointer (some ⟨b5, 19, none⟩) := haft ⟨9, .data⟩ (by simp) rfl _ _ rfl rfl
        exact b_same hi hI (guard_ok rfl rfl rfl fg) _ (run_loadmid_op rfl f9 (HDe.out W (HBi.out.trans (hI.mono HBi.out.size))) Tryz.underlying38 rfl (by kernel_rfl)) rfl
       ·intro a W hI hun haft hi
        have fg : a.eval (.tmp 17) = .bool true := haft ⟨4, .guard⟩ (by simp) rfl _ _ rfl rfl
        have f8 : a.eval (.tmp 21) = eE y := haft ⟨8, .data⟩ (by simp) rfl _ _ rfl rfl
        have f10 : a.eval (.tmp 23) = eE x := haft ⟨10, .data⟩ (by simp) rfl _ _ rfl rfl
        refine b_call hi hI (guard_ok rfl rfl rfl fg) _ _ (run_call_op (args := #[eE y, eE x]) rfl (by simp [f8, f10]) (by kernel_rfl)) ?_
        exact (less_is y x false HFs.out W).mono fun e w' H => ⟨_, H.1, rfl, H.2⟩
       ·intro a W hI hun haft hi
        have f4 := haft ⟨4, .data⟩ (by simp) rfl _ _ rfl rfl
        have f11 := haft ⟨11, .data⟩ (by simp) rfl _ _ rfl rfl
        exact b_same hi hI rfl _ (run_pick_op (b := true) rfl f4 f11 rfl) rfl
      ·intro vals W hI hp
       have hl12 : vals 12 = .bool false := hp 12 (by decide)
       have HI := hid hI
       clear hp hI
       simp only [layN, layS, List.range, List.range.loop, if_true, Act.put, Nat.zero_add, Nat.reduceAdd, hl12]
       clear hl12
       have HB8 := hid (HBi.out.trans (HI.out.mono HBi.out.size))
       clear HI
       obtain ⟨w6, hw6⟩ : ∃ w6, w6 = W := ⟨_, rfl⟩
       rw [← hw6] at HB8 ⊢
       clear hw6
       go_upto_region 8 with fail
       try simp only [Act.put]
       cases hxy : decide (y = x)
       ·have HXY := hid hxy
        clear hxy
        refine wp_region_any (by kernel_rfl) ?_
        refine wpAny_below (fun i uq _ => uq = ([.int .i64 (ai : Nat), .slice (some ⟨g3, 0, none⟩) m c3, .int .i64 m, .bool false, .bool false, .slice (some ⟨g3, 0, none⟩) m c3, .int .i64 (ai : Nat), .pointer (some ⟨g3, ai * 5, none⟩), eE y, .pointer (some ⟨b5, 19, none⟩), eE x, .bool true, .bool true] : List Value).getD i undef) _ w6 (by kernel_rfl) (by kernel_rfl) (by kernel_rfl) (fun i v w w' _ h => h) ?_ ?_
        ·refine ⟨?_, ?_, ?_, ?_, ?_, ?_, ?_, ?_, ?_, ?_, ?_, ?_, ?_, trivial⟩
         ·intro a W hI hun haft hi
          have e6 := hun 6 (by kernel_rfl)
          exact b_same hi hI rfl _ (run_move_op rfl e6) rfl
         ·intro a W hI hun haft hi
          have e3 := hun 3 (by kernel_rfl)
          exact b_same hi hI rfl _ (run_move_op rfl e3) rfl
         ·intro a W hI hun haft hi
          have f1 := haft ⟨1, .data⟩ (by simp) rfl _ _ rfl rfl
          exact b_same hi hI rfl _ (run_len_op Tryz.underlying80 rfl f1) rfl
         ·intro a W hI hun haft hi
          have f0 : a.eval (.tmp 28) = .int .i64 (ai : Nat) := haft ⟨0, .data⟩ (by simp) rfl _ _ rfl rfl
          have f2 : a.eval (.tmp 30) = .int .i64 m := haft ⟨2, .data⟩ (by simp) rfl _ _ rfl rfl
          exact b_same hi hI rfl (.bool false) (run_bin_op rfl f0 f2 (by kernel_rfl) (run_eqn (decide_eq_false (by omega)) _)) rfl
         ·intro a W hI hun haft hi
          have f3 := haft ⟨3, .data⟩ (by simp) rfl _ _ rfl rfl
          exact b_same hi hI rfl _ (run_move_op rfl f3) rfl
         ·intro a W hI hun haft hi
          have fg := haft ⟨4, .guard⟩ (by simp) rfl _ _ rfl rfl
          have e3 := hun 3 (by kernel_rfl)
          exact b_same hi hI (guard_ok rfl rfl rfl fg) _ (run_move_op rfl e3) rfl
         ·intro a W hI hun haft hi
          have fg := haft ⟨4, .guard⟩ (by simp) rfl _ _ rfl rfl
          have e6 := hun 6 (by kernel_rfl)
          exact b_same hi hI (guard_ok rfl rfl rfl fg) _ (run_move_op rfl e6) rfl
         ·intro a W hI hun haft hi
          have fg := haft ⟨4, .guard⟩ (by simp) rfl _ _ rfl rfl
          have f5 := haft ⟨5, .data⟩ (by simp) rfl _ _ rfl rfl
          have f6 := haft ⟨6, .data⟩ (by simp) rfl _ _ rfl rfl
          exact b_same hi hI (guard_ok rfl rfl rfl fg) _ (run_indexAddr_op rfl f5 f6 (at_El0 g3 c3 m ai ham _)) rfl
         ·intro a W hI hun haft hi
          have fg : a.eval (.tmp 32) = .bool false := haft ⟨4, .guard⟩ (by simp) rfl _ _ rfl rfl
          have f7 : a.eval (.tmp 35) = .pointer (some ⟨g3, ai * 5, none⟩) := haft ⟨7, .data⟩ (by simp) rfl _ _ rfl rfl
          exact b_same hi hI (guard_ok rfl rfl rfl fg) _ (run_loadmid_op rfl f7 (HY3.out W (HB8.out.trans (hI.mono HB8.out.size))) Tryz.underlying38 rfl (by kernel_rfl)) rfl
         ·intro a W hI hun haft hi
          have fg := haft ⟨4, .guard⟩ (by simp) rfl _ _ rfl rfl
          have e5 := hun 5 (by kernel_rfl)
          exact b_same hi hI (guard_ok rfl rfl rfl fg) _ (run_fieldAddr_any rfl e5 (at_event3 _ 0 _)) rfl
         ·intro a W hI hun haft hi
          have fg : a.eval (.tmp 32) = .bool false := haft ⟨4, .guard⟩ (by simp) rfl _ _ rfl rfl
          have f9 : a.eval (.tmp 37) = .pointer (some ⟨b5, 19, none⟩) := haft ⟨9, .data⟩ (by simp) rfl _ _ rfl rfl
          exact b_same hi hI (guard_ok rfl rfl rfl fg) _ (run_loadmid_op rfl f9 (HDe.out W (HB8.out.trans (hI.mono HB8.out.size))) Tryz.underlying38 rfl (by kernel_rfl)) rfl
         ·intro a W hI hun haft hi
          have fg := haft ⟨4, .guard⟩ (by simp) rfl _ _ rfl rfl
          have f8 := haft ⟨8, .data⟩ (by simp) rfl _ _ rfl rfl
          have f10 := haft ⟨10, .data⟩ (by simp) rfl _ _ rfl rfl
          exact b_same hi hI (guard_ok rfl rfl rfl fg) (.bool true) (run_bin_op rfl f8 f10 (by kernel_rfl) (ne_EE y x HXY.out _)) rfl
         ·intro a W hI hun haft hi
          have f4 := haft ⟨4, .data⟩ (by simp) rfl _ _ rfl rfl
          have f11 := haft ⟨11, .data⟩ (by simp) rfl _ _ rfl rfl
          exact b_same hi hI rfl _ (run_pick_op (b := false) rfl f4 rfl f11) rfl
        ·intro vals W hI hp
         have hl12 : vals 12 = .bool true := hp 12 (by decide)
         have HI := hid hI
         clear hp hI
         simp only [layN, layS, List.range, List.range.loop, if_true, Act.put, Nat.zero_add, Nat.reduceAdd, hl12]
         clear hl12
         have HB9 := hid (HB8.out.trans (HI.out.mono HB8.out.size))
         have HO9 := hid (OwnK.keep HOY.out HB9.out)
         clear HI
         go_upto_region 9 with fail
         try simp only [Act.put]
         refine wp_region_any (by kernel_rfl) ?_
         obtain ⟨R9, hR9⟩ : ∃ R9, W.heap.size = R9 := ⟨_, rfl⟩
         have HR9 := hid hR9
         clear hR9
         refine Lt.wpAny_two puL (pSL R9 out (some ⟨g3, 0, none⟩) m c3 ai x b5) _ W 8 12 _ _ _ (fun v' Wz => OwnK enL R9 38 5 Wz v' (out.take ai ++ [x]) ∧ Below W.heap.size W Wz) (fun v' Wz => OwnK enL R9 38 5 Wz v' ((out.take ai ++ [x]) ++ out.drop ai) ∧ Below W.heap.size W Wz)
          (by kernel_rfl) (by decide) rfl rfl rfl rfl (by kernel_rfl) (by kernel_rfl) (by kernel_rfl) (by kernel_rfl) (by kernel_rfl) (by kernel_rfl) (fun i v w w' hb h => pSL_keep hb h) pSL_pure ?_ ?_ ?_ ?_ ?_ ?_
         ·refine ⟨?_, ?_, ?_, ?_, ?_, ?_, ?_, ?_, ?_, ?_, ?_, ?_, ?_, ?_, trivial⟩
          ·intro _ _ _ a W hI hun haft hi
           exact b_val hi hI rfl _ _ (run_buildSlice_op (vs := #[]) rfl (by simp only [List.map_toArray, List.map_nil]) (bsNilL W)) ((Below.refl _ _).alloc (Nat.le_refl _) _) ⟨_, rfl, (own_emptyL W).base_ (by have := hI.size; have := HR9.out; omega)⟩
          ·exact fun _ _ h => absurd h (by decide)
          ·exact fun _ _ h => absurd h (by decide)
          ·exact fun _ _ h => absurd h (by decide)
          ·intro _ _ _ a W hI hun haft hi
           obtain ⟨gn, f0, hown⟩ : ∃ gn, a.eval (.tmp 41) = .slice (some ⟨gn, 0, none⟩) 0 0 ∧ OwnK enL R9 38 5 W (a.eval (.tmp 41)) [] := haft ⟨0, .data⟩ (by simp) rfl _ _ rfl rfl
           have f3 := haft ⟨3, .data⟩ (by simp) rfl _ _ rfl rfl
           rw [f0] at hown
           obtain ⟨v', w', hr, ho, hb⟩ := append_newL R9 W _ _ (((HO9.out.keep hI).read enL_len).hi ai HKm.out) (by have := HM9.out; have := HKm.out; rw [List.length_take]; omega) gn hown (by have := hI.size; have := HR9.out; omega)
           exact b_val hi hI rfl _ _ (run_append_op rfl f0 f3 hr) hb ho
          ·intro _ _ _ a W hI hun haft hi
           have e5 := hun 5 (by kernel_rfl)
           exact b_same hi hI rfl _ (run_fieldAddr_any rfl e5 (at_event3 b5 0 W)) rfl
          ·intro _ _ _ a W hI hun haft hi
           have f5 : a.eval (.tmp 46) = .pointer (some ⟨b5, 19, none⟩) := haft ⟨5, .data⟩ (by simp) rfl _ _ rfl rfl
           exact b_same hi hI rfl _ (run_loadmid_op rfl f5 (HDe.out W (HB9.out.trans (hI.mono HB9.out.size))) Tryz.underlying38 rfl (by kernel_rfl)) rfl
          ·intro _ _ _ a W hI hun haft hi
           have f5 : a.eval (.tmp 47) = eE x := haft ⟨6, .data⟩ (by simp) rfl _ _ rfl rfl
           exact b_val hi hI rfl _ _ (run_buildSlice_op (vs := #[(0, eE x)]) rfl (by simp only [List.map_toArray, List.map_cons, List.map_nil, f5]) (bsEl x W)) ((Below.refl _ _).alloc (Nat.le_refl _) _) (sl_oneL x W)
          ·exact fun _ h => absurd rfl h
          ·exact fun _ _ h => absurd h (by decide)
          ·exact fun _ _ h => absurd h (by decide)
          ·exact fun _ _ h => absurd h (by decide)
          ·exact fun h => absurd h (Nat.lt_irrefl _)
          ·exact fun h => absurd h (by decide)
         ·refine ⟨?_, ?_, ?_, ?_, ?_, ?_, ?_, ?_, ?_, ?_, ?_, ?_, ?_, ?_, trivial⟩
          ·exact fun _ h => absurd h (by decide)
          ·intro _ _ a W hun haft hi
           have e3 := hun 3 (by kernel_rfl)
           exact wpOp_val hi rfl _ _ (run_move_op rfl e3) ⟨_, rfl, rfl, rfl⟩
          ·intro _ _ a W hun haft hi
           have e6 := hun 6 (by kernel_rfl)
           exact wpOp_val hi rfl _ _ (run_move_op rfl e6) ⟨_, rfl, rfl, rfl⟩
          ·intro _ _ a W hun haft hi
           have f1 := haft ⟨1, .data⟩ (by simp) rfl rfl _ _ rfl rfl
           have f2 := haft ⟨2, .data⟩ (by simp) rfl rfl _ _ rfl rfl
           exact wpOp_val hi rfl _ _ (run_slhi_op rfl f1 f2 (run_sliceK_hi W _ _ Tryz.underlying80 (sizeL x) _ _ _ _ HKc.out)) ⟨_, rfl, rfl, rfl⟩
          ·exact fun _ h => absurd h (by decide)
          ·exact fun _ h => absurd h (by decide)
          ·exact fun _ h => absurd h (by decide)
          ·exact fun _ h => absurd h (by decide)
          ·exact fun _ h => absurd h (by decide)
          ·intro _ _ a W hun haft hi
           have e3 := hun 3 (by kernel_rfl)
           exact wpOp_val hi rfl _ _ (run_move_op rfl e3) ⟨_, rfl, rfl, rfl⟩
          ·intro _ _ a W hun haft hi
           have e6 := hun 6 (by kernel_rfl)
           exact wpOp_val hi rfl _ _ (run_move_op rfl e6) ⟨_, rfl, rfl, rfl⟩
          ·intro _ _ a W hun haft hi
           have f8 := haft ⟨9, .data⟩ (by simp) rfl rfl _ _ rfl rfl
           have f9 := haft ⟨10, .data⟩ (by simp) rfl rfl _ _ rfl rfl
           exact wpOp_val hi rfl _ _ (run_sllo_op rfl f8 f9 (run_sliceK_lo W _ _ Tryz.underlying80 (sizeL x) _ _ _ _ HKm.out)) ⟨_, rfl, rfl, rfl⟩
          ·exact fun h => absurd h (Nat.lt_irrefl _)
          ·exact fun h => absurd h (by decide)
         ·intro a W hI hun haft
          have f4 : OwnK enL R9 38 5 W (a.eval (.tmp 45)) (out.take ai) := haft ⟨4, .data⟩ (by simp) rfl _ _ rfl rfl
          have f6 : SlK enL 5 W (a.eval (.tmp 48)) [x] := haft ⟨7, .data⟩ (by simp) rfl _ _ rfl rfl
          have hR9 : R9 ≤ W.heap.size := by have := hI.size; have := HR9.out; omega
          obtain ⟨v', w', hr, ho, hgr, _⟩ := append_el R9 W _ _ f4 _ _ f6 (by have := HM9.out; have := HKm.out; simp; omega) hR9
          exact wpOp_val rfl rfl v' w' (run_append_op rfl rfl rfl hr) ⟨v', rfl, ho, hI.grown hgr (by have := hI.size; omega) (fun q e => by have := (f4.lt q e).1; have := HR9.out; omega)⟩
         ·intro vals a W hJ hsl hp
          obtain ⟨ho7, hI7⟩ := hJ
          have f10 : a.eval (.tmp 52) = .slice (slK (some ⟨g3, 0, none⟩) c3 ai 5) (m - ai) (c3 - ai) := (hsl 11 _ _ rfl (by decide) rfl).trans (hp 11 (by decide) (by decide))
          have f7 : a.eval (.tmp 49) = vals 8 := hsl 8 _ _ rfl (by decide) rfl
          rw [← f7] at ho7
          have hR9 : R9 ≤ W.heap.size := by have := hI7.size; have := HR9.out; omega
          obtain ⟨v', w', hr, ho, hgr, _⟩ := append_el R9 W _ _ ho7 _ _ (((HO9.out.keep hI7).read enL_len).lo ai HKm.out) (by have := HM9.out; have := HOl.out; have := HKm.out; simp; omega) hR9
          exact wpOp_val rfl rfl v' w' (run_append_op rfl rfl f10 hr) ⟨v', rfl, ho, hI7.grown hgr (by have := hI7.size; omega) (fun q e => by have := (ho7.lt q e).1; have := HR9.out; omega)⟩
         ·intro v a W hJ hs
          have f11 : a.eval (.tmp 53) = v := hs 53 rfl
          exact wpOp_val rfl rfl v W (run_assign_op rfl f11) ⟨v, rfl, rfl, hJ⟩
         ·rintro vals Wq ⟨hv1, hv2⟩
          have HV1 := hid hv1
          have HV2 := hid hv2
          obtain ⟨v3', hv3⟩ : ∃ v3', vals 13 = v3' := ⟨_, rfl⟩
          rw [hv3] at HV1
          have HV3 := hid hv3
          clear hv1 hv2 hv3
          simp only [layN, layS, List.range, List.range.loop, if_true, Act.put, Nat.zero_add, Nat.reduceAdd, HV3.out]
          have HBE := hid (show Below w.heap.size w Wq from HbY.out.trans ((HB9.out.trans (HV2.out.mono HB9.out.size)).mono HbY.out.size))
          have HOE := hid (show OwnK enL p 38 5 Wq v3' (elsL (l.take (j + 1))) by
           rw [HNx.out, HAd.out, if_neg (by rw [HYy.out]; intro e; exact of_decide_eq_false HXY.out (Option.some.inj e))]
           exact HV1.out.base_ (by have := HR9.out; have := HP.out; have := HB9.out.size; have := HbY.out.size; omega))
          have hw := HW1.out
          have hjm := HJ1.out
          go_wp2
          go_roundw
          case rel => exact ⟨j + 1, by go_num, by omega, HOE.out, HBE.out⟩
          case measure => simp [intOf] <;> omega
       ·have HXY := hid hxy
        clear hxy
        refine wp_region_any (by kernel_rfl) ?_
        refine wpAny_below (fun i uq _ => uq = ([.int .i64 (ai : Nat), .slice (some ⟨g3, 0, none⟩) m c3, .int .i64 m, .bool false, .bool false, .slice (some ⟨g3, 0, none⟩) m c3, .int .i64 (ai : Nat), .pointer (some ⟨g3, ai * 5, none⟩), eE y, .pointer (some ⟨b5, 19, none⟩), eE x, .bool false, .bool false] : List Value).getD i undef) _ w6 (by kernel_rfl) (by kernel_rfl) (by kernel_rfl) (fun i v w w' _ h => h) ?_ ?_
        ·refine ⟨?_, ?_, ?_, ?_, ?_, ?_, ?_, ?_, ?_, ?_, ?_, ?_, ?_, trivial⟩
         ·intro a W hI hun haft hi
          have e6 := hun 6 (by kernel_rfl)
          exact b_same hi hI rfl _ (run_move_op rfl e6) rfl
         ·intro a W hI hun haft hi
          have e3 := hun 3 (by kernel_rfl)
          exact b_same hi hI rfl _ (run_move_op rfl e3) rfl
         ·intro a W hI hun haft hi
          have f1 := haft ⟨1, .data⟩ (by simp) rfl _ _ rfl rfl
          exact b_same hi hI rfl _ (run_len_op Tryz.underlying80 rfl f1) rfl
         ·intro a W hI hun haft hi
          have f0 : a.eval (.tmp 28) = .int .i64 (ai : Nat) := haft ⟨0, .data⟩ (by simp) rfl _ _ rfl rfl
          have f2 : a.eval (.tmp 30) = .int .i64 m := haft ⟨2, .data⟩ (by simp) rfl _ _ rfl rfl
          exact b_same hi hI rfl (.bool false) (run_bin_op rfl f0 f2 (by kernel_rfl) (run_eqn (decide_eq_false (by omega)) _)) rfl
         ·intro a W hI hun haft hi
          have f3 := haft ⟨3, .data⟩ (by simp) rfl _ _ rfl rfl
          exact b_same hi hI rfl _ (run_move_op rfl f3) rfl
         ·intro a W hI hun haft hi
          have fg := haft ⟨4, .guard⟩ (by simp) rfl _ _ rfl rfl
          have e3 := hun 3 (by kernel_rfl)
          exact b_same hi hI (guard_ok rfl rfl rfl fg) _ (run_move_op rfl e3) rfl
         ·intro a W hI hun haft hi
          have fg := haft ⟨4, .guard⟩ (by simp) rfl _ _ rfl rfl
          have e6 := hun 6 (by kernel_rfl)
          exact b_same hi hI (guard_ok rfl rfl rfl fg) _ (run_move_op rfl e6) rfl
         ·intro a W hI hun haft hi
          have fg := haft ⟨4, .guard⟩ (by simp) rfl _ _ rfl rfl
          have f5 := haft ⟨5, .data⟩ (by simp) rfl _ _ rfl rfl
          have f6 := haft ⟨6, .data⟩ (by simp) rfl _ _ rfl rfl
          exact b_same hi hI (guard_ok rfl rfl rfl fg) _ (run_indexAddr_op rfl f5 f6 (at_El0 g3 c3 m ai ham _)) rfl
         ·intro a W hI hun haft hi
          have fg : a.eval (.tmp 32) = .bool false := haft ⟨4, .guard⟩ (by simp) rfl _ _ rfl rfl
          have f7 : a.eval (.tmp 35) = .pointer (some ⟨g3, ai * 5, none⟩) := haft ⟨7, .data⟩ (by simp) rfl _ _ rfl rfl
          exact b_same hi hI (guard_ok rfl rfl rfl fg) _ (run_loadmid_op rfl f7 (HY3.out W (HB8.out.trans (hI.mono HB8.out.size))) Tryz.underlying38 rfl (by kernel_rfl)) rfl
         ·intro a W hI hun haft hi
          have fg := haft ⟨4, .guard⟩ (by simp) rfl _ _ rfl rfl
          have e5 := hun 5 (by kernel_rfl)
          exact b_same hi hI (guard_ok rfl rfl rfl fg) _ (run_fieldAddr_any rfl e5 (at_event3 _ 0 _)) rfl
         ·intro a W hI hun haft hi
          have fg : a.eval (.tmp 32) = .bool false := haft ⟨4, .guard⟩ (by simp) rfl _ _ rfl rfl
          have f9 : a.eval (.tmp 37) = .pointer (some ⟨b5, 19, none⟩) := haft ⟨9, .data⟩ (by simp) rfl _ _ rfl rfl
          exact b_same hi hI (guard_ok rfl rfl rfl fg) _ (run_loadmid_op rfl f9 (HDe.out W (HB8.out.trans (hI.mono HB8.out.size))) Tryz.underlying38 rfl (by kernel_rfl)) rfl
         ·intro a W hI hun haft hi
          have fg := haft ⟨4, .guard⟩ (by simp) rfl _ _ rfl rfl
          have f8 := haft ⟨8, .data⟩ (by simp) rfl _ _ rfl rfl
          have f10 := haft ⟨10, .data⟩ (by simp) rfl _ _ rfl rfl
          exact b_same hi hI (guard_ok rfl rfl rfl fg) (.bool false) (run_bin_op rfl f8 f10 (by kernel_rfl) (ne_EE y x HXY.out _)) rfl
         ·intro a W hI hun haft hi
          have f4 := haft ⟨4, .data⟩ (by simp) rfl _ _ rfl rfl
          have f11 := haft ⟨11, .data⟩ (by simp) rfl _ _ rfl rfl
          exact b_same hi hI rfl _ (run_pick_op (b := false) rfl f4 rfl f11) rfl
        ·intro vals W hI hp
         have hl12 : vals 12 = .bool false := hp 12 (by decide)
         have HI := hid hI
         clear hp hI
         simp only [layN, layS, List.range, List.range.loop, if_true, Act.put, Nat.zero_add, Nat.reduceAdd, hl12]
         clear hl12
         have HBE := hid (show Below w.heap.size w W from HbY.out.trans ((HB8.out.trans (HI.out.mono HB8.out.size)).mono HbY.out.size))
         have HOE := hid (show OwnK enL p 38 5 W (.slice (some ⟨g3, 0, none⟩) m c3) (elsL (l.take (j + 1))) by
          rw [HNx.out, HAd.out, if_pos (by rw [HYy.out, of_decide_eq_true HXY.out])]
          exact OwnK.keep HOY.out (HB8.out.trans (HI.out.mono HB8.out.size)))
         have hw := HW1.out
         have hjm := HJ1.out
         clear HI
         go_wp2
         go_roundw
         case rel => exact ⟨j + 1, by go_num, by omega, HOE.out, HBE.out⟩
         case measure => simp [intOf] <;> omega
     ·go_upto_region 6 with fail
      try simp only [Act.put]
      refine wp_region_any (by kernel_rfl) ?_
      refine wpAny_below (fun i uq _ => uq = ([.int .i64 (ai : Nat), .slice A3 m c3, .int .i64 m, .bool false, .bool false, undef, undef, undef, undef, undef, undef, undef, .bool false] : List Value).getD i undef) _ wi (by kernel_rfl) (by kernel_rfl) (by kernel_rfl) (fun i v w w' _ h => h) ?_ ?_
      ·refine ⟨?_, ?_, ?_, ?_, ?_, ?_, ?_, ?_, ?_, ?_, ?_, ?_, ?_, trivial⟩
       ·intro a W hI hun haft hi
        have e6 := hun 6 (by kernel_rfl)
        exact b_same hi hI rfl _ (run_move_op rfl e6) rfl
       ·intro a W hI hun haft hi
        have e3 := hun 3 (by kernel_rfl)
        exact b_same hi hI rfl _ (run_move_op rfl e3) rfl
       ·intro a W hI hun haft hi
        have f1 := haft ⟨1, .data⟩ (by simp) rfl _ _ rfl rfl
        exact b_same hi hI rfl _ (run_len_op Tryz.underlying80 rfl f1) rfl
       ·intro a W hI hun haft hi
        have f0 : a.eval (.tmp 13) = .int .i64 (ai : Nat) := haft ⟨0, .data⟩ (by simp) rfl _ _ rfl rfl
        have f2 : a.eval (.tmp 15) = .int .i64 m := haft ⟨2, .data⟩ (by simp) rfl _ _ rfl rfl
        exact b_same hi hI rfl (.bool false) (run_bin_op rfl f0 f2 (by kernel_rfl) (run_ltn (decide_eq_false (by omega)) _)) rfl
       ·intro a W hI hun haft hi
        have f3 := haft ⟨3, .data⟩ (by simp) rfl _ _ rfl rfl
        exact b_same hi hI rfl _ (run_move_op rfl f3) rfl
       ·intro a W hI hun haft hi
        have fg : a.eval (.tmp 17) = .bool false := haft ⟨4, .guard⟩ (by simp) rfl _ _ rfl rfl
        exact b_skip hi hI (guard_no rfl rfl rfl (.inl fg)) rfl
       ·intro a W hI hun haft hi
        have fg : a.eval (.tmp 17) = .bool false := haft ⟨4, .guard⟩ (by simp) rfl _ _ rfl rfl
        exact b_skip hi hI (guard_no rfl rfl rfl (.inl fg)) rfl
       ·intro a W hI hun haft hi
        have fg : a.eval (.tmp 17) = .bool false := haft ⟨4, .guard⟩ (by simp) rfl _ _ rfl rfl
        exact b_skip hi hI (guard_no rfl rfl rfl (.inl fg)) rfl
       ·intro a W hI hun haft hi
        have fg : a.eval (.tmp 17) = .bool false := haft ⟨4, .guard⟩ (by simp) rfl _ _ rfl rfl
        exact b_skip hi hI (guard_no rfl rfl rfl (.inl fg)) rfl
       ·intro a W hI hun haft hi
        have fg : a.eval (.tmp 17) = .bool false := haft ⟨4, .guard⟩ (by simp) rfl _ _ rfl rfl
        exact b_skip hi hI (guard_no rfl rfl rfl (.inl fg)) rfl
       ·intro a W hI hun haft hi
        have fg : a.eval (.tmp 17) = .bool false := haft ⟨4, .guard⟩ (by simp) rfl _ _ rfl rfl
        exact b_skip hi hI (guard_no rfl rfl rfl (.inl fg)) rfl
       ·intro a W hI hun haft hi
        have fg : a.eval (.tmp 17) = .bool false := haft ⟨4, .guard⟩ (by simp) rfl _ _ rfl rfl
        exact b_skip hi hI (guard_no rfl rfl rfl (.inl fg)) rfl
       ·intro a W hI hun haft hi
        have f4 := haft ⟨4, .data⟩ (by simp) rfl _ _ rfl rfl
        have f11 := haft ⟨11, .data⟩ (by simp) rfl _ _ rfl rfl
        exact b_same hi hI rfl _ (run_pick_op (b := false) rfl f4 f11 rfl) rfl
      ·intro vals W hI hp
       have hl12 : vals 12 = .bool false := hp 12 (by decide)
       have HI := hid hI
       clear hp hI
       simp only [layN, layS, List.range, List.range.loop, if_true, Act.put, Nat.zero_add, Nat.reduceAdd, hl12]
       clear hl12
       have HB8 := hid (HBi.out.trans (HI.out.mono HBi.out.size))
       clear HI
       obtain ⟨w6, hw6⟩ : ∃ w6, w6 = W := ⟨_, rfl⟩
       rw [← hw6] at HB8 ⊢
       clear hw6
       go_upto_region 8 with fail
       try simp only [Act.put]
       have hkm : ai ≤ m := HKm.out
       refine wp_region_any (by kernel_rfl) ?_
       refine wpAny_below (fun i uq _ => uq = ([.int .i64 (ai : Nat), .slice A3 m c3, .int .i64 m, .bool true, .bool true, undef, undef, undef, undef, undef, undef, undef, .bool true] : List Value).getD i undef) _ w6 (by kernel_rfl) (by kernel_rfl) (by kernel_rfl) (fun i v w w' _ h => h) ?_ ?_
       ·refine ⟨?_, ?_, ?_, ?_, ?_, ?_, ?_, ?_, ?_, ?_, ?_, ?_, ?_, trivial⟩
        ·intro a W hI hun haft hi
         have e6 := hun 6 (by kernel_rfl)
         exact b_same hi hI rfl _ (run_move_op rfl e6) rfl
        ·intro a W hI hun haft hi
         have e3 := hun 3 (by kernel_rfl)
         exact b_same hi hI rfl _ (run_move_op rfl e3) rfl
        ·intro a W hI hun haft hi
         have f1 := haft ⟨1, .data⟩ (by simp) rfl _ _ rfl rfl
         exact b_same hi hI rfl _ (run_len_op Tryz.underlying80 rfl f1) rfl
        ·intro a W hI hun haft hi
         have f0 : a.eval (.tmp 28) = .int .i64 (ai : Nat) := haft ⟨0, .data⟩ (by simp) rfl _ _ rfl rfl
         have f2 : a.eval (.tmp 30) = .int .i64 m := haft ⟨2, .data⟩ (by simp) rfl _ _ rfl rfl
         exact b_same hi hI rfl (.bool true) (run_bin_op rfl f0 f2 (by kernel_rfl) (run_eqn (decide_eq_true (by omega)) _)) rfl
        ·intro a W hI hun haft hi
         have f3 := haft ⟨3, .data⟩ (by simp) rfl _ _ rfl rfl
         exact b_same hi hI rfl _ (run_move_op rfl f3) rfl
        ·intro a W hI hun haft hi
         have fg : a.eval (.tmp 32) = .bool true := haft ⟨4, .guard⟩ (by simp) rfl _ _ rfl rfl
         exact b_skip hi hI (guard_no rfl rfl rfl (.inl fg)) rfl
        ·intro a W hI hun haft hi
         have fg : a.eval (.tmp 32) = .bool true := haft ⟨4, .guard⟩ (by simp) rfl _ _ rfl rfl
         exact b_skip hi hI (guard_no rfl rfl rfl (.inl fg)) rfl
        ·intro a W hI hun haft hi
         have fg : a.eval (.tmp 32) = .bool true := haft ⟨4, .guard⟩ (by simp) rfl _ _ rfl rfl
         exact b_skip hi hI (guard_no rfl rfl rfl (.inl fg)) rfl
        ·intro a W hI hun haft hi
         have fg : a.eval (.tmp 32) = .bool true := haft ⟨4, .guard⟩ (by simp) rfl _ _ rfl rfl
         exact b_skip hi hI (guard_no rfl rfl rfl (.inl fg)) rfl
        ·intro a W hI hun haft hi
         have fg : a.eval (.tmp 32) = .bool true := haft ⟨4, .guard⟩ (by simp) rfl _ _ rfl rfl
         exact b_skip hi hI (guard_no rfl rfl rfl (.inl fg)) rfl
        ·intro a W hI hun haft hi
         have fg : a.eval (.tmp 32) = .bool true := haft ⟨4, .guard⟩ (by simp) rfl _ _ rfl rfl
         exact b_skip hi hI (guard_no rfl rfl rfl (.inl fg)) rfl
        ·intro a W hI hun haft hi
         have fg : a.eval (.tmp 32) = .bool true := haft ⟨4, .guard⟩ (by simp) rfl _ _ rfl rfl
         exact b_skip hi hI (guard_no rfl rfl rfl (.inl fg)) rfl
        ·intro a W hI hun haft hi
         have f4 := haft ⟨4, .data⟩ (by simp) rfl _ _ rfl rfl
         have f11 := haft ⟨11, .data⟩ (by simp) rfl _ _ rfl rfl
         exact b_same hi hI rfl _ (run_pick_op (b := true) rfl f4 rfl f11) rfl
       ·intro vals W hI hp
        have hl12 : vals 12 = .bool true := hp 12 (by decide)
        have HI := hid hI
        clear hp hI
        simp only [layN, layS, List.range, List.range.loop, if_true, Act.put, Nat.zero_add, Nat.reduceAdd, hl12]
        clear hl12
        have HB9 := hid (HB8.out.trans (HI.out.mono HB8.out.size))
        have HO9 := hid (OwnK.keep HOY.out HB9.out)
        clear HI
        go_upto_region 9 with fail
        try simp only [Act.put]
        refine wp_region_any (by kernel_rfl) ?_
        obtain ⟨R9, hR9⟩ : ∃ R9, W.heap.size = R9 := ⟨_, rfl⟩
        have HR9 := hid hR9
        clear hR9
        refine Lt.wpAny_two puL (pSL R9 out A3 m c3 ai x b5) _ W 8 12 _ _ _ (fun v' Wz => OwnK enL R9 38 5 Wz v' (out.take ai ++ [x]) ∧ Below W.heap.size W Wz) (fun v' Wz => OwnK enL R9 38 5 Wz v' ((out.take ai ++ [x]) ++ out.drop ai) ∧ Below W.heap.size W Wz)
         (by kernel_rfl) (by decide) rfl rfl rfl rfl (by kernel_rfl) (by kernel_rfl) (by kernel_rfl) (by kernel_rfl) (by kernel_rfl) (by kernel_rfl) (fun i v w w' hb h => pSL_keep hb h) pSL_pure ?_ ?_ ?_ ?_ ?_ ?_
        ·refine ⟨?_, ?_, ?_, ?_, ?_, ?_, ?_, ?_, ?_, ?_, ?_, ?_, ?_, ?_, trivial⟩
         ·intro _ _ _ a W hI hun haft hi
          exact b_val hi hI rfl _ _ (run_buildSlice_op (vs := #[]) rfl (by simp only [List.map_toArray, List.map_nil]) (bsNilL W)) ((Below.refl _ _).alloc (Nat.le_refl _) _) ⟨_, rfl, (own_emptyL W).base_ (by have := hI.size; have := HR9.out; omega)⟩
         ·exact fun _ _ h => absurd h (by decide)
         ·exact fun _ _ h => absurd h (by decide)
         ·exact fun _ _ h => absurd h (by decide)
         ·intro _ _ _ a W hI hun haft hi
          obtain ⟨gn, f0, hown⟩ : ∃ gn, a.eval (.tmp 41) = .slice (some ⟨gn, 0, none⟩) 0 0 ∧ OwnK enL R9 38 5 W (a.eval (.tmp 41)) [] := haft ⟨0, .data⟩ (by simp) rfl _ _ rfl rfl
          have f3 := haft ⟨3, .data⟩ (by simp) rfl _ _ rfl rfl
          rw [f0] at hown
          obtain ⟨v', w', hr, ho, hb⟩ := append_newL R9 W _ _ (((HO9.out.keep hI).read enL_len).hi ai HKm.out) (by have := HM9.out; have := HKm.out; rw [List.length_take]; omega) gn hown (by have := hI.size; have := HR9.out; omega)
          exact b_val hi hI rfl _ _ (run_append_op rfl f0 f3 hr) hb ho
         ·intro _ _ _ a W hI hun haft hi
          have e5 := hun 5 (by kernel_rfl)
          exact b_same hi hI rfl _ (run_fieldAddr_any rfl e5 (at_event3 b5 0 W)) rfl
         ·intro _ _ _ a W hI hun haft hi
          have f5 : a.eval (.tmp 46) = .pointer (some ⟨b5, 19, none⟩) := haft ⟨5, .data⟩ (by simp) rfl _ _ rfl rfl
          exact b_same hi hI rfl _ (run_loadmid_op rfl f5 (HDe.out W (HB9.out.trans (hI.mono HB9.out.size))) Tryz.underlying38 rfl (by kernel_rfl)) rfl
         ·intro _ _ _ a W hI hun haft hi
          have f5 : a.eval (.tmp 47) = eE x := haft ⟨6, .data⟩ (by simp) rfl _ _ rfl rfl
          exact b_val hi hI rfl _ _ (run_buildSlice_op (vs := #[(0, eE x)]) rfl (by simp only [List.map_toArray, List.map_cons, List.map_nil, f5]) (bsEl x W)) ((Below.refl _ _).alloc (Nat.le_refl _) _) (sl_oneL x W)
         ·exact fun _ h => absurd rfl h
         ·exact fun _ _ h => absurd h (by decide)
         ·exact fun _ _ h => absurd h (by decide)
         ·exact fun _ _ h => absurd h (by decide)
         ·exact fun h => absurd h (Nat.lt_irrefl _)
         ·exact fun h => absurd h (by decide)
        ·refine ⟨?_, ?_, ?_, ?_, ?_, ?_, ?_, ?_, ?_, ?_, ?_, ?_, ?_, ?_, trivial⟩
         ·exact fun _ h => absurd h (by decide)
         ·intro _ _ a W hun haft hi
          have e3 := hun 3 (by kernel_rfl)
          exact wpOp_val hi rfl _ _ (run_move_op rfl e3) ⟨_, rfl, rfl, rfl⟩
         ·intro _ _ a W hun haft hi
          have e6 := hun 6 (by kernel_rfl)
          exact wpOp_val hi rfl _ _ (run_move_op rfl e6) ⟨_, rfl, rfl, rfl⟩
         ·intro _ _ a W hun haft hi
          have f1 := haft ⟨1, .data⟩ (by simp) rfl rfl _ _ rfl rfl
          have f2 := haft ⟨2, .data⟩ (by simp) rfl rfl _ _ rfl rfl
          exact wpOp_val hi rfl _ _ (run_slhi_op rfl f1 f2 (run_sliceK_hi W _ _ Tryz.underlying80 (sizeL x) _ _ _ _ HKc.out)) ⟨_, rfl, rfl, rfl⟩
         ·exact fun _ h => absurd h (by decide)
         ·exact fun _ h => absurd h (by decide)
         ·exact fun _ h => absurd h (by decide)
         ·exact fun _ h => absurd h (by decide)
         ·exact fun _ h => absurd h (by decide)
         ·intro _ _ a W hun haft hi
          have e3 := hun 3 (by kernel_rfl)
          exact wpOp_val hi rfl _ _ (run_move_op rfl e3) ⟨_, rfl, rfl, rfl⟩
         ·intro _ _ a W hun haft hi
          have e6 := hun 6 (by kernel_rfl)
          exact wpOp_val hi rfl _ _ (run_move_op rfl e6) ⟨_, rfl, rfl, rfl⟩
         ·intro _ _ a W hun haft hi
          have f8 := haft ⟨9, .data⟩ (by simp) rfl rfl _ _ rfl rfl
          have f9 := haft ⟨10, .data⟩ (by simp) rfl rfl _ _ rfl rfl
          exact wpOp_val hi rfl _ _ (run_sllo_op rfl f8 f9 (run_sliceK_lo W _ _ Tryz.underlying80 (sizeL x) _ _ _ _ HKm.out)) ⟨_, rfl, rfl, rfl⟩
         ·exact fun h => absurd h (Nat.lt_irrefl _)
         ·exact fun h => absurd h (by decide)
        ·intro a W hI hun haft
         have f4 : OwnK enL R9 38 5 W (a.eval (.tmp 45)) (out.take ai) := haft ⟨4, .data⟩ (by simp) rfl _ _ rfl rfl
         have f6 : SlK enL 5 W (a.eval (.tmp 48)) [x] := haft ⟨7, .data⟩ (by simp) rfl _ _ rfl rfl
         have hR9 : R9 ≤ W.heap.size := by have := hI.size; have := HR9.out; omega
         obtain ⟨v', w', hr, ho, hgr, _⟩ := append_el R9 W _ _ f4 _ _ f6 (by have := HM9.out; have := HKm.out; simp; omega) hR9
         exact wpOp_val rfl rfl v' w' (run_append_op rfl rfl rfl hr) ⟨v', rfl, ho, hI.grown hgr (by have := hI.size; omega) (fun q e => by have := (f4.lt q e).1; have := HR9.out; omega)⟩
        ·intro vals a W hJ hsl hp
         obtain ⟨ho7, hI7⟩ := hJ
         have f10 : a.eval (.tmp 52) = .slice (slK A3 c3 ai 5) (m - ai) (c3 - ai) := (hsl 11 _ _ rfl (by decide) rfl).trans (hp 11 (by decide) (by decide))
         have f7 : a.eval (.tmp 49) = vals 8 := hsl 8 _ _ rfl (by decide) rfl
         rw [← f7] at ho7
         have hR9 : R9 ≤ W.heap.size := by have := hI7.size; have := HR9.out; omega
         obtain ⟨v', w', hr, ho, hgr, _⟩ := append_el R9 W _ _ ho7 _ _ (((HO9.out.keep hI7).read enL_len).lo ai HKm.out) (by have := HM9.out; have := HOl.out; have := HKm.out; simp; omega) hR9
         exact wpOp_val rfl rfl v' w' (run_append_op rfl rfl f10 hr) ⟨v', rfl, ho, hI7.grown hgr (by have := hI7.size; omega) (fun q e => by have := (ho7.lt q e).1; have := HR9.out; omega)⟩
        ·intro v a W hJ hs
         have f11 : a.eval (.tmp 53) = v := hs 53 rfl
         exact wpOp_val rfl rfl v W (run_assign_op rfl f11) ⟨v, rfl, rfl, hJ⟩
        ·rintro vals Wq ⟨hv1, hv2⟩
         have HV1 := hid hv1
         have HV2 := hid hv2
         obtain ⟨v3', hv3⟩ : ∃ v3', vals 13 = v3' := ⟨_, rfl⟩
         rw [hv3] at HV1
         have HV3 := hid hv3
         clear hv1 hv2 hv3
         simp only [layN, layS, List.range, List.range.loop, if_true, Act.put, Nat.zero_add, Nat.reduceAdd, HV3.out]
         have HBE := hid (show Below w.heap.size w Wq from HbY.out.trans ((HB9.out.trans (HV2.out.mono HB9.out.size)).mono HbY.out.size))
         have HOE := hid (show OwnK enL p 38 5 Wq v3' (elsL (l.take (j + 1))) by
          rw [HNx.out, HAd.out, if_neg (by rw [List.getElem?_eq_none (by rw [HOl.out]; omega)]; intro e; cases e)]
          exact HV1.out.base_ (by have := HR9.out; have := HP.out; have := HB9.out.size; have := HbY.out.size; omega))
         have hw := HW1.out
         have hjm := HJ1.out
         go_wp2
         go_roundw
         case rel => exact ⟨j + 1, by go_num, by omega, HOE.out, HBE.out⟩
         case measure => simp [intOf] <;> omega
  ·go_wp2_with fail
   go_ret
   have hjN : j = N := by omega
   refine ⟨_, rfl, ?_, by first | exact HBw.out | (rw [← HP.out]; exact HBw.out)⟩
   rw [hjN, List.take_of_length_le (by rw [HN.out]; exact Nat.le_refl _)] at ho
   exact ho
theorem at_event4 (g q : Nat) (w : World) : (Instr.fieldAt 60 (.pointer (some ⟨g, q, none⟩)) 4).run Tryz.prog w = .ok (.pointer (some ⟨g, q + 24, none⟩)) w := by go_simp
end Go.Proofs.YtdgglhlofnigkaaGreatDoor
