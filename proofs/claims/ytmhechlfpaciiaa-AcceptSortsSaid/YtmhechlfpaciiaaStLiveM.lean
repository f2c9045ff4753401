/-
  Causal rows: what came, came one by one; a turned row comes in as many passes as it has events. What is left hangs on no order. Conditions: none.
-/
import Derived.Test.YtmhechlfpaciiaaStCopA
namespace Go.Proofs.Ytmhechlfpaciiaa
open Go.RowKit Go.MapKept Go.Sort

/-! ### Causal rows -/
theorem may_iff {f : Nat → Int} {e : Ev} : mayC f e = true ↔ okB e = true ∧ f e.r.toNat = e.c - 1 ∧ ∀ i, i < 16 → e.p i ≤ f i := by
  unfold mayC
  simp [and_assoc]
/-- Induction over what comes. -/
theorem causC_ind {R : List Ev × (Nat → Int) → Prop} (h0 : R ([], fun _ => 0)) (hs : ∀ s e, R s → mayC s.2 e = true → R (s.1 ++ [e], fun i => if i = e.r.toNat then e.c else s.2 i)) (l : List Ev) : R (causC l) := by
  suffices h : ∀ (l : List Ev) s, R s → R (l.foldl comeC s) from h l _ h0
  intro l
  induction l with
  | nil => intro s h; exact h
  | cons e l ih =>
    intro s h
    refine ih _ ?_
    cases hm : mayC s.2 e
    · rw [comeC_no hm]; exact h
    · rw [comeC_yes hm]; exact hs s e h hm
/-- What came stays. -/
theorem caus_grow (a b : List Ev) : ∃ r, (causC (a ++ b)).1 = (causC a).1 ++ r := by
  induction b generalizing a with
  | nil => exact ⟨[], by simp⟩
  | cons e b ih =>
    obtain ⟨r, hr⟩ := ih (a ++ [e])
    rw [List.append_assoc, List.singleton_append] at hr
    rw [hr, causC_snoc]
    cases hm : mayC (causC a).2 e
    · rw [comeC_no hm]; exact ⟨r, rfl⟩
    · rw [comeC_yes hm]; exact ⟨[e] ++ r, by simp⟩
theorem caus_stay {a b : List Ev} {e : Ev} (h : e ∈ (causC a).1) : e ∈ (causC (a ++ b)).1 := by
  obtain ⟨r, hr⟩ := caus_grow a b
  rw [hr]; exact List.mem_append_left _ h
/-- What is known is what came, one by one. -/
theorem caus_known (l : List Ev) : (∀ e ∈ (causC l).1, okB e = true ∧ e.c ≤ (causC l).2 e.r.toNat) ∧ (∀ i, 0 ≤ (causC l).2 i) ∧ ∀ i c, 1 ≤ c → c ≤ (causC l).2 i → ∃ e ∈ (causC l).1, e.r.toNat = i ∧ e.c = c := by
  refine causC_ind (R := fun s => (∀ e ∈ s.1, okB e = true ∧ e.c ≤ s.2 e.r.toNat) ∧ (∀ i, 0 ≤ s.2 i) ∧ ∀ i c, 1 ≤ c → c ≤ s.2 i → ∃ e ∈ s.1, e.r.toNat = i ∧ e.c = c) ⟨fun e h => (by cases h), fun i => Int.le_refl _, fun i c h1 h2 => (by dsimp only at h2; omega)⟩ ?_ l
  rintro ⟨D, f⟩ e ⟨h1, h2, h3⟩ hm
  obtain ⟨ho, hc, _⟩ := may_iff.1 hm
  obtain ⟨n, hn, hn2, hn3, _⟩ := ok_dot ho
  dsimp only at *
  refine ⟨fun g hg => ?_, fun i => ?_, fun i c q1 q2 => ?_⟩
  · rcases List.mem_append.1 hg with hg | hg
    · obtain ⟨g1, g2⟩ := h1 g hg
      refine ⟨g1, ?_⟩
      split
      · rename_i he; rw [he] at g2; omega
      · exact g2
    · rw [List.mem_singleton.1 hg]
      exact ⟨ho, by rw [if_pos rfl]; exact Int.le_refl _⟩
  · split
    · omega
    · exact h2 i
  · split at q2
    · rename_i he
      by_cases hcc : c = e.c
      · exact ⟨e, by simp, he.symm, hcc.symm⟩
      · obtain ⟨g, g1, g2, g3⟩ := h3 i c q1 (by rw [he]; omega)
        exact ⟨g, List.mem_append_left _ g1, g2, g3⟩
    · obtain ⟨g, g1, g2, g3⟩ := h3 i c q1 q2
      exact ⟨g, List.mem_append_left _ g1, g2, g3⟩
/-- A row as it may come: no dot twice; no event knows itself, or one behind it. -/
def CausL (L : List Ev) : Prop := (∀ e ∈ L, okB e = true ∧ knD e.p (dtOf e) = false) ∧ L.Pairwise fun e f => dtOf e ≠ dtOf f ∧ knD e.p (dtOf f) = false
theorem kn_no {f g : Nat → Int} {e : Ev} (h : ∀ i, i < 16 → f i ≤ g i) (ho : okB e = true) (hc : g e.r.toNat < e.c) : knD f (dtOf e) = false := by
  obtain ⟨n, hn, hn2, hn3, _⟩ := ok_dot ho
  unfold knD knowsB
  rw [Bool.and_eq_false_iff]
  right
  refine decide_eq_false ?_
  show ¬ e.c ≤ f e.r.toNat
  have := h n hn2
  rw [hn, Int.toNat_natCast] at hc ⊢
  omega
theorem caus_row (l : List Ev) : CausL (causC l).1 := by
  have : (∀ e ∈ (causC l).1, okB e = true ∧ e.c ≤ (causC l).2 e.r.toNat ∧ ∀ i, i < 16 → e.p i ≤ (causC l).2 i) ∧ CausL (causC l).1 := by
    refine causC_ind (R := fun s => (∀ e ∈ s.1, okB e = true ∧ e.c ≤ s.2 e.r.toNat ∧ ∀ i, i < 16 → e.p i ≤ s.2 i) ∧ CausL s.1) ⟨fun e h => (by cases h), fun e h => (by cases h), List.Pairwise.nil⟩ ?_ l
    rintro ⟨D, f⟩ e ⟨h1, h2, h3⟩ hm
    obtain ⟨ho, hc, hp⟩ := may_iff.1 hm
    dsimp only at *
    refine ⟨fun g hg => ?_, fun g hg => ?_, ?_⟩
    · rcases List.mem_append.1 hg with hg | hg
      · obtain ⟨g1, g2, g3⟩ := h1 g hg
        refine ⟨g1, ?_, fun i hi => ?_⟩
        · split
          · rename_i he; rw [he] at g2; omega
          · exact g2
        · have := g3 i hi
          split
          · rename_i he; rw [he] at this ⊢; omega
          · exact this
      · rw [List.mem_singleton.1 hg]
        refine ⟨ho, by rw [if_pos rfl]; exact Int.le_refl _, fun i hi => ?_⟩
        have := hp i hi
        split
        · rename_i he; rw [he] at this ⊢; omega
        · exact this
    · rcases List.mem_append.1 hg with hg | hg
      · exact h2 g hg
      · rw [List.mem_singleton.1 hg]
        exact ⟨ho, kn_no hp ho (by omega)⟩
    · refine List.pairwise_append.2 ⟨h3, List.pairwise_singleton .., fun g hg e' he => ?_⟩
      rw [List.mem_singleton.1 he]
      obtain ⟨g1, g2, g3⟩ := h1 g hg
      refine ⟨fun hd => ?_, kn_no g3 ho (by omega)⟩
      simp only [dtOf, Dt.mk.injEq] at hd
      rw [hd.1] at g2
      omega
  exact this.2
theorem CausL.dots {L : List Ev} (h : CausL L) : (L.map dtOf).Nodup := List.pairwise_map.2 (h.2.imp fun h => h.1)
theorem CausL.nodup {L : List Ev} (h : CausL L) : L.Nodup := h.2.imp fun h e => h.1 (by rw [e])
theorem CausL.same {L : List Ev} (h : CausL L) {e f : Ev} (he : e ∈ L) (hf : f ∈ L) (hd : dtOf e = dtOf f) : e = f := by
  obtain ⟨i, hi, rfl⟩ := List.getElem_of_mem he
  obtain ⟨j, hj, rfl⟩ := List.getElem_of_mem hf
  have hp := List.pairwise_iff_getElem.1 h.2
  rcases Nat.lt_trichotomy i j with hij | hij | hij
  · exact absurd hd (hp i j hi hj hij).1
  · subst hij; rfl
  · exact absurd hd.symm (hp j i hj hi hij).1
theorem dt_of {e f : Ev} (he : okB e = true) (hf : okB f = true) (h1 : e.r.toNat = f.r.toNat) (h2 : e.c = f.c) : dtOf e = dtOf f := by
  obtain ⟨n, hn, _⟩ := ok_dot he
  obtain ⟨m, hm, _⟩ := ok_dot hf
  simp only [dtOf, Dt.mk.injEq]
  rw [hn, hm] at h1 ⊢
  simp only [Int.toNat_natCast] at h1
  exact ⟨by rw [h1], h2⟩
/-- One of a row that is known has come. -/
theorem known_in {row M : List Ev} (hr : CausL row) (hM : ∀ e ∈ M, e ∈ row) {e : Ev} (he : e ∈ row) (h : e.c ≤ (causC M).2 e.r.toNat) : e ∈ (causC M).1 := by
  obtain ⟨n, hn, _, hc, _⟩ := ok_dot (hr.1 e he).1
  obtain ⟨g, g1, g2, g3⟩ := (caus_known M).2.2 _ _ hc h
  have hg : g ∈ row := hM g (causC_mem M g g1)
  rw [hr.same he hg (dt_of (hr.1 e he).1 (hr.1 g hg).1 g2.symm g3.symm)]
  exact g1
/-- All of a row come. -/
theorem caus_all (l : List Ev) : causC (causC l).1 = causC l := by
  refine causC_ind (R := fun s => causC s.1 = s) rfl ?_ l
  rintro ⟨D, f⟩ e h hm
  dsimp only at h hm ⊢
  rw [causC_snoc, h, comeC_yes hm]

theorem caus_init {a : List Ev} {e : Ev} (h : (causC (a ++ [e])).1 = a ++ [e]) : (causC a).1 = a ∧ mayC (causC a).2 e = true := by
  rw [causC_snoc] at h
  cases hm : mayC (causC a).2 e
  · rw [comeC_no hm] at h
    have h1 := congrArg List.length h
    have h2 := causC_len a
    simp at h1
    omega
  · rw [comeC_yes hm] at h
    exact ⟨List.append_cancel_right h, rfl⟩
theorem caus_part (b : List Ev) : ∀ (a : List Ev), (causC (a ++ b)).1 = a ++ b → (causC a).1 = a := by
  induction b with
  | nil => intro a h; simpa using h
  | cons e b ih =>
    intro a h
    have := ih (a ++ [e]) (by simpa using h)
    exact (caus_init this).1
theorem caus_at {l : List Ev} {k : Nat} {e : Ev} (hk : (causC l).1[k]? = some e) : (causC ((causC l).1.take k)).1 = (causC l).1.take k ∧ mayC (causC ((causC l).1.take k)).2 e = true := by
  have h1 : (causC l).1.take (k + 1) ++ (causC l).1.drop (k + 1) = (causC l).1 := List.take_append_drop _ _
  have h2 := caus_part ((causC l).1.drop (k + 1)) ((causC l).1.take (k + 1)) (by rw [h1, caus_all])
  rw [List.take_add_one, hk] at h2
  exact caus_init h2
/-- The first one of a row that hasn't come may come. -/
theorem first_may {l M : List Ev} {k : Nat} {e : Ev} (hM : ∀ e ∈ M, e ∈ (causC l).1) (hk : (causC l).1[k]? = some e) (hin : ∀ g ∈ (causC l).1.take k, g ∈ (causC M).1) (hne : e ∉ (causC M).1) : mayC (causC M).2 e = true := by
  have hr := caus_row l
  have he : e ∈ (causC l).1 := List.mem_of_getElem? hk
  obtain ⟨h1, h2⟩ := caus_at hk
  obtain ⟨ho, hc, hp⟩ := may_iff.1 h2
  obtain ⟨n, hn, hn2, hn3, _⟩ := ok_dot ho
  have hle : ∀ i, (causC ((causC l).1.take k)).2 i ≤ (causC M).2 i := by
    intro i
    by_cases h0 : 1 ≤ (causC ((causC l).1.take k)).2 i
    · obtain ⟨g, g1, g2, g3⟩ := (caus_known ((causC l).1.take k)).2.2 i _ h0 (Int.le_refl _)
      rw [h1] at g1
      have := ((caus_known M).1 g (hin g g1)).2
      rw [g2] at this
      omega
    · have := (caus_known M).2.1 i
      omega
  have hlt : (causC M).2 e.r.toNat < e.c := by
    refine Int.not_le.1 fun h => hne (known_in hr hM he h)
  refine may_iff.2 ⟨ho, ?_, fun i hi => Int.le_trans (hp i hi) (hle i)⟩
  have := hle e.r.toNat
  omega
/-- p passes over a turned row, and a part of the next one. -/
def passL (t : List Ev) (p q : Nat) : List Ev := (List.replicate p t).flatten ++ t.take q
theorem pass_zero (t : List Ev) : passL t 0 0 = [] := by simp [passL]
theorem pass_next {t : List Ev} {p q : Nat} {e : Ev} (h : t[q]? = some e) : passL t p (q + 1) = passL t p q ++ [e] := by
  unfold passL
  rw [List.take_add_one, h, List.append_assoc]; rfl
theorem pass_full {t : List Ev} {p q : Nat} (h : t.length ≤ q) : passL t p q = passL t (p + 1) 0 := by
  unfold passL
  rw [List.take_of_length_le h, List.replicate_succ', List.flatten_append]
  simp
theorem pass_mem {t : List Ev} {p q : Nat} {e : Ev} (h : e ∈ passL t p q) : e ∈ t := by
  unfold passL at h
  rcases List.mem_append.1 h with h | h
  · obtain ⟨l, h1, h2⟩ := List.mem_flatten.1 h
    rw [(List.mem_replicate.1 h1).2] at h2
    exact h2
  · exact List.mem_of_mem_take h
/-- Each pass lets one more come. -/
theorem pass_come {l t : List Ev} (ht : t.Perm (causC l).1) : ∀ p, p ≤ (causC l).1.length → ∀ g ∈ (causC l).1.take p, g ∈ (causC (passL t p 0)).1 := by
  intro p
  induction p with
  | zero => intro _ g hg; simp at hg
  | succ p ih =>
    intro hp g hg
    have ih := ih (by omega)
    obtain ⟨e, he⟩ : ∃ e, (causC l).1[p]? = some e := ⟨_, List.getElem?_eq_getElem (by omega)⟩
    have hf : passL t (p + 1) 0 = passL t p 0 ++ t := by rw [← pass_full (Nat.le_refl t.length)]; simp [passL]
    rw [hf]
    rw [List.take_add_one, he] at hg
    rcases List.mem_append.1 hg with hg | hg
    · exact caus_stay (ih g hg)
    · have hge : g = e := by simpa using hg
      subst hge
      have hgt : g ∈ t := ht.mem_iff.2 (List.mem_of_getElem? he)
      obtain ⟨a, b, hab⟩ := List.append_of_mem hgt
      have e1 : passL t p 0 ++ t = (passL t p 0 ++ a ++ [g]) ++ b := by rw [hab]; simp
      rw [e1]
      refine caus_stay ?_
      rw [causC_snoc]
      by_cases hin : g ∈ (causC (passL t p 0 ++ a)).1
      · cases hm : mayC (causC (passL t p 0 ++ a)).2 g
        · rw [comeC_no hm]; exact hin
        · rw [comeC_yes hm]; exact List.mem_append_left _ hin
      · rw [comeC_yes (first_may (l := l) (k := p) (fun x hx => ?_) he (fun x hx => caus_stay (ih x hx)) hin)]
        · simp
        · refine ht.mem_iff.1 ?_
          rcases List.mem_append.1 hx with hx | hx
          · exact pass_mem hx
          · rw [hab]; exact List.mem_append_left _ hx
/-- Behind as many passes as there are events all have come. -/
theorem pass_all {l t : List Ev} (ht : t.Perm (causC l).1) : (causC (passL t (causC l).1.length 0)).1.Perm (causC l).1 ∧ ∀ i, (causC (passL t (causC l).1.length 0)).2 i = (causC l).2 i := by
  have h1 := pass_come ht _ (Nat.le_refl _)
  rw [List.take_length] at h1
  have h2 : ∀ g ∈ (causC (passL t (causC l).1.length 0)).1, g ∈ (causC l).1 := fun g hg => ht.mem_iff.1 (pass_mem (causC_mem _ g hg))
  refine ⟨(List.perm_ext_iff_of_nodup (caus_row _).nodup (caus_row _).nodup).2 fun g => ⟨h2 g, h1 g⟩, fun i => ?_⟩
  have k1 := caus_known (passL t (causC l).1.length 0)
  have k2 := caus_known l
  have up : ∀ (a b : List Ev), (∀ g ∈ (causC a).1, g ∈ (causC b).1) → (causC a).2 i ≤ (causC b).2 i := by
    intro a b h
    by_cases h0 : 1 ≤ (causC a).2 i
    · obtain ⟨g, g1, g2, g3⟩ := (caus_known a).2.2 i _ h0 (Int.le_refl _)
      have := ((caus_known b).1 g (h g g1)).2
      rw [g2] at this
      omega
    · have := (caus_known b).2.1 i
      omega
  have a1 := up _ _ h1
  have a2 := up _ _ h2
  omega
/-! ### What is left -/
def liveP (L : List Ev) (x : El) (e : Ev) : Prop := elOf e = x ∧ (e.op = 1 ∨ e.op = 3) ∧ ∀ f ∈ L, elOf f = x → f.op ≠ 1 → dtOf f ≠ dtOf e → knD f.p (dtOf e) = false
theorem CausL.init {L : List Ev} {e : Ev} (h : CausL (L ++ [e])) : CausL L ∧ okB e = true ∧ ∀ f ∈ L, dtOf f ≠ dtOf e ∧ knD f.p (dtOf e) = false := by
  obtain ⟨h1, h2⟩ := h
  obtain ⟨p1, _, p3⟩ := List.pairwise_append.1 h2
  exact ⟨⟨fun f hf => h1 f (List.mem_append_left _ hf), p1⟩, (h1 e (by simp)).1, fun f hf => p3 f hf e (by simp)⟩
section
variable {σ : List (El × List (Dt × Va))} {x y : El}
theorem ent_come {d : Dt} {v : Va} : entS y (comeS x d v σ) = if x = y then putL d v (entS x σ) else entS y σ := by
  unfold entS comeS
  rw [getL_putL]
  split <;> rfl
theorem ent_undo (kn : Dt → Bool) : entS y (undoS x kn σ) = if x = y then leftS kn (entS x σ) else entS y σ := by
  unfold entS undoS
  cases hg : getL x σ with
  | none =>
    dsimp only
    split
    · rename_i h; rw [← h, hg]; rfl
    · rfl
  | some l =>
    dsimp only
    by_cases hl : leftS kn l = []
    · rw [if_pos hl, getL_delL]
      split
      · exact hl.symm
      · rfl
    · rw [if_neg hl, getL_putL]
      split <;> rfl
theorem mem_left {kn : Dt → Bool} {l : List (Dt × Va)} {q : Dt × Va} : q ∈ leftS kn l ↔ q ∈ l ∧ kn q.1 = false := by
  simp [leftS]
theorem OkS.ent_nodup (h : OkS σ) : (keysL (entS x σ)).Nodup := by
  unfold entS
  cases hg : getL x σ with
  | none => exact List.nodup_nil
  | some l => exact (h.ent hg).2.2.2.1
theorem OkS.key_iff (h : OkS σ) : x ∈ keysL σ ↔ entS x σ ≠ [] := by
  unfold entS
  cases hg : getL x σ with
  | none => exact ⟨fun e => absurd e (getL_none.1 hg), fun e => absurd rfl e⟩
  | some l =>
    refine ⟨fun _ => (h.ent hg).2.2.1, fun _ => ?_⟩
    exact List.mem_map.2 ⟨_, getL_mem hg, rfl⟩
end
theorem nodup_left {kn : Dt → Bool} {l : List (Dt × Va)} (h : (keysL l).Nodup) : (keysL (leftS kn l)).Nodup := nodup_filter h _
/-- WHAT IS LEFT. -/
theorem ent_live : ∀ (n : Nat) (L : List Ev), L.length = n → CausL L → (∀ e ∈ L, Lens e) → ∀ x q, q ∈ entS x (runS L) ↔ ∃ e ∈ L, liveP L x e ∧ q = (dtOf e, vaOf e) := by
  intro n
  induction n with
  | zero =>
    intro L hL _ _ x q
    rw [List.eq_nil_of_length_eq_zero hL]
    exact ⟨fun h => (by cases h), fun ⟨e, he, _⟩ => (by cases he)⟩
  | succ n ih =>
    intro L hL hc hl x q
    obtain ⟨L, e, rfl⟩ : ∃ M e, L = M ++ [e] := ⟨L.dropLast, L.getLast (by intro h; rw [h] at hL; cases hL), (List.dropLast_concat_getLast _).symm⟩
    obtain ⟨hc1, ho, hd⟩ := hc.init
    have hL1 : L.length = n := by simpa using hL
    have hl1 : ∀ e ∈ L, Lens e := fun f hf => hl f (List.mem_append_left _ hf)
    have ih := ih L hL1 hc1 hl1
    have hok := (runS_ok L hl1).1
    have hself : knD e.p (dtOf e) = false := (hc.1 e (by simp)).2
    -- who of those ahead is left
    have hliv : ∀ f ∈ L, liveP (L ++ [e]) x f ↔ liveP L x f ∧ (elOf e = x → e.op ≠ 1 → knD e.p (dtOf f) = false) := by
      intro f hf
      have hne := (hd f hf).1
      constructor
      · rintro ⟨h1, h2, h3⟩
        exact ⟨⟨h1, h2, fun g hg => h3 g (List.mem_append_left _ hg)⟩, fun a b => h3 e (by simp) a b (fun h => hne h.symm)⟩
      · rintro ⟨⟨h1, h2, h3⟩, h4⟩
        refine ⟨h1, h2, fun g hg a b c => ?_⟩
        rcases List.mem_append.1 hg with hg | hg
        · exact h3 g hg a b c
        · rw [List.mem_singleton.1 hg] at a b ⊢
          exact h4 a b
    have hlast : liveP (L ++ [e]) x e ↔ elOf e = x ∧ (e.op = 1 ∨ e.op = 3) := by
      constructor
      · rintro ⟨h1, h2, _⟩; exact ⟨h1, h2⟩
      · rintro ⟨h1, h2⟩
        refine ⟨h1, h2, fun g hg a b c => ?_⟩
        rcases List.mem_append.1 hg with hg | hg
        · exact (hd g hg).2
        · rw [List.mem_singleton.1 hg]; exact hself
    have hex : (∃ f ∈ L ++ [e], liveP (L ++ [e]) x f ∧ q = (dtOf f, vaOf f)) ↔ (q ∈ entS x (runS L) ∧ (elOf e = x → e.op ≠ 1 → knD e.p q.1 = false)) ∨ (elOf e = x ∧ (e.op = 1 ∨ e.op = 3) ∧ q = (dtOf e, vaOf e)) := by
      constructor
      · rintro ⟨f, hf, h1, h2⟩
        rcases List.mem_append.1 hf with hf | hf
        · obtain ⟨a, b⟩ := (hliv f hf).1 h1
          exact .inl ⟨(ih x q).2 ⟨f, hf, a, h2⟩, by rw [h2]; exact b⟩
        · rw [List.mem_singleton.1 hf] at h1 h2
          obtain ⟨a, b⟩ := hlast.1 h1
          exact .inr ⟨a, b, h2⟩
      · rintro (⟨h1, h2⟩ | ⟨h1, h2, h3⟩)
        · obtain ⟨f, hf, a, b⟩ := (ih x q).1 h1
          rw [b] at h2
          exact ⟨f, List.mem_append_left _ hf, (hliv f hf).2 ⟨a, h2⟩, b⟩
        · exact ⟨e, by simp, hlast.2 ⟨h1, h2⟩, h3⟩
    have hnew : ∀ q ∈ entS x (runS L), q.1 ≠ dtOf e := by
      intro q hq
      obtain ⟨f, hf, _, b⟩ := (ih x q).1 hq
      rw [b]; exact (hd f hf).1
    rw [hex, runS_snoc, if_pos ho]
    unfold doS
    by_cases hx : elOf e = x
    · subst hx
      by_cases h1 : e.op = 1
      · rw [if_pos h1, ent_come, if_pos rfl, mem_putL hok.ent_nodup]
        constructor
        · rintro (h | ⟨h, _⟩)
          · exact .inr ⟨rfl, .inl h1, h⟩
          · exact .inl ⟨h, fun _ hn => absurd h1 hn⟩
        · rintro (⟨h, _⟩ | ⟨_, _, h⟩)
          · exact .inr ⟨h, hnew q h⟩
          · exact .inl h
      · rw [if_neg h1]
        by_cases h3 : e.op = 3
        · rw [if_pos h3, ent_come, if_pos rfl]
          have hnd : (keysL (entS (elOf e) (undoS (elOf e) (knD e.p) (runS L)))).Nodup := by
            rw [ent_undo, if_pos rfl]; exact nodup_left hok.ent_nodup
          rw [mem_putL hnd, ent_undo, if_pos rfl, mem_left]
          constructor
          · rintro (h | ⟨⟨h, h'⟩, _⟩)
            · exact .inr ⟨rfl, .inr h3, h⟩
            · exact .inl ⟨h, fun _ _ => h'⟩
          · rintro (⟨h, h'⟩ | ⟨_, _, h⟩)
            · exact .inr ⟨⟨h, h' rfl h1⟩, hnew q h⟩
            · exact .inl h
        · rw [if_neg h3, ent_undo, if_pos rfl, mem_left]
          constructor
          · rintro ⟨h, h'⟩; exact .inl ⟨h, fun _ _ => h'⟩
          · rintro (⟨h, h'⟩ | ⟨_, h, _⟩)
            · exact ⟨h, h' rfl h1⟩
            · rcases h with h | h
              · exact absurd h h1
              · exact absurd h h3
    · have e1 : entS x (if e.op = 1 then comeS (elOf e) (dtOf e) (vaOf e) (runS L) else if e.op = 3 then comeS (elOf e) (dtOf e) (vaOf e) (undoS (elOf e) (knD e.p) (runS L)) else undoS (elOf e) (knD e.p) (runS L)) = entS x (runS L) := by
        split
        · rw [ent_come, if_neg hx]
        · split
          · rw [ent_come, if_neg hx, ent_undo, if_neg hx]
          · rw [ent_undo, if_neg hx]
      rw [e1]
      constructor
      · intro h; exact .inl ⟨h, fun a => absurd a hx⟩
      · rintro (⟨h, _⟩ | ⟨h, _⟩)
        · exact h
        · exact absurd h hx
theorem keys_nodup_list {l : List (Dt × Va)} (h : (keysL l).Nodup) : l.Nodup := List.Pairwise.of_map Prod.fst (fun a b hne e => hne (by rw [e])) h
/-- THE ORDER IS FREE. -/
theorem order_free {L M : List Ev} (hL : CausL L) (hM : CausL M) (hl : ∀ e ∈ L, Lens e) (hp : M.Perm L) :
    (∀ x, x ∈ keysL (runS M) ↔ x ∈ keysL (runS L)) ∧ (∀ x, (entS x (runS M)).Perm (entS x (runS L))) ∧ (keysL (runS M)).Perm (keysL (runS L)) ∧ totS (runS M) = totS (runS L) := by
  have hm : ∀ e ∈ M, Lens e := fun e he => hl e (hp.mem_iff.1 he)
  have o1 := (runS_ok L hl).1
  have o2 := (runS_ok M hm).1
  have hliv : ∀ x e, liveP M x e ↔ liveP L x e := fun x e => by
    unfold liveP
    simp only [hp.mem_iff]
  have hmem : ∀ x q, q ∈ entS x (runS M) ↔ q ∈ entS x (runS L) := fun x q => by
    rw [ent_live _ M rfl hM hm, ent_live _ L rfl hL hl]
    simp only [hp.mem_iff, hliv]
  have hent : ∀ x, (entS x (runS M)).Perm (entS x (runS L)) := fun x => (List.perm_ext_iff_of_nodup (keys_nodup_list o2.ent_nodup) (keys_nodup_list o1.ent_nodup)).2 (hmem x)
  have hkey : ∀ x, x ∈ keysL (runS M) ↔ x ∈ keysL (runS L) := fun x => by
    rw [o1.key_iff, o2.key_iff]
    exact ⟨fun h e => h (by have := hent x; rw [e] at this; exact this.eq_nil), fun h e => h (by have := (hent x).symm; rw [e] at this; exact this.eq_nil)⟩
  obtain ⟨q1, q2⟩ := tot_same o1.1 o2.1 hkey hent
  exact ⟨hkey, hent, q1, q2⟩

end Go.Proofs.Ytmhechlfpaciiaa
