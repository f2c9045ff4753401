/-
  A store's items as a snapshot's: what is left of a causal row may be a snapshot's, is not too long, and is one row alone: mathematics. Conditions: lengths.
-/
import Derived.Test.YtejljikikhecnaaGreatNSi
import Derived.Test.YtejljikikhecnaaGreatSnCutM
namespace Go.Proofs.YtejljikikhecnaaGreat
open Go.RowKit Go.MapKept Go.Sort

theorem mem_put_sub {α β : Type} [DecidableEq α] {x : α} {v : β} : ∀ {L : List (α × β)} {p : α × β}, p ∈ putL x v L → p = (x, v) ∨ p ∈ L
  | [], p, h => by simp [putL] at h; exact .inl h
  | q :: L, p, h => by
    simp only [putL] at h
    split at h
    · rcases List.mem_cons.1 h with h | h
      · exact .inl h
      · exact .inr (List.mem_cons_of_mem _ h)
    · rcases List.mem_cons.1 h with h | h
      · exact .inr (h ▸ List.mem_cons_self ..)
      · rcases mem_put_sub h with h | h
        · exact .inl h
        · exact .inr (List.mem_cons_of_mem _ h)
/-- Of each element, and entry, an event of the row tells. -/
def FromR (R : List Ev) (σ : List (El × List (Dt × Va))) : Prop := ∀ p ∈ σ, (∃ e ∈ R, p.1 = elOf e) ∧ ∀ q ∈ p.2, ∃ e ∈ R, okB e = true ∧ q.1 = dtOf e ∧ q.2 = vaOf e
theorem FromR.undo {R : List Ev} {σ : List (El × List (Dt × Va))} (h : FromR R σ) (x : El) (kn : Dt → Bool) : FromR R (undoS x kn σ) := by
  unfold undoS
  cases hg : getL x σ with
  | none => exact h
  | some l =>
    dsimp only
    by_cases hl : leftS kn l = []
    · rw [if_pos hl]; exact fun p hp => h p (mem_delL.1 hp).1
    · rw [if_neg hl]
      intro p hp
      rcases mem_put_sub hp with rfl | hp
      · have := h (x, l) (getL_mem hg)
        exact ⟨this.1, fun q hq => this.2 q (List.mem_filter.1 hq).1⟩
      · exact h p hp
theorem FromR.come {R : List Ev} {σ : List (El × List (Dt × Va))} (h : FromR R σ) {e : Ev} (he : e ∈ R) (ho : okB e = true) : FromR R (comeS (elOf e) (dtOf e) (vaOf e) σ) := by
  unfold comeS
  intro p hp
  rcases mem_put_sub hp with rfl | hp
  · refine ⟨⟨e, he, rfl⟩, fun q hq => ?_⟩
    rcases mem_put_sub hq with rfl | hq
    · exact ⟨e, he, ho, rfl, rfl⟩
    · cases hg : getL (elOf e) σ with
      | none => rw [hg] at hq; cases hq
      | some l => rw [hg] at hq; exact (h (elOf e, l) (getL_mem hg)).2 q hq
  · exact h p hp
theorem FromR.do_ {R : List Ev} {σ : List (El × List (Dt × Va))} (h : FromR R σ) {e : Ev} (he : e ∈ R) (ho : okB e = true) : FromR R (doS e σ) := by
  unfold doS
  split
  · exact h.come he ho
  · split
    · exact (h.undo _ _).come he ho
    · exact h.undo _ _
theorem runS_from (R : List Ev) : FromR R (runS R) := by
  have key : ∀ n, FromR R (runS (R.take n)) := by
    intro n
    induction n with
    | zero => intro p hp; simp [runS] at hp
    | succ n ih =>
      cases hn : R[n]? with
      | none =>
        have : R.length ≤ n := List.getElem?_eq_none_iff.1 hn
        rw [List.take_of_length_le (by omega)]
        rwa [List.take_of_length_le this] at ih
      | some e =>
        rw [runS_next hn]
        by_cases ho : okB e = true
        · rw [if_pos ho]; exact ih.do_ (List.mem_of_getElem? hn) ho
        · rw [if_neg ho]; exact ih
  have := key R.length
  rwa [List.take_length] at this
/-- What is known of a causal row. -/
def CausF (R : List Ev) (f : Nat → Int) : Prop := CanonV f ∧ (∀ i, i < 16 → 0 ≤ f i ∧ f i ≤ 1048576) ∧ ∀ e ∈ R, okB e = true ∧ e.c ≤ f e.r.toNat
theorem causC_f (l : List Ev) : CausF (causC l).1 (causC l).2 := by
  have key : ∀ n, CausF (causC (l.take n)).1 (causC (l.take n)).2 := by
    intro n
    induction n with
    | zero => exact ⟨fun i _ => rfl, fun i _ => by simp [causC], fun e he => by simp [causC] at he⟩
    | succ n ih =>
      cases hn : l[n]? with
      | none =>
        have : l.length ≤ n := List.getElem?_eq_none_iff.1 hn
        rw [List.take_of_length_le (by omega)]
        rwa [List.take_of_length_le this] at ih
      | some e =>
        rw [causC_next hn]
        cases hm : mayC (causC (l.take n)).2 e with
        | false => rw [comeC_no hm]; exact ih
        | true =>
          rw [comeC_yes hm]
          unfold mayC at hm
          rw [Bool.and_eq_true, Bool.and_eq_true] at hm
          obtain ⟨⟨ho, hc⟩, _⟩ := hm
          have hc' : (causC (l.take n)).2 e.r.toNat = e.c - 1 := by simpa using hc
          obtain ⟨r, hr, h16, h1, h2⟩ := ok_dot ho
          have hrn : e.r.toNat = r := by omega
          obtain ⟨c1, c2, c3⟩ := ih
          refine ⟨fun i hi => ?_, fun i hi => ?_, fun x hx => ?_⟩
          · dsimp only
            rw [if_neg (by omega)]; exact c1 i hi
          · dsimp only
            split
            · omega
            · exact c2 i hi
          · dsimp only
            rcases List.mem_append.1 hx with hx | hx
            · obtain ⟨q1, q2⟩ := c3 x hx
              refine ⟨q1, ?_⟩
              split
              · rename_i e1; rw [e1] at q2; omega
              · exact q2
            · rw [List.mem_singleton.1 hx]
              exact ⟨ho, by rw [if_pos rfl]; exact Int.le_refl _⟩
  have := key l.length
  rwa [List.take_length] at this
theorem CausF.right {R : List Ev} {f : Nat → Int} (h : CausF R f) : rightV f = true := by
  unfold rightV
  rw [eqV_iff]
  intro i hi
  have := h.2.1 i hi
  unfold clampV; omega
theorem CausF.knows {R : List Ev} {f : Nat → Int} (h : CausF R f) {e : Ev} (he : e ∈ R) : knowsB f e.r e.c = true := by
  obtain ⟨h1, h2⟩ := h.2.2 e he
  obtain ⟨r, hr, h16, h3, h4⟩ := ok_dot h1
  unfold knowsB dotB
  rw [Bool.and_eq_true]
  exact ⟨decide_eq_true ⟨by omega, by omega, h3, h4⟩, decide_eq_true h2⟩
theorem CausF.evs {R : List Ev} {f : Nat → Int} (h : CausF R f) (hn : R.length ≤ 60) : evsS f R = true := by
  unfold evsS
  have : R.any (wrongB f) = false := List.any_eq_false.2 fun e he => by
    unfold wrongB
    rw [(h.2.2 e he).1, h.knows he]; decide
  rw [decide_eq_true (by omega), this]; rfl
/-- The items of a store, sorted, their entries sorted. -/
def CanI (σ : List (El × List (Dt × Va))) (I : List (El × List (Dt × Va))) : Prop := (I.map Prod.fst).Perm (keysL σ) ∧ ((I.map Prod.fst).Pairwise fun x y => ltOf cfE y x = false) ∧ ∀ q ∈ I, q.2.Perm (entS q.1 σ) ∧ q.2.Pairwise fun x y => ltOf cfN y x = false
theorem ent_nodup {σ : List (El × List (Dt × Va))} (h : OkS σ) (x : El) : (keysL (entS x σ)).Nodup := by
  unfold entS
  cases hg : getL x σ with
  | none => exact List.nodup_nil
  | some l => exact (h.ent hg).2.2.2.1
theorem canI_unique {σ τ I I' : List (El × List (Dt × Va))} (hO : OkS σ) (h : CanI σ I) (h' : CanI τ I') (hk : (keysL τ).Perm (keysL σ)) (he : ∀ x, (entS x τ).Perm (entS x σ)) : I' = I := by
  have h1 : I'.map Prod.fst = I.map Prod.fst := el_unique (h'.1.trans hk) h'.2.1 h.1 h.2.1
  have hl : I'.length = I.length := by simpa using congrArg List.length h1
  refine List.ext_getElem hl fun i hi hi' => ?_
  have e1 : I'[i].1 = I[i].1 := by
    have := congrArg (fun t => t[i]?) h1
    simpa [hi, hi'] using this
  refine Prod.ext e1 ?_
  obtain ⟨p1, p2⟩ := h'.2.2 I'[i] (List.getElem_mem hi)
  obtain ⟨q1, q2⟩ := h.2.2 I[i] (List.getElem_mem hi')
  rw [e1] at p1
  exact row_unique (ent_nodup hO I[i].1) (p1.trans (he _)) p2 q1 q2
theorem its_of {w : World} {base : Nat} {v : Value} {σ : List (El × List (Dt × Va))} {es : List El} (h : ItemsIs w base v σ es) (hp : es.Perm (keysL σ)) (hs : es.Pairwise fun x y => ltOf cfE y x = false) : ∃ I, ItsIs w v I ∧ CanI σ I ∧ I.map Prod.fst = es := by
  obtain ⟨acc, h1, h2, h3⟩ := h
  have key : ∀ p : El × Value, ∃ l' : List (Dt × Va), p ∈ acc → l'.Perm (entS p.1 σ) ∧ (l'.Pairwise fun x y => ltOf cfN y x = false) ∧ OwnK enN base 63 5 w p.2 l' := fun p => by
    by_cases hp : p ∈ acc
    · obtain ⟨l', q1, q2, q3⟩ := h3 p hp
      exact ⟨l', fun _ => ⟨q1, q2, q3⟩⟩
    · exact ⟨[], fun h => absurd h hp⟩
  have hf : (acc.map fun p => (p.1, (key p).choose)).map Prod.fst = es := by rw [← h2, List.map_map]; rfl
  refine ⟨acc.map fun p => (p.1, (key p).choose), ⟨acc, h1.read enI_len, by simp, fun i y q hy hq => ?_⟩, ⟨by rw [hf]; exact hp, by rw [hf]; exact hs, fun q hq => ?_⟩, hf⟩
  · rw [List.getElem?_map, hy] at hq
    simp only [Option.map_some, Option.some.injEq] at hq
    subst hq
    have h4 := (key y).choose_spec (List.mem_of_getElem? hy)
    obtain ⟨A, c, e, hh⟩ := h4.2.2.read enN_len
    exact ⟨rfl, A, c, e, e ▸ (⟨A, c, e, hh⟩ : SlK enN 5 w y.2 _)⟩
  · obtain ⟨p, hp, rfl⟩ := List.mem_map.1 hq
    have h4 := (key p).choose_spec hp
    exact ⟨h4.1, h4.2.1⟩
theorem cfE_strict {a b : El} (h : ltOf cfE b a = false) (hne : a ≠ b) : cfE a b < 0 := by
  have h1 := cfE_ok.anti a b
  unfold ltOf at h
  simp only [decide_eq_false_iff_not, Int.not_lt] at h
  have h2 : cfE a b ≠ 0 := fun e => hne (cfE_zero _ _ e)
  omega
theorem canI_item {σ I : List (El × List (Dt × Va))} (hO : OkS σ) (hc : CanI σ I) {q : El × List (Dt × Va)} (hq : q ∈ I) : ∃ l, (q.1, l) ∈ σ ∧ entS q.1 σ = l ∧ OkItem q.1 l ∧ q.2.Perm l := by
  have hk : q.1 ∈ keysL σ := hc.1.mem_iff.1 (List.mem_map.2 ⟨q, hq, rfl⟩)
  cases hg : getL q.1 σ with
  | none => exact absurd hk (getL_none.1 hg)
  | some l =>
    have e : entS q.1 σ = l := by unfold entS; rw [hg]; rfl
    refine ⟨l, getL_mem hg, e, hO.ent hg, ?_⟩
    rw [← e]; exact (hc.2.2 q hq).1
theorem its_right {R : List Ev} {f : Nat → Int} {σ I : List (El × List (Dt × Va))} (hO : OkS σ) (hc : CanI σ I) (hF : FromR R σ) (hf : CausF R f) : itsB f I = true := by
  refine itsB_yes fun k hk => ?_
  have hi : itemB f I[k].1 I[k].2 = true := by
    obtain ⟨l, h1, h2, h3, h4⟩ := canI_item hO hc (List.getElem_mem hk)
    have hne : 0 < I[k].2.length := by rw [h4.length_eq]; exact List.length_pos_iff.2 h3.2.2.1
    have hu : I[k].2.any (unkB f) = false := List.any_eq_false.2 fun q hq => by
      obtain ⟨e, he, _, hd, _⟩ := (hF _ h1).2 q (h4.mem_iff.1 hq)
      unfold unkB
      rw [hd]
      have := hf.knows he
      show ¬ (!knowsB f e.r e.c) = true
      rw [this]; decide
    unfold itemB
    rw [decide_eq_true hne, hu, right_row h3 h4 (hc.2.2 _ (List.getElem_mem hk)).2]; rfl
  unfold okI
  rw [List.getElem?_eq_getElem hk]
  rcases k with _ | k
  · simpa using hi
  · have hk' : k < I.length := by omega
    have hd : decide (0 ≤ cfE I[k].1 I[k + 1].1) = false := by
      rw [decide_eq_false_iff_not, Int.not_le]
      have a1 : k < (I.map Prod.fst).length := by simpa using hk'
      have a2 : k + 1 < (I.map Prod.fst).length := by simpa using hk
      have s := List.pairwise_iff_getElem.1 hc.2.1 k (k + 1) a1 a2 (by omega)
      have nd : (I.map Prod.fst).Nodup := hc.1.nodup_iff.2 hO.1
      have ne := List.pairwise_iff_getElem.1 nd k (k + 1) a1 a2 (by omega)
      simp only [List.getElem_map] at s ne
      exact cfE_strict s ne
    dsimp only
    rw [List.getElem?_eq_getElem hk']
    dsimp only
    rw [hd, hi]; rfl
theorem canI_tot {σ I : List (El × List (Dt × Va))} (hO : OkS σ) (hc : CanI σ I) : (I.map fun q => q.2.length).sum = totS σ ∧ I.length ≤ totS σ := by
  constructor
  · rw [tot_keys hO.1, ← (hc.1.map fun x => (entS x σ).length).sum_nat, List.map_map]
    congr 1
    exact List.map_congr_left fun q hq => ((hc.2.2 q hq).1).length_eq
  · have := hc.1.length_eq
    have h2 := hO.len
    simp [keysL] at this
    omega
theorem sum_mem : ∀ {L : List Nat} {n : Nat}, n ∈ L → n ≤ L.sum
  | [], _, h => by cases h
  | m :: L, n, h => by
    simp only [List.sum_cons]
    rcases List.mem_cons.1 h with rfl | h
    · omega
    · have := sum_mem h; omega
/-- An item's texts. -/
def ShortI (q : El × List (Dt × Va)) : Prop := q.1.a.size + q.1.b.size + q.1.c.size + q.1.d.size ≤ 300 ∧ ∀ r ∈ q.2, r.2.t.size ≤ 300
theorem canI_short {R : List Ev} {σ I : List (El × List (Dt × Va))} (hO : OkS σ) (hc : CanI σ I) (hF : FromR R σ) (hR : ∀ e ∈ R, shortB e = true) : ∀ q ∈ I, ShortI q := fun q hq => by
  obtain ⟨l, h1, h2, h3, h4⟩ := canI_item hO hc hq
  obtain ⟨⟨e, he, hx⟩, hl⟩ := hF _ h1
  dsimp only at hx hl
  have hs := hR e he
  unfold shortB at hs
  rw [decide_eq_true_eq] at hs
  refine ⟨?_, fun r hr => ?_⟩
  · rw [hx]; show e.a.size + e.b.size + e.cc.size + e.d.size ≤ 300; omega
  · obtain ⟨e', he', _, _, hv⟩ := hl r (h4.mem_iff.1 hr)
    have hs' := hR e' he'
    unfold shortB at hs'
    rw [decide_eq_true_eq] at hs'
    rw [hv]; show e'.t.size ≤ 300; omega
theorem shortI_len {q : El × List (Dt × Va)} (h : ShortI q) : (bytesI q.1 q.2).length ≤ 354 + 345 * q.2.length := by
  obtain ⟨h2, h3⟩ := h
  have p1 := putB_len q.1.k
  have q1 := txtB_len q.1.a
  have q2 := txtB_len q.1.b
  have q3 := txtB_len q.1.c
  have q4 := txtB_len q.1.d
  have q5 := putB_len q.2.length
  have q6 := flat_le 345 (q.2.map bytesN) (fun b hb => by
    obtain ⟨r, hr, rfl⟩ := List.mem_map.1 hb
    have h4 := h3 r hr
    have p1 := putB_len r.1.r
    have p2 := putB_len r.1.c
    have p3 := putB_len r.2.k
    have p4 := sigB_len r.2.n
    have q1 := txtB_len r.2.t
    simp only [bytesN, t4, t3, t2, t1, List.length_append, List.nil_append]
    omega)
  rw [List.length_map] at q6
  unfold bytesI
  simp only [bytesX, s4, s3, s2, s1, List.length_append, List.nil_append]
  omega
theorem shortIs_len : ∀ I : List (El × List (Dt × Va)), (∀ q ∈ I, ShortI q) → (I.map fun q => bytesI q.1 q.2).flatten.length ≤ 354 * I.length + 345 * (I.map fun q => q.2.length).sum
  | [], _ => by simp
  | q :: I, h => by
    have h1 := shortI_len (h q (by simp))
    have h2 := shortIs_len I (fun r hr => h r (List.mem_cons_of_mem _ hr))
    simp only [List.map_cons, List.flatten_cons, List.length_append, List.length_cons, List.sum_cons]
    omega
theorem snap_len {R : List Ev} {f : Nat → Int} {I : List (El × List (Dt × Va))} (hI : ∀ q ∈ I, ShortI q) (ht : (I.map fun q => q.2.length).sum ≤ 60) (hn : I.length ≤ 60) (hR : ∀ e ∈ R, shortB e = true) (hm : R.length ≤ 60) : (bytesS f I R).length ≤ 100000 := by
  have p1 := pastB_len f 16
  have p2 := putB_len I.length
  have p3 := putB_len R.length
  have q1 := shortIs_len I hI
  have q2 := flat_le 600 (R.map bytesE) (fun b hb => by
    obtain ⟨e, he, rfl⟩ := List.mem_map.1 hb
    exact short_lenS e (hR e he))
  rw [List.length_map] at q2
  have q3 : R.length * 600 ≤ 60 * 600 := Nat.mul_le_mul_right _ hm
  unfold bytesS rowIB rowEB
  simp only [List.length_append]
  omega
/-- All of a snapshot of a store that is made of a causal row. -/
theorem store_snap (l : List Ev) (hl : l.length ≤ 60) (hs : ∀ e ∈ l, shortB e = true) (hcn : ∀ e ∈ l, CanonV e.p) (R : List Ev) (f : Nat → Int) (hR : (causC l).1 = R) (hf : (causC l).2 = f) (I : List (El × List (Dt × Va))) (hc : CanI (runS R) I) :
    rightS f I R = true ∧ CanonV f ∧ I.length ≤ 60 ∧ R.length ≤ 60 ∧ (∀ q ∈ I, ItFits q) ∧ (∀ q ∈ I, rightI q.1 q.2 = true) ∧ (∀ e ∈ R, Lens e ∧ CanonV e.p) ∧ (bytesS f I R).length ≤ 100000 ∧ OkS (runS R) ∧ totS (runS R) ≤ 60 := by
  have hF := causC_f l
  rw [hR, hf] at hF
  have hRl : R.length ≤ 60 := by have := causC_len l; rw [hR] at this; omega
  have hRs : ∀ e ∈ R, shortB e = true := fun e he => hs e (causC_mem l e (by rw [hR]; exact he))
  have hRc : ∀ e ∈ R, CanonV e.p := fun e he => hcn e (causC_mem l e (by rw [hR]; exact he))
  obtain ⟨hO, ht⟩ := runS_ok R (fun e he => short_lens e (hRs e he))
  have ht60 : totS (runS R) ≤ 60 := by omega
  have hFr := runS_from R
  obtain ⟨t1, t2⟩ := canI_tot hO hc
  have hSh := canI_short hO hc hFr hRs
  refine ⟨?_, hF.1, by omega, hRl, fun q hq => ?_, fun q hq => ?_, fun e he => ⟨short_lens e (hRs e he), hRc e he⟩, snap_len hSh (by omega) (by omega) hRs hRl, hO, ht60⟩
  · unfold rightS
    rw [hF.right, its_right hO hc hFr hF, hF.evs hRl]; rfl
  · obtain ⟨l', h1, h2, h3, h4⟩ := canI_item hO hc hq
    obtain ⟨s1, s2⟩ := hSh q hq
    refine ⟨h3.2.1, ?_, fun r hr => by have := s2 r hr; omega⟩
    have := sum_mem (L := I.map fun q => q.2.length) (List.mem_map.2 ⟨q, hq, rfl⟩)
    omega
  · obtain ⟨l', h1, h2, h3, h4⟩ := canI_item hO hc hq
    exact right_row h3 h4 (hc.2.2 q hq).2

end Go.Proofs.YtejljikikhecnaaGreat
