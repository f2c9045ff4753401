/-
  What a store holds after events that may be: each element's entries may be laid down; how many there are; laying all down in another store. Conditions: none.
-/
import Derived.Test.YtmhechlfpaciiaaStGH
namespace Go.Proofs.Ytmhechlfpaciiaa
open Go.RowKit Go.MapKept Go.Sort

/-- An element's entries that may be. -/
def OkItem (x : El) (l : List (Dt × Va)) : Prop := elB x = true ∧ LenE x ∧ l ≠ [] ∧ (keysL l).Nodup ∧ ∀ q ∈ l, dotB q.1.r q.1.c = true ∧ fit7B x q.2 = true ∧ q.2.t.size ≤ 4294967280
def OkS (σ : List (El × List (Dt × Va))) : Prop := (keysL σ).Nodup ∧ ∀ p ∈ σ, OkItem p.1 p.2

section
variable {σ : List (El × List (Dt × Va))} {x : El} {l : List (Dt × Va)}
theorem OkS.nil_ : OkS [] := ⟨List.nodup_nil, fun p hp => by cases hp⟩
theorem OkS.put_ (h : OkS σ) (hl : OkItem x l) : OkS (putL x l σ) := by
  refine ⟨nodup_putL h.1, fun p hp => ?_⟩
  rcases (mem_putL h.1).1 hp with rfl | ⟨h1, _⟩
  · exact hl
  · exact h.2 p h1
theorem OkS.del_ (h : OkS σ) : OkS (delL x σ) := ⟨(List.Sublist.map Prod.fst List.filter_sublist).nodup h.1, fun p hp => h.2 p (mem_delL.1 hp).1⟩
theorem OkS.ent (h : OkS σ) (hg : getL x σ = some l) : OkItem x l := h.2 (x, l) (getL_mem hg)
theorem OkS.undo_ (h : OkS σ) (kn : Dt → Bool) : OkS (undoS x kn σ) := by
  unfold undoS
  cases hg : getL x σ with
  | none => exact h
  | some l =>
    dsimp only
    by_cases hl : leftS kn l = []
    · rw [if_pos hl]; exact h.del_
    · rw [if_neg hl]
      obtain ⟨h1, h2, h3, h4, h5⟩ := h.ent hg
      exact h.put_ ⟨h1, h2, hl, nodup_filter h4 _, fun q hq => h5 q (List.mem_filter.1 hq).1⟩
theorem OkS.come_ (h : OkS σ) (e : Ev) (ho : okB e = true) (hl : Lens e) (hop : e.op = 1 ∨ e.op = 3) : OkS (comeS (elOf e) (dtOf e) (vaOf e) σ) := by
  unfold comeS
  have ho' := ho
  unfold okB changeB at ho'
  simp only [Bool.and_eq_true] at ho'
  obtain ⟨⟨hnx, _⟩, hel, hfi⟩ := ho'
  have hdot : dotB e.r e.c = true := by unfold nextB at hnx; simp only [Bool.and_eq_true] at hnx; exact hnx.1
  have hlE : LenE (elOf e) := ⟨hl.1, hl.2.1, hl.2.2.1, hl.2.2.2.1⟩
  have hfit : fit7B (elOf e) (vaOf e) = true := by
    unfold fit7B changeB
    rw [Bool.and_eq_true]
    refine ⟨hel, ?_⟩
    show fitsB (if valdB e.ek then 3 else 1) e.ek e.vk e.vn e.t.data.toList = true
    unfold fitsB at hfi ⊢
    rcases hop with h1 | h3
    · rw [h1] at hfi
      simp only [true_or, if_true, Bool.and_eq_true, Bool.not_eq_true'] at hfi
      rw [hfi.1]
      simp [hfi.2]
    · rw [h3] at hfi
      simp at hfi
      rw [hfi.1]
      simp [hfi.2]
  refine h.put_ ?_
  have key : ∀ q ∈ putL (dtOf e) (vaOf e) ((getL (elOf e) σ).getD []), (q = (dtOf e, vaOf e)) ∨ q ∈ (getL (elOf e) σ).getD [] := by
    intro q hq
    have : ∀ L : List (Dt × Va), q ∈ putL (dtOf e) (vaOf e) L → q = (dtOf e, vaOf e) ∨ q ∈ L := by
      intro L
      induction L with
      | nil => intro h; simp [putL] at h; exact .inl h
      | cons p L ih =>
        intro h
        simp only [putL] at h
        split at h
        · rcases List.mem_cons.1 h with h | h
          · exact .inl h
          · exact .inr (List.mem_cons_of_mem _ h)
        · rcases List.mem_cons.1 h with h | h
          · exact .inr (h ▸ List.mem_cons_self ..)
          · rcases ih h with h | h
            · exact .inl h
            · exact .inr (List.mem_cons_of_mem _ h)
    exact this _ hq
  have hne : putL (dtOf e) (vaOf e) ((getL (elOf e) σ).getD []) ≠ [] := by
    cases (getL (elOf e) σ).getD [] with
    | nil => simp [putL]
    | cons p L => simp only [putL]; split <;> simp
  cases hg : getL (elOf e) σ with
  | none =>
    rw [hg] at key hne
    refine ⟨hel, hlE, hne, by simp [putL, keysL], fun q hq => ?_⟩
    rcases key q hq with rfl | h
    · exact ⟨hdot, hfit, hl.2.2.2.2⟩
    · cases h
  | some l0 =>
    rw [hg] at key hne
    obtain ⟨_, _, _, h4, h5⟩ := h.ent hg
    refine ⟨hel, hlE, hne, nodup_putL h4, fun q hq => ?_⟩
    rcases key q hq with rfl | h
    · exact ⟨hdot, hfit, hl.2.2.2.2⟩
    · exact h5 q h
theorem OkS.do_ (h : OkS σ) (e : Ev) (ho : okB e = true) (hl : Lens e) : OkS (doS e σ) := by
  unfold doS
  by_cases h1 : e.op = 1
  · rw [if_pos h1]; exact h.come_ e ho hl (.inl h1)
  · rw [if_neg h1]
    by_cases h3 : e.op = 3
    · rw [if_pos h3]; exact (h.undo_ _).come_ e ho hl (.inr h3)
    · rw [if_neg h3]; exact h.undo_ _

/-! ### How many -/
theorem tot_putL : ∀ σ : List (El × List (Dt × Va)), totS (putL x l σ) + (entS x σ).length = totS σ + l.length
  | [] => by simp [totS, putL, entS, getL]
  | p :: σ => by
    have ih := tot_putL σ
    unfold entS at ih ⊢
    simp only [putL, getL, totS, List.map_cons, List.sum_cons] at ih ⊢
    by_cases hp : p.1 = x
    · rw [if_pos hp, if_pos hp]
      simp
      omega
    · rw [if_neg hp, if_neg hp]
      simp only [List.map_cons, List.sum_cons]
      omega
theorem tot_ent : (entS x σ).length ≤ totS σ := by
  have := tot_putL (x := x) (l := []) σ
  simp at this
  omega
theorem tot_filter (f : El × List (Dt × Va) → Bool) : ∀ σ : List (El × List (Dt × Va)), totS (σ.filter f) ≤ totS σ
  | [] => Nat.le_refl _
  | p :: σ => by
    have ih := tot_filter f σ
    simp only [List.filter_cons]
    split
    · simp only [totS, List.map_cons, List.sum_cons] at ih ⊢; omega
    · simp only [totS, List.map_cons, List.sum_cons] at ih ⊢; omega
theorem tot_undo (kn : Dt → Bool) : totS (undoS x kn σ) ≤ totS σ := by
  unfold undoS
  cases hg : getL x σ with
  | none => exact Nat.le_refl _
  | some l =>
    dsimp only
    split
    · exact tot_filter _ σ
    · have h1 := tot_putL (x := x) (l := leftS kn l) σ
      have h2 : (entS x σ).length = l.length := by unfold entS; rw [hg]; rfl
      have h3 : (leftS kn l).length ≤ l.length := List.length_filter_le _ _
      omega
theorem tot_come {d : Dt} {v : Va} : totS (comeS x d v σ) ≤ totS σ + 1 := by
  unfold comeS
  have h1 := tot_putL (x := x) (l := putL d v ((getL x σ).getD [])) σ
  have h2 : (putL d v ((getL x σ).getD [])).length ≤ ((getL x σ).getD []).length + 1 := length_putL_le
  have h3 : (entS x σ).length = ((getL x σ).getD []).length := rfl
  omega
theorem tot_do (e : Ev) : totS (doS e σ) ≤ totS σ + 1 := by
  unfold doS
  split
  · exact tot_come
  · split
    · exact Nat.le_trans tot_come (Nat.add_le_add_right (tot_undo _) 1)
    · exact Nat.le_trans (tot_undo _) (Nat.le_succ _)
theorem OkS.len (h : OkS σ) : σ.length ≤ totS σ := by
  have : ∀ σ : List (El × List (Dt × Va)), (∀ p ∈ σ, p.2 ≠ []) → σ.length ≤ totS σ := by
    intro σ
    induction σ with
    | nil => intro _; simp [totS]
    | cons p σ ih =>
      intro h
      have h1 := ih fun q hq => h q (List.mem_cons_of_mem _ hq)
      have h2 : 0 < p.2.length := List.length_pos_iff.2 (h p (List.mem_cons_self ..))
      simp only [totS, List.map_cons, List.sum_cons, List.length_cons] at h1 ⊢
      omega
  exact this σ fun p hp => (h.2 p hp).2.2.1
end

/-- What a store holds after a row of events. -/
def runS (row : List Ev) : List (El × List (Dt × Va)) := row.foldl (fun s e => if okB e then doS e s else s) []
theorem runS_snoc (row : List Ev) (e : Ev) : runS (row ++ [e]) = if okB e then doS e (runS row) else runS row := by simp [runS]
theorem runS_next {row : List Ev} {j : Nat} {e : Ev} (h : row[j]? = some e) : runS (row.take (j + 1)) = if okB e then doS e (runS (row.take j)) else runS (row.take j) := by
  rw [List.take_add_one, h]; exact runS_snoc _ _
theorem runS_ok (row : List Ev) (h : ∀ e ∈ row, Lens e) : OkS (runS row) ∧ totS (runS row) ≤ row.length := by
  suffices hh : ∀ (row : List Ev), (∀ e ∈ row, Lens e) → ∀ s, OkS s → OkS (row.foldl (fun s e => if okB e then doS e s else s) s) ∧ totS (row.foldl (fun s e => if okB e then doS e s else s) s) ≤ totS s + row.length by
    have := hh row h [] OkS.nil_
    simpa [totS, runS] using this
  intro row
  induction row with
  | nil => intro _ s hs; exact ⟨hs, Nat.le_refl _⟩
  | cons e row ih =>
    intro h s hs
    have h1 := h e (List.mem_cons_self ..)
    simp only [List.foldl_cons, List.length_cons]
    by_cases ho : okB e = true
    · rw [if_pos ho]
      obtain ⟨q1, q2⟩ := ih (fun e he => h e (List.mem_cons_of_mem _ he)) _ (hs.do_ e ho h1)
      have := tot_do (σ := s) e
      exact ⟨q1, by omega⟩
    · rw [if_neg ho]
      obtain ⟨q1, q2⟩ := ih (fun e he => h e (List.mem_cons_of_mem _ he)) _ hs
      exact ⟨q1, by omega⟩

/-! ### Rows -/
theorem cfN_strict {a b : Dt × Va} (h : ltOf cfN b a = false) (hne : a.1 ≠ b.1) : cfD a.1 b.1 < 0 := by
  have h1 := cfD_ok.anti a.1 b.1
  unfold ltOf cfN at h
  simp only [decide_eq_false_iff_not, Int.not_lt] at h
  have h2 : cfD a.1 b.1 ≠ 0 := fun e => hne (cfD_zero _ _ e)
  omega
/-- Entries that may be may be laid down, sorted. -/
theorem right_row {x : El} {l l' : List (Dt × Va)} (h : OkItem x l) (hp : l'.Perm l) (hs : l'.Pairwise fun x y => ltOf cfN y x = false) : rightI x l' = true := by
  obtain ⟨h1, h2, h3, h4, h5⟩ := h
  refine rightI_yes h1 fun k hk => ?_
  unfold okE7
  have hn' : (keysL l').Nodup := (hp.map Prod.fst).nodup_iff.2 h4
  rw [List.getElem?_eq_getElem hk]
  dsimp only
  obtain ⟨q1, q2, _⟩ := h5 _ (hp.mem_iff.1 (List.getElem_mem hk))
  rw [q1, q2]
  cases k with
  | zero => rfl
  | succ k =>
    have hk' : k < l'.length := by omega
    dsimp only
    rw [List.getElem?_eq_getElem hk']
    simp only [Bool.and_self, Bool.true_and, decide_eq_true_eq]
    refine cfN_strict (List.pairwise_iff_getElem.1 hs k (k + 1) hk' hk (by omega)) fun e => ?_
    have h1 : k < (keysL l').length := by simpa [keysL] using hk'
    have h2 : k + 1 < (keysL l').length := by simpa [keysL] using hk
    have := List.pairwise_iff_getElem.1 hn' k (k + 1) h1 h2 (by omega)
    apply this
    simp only [keysL, List.getElem_map]
    exact e
/-- The sorted row is one. -/
theorem row_unique {l l1 l2 : List (Dt × Va)} (hn : (keysL l).Nodup) (hp1 : l1.Perm l) (hs1 : l1.Pairwise fun x y => ltOf cfN y x = false) (hp2 : l2.Perm l) (hs2 : l2.Pairwise fun x y => ltOf cfN y x = false) : l1 = l2 := by
  have hT : ∀ x ∈ l, ∀ y ∈ l, ltOf cfN x y = false → ltOf cfN y x = false → x = y := by
    intro x hx y hy h1 h2
    have he : x.1 = y.1 := by
      by_cases e : x.1 = y.1
      · exact e
      · have a := cfN_strict h2 e
        have b := cfN_strict h1 (fun e' => e e'.symm)
        have c := cfD_ok.anti x.1 y.1
        omega
    have g1 := mem_getL hn (x := x.1) (v := x.2) hx
    have g2 := mem_getL hn (x := y.1) (v := y.2) hy
    rw [he, g2] at g1
    exact Prod.ext he (Option.some.inj g1).symm
  rw [sort_unique cfN_ok.swo hp1 hs1 hT, sort_unique cfN_ok.swo hp2 hs2 hT]
theorem el_unique {l l1 l2 : List El} (hp1 : l1.Perm l) (hs1 : l1.Pairwise fun x y => ltOf cfE y x = false) (hp2 : l2.Perm l) (hs2 : l2.Pairwise fun x y => ltOf cfE y x = false) : l1 = l2 := by
  have hT : ∀ x ∈ l, ∀ y ∈ l, ltOf cfE x y = false → ltOf cfE y x = false → x = y := by
    intro x _ y _ h1 h2
    have h3 := cfE_ok.anti x y
    unfold ltOf at h1 h2
    simp only [decide_eq_false_iff_not, Int.not_lt] at h1 h2
    exact cfE_zero _ _ (by omega)
  rw [sort_unique cfE_ok.swo hp1 hs1 hT, sort_unique cfE_ok.swo hp2 hs2 hT]

/-! ### All laid down -/
theorem getL_putL {α β : Type} [DecidableEq α] (x y : α) (v : β) : ∀ L : List (α × β), getL y (putL x v L) = if x = y then some v else getL y L
  | [] => by simp [putL, getL]
  | p :: L => by
    have ih := getL_putL x y v L
    simp only [putL]
    by_cases hp : p.1 = x
    · rw [if_pos hp]
      simp only [getL, hp]
      split <;> rfl
    · rw [if_neg hp]
      simp only [getL, ih]
      by_cases hy : p.1 = y
      · rw [if_pos hy, if_pos hy, if_neg (fun e => hp (hy.trans e.symm))]
      · rw [if_neg hy, if_neg hy]
theorem getL_delL {α β : Type} [DecidableEq α] (x y : α) : ∀ L : List (α × β), getL y (delL x L) = if x = y then none else getL y L
  | [] => by simp [delL, getL]
  | p :: L => by
    have ih := getL_delL x y L
    unfold delL at ih ⊢
    by_cases hp : p.1 = x
    · simp only [List.filter_cons, hp, ne_eq, not_true_eq_false, decide_false, Bool.false_eq_true, if_false, ih, getL]
      by_cases hy : x = y
      · rw [if_pos hy, if_pos hy]
      · rw [if_neg hy, if_neg hy, if_neg hy]
    · simp only [List.filter_cons, hp, ne_eq, not_false_eq_true, decide_true, if_true, getL, ih]
      by_cases hy : p.1 = y
      · rw [if_pos hy, if_pos hy, if_neg (fun e => hp (hy.trans e.symm))]
      · rw [if_neg hy, if_neg hy]
theorem fill_other {x y : El} (h : x ≠ y) : ∀ (l : List (Dt × Va)) (σ : List (El × List (Dt × Va))), getL y (fillS x l σ) = getL y σ
  | [], _ => rfl
  | q :: l, σ => by
    show getL y (fillS x l (comeS x q.1 q.2 σ)) = _
    rw [fill_other h l, comeS, getL_putL, if_neg h]
theorem put_new_key {α β : Type} [DecidableEq α] {x : α} {v : β} {L : List (α × β)} (h : x ∉ keysL L) : putL x v L = L ++ [(x, v)] := by
  cases hi : idxL x L with
  | none => exact (idxL_none hi).2.2 v
  | some j =>
    obtain ⟨v0, h1, h2, _⟩ := idxL_some hi
    exact absurd (List.mem_map.2 ⟨_, getL_mem h2, rfl⟩) h
theorem fill_same {x : El} : ∀ (l : List (Dt × Va)) (σ : List (El × List (Dt × Va))), (keysL ((getL x σ).getD [] ++ l)).Nodup → (getL x (fillS x l σ)).getD [] = (getL x σ).getD [] ++ l
  | [], σ, _ => by simp [fillS]
  | q :: l, σ, hn => by
    show (getL x (fillS x l (comeS x q.1 q.2 σ))).getD [] = _
    have hq : q.1 ∉ keysL ((getL x σ).getD []) := by
      intro hm
      simp only [keysL, List.map_append, List.map_cons] at hn
      have := (List.nodup_append.1 hn).2.2 _ hm _ (List.mem_cons_self ..)
      exact this rfl
    have e1 : (getL x (comeS x q.1 q.2 σ)).getD [] = (getL x σ).getD [] ++ [q] := by
      rw [comeS, getL_putL, if_pos rfl]
      exact put_new_key hq
    rw [fill_same l _ (by rw [e1, List.append_assoc]; exact hn), e1, List.append_assoc]
    rfl
theorem ent_put {x y : El} {l : List (Dt × Va)} {σ : List (El × List (Dt × Va))} (hn : (keysL l).Nodup) : entS y (putI x l σ) = if x = y then l else entS y σ := by
  unfold entS putI
  by_cases h : x = y
  · subst h
    rw [if_pos rfl]
    have hd : getL x (delL x σ) = none := by rw [getL_delL, if_pos rfl]
    have := fill_same l (delL x σ) (by rw [hd]; simpa using hn)
    rw [this, hd]; rfl
  · rw [if_neg h, fill_other h, getL_delL, if_neg h]
theorem mem_keys_put {α β : Type} [DecidableEq α] {x y : α} {v : β} {L : List (α × β)} : y ∈ keysL (putL x v L) ↔ y = x ∨ y ∈ keysL L := by
  rw [keys_putL]
  split
  · rename_i h
    exact ⟨.inr, fun h' => h'.elim (fun e => e ▸ h) id⟩
  · rw [List.mem_append, List.mem_singleton]
    exact Or.comm
theorem fill_keys {x y : El} : ∀ (l : List (Dt × Va)) (σ : List (El × List (Dt × Va))), y ∈ keysL (fillS x l σ) ↔ (y = x ∧ l ≠ []) ∨ y ∈ keysL σ
  | [], σ => by simp [fillS]
  | q :: l, σ => by
    show y ∈ keysL (fillS x l (comeS x q.1 q.2 σ)) ↔ _
    rw [fill_keys l, comeS, mem_keys_put]
    constructor
    · rintro (⟨h, _⟩ | h | h)
      · exact .inl ⟨h, by simp⟩
      · exact .inl ⟨h, by simp⟩
      · exact .inr h
    · rintro (⟨h, _⟩ | h)
      · exact .inr (.inl h)
      · exact .inr (.inr h)
theorem fill_nodup {x : El} : ∀ (l : List (Dt × Va)) (σ : List (El × List (Dt × Va))), (keysL σ).Nodup → (keysL (fillS x l σ)).Nodup
  | [], _, h => h
  | _ :: l, _, h => fill_nodup l _ (nodup_putL h)
theorem put_keys {x y : El} {l : List (Dt × Va)} {σ : List (El × List (Dt × Va))} (hl : l ≠ []) : y ∈ keysL (putI x l σ) ↔ y = x ∨ y ∈ keysL σ := by
  unfold putI
  rw [fill_keys]
  have hd : y ∈ keysL (delL x σ) ↔ y ∈ keysL σ ∧ y ≠ x := by
    simp only [keysL, List.mem_map, mem_delL]
    constructor
    · rintro ⟨p, ⟨h1, h2⟩, rfl⟩; exact ⟨⟨p, h1, rfl⟩, h2⟩
    · rintro ⟨⟨p, h1, rfl⟩, h2⟩; exact ⟨p, ⟨h1, h2⟩, rfl⟩
  rw [hd]
  by_cases e : y = x
  · simp [e, hl]
  · simp [e]
theorem put_nodup {x : El} {l : List (Dt × Va)} {σ : List (El × List (Dt × Va))} (h : (keysL σ).Nodup) : (keysL (putI x l σ)).Nodup :=
  fill_nodup l _ ((List.Sublist.map Prod.fst List.filter_sublist).nodup h)
/-- How many, by keys. -/
theorem tot_keys : ∀ {σ : List (El × List (Dt × Va))}, (keysL σ).Nodup → totS σ = ((keysL σ).map fun x => (entS x σ).length).sum
  | [], _ => rfl
  | p :: σ, h => by
    simp only [keysL, List.map_cons, List.nodup_cons] at h
    have ih := tot_keys (σ := σ) h.2
    simp only [totS, keysL, List.map_cons, List.sum_cons] at ih ⊢
    rw [ih]
    have e1 : entS p.1 (p :: σ) = p.2 := by simp [entS, getL]
    have e2 : (List.map (fun x => (entS x (p :: σ)).length) (List.map Prod.fst σ)) = List.map (fun x => (entS x σ).length) (List.map Prod.fst σ) := by
      refine List.map_congr_left fun y hy => ?_
      have : p.1 ≠ y := fun e => h.1 (e ▸ hy)
      simp [entS, getL, this]
    rw [e1, e2]
/-- Two stores with the same entries. -/
theorem tot_same {σ τ : List (El × List (Dt × Va))} (h1 : (keysL σ).Nodup) (h2 : (keysL τ).Nodup) (hk : ∀ x, x ∈ keysL τ ↔ x ∈ keysL σ) (he : ∀ x, (entS x τ).Perm (entS x σ)) : (keysL τ).Perm (keysL σ) ∧ totS τ = totS σ := by
  have hp : (keysL τ).Perm (keysL σ) := (List.perm_ext_iff_of_nodup h2 h1).2 hk
  refine ⟨hp, ?_⟩
  rw [tot_keys h1, tot_keys h2, (hp.map _).sum_nat]
  congr 1
  exact List.map_congr_left fun x _ => (he x).length_eq

end Go.Proofs.Ytmhechlfpaciiaa
