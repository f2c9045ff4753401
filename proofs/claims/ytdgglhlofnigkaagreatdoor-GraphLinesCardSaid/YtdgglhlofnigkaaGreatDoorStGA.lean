/- Maps as lists of entries. -/import Derived.Test.YtdgglhlofnigkaaGreatDoorJWords
import Derived.Maps.RangeWalk
import Derived.Test.YtdgglhlofnigkaaGreatDoorJEvOf
import Derived.Test.YtdgglhlofnigkaaGreatDoorJOrderInv
import Derived.Test.YtdgglhlofnigkaaGreatDoorJEVOps
set_option maxHeartbeats 2000000
set_option maxRecDepth 100000
namespace Go.Proofs.YtdgglhlofnigkaaGreatDoor
open Go.RowKit Go.MapKept
open Go.ChangeMaps (setBlock heap_setBlock_same heap_setBlock_other)
section
variable {α β : Type} [DecidableEq α]
def keysL (L : List (α × β)) : List α := L.map Prod.fst
def getL (x : α) : List (α × β) → Option β
 | [] => none
 | p :: L => if p.1 = x then some p.2 else getL x L
def putL (x : α) (v : β) : List (α × β) → List (α × β)
 | [] => [(x, v)]
 | p :: L => if p.1 = x then (x, v) :: L else p :: putL x v L
def delL (x : α) (L : List (α × β)) : List (α × β) := L.filter fun p => decide (p.1 ≠ x)
def idxL (x : α) : List (α × β) → Option Nat
 | [] => none
 | p :: L => if p.1 = x then some 0 else (idxL x L).map (· + 1)
theorem idxL_none {x : α} : ∀ {L : List (α × β)}, idxL x L = none → x ∉ keysL L ∧ getL x L = none ∧ ∀ v, putL x v L = L ++ [(x, v)]
 | [], _ => ⟨by simp [keysL], rfl, fun _ => rfl⟩
 | p :: L, h => by
  simp only [idxL] at h
  split at h
  ·cases h
  ·rename_i hp
   obtain ⟨h1, h2, h3⟩ := idxL_none (L := L) (by simpa using h)
   refine ⟨?_, ?_, fun v => ?_⟩
   ·simp only [keysL, List.map_cons, List.mem_cons, not_or]
    exact ⟨fun e => hp e.symm, h1⟩
   ·simp only [getL, if_neg hp, h2]
   ·simp only [putL, if_neg hp, h3, List.cons_append]
theorem idxL_some {x : α} : ∀ {L : List (α × β)} {j : Nat}, idxL x L = some j → ∃ v0, L[j]? = some (x, v0) ∧ getL x L = some v0 ∧ ∀ v, putL x v L = L.set j (x, v)
 | [], _, h => by cases h
 | p :: L, j, h => by
  simp only [idxL] at h
  split at h
  ·rename_i hp
   cases h
   refine ⟨p.2, by rw [← hp]; rfl, by simp only [getL, if_pos hp], fun v => by simp only [putL, if_pos hp, List.set_cons_zero]⟩
  ·rename_i hp
   cases hi : idxL x L with
   | none => rw [hi] at h; cases h
   | some i =>
    rw [hi] at h
    cases h
    obtain ⟨v0, h1, h2, h3⟩ := idxL_some hi
    exact ⟨v0, by simpa using h1, by simp only [getL, if_neg hp, h2], fun v => by simp only [putL, if_neg hp, h3, List.set_cons_succ]⟩
theorem getL_mem {x : α} {v : β} : ∀ {L : List (α × β)}, getL x L = some v → (x, v) ∈ L
 | [], h => by cases h
 | p :: L, h => by
  simp only [getL] at h
  split at h
  ·rename_i hp
   cases h
   rw [← hp]; simp
  ·exact List.mem_cons_of_mem _ (getL_mem h)
theorem getL_none {x : α} {L : List (α × β)} : getL x L = none ↔ x ∉ keysL L := by
 induction L with
 | nil => simp [getL, keysL]
 | cons p L ih =>
  simp only [getL, keysL, List.map_cons, List.mem_cons, not_or]
  split
  ·rename_i hp
   simp [hp]
  ·rename_i hp
   rw [ih]
   exact ⟨fun h => ⟨fun e => hp e.symm, h⟩, fun h => h.2⟩
theorem mem_putL {x : α} {v : β} {L : List (α × β)} (hn : (keysL L).Nodup) {q : α × β} : q ∈ putL x v L ↔ q = (x, v) ∨ (q ∈ L ∧ q.1 ≠ x) := by
 induction L with
 | nil => simp [putL]
 | cons p L ih =>
  simp only [keysL, List.map_cons, List.nodup_cons] at hn
  simp only [putL]
  split
  ·rename_i hp
   simp only [List.mem_cons]
   constructor
   ·rintro (h | h)
    ·exact Or.inl h
    ·exact Or.inr ⟨Or.inr h, fun e => hn.1 (by rw [hp, ← e]; exact List.mem_map.2 ⟨q, h, rfl⟩)⟩
   ·rintro (h | ⟨h | h, hne⟩)
    ·exact Or.inl h
    ·exact absurd (by rw [h, hp]) hne
    ·exact Or.inr h
  ·rename_i hp
   simp only [List.mem_cons, ih hn.2]
   constructor
   ·rintro (h | h | ⟨h, hne⟩)
    ·exact Or.inr ⟨Or.inl h, by rw [h]; exact hp⟩
    ·exact Or.inl h
    ·exact Or.inr ⟨Or.inr h, hne⟩
   ·rintro (h | ⟨h | h, hne⟩)
    ·exact Or.inr (Or.inl h)
    ·exact Or.inl h
    ·exact Or.inr (Or.inr ⟨h, hne⟩)
theorem keys_putL {x : α} {v : β} {L : List (α × β)} : keysL (putL x v L) = if x ∈ keysL L then keysL L else keysL L ++ [x] := by
 induction L with
 | nil => simp [putL, keysL]
 | cons p L ih =>
  simp only [putL]
  split
  ·rename_i hp
   simp [keysL, hp]
  ·rename_i hp
   have hp' : ¬ x = p.1 := fun e => hp e.symm
   simp only [keysL, List.map_cons, List.mem_cons, hp', false_or] at ih ⊢
   rw [ih]
   by_cases hx : x ∈ List.map Prod.fst L <;> simp [hx]
theorem nodup_putL {x : α} {v : β} {L : List (α × β)} (hn : (keysL L).Nodup) : (keysL (putL x v L)).Nodup := by
 rw [keys_putL]
 split
 ·exact hn
 ·rename_i h
  refine List.nodup_append.2 ⟨hn, by simp, ?_⟩
  intro a ha b hb
  simp only [List.mem_singleton] at hb
  subst hb
  exact fun e => h (e ▸ ha)
theorem nodup_filter {α β : Type} {L : List (α × β)} (hn : (keysL L).Nodup) (f : α × β → Bool) : (keysL (L.filter f)).Nodup := by
 exact (List.Sublist.map _ (List.filter_sublist (l := L))).nodup hn
theorem mem_delL {x : α} {L : List (α × β)} {q : α × β} : q ∈ delL x L ↔ q ∈ L ∧ q.1 ≠ x := by simp [delL]
theorem length_putL_le {x : α} {v : β} {L : List (α × β)} : (putL x v L).length ≤ L.length + 1 := by
 induction L with
 | nil => simp [putL]
 | cons p L ih =>
  simp only [putL]
  split
  ·simp
  ·simp; exact ih
end
theorem nodup_of_map {γ δ : Type} {f : γ → δ} {l : List γ} (h : (l.map f).Nodup) : l.Nodup := by
 unfold List.Nodup at h ⊢
 rw [List.pairwise_map] at h
 exact h.imp fun hne e => hne (by rw [e])
theorem perm_eraseIdx {γ : Type} : ∀ {l : List γ} {j : Nat} {a : γ}, l[j]? = some a → l.Perm (a :: l.eraseIdx j)
 | [], _, _, h => by cases h
 | y :: l, 0, a, h => by
  have : y = a := by simpa using h
  subst this
  exact List.Perm.refl _
 | y :: l, j + 1, a, h => by
  rw [List.eraseIdx_cons_succ]
  exact ((perm_eraseIdx (by simpa using h)).cons y).trans (List.Perm.swap a y _)
theorem eraseIdx_filter {γ δ : Type} (f : γ → δ) (q : γ → Bool) : ∀ (l : List γ) (j : Nat) (a : γ), (∀ y, q y = true ↔ f y ≠ f a) → (l.map f).Nodup → l[j]? = some a → l.eraseIdx j = l.filter q
 | [], _, _, _, _, h => by cases h
 | y :: l, 0, a, hq, hn, h => by
  have : y = a := by simpa using h
  subst this
  simp only [List.map_cons, List.nodup_cons] at hn
  have h0 : ¬ q y = true := fun e => (hq y).1 e rfl
  rw [List.eraseIdx_cons_zero, List.filter_cons, if_neg h0]
  exact (List.filter_eq_self.2 fun z hz => (hq z).2 fun e => hn.1 (by rw [← e]; exact List.mem_map.2 ⟨z, hz, rfl⟩)).symm
 | y :: l, j + 1, a, hq, hn, h => by
  simp only [List.map_cons, List.nodup_cons] at hn
  have h' : l[j]? = some a := by simpa using h
  have hne : f y ≠ f a := fun e => hn.1 (by rw [e]; exact List.mem_map.2 ⟨a, List.mem_of_getElem? h', rfl⟩)
  rw [List.eraseIdx_cons_succ, List.filter_cons, if_pos ((hq y).2 hne), eraseIdx_filter f q l j a hq hn.2 h']
noncomputable def offKey (v : Value) (e : MapEntry) : Bool := @decide (e.key ≠ v) (Classical.propDecidable _)
theorem offKey_iff {v : Value} {e : MapEntry} : offKey v e = true ↔ e.key ≠ v := by
 unfold offKey
 exact @decide_eq_true_iff _ (Classical.propDecidable _)
structure KeyIs {α : Type} [DecidableEq α] (P : Program) (k : TypeId) (eK : α → Value) : Prop where
 check : ∀ (w : World) (em : Bool) (x : α), (Instr.checkKey em 10000 k (eK x)).run P w = .ok () w
 kind : ∃ d, P.underlying k = some d ∧ ∀ (x y : α), Instr.sameNow d (eK x) (eK y) = none
 equal : ∀ (w : World) (x y : α), (Op.equal k (eK x) (eK y)).run P w = .ok (decide (x = y)) w
 stays : ∀ (w : World) (x : α), (Instr.keyThatStays (eK x) (eK x)).run P w = .ok (eK x) w
 inj : ∀ x y : α, eK x = eK y → x = y
def MapIs {α β : Type} (eK : α → Value) (eV : β → Value) (w : World) (b : Nat) (L : List (α × β)) : Prop :=
 ∃ es clock, w.heap[b]? = some (.map es clock) ∧ Stamped es clock ∧ es.toList.map (fun e => (e.key, e.val)) = L.map fun p => (eK p.1, eV p.2)
section
variable {P : Program} {α β : Type} {eK : α → Value} {eV : β → Value} {w w' : World} {b : Nat} {L : List (α × β)} {k e t : TypeId}
theorem asks_run [DecidableEq α] (K : KeyIs P k eK) (w : World) (x : α) : ∀ (es : List MapEntry) (L : List (α × β)) (i : Nat), es.map (fun e => (e.key, e.val)) = L.map (fun p => (eK p.1, eV p.2)) →
  (Instr.findAsking k (eK x) es i).run P w = .ok ((idxL x L).bind fun j => (es[j]?).map fun e => (i + j, e.val)) w
 | [], L, i, h => by
  have : L = [] := by simpa using h.symm
  subst this
  rfl
 | a :: es, [], i, h => by simp at h
 | a :: es, p :: L, i, h => by
  simp only [List.map_cons, List.cons.injEq, Prod.mk.injEq] at h
  obtain ⟨⟨h1, h2⟩, h3⟩ := h
  simp only [Instr.findAsking, Sem.run_bind, h1, K.equal, Result.andThen_ok]
  by_cases hp : x = p.1
  ·simp [hp, idxL]
  ·have hp' : ¬ p.1 = x := fun e => hp e.symm
   simp only [hp, decide_false, Bool.false_eq_true, if_false]
   rw [asks_run K w x es L (i + 1) h3]
   simp only [idxL, if_neg hp']
   cases idxL x L with
   | none => rfl
   | some j =>
    have hij : i + 1 + j = i + (j + 1) := by omega
    simp [hij]
theorem find_run [DecidableEq α] (K : KeyIs P k eK) (w : World) (x : α) (es : List MapEntry) (L : List (α × β)) (h : es.map (fun e => (e.key, e.val)) = L.map (fun p => (eK p.1, eV p.2))) :
  (Instr.findKey k (eK x) es).run P w = .ok ((idxL x L).bind fun j => (es[j]?).map fun e => (j, e.val)) w := by
 obtain ⟨d, hd, hs⟩ := K.kind
 have ha := asks_run K w x es L 0 h
 simp only [Nat.zero_add] at ha
 cases es with
 | nil =>
  have : L = [] := by simpa using h.symm
  subst this
  simp only [Instr.findKey, Sem.run_bind, run_underlying hd, Result.andThen_ok, Instr.findNow, idxL]
  rfl
 | cons a es =>
  cases L with
  | nil => simp at h
  | cons p L =>
   have h1 : a.key = eK p.1 := by simp only [List.map_cons, List.cons.injEq, Prod.mk.injEq] at h; exact h.1.1
   simp only [Instr.findKey, Sem.run_bind, run_underlying hd, Result.andThen_ok, Instr.findNow, h1, hs]
   exact ha
theorem MapIs.lt (h : MapIs eK eV w b L) : b < w.heap.size := by
 obtain ⟨es, clock, hb, _⟩ := h
 exact (Array.getElem?_eq_some_iff.1 hb).1
theorem MapIs.same (h : MapIs eK eV w b L) (hs : w'.heap[b]? = w.heap[b]?) : MapIs eK eV w' b L := by
 obtain ⟨es, clock, hb, r⟩ := h
 exact ⟨es, clock, hs.trans hb, r⟩
theorem MapIs.nodup (h : MapIs eK eV w b L) : (keysL L).Nodup := by
 obtain ⟨es, clock, _, ⟨_, _, hs⟩, hL⟩ := h
 have h2 : es.toList.map (·.key) = (keysL L).map eK := by
  have := congrArg (List.map Prod.fst) hL
  simpa [List.map_map, Function.comp_def, keysL] using this
 rw [h2] at hs
 exact nodup_of_map hs
theorem MapIs.made (eK : α → Value) (eV : β → Value) (w : World) : MapIs eK eV (w.alloc (.map #[] 0)) w.heap.size [] :=
 ⟨#[], 0, heap_alloc_new w _, stamped_empty 0, rfl⟩
theorem look_run [DecidableEq α] (h : MapIs eK eV w b L) (K : KeyIs P k eK) (ht : P.underlying t = some (.map k e)) {z : Value} (hz : (zeroValue e).run P w = .ok z w) (x : α) :
  (Instr.lookup t (.map (some b)) (eK x) false).run P w = .ok (((getL x L).map eV).getD z) w := by
 obtain ⟨es, clock, hb, _, hL⟩ := h
 have hf := find_run (eV := eV) K w x es.toList L hL
 cases hi : idxL x L with
 | none =>
  rw [hi] at hf
  obtain ⟨_, h2, _⟩ := idxL_none hi
  simp [Instr.lookup, run_underlying ht, MapKept.run_getObj_map hb, K.check w _ x, hf, hz, Result.andThen, h2]
 | some j =>
  rw [hi] at hf
  obtain ⟨v0, h1, h2, _⟩ := idxL_some hi
  have h3 : (es.toList.map fun e => (e.key, e.val))[j]? = some (eK x, eV v0) := by rw [hL]; simp [h1]
  obtain ⟨a, ha, hav⟩ : ∃ a, es[j]? = some a ∧ (a.key, a.val) = (eK x, eV v0) := by simpa using h3
  have hv : a.val = eV v0 := (Prod.mk.inj hav).2
  simp [Instr.lookup, run_underlying ht, MapKept.run_getObj_map hb, K.check w _ x, hf, Result.andThen, h2, ha, hv]
theorem look_nil_run [DecidableEq α] (K : KeyIs P k eK) (ht : P.underlying t = some (.map k e)) {z : Value} (hz : (zeroValue e).run P w = .ok z w) (x : α) :
  (Instr.lookup t (.map none) (eK x) false).run P w = .ok z w := by
 have hf := find_run (β := Unit) (eV := fun _ => undef) K w x [] [] rfl
 simp only [idxL] at hf
 simp [Instr.lookup, run_underlying ht, K.check w _ x, hf, hz, Result.andThen]
theorem But.setBlock_ {w : World} {b : Nat} (o : Obj) : But b w (setBlock w b o) :=
 ⟨rfl, rfl, rfl, by simp [setBlock], fun i _ hi => by
  have : b ≠ i := fun e => hi (by rw [e])
  simp [setBlock, this]⟩
theorem put_run [DecidableEq α] (h : MapIs eK eV w b L) (K : KeyIs P k eK) (ht : P.underlying t = some (.map k e)) (x : α) (v : β) :
  ∃ w', (Instr.mapUpdate t (.map (some b)) (eK x) (eV v)).run P w = .ok () w' ∧ MapIs eK eV w' b (putL x v L) ∧ But b w w' ∧ w'.heap.size = w.heap.size ∧ w'.drawn = w.drawn := by
 obtain ⟨es, clock, hb, hst, hL⟩ := h
 have hf := find_run (eV := eV) K w x es.toList L hL
 cases hi : idxL x L with
 | none =>
  rw [hi] at hf
  obtain ⟨h1, h2, h3⟩ := idxL_none hi
  have hk : ∀ a ∈ es.toList, a.key ≠ eK x := by
   intro a ha he
   have : (a.key, a.val) ∈ L.map fun p => (eK p.1, eV p.2) := by rw [← hL]; exact List.mem_map.2 ⟨a, ha, rfl⟩
   obtain ⟨p, hp, hpe⟩ := List.mem_map.1 this
   have : eK p.1 = eK x := by rw [← he]; exact (Prod.mk.inj hpe).1
   exact h1 (by rw [← K.inj _ _ this]; exact List.mem_map.2 ⟨p, hp, rfl⟩)
  refine ⟨setBlock w b (.map (es.push ⟨eK x, eV v, clock⟩) (clock + 1)), ?_, ⟨_, _, heap_setBlock_same hb _, stamped_push hst hk, ?_⟩, But.setBlock_ _, by simp [setBlock], rfl⟩
  ·simp [Instr.mapUpdate, run_underlying ht, MapKept.run_getObj_map hb, K.check w false x, hf, MapKept.run_setObj_map _ hb, Result.andThen, setBlock]
  ·rw [h3, Array.toList_push, List.map_append, hL, List.map_append]
   rfl
 | some j =>
  rw [hi] at hf
  obtain ⟨v0, h1, h2, h3⟩ := idxL_some hi
  have h4 : (es.toList.map fun e => (e.key, e.val))[j]? = some (eK x, eV v0) := by rw [hL]; simp [h1]
  obtain ⟨a, ha, hav⟩ : ∃ a, es[j]? = some a ∧ (a.key, a.val) = (eK x, eV v0) := by simpa using h4
  have hak : a.key = eK x := (Prod.mk.inj hav).1
  have ha' : es.toList[j]? = some a := by simpa using ha
  have hlist : (es.modify j (fun e' => { e' with key := eK x, val := eV v })).toList = es.toList.set j { a with key := eK x, val := eV v } := by rw [Array.toList_modify, Go.ChangeMaps.modify_eq_set _ _ _ _ ha']
  refine ⟨setBlock w b (.map (es.modify j (fun e' => { e' with key := eK x, val := eV v })) clock), ?_, ⟨_, _, heap_setBlock_same hb _, stamped_modify hst _ _ (fun _ _ => rfl) (fun e' _ he' => ?_), ?_⟩, But.setBlock_ _, by simp [setBlock], rfl⟩
  ·simp [Instr.mapUpdate, run_underlying ht, MapKept.run_getObj_map hb, K.check w false x, hf, ha, hak, K.stays w x, MapKept.run_setObj_map _ hb, Result.andThen, setBlock]
  ·rw [ha] at he'
   cases he'
   exact hak.symm
  ·rw [h3, hlist, List.map_set, hL, List.map_set]
theorem del_run [DecidableEq α] {ty : TypeId} (h : MapIs eK eV w b L) (K : KeyIs P k eK) (ht : P.underlying t = some (.map k e)) (x : α) :
  ∃ w', (Builtin.delete_ #[t, k] ty #[.map (some b), eK x]).run P w = .ok (.tuple #[]) w' ∧ MapIs eK eV w' b (delL x L) ∧ But b w w' ∧ w'.heap.size = w.heap.size ∧ w'.drawn = w.drawn := by
 have hn := h.nodup
 obtain ⟨es, clock, hb, hst, hL⟩ := h
 have hf := find_run (eV := eV) K w x es.toList L hL
 cases hi : idxL x L with
 | none =>
  rw [hi] at hf
  obtain ⟨h1, h2, h3⟩ := idxL_none hi
  refine ⟨setBlock w b (.map es clock), ?_, ⟨_, _, heap_setBlock_same hb _, hst, ?_⟩, But.setBlock_ _, by simp [setBlock], rfl⟩
  ·simp [Builtin.delete_, run_underlying ht, MapKept.run_getObj_map hb, K.check w _ x, hf, MapKept.run_setObj_map _ hb, Result.andThen, setBlock]
  ·rw [hL, show delL x L = L from List.filter_eq_self.2 fun p hp => by
    simp only [ne_eq, decide_eq_true_eq]
    exact fun e => h1 (by rw [← e]; exact List.mem_map.2 ⟨p, hp, rfl⟩)]
 | some j =>
  rw [hi] at hf
  obtain ⟨v0, h1, h2, h3⟩ := idxL_some hi
  have h4 : (es.toList.map fun e => (e.key, e.val))[j]? = some (eK x, eV v0) := by rw [hL]; simp [h1]
  obtain ⟨a, ha, hav⟩ : ∃ a, es[j]? = some a ∧ (a.key, a.val) = (eK x, eV v0) := by simpa using h4
  have hjs : j < es.size := (Array.getElem?_eq_some_iff.1 ha).1
  have hsub : (es.eraseIdxIfInBounds j).toList = es.toList.eraseIdx j := by
   unfold Array.eraseIdxIfInBounds
   rw [dif_pos hjs]
   simp
  refine ⟨setBlock w b (.map (es.eraseIdxIfInBounds j) clock), ?_, ⟨_, _, heap_setBlock_same hb _, stamped_erase hst j, ?_⟩, But.setBlock_ _, by simp [setBlock], rfl⟩
  ·simp [Builtin.delete_, run_underlying ht, MapKept.run_getObj_map hb, K.check w _ x, hf, ha, MapKept.run_setObj_map _ hb, Result.andThen, setBlock]
  ·rw [hsub, Go.ChangeMaps.map_eraseIdx, hL, ← Go.ChangeMaps.map_eraseIdx, eraseIdx_filter Prod.fst (fun p => decide (p.1 ≠ x)) L j (x, v0) (fun y => by simp) hn h1]
   rfl
theorem del_nil_run [DecidableEq α] {ty : TypeId} (K : KeyIs P k eK) (ht : P.underlying t = some (.map k e)) (x : α) : (Builtin.delete_ #[t, k] ty #[.map none, eK x]).run P w = .ok (.tuple #[]) w := by
 simp [Builtin.delete_, run_underlying ht, K.check w _ x, Result.andThen]
theorem MapIs.length (h : MapIs eK eV w b L) : ∃ es clock, w.heap[b]? = some (.map es clock) ∧ es.size = L.length := by
 obtain ⟨es, clock, hb, _, hL⟩ := h
 have := congrArg List.length hL
 exact ⟨es, clock, hb, by simpa using this⟩
theorem len_run {ty : TypeId} (h : MapIs eK eV w b L) (ht : P.underlying t = some (.map k e)) : (Builtin.len_ #[t] ty #[.map (some b)]).run P w = .ok (.int .i64 L.length) w := by
 obtain ⟨es, clock, hb, hl⟩ := h.length
 simp [Builtin.len_, run_underlying ht, MapKept.run_getObj_map hb, goInt, Result.andThen, hl]
theorem len_nil_run {ty : TypeId} (ht : P.underlying t = some (.map k e)) : (Builtin.len_ #[t] ty #[.map none]).run P w = .ok (.int .i64 0) w := Maps.len_nil ht ty
def Ranging {α β : Type} (eK : α → Value) (eV : β → Value) (w : World) (b r : Nat) (L R : List (α × β)) : Prop :=
 ∃ es clock since seen c0, w.heap[b]? = some (.map es clock) ∧ Stamped es clock ∧ es.toList.map (fun e => (e.key, e.val)) = L.map (fun p => (eK p.1, eV p.2)) ∧
  w.heap[r]? = some (.mapIter (some b) since seen c0) ∧ (∀ x ∈ es.toList, x.born < since) ∧ since ≤ c0 ∧ since ≤ clock ∧
  (leftOf es seen).toList.map (fun e => (e.key, e.val)) = R.map fun p => (eK p.1, eV p.2)
variable {r : Nat} {R : List (α × β)}
theorem Ranging.owns (h : Ranging eK eV w b r L R) : MapIs eK eV w b L := by
 obtain ⟨es, clock, _, _, _, hb, hs, hL, _⟩ := h
 exact ⟨es, clock, hb, hs, hL⟩
theorem Ranging.lt (h : Ranging eK eV w b r L R) : r < w.heap.size := by
 obtain ⟨es, clock, _, _, _, _, _, _, hr, _⟩ := h
 exact (Array.getElem?_eq_some_iff.1 hr).1
theorem Ranging.ne (h : Ranging eK eV w b r L R) : r ≠ b := by
 obtain ⟨es, clock, _, _, _, hb, _, _, hr, _⟩ := h
 intro e
 rw [e, hb] at hr
 cases hr
theorem Ranging.same (h : Ranging eK eV w b r L R) (hb : w'.heap[b]? = w.heap[b]?) (hr : w'.heap[r]? = w.heap[r]?) : Ranging eK eV w' b r L R := by
 obtain ⟨es, clock, since, seen, c0, h1, h2, h3, h4, h5⟩ := h
 exact ⟨es, clock, since, seen, c0, hb.trans h1, h2, h3, hr.trans h4, h5⟩
theorem Ranging.below (h : Ranging eK eV w b r L R) (hb : Below w.heap.size w w') : Ranging eK eV w' b r L R := h.same (hb.block b h.owns.lt) (hb.block r h.lt)
theorem leftOf_sub (es : Array MapEntry) (seen : Array Nat) : (leftOf es seen).toList.Sublist es.toList := by
 unfold leftOf
 rw [Array.toList_filter]
 exact List.filter_sublist
theorem Ranging.nodup (h : Ranging eK eV w b r L R) : (keysL R).Nodup := by
 obtain ⟨es, clock, since, seen, c0, h1, ⟨_, _, hs⟩, h3, h4, _, _, _, h5⟩ := h
 have h2 : (leftOf es seen).toList.map (·.key) = (keysL R).map eK := by
  have := congrArg (List.map Prod.fst) h5
  simpa [List.map_map, Function.comp_def, keysL] using this
 have h6 : ((leftOf es seen).toList.map (·.key)).Nodup := (List.Sublist.map _ (leftOf_sub es seen)).nodup hs
 rw [h2] at h6
 exact nodup_of_map h6
theorem range_run (h : MapIs eK eV w b L) (ht : P.underlying t = some (.map k e)) :
  ∃ w', (Instr.range t (.map (some b))).run P w = .ok (.pointer (some ⟨w.heap.size, 0, none⟩)) w' ∧ Ranging eK eV w' b w.heap.size L L ∧ ∃ o, w' = w.alloc o := by
 have hlt := h.lt
 obtain ⟨es, clock, hb, hst, hL⟩ := h
 refine ⟨_, run_range_map w t k e b es clock ht hb, ⟨es, clock, clock, #[], clock, (heap_alloc_old w _ hlt).trans hb, hst, hL, heap_alloc_new w _, hst.1, Nat.le_refl _, Nat.le_refl _, ?_⟩, _, rfl⟩
 have : leftOf es #[] = es := by simp [leftOf]
 rw [this, hL]
theorem next_run (h : Ranging eK eV w b r L R) (ty : TypeId) :
  (R = [] ∧ (Instr.next (.pointer (some ⟨r, 0, none⟩)) false ty).run P w = .ok (.tuple #[.bool false]) w) ∨
  ∃ p R' w', R.Perm (p :: R') ∧ (Instr.next (.pointer (some ⟨r, 0, none⟩)) false ty).run P w = .ok (.tuple #[.bool true, eK p.1, eV p.2]) w' ∧ Ranging eK eV w' b r L R' ∧ But r w w' ∧ w'.heap.size = w.heap.size ∧
   (Instr.entry (.pointer (some ⟨r, 0, none⟩))).run P w' = .ok (.tuple #[eK p.1, eV p.2]) w' := by
 have hne := h.ne
 obtain ⟨es, clock, since, seen, c0, hb, hst, hL, hr, hold, hsc, hsk, hR⟩ := h
 have hst2 := (stamped_iff es clock).1 hst
 rcases run_next_at (P := P) w ty r b since c0 seen es clock hr hb hold hsc with ⟨h0, hrun⟩ | ⟨a, ha, w1, hal, hrun⟩
 ·refine Or.inl ⟨?_, hrun⟩
  have := congrArg List.length hR
  simpa [h0] using this.symm
 ·right
  obtain ⟨hem, hes⟩ := mem_left ha
  obtain ⟨j, hj⟩ := List.getElem?_of_mem ha
  have hRj : (R.map fun p => (eK p.1, eV p.2))[j]? = some (a.key, a.val) := by rw [← hR]; simp only [List.getElem?_map, hj, Option.map_some]
  obtain ⟨p, hp, hpe⟩ : ∃ p, R[j]? = some p ∧ (eK p.1, eV p.2) = (a.key, a.val) := by simpa using hRj
  obtain ⟨hk1, hk2⟩ := Prod.mk.inj hpe
  have hr1 : w1.heap[r]? = some (.mapIter (some b) since seen c0) := by rcases hal with rfl | rfl <;> exact hr
  have hb1 : w1.heap[b]? = some (.map es clock) := by rcases hal with rfl | rfl <;> exact hb
  have hset := heap_set (o' := .mapIter (some b) since (seen.push a.born) clock) hr1
  have hb' : (setBlock w1 r (.mapIter (some b) since (seen.push a.born) clock)).heap[b]? = some (.map es clock) := (hset.2 b (fun e1 => hne e1.symm)).trans hb1
  have hleft : (leftOf es (seen.push a.born)).toList = (leftOf es seen).toList.eraseIdx j := by
   have hn : ((leftOf es seen).toList.map (·.born)).Nodup := (List.Sublist.map _ (leftOf_sub es seen)).nodup hst2.2.1
   rw [eraseIdx_filter (·.born) (fun y => !(y.born == a.born)) _ j a (fun y => by simp) hn hj]
   unfold leftOf
   rw [Array.toList_filter, Array.toList_filter, List.filter_filter]
   refine List.filter_congr fun x _ => ?_
   rw [contains_push]
   cases seen.contains x.born <;> cases (x.born == a.born) <;> rfl
  refine ⟨p, R.eraseIdx j, _, ?_, by rw [hk1, hk2]; exact hrun, ⟨es, clock, since, seen.push a.born, clock, hb', hst, hL, hset.1, hold, hsk, hsk, ?_⟩, ?_, ?_, by rw [hk1, hk2]; exact run_entry_at _ r b since seen es clock a hset.1 hb' hem hst2.2.1⟩
  ·exact perm_eraseIdx hp
  ·rw [hleft, Go.ChangeMaps.map_eraseIdx, hR, Go.ChangeMaps.map_eraseIdx]
  ·rcases hal with rfl | rfl <;> exact ⟨rfl, rfl, rfl, by simp [setBlock], fun i _ hi => hset.2 i (fun e1 => hi (by rw [e1]))⟩
  ·rcases hal with rfl | rfl <;> simp [setBlock]
theorem filter_enc [DecidableEq α] (K : KeyIs P k eK) (x : α) : ∀ (l : List MapEntry) (L : List (α × β)), l.map (fun e => (e.key, e.val)) = L.map (fun p => (eK p.1, eV p.2)) →
  (l.filter (offKey (eK x))).map (fun e => (e.key, e.val)) = (delL x L).map fun p => (eK p.1, eV p.2)
 | [], [], _ => rfl
 | [], _ :: _, h => by simp at h
 | _ :: _, [], h => by simp at h
 | a :: l, p :: L, h => by
  simp only [List.map_cons, List.cons.injEq, Prod.mk.injEq] at h
  obtain ⟨⟨h1, h2⟩, h3⟩ := h
  have ih := filter_enc K x l L h3
  have hq : (a.key ≠ eK x) ↔ (p.1 ≠ x) := by
   rw [h1]
   exact not_congr ⟨fun e => K.inj _ _ e, fun e => by rw [e]⟩
  unfold delL at ih ⊢
  by_cases hp : p.1 ≠ x
  ·rw [List.filter_cons, if_pos (offKey_iff.2 (hq.2 hp)), List.filter_cons, if_pos (by simpa using hp), List.map_cons, List.map_cons, ih, h1, h2]
  ·rw [List.filter_cons, if_neg (fun e => hp (hq.1 (offKey_iff.1 e))), List.filter_cons, if_neg (by simpa using hp), ih]
theorem del_range_run [DecidableEq α] {ty : TypeId} (h : Ranging eK eV w b r L R) (K : KeyIs P k eK) (ht : P.underlying t = some (.map k e)) (x : α) :
  ∃ w', (Builtin.delete_ #[t, k] ty #[.map (some b), eK x]).run P w = .ok (.tuple #[]) w' ∧ Ranging eK eV w' b r (delL x L) (delL x R) ∧ But b w w' ∧ w'.heap.size = w.heap.size := by
 have hne := h.ne
 have hn := h.owns.nodup
 have hnR := h.nodup
 obtain ⟨es, clock, since, seen, c0, hb, hst, hL, hr, hold, hsc, hsk, hR⟩ := h
 have hf := find_run (eV := eV) K w x es.toList L hL
 have hr' : ∀ o, (setBlock w b o).heap[r]? = some (.mapIter (some b) since seen c0) := fun o => by
  have : b ≠ r := fun e => hne e.symm
  simp only [setBlock, Array.getElem?_setIfInBounds_ne this]
  exact hr
 have fR := filter_enc (eV := eV) K x _ R hR
 cases hi : idxL x L with
 | none =>
  rw [hi] at hf
  obtain ⟨h1, h2, h3⟩ := idxL_none hi
  have hk : ∀ a ∈ es.toList, a.key ≠ eK x := by
   intro a ha he
   have : (a.key, a.val) ∈ L.map fun p => (eK p.1, eV p.2) := by rw [← hL]; exact List.mem_map.2 ⟨a, ha, rfl⟩
   obtain ⟨p, hp, hpe⟩ := List.mem_map.1 this
   have : eK p.1 = eK x := by rw [← he]; exact (Prod.mk.inj hpe).1
   exact h1 (by rw [← K.inj _ _ this]; exact List.mem_map.2 ⟨p, hp, rfl⟩)
  refine ⟨setBlock w b (.map es clock), ?_, ⟨es, clock, since, seen, c0, heap_setBlock_same hb _, hst, ?_, hr' _, hold, hsc, hsk, ?_⟩, But.setBlock_ _, by simp [setBlock]⟩
  ·simp [Builtin.delete_, run_underlying ht, MapKept.run_getObj_map hb, K.check w _ x, hf, MapKept.run_setObj_map _ hb, Result.andThen, setBlock]
  ·rw [← filter_enc (eV := eV) K x _ L hL, List.filter_eq_self.2 fun a ha => offKey_iff.2 (hk a ha)]
  ·rw [← fR, List.filter_eq_self.2 fun a ha => offKey_iff.2 (hk a ((leftOf_sub es seen).subset ha))]
 | some j =>
  rw [hi] at hf
  obtain ⟨v0, h1, h2, h3⟩ := idxL_some hi
  have h4 : (es.toList.map fun e => (e.key, e.val))[j]? = some (eK x, eV v0) := by rw [hL]; simp [h1]
  obtain ⟨a, ha, hav⟩ : ∃ a, es[j]? = some a ∧ (a.key, a.val) = (eK x, eV v0) := by simpa using h4
  have hak : a.key = eK x := (Prod.mk.inj hav).1
  have hjs : j < es.size := (Array.getElem?_eq_some_iff.1 ha).1
  have hsub : (es.eraseIdxIfInBounds j).toList = es.toList.filter (offKey (eK x)) := by
   unfold Array.eraseIdxIfInBounds
   rw [dif_pos hjs, ← eraseIdx_filter (·.key) (offKey (eK x)) es.toList j a (fun y => by rw [offKey_iff, hak]) hst.2.2 (by simpa using ha)]
   simp
  refine ⟨setBlock w b (.map (es.eraseIdxIfInBounds j) clock), ?_, ⟨es.eraseIdxIfInBounds j, clock, since, seen, c0, heap_setBlock_same hb _, stamped_erase hst j, ?_, hr' _, fun y hy => hold y ?_, hsc, hsk, ?_⟩, But.setBlock_ _, by simp [setBlock]⟩
  ·simp [Builtin.delete_, run_underlying ht, MapKept.run_getObj_map hb, K.check w _ x, hf, ha, MapKept.run_setObj_map _ hb, Result.andThen, setBlock]
  ·rw [hsub, filter_enc (eV := eV) K x _ L hL]
  ·rw [hsub] at hy
   exact (List.mem_filter.1 hy).1
  ·rw [← fR]
   unfold leftOf
   rw [Array.toList_filter, Array.toList_filter, hsub, List.filter_filter, List.filter_filter]
   congr 1
   refine List.filter_congr fun y _ => ?_
   rw [Bool.and_comm]
end
structure El where
 k : Int
 a : ByteArray
 b : ByteArray
 c : ByteArray
 d : ByteArray
structure Dt where
 r : Int
 c : Int
structure Va where
 k : Int
 n : Int
 t : ByteArray
theorem El.ext_iff' (x y : El) : x = y ↔ (x.k = y.k ∧ x.a = y.a ∧ x.b = y.b ∧ x.c = y.c ∧ x.d = y.d) := by
 obtain ⟨k, a, b, c, d⟩ := x
 obtain ⟨k', a', b', c', d'⟩ := y
 simp
theorem Dt.ext_iff' (x y : Dt) : x = y ↔ (x.r = y.r ∧ x.c = y.c) := by
 obtain ⟨r, c⟩ := x
 obtain ⟨r', c'⟩ := y
 simp
theorem Va.ext_iff' (x y : Va) : x = y ↔ (x.k = y.k ∧ x.n = y.n ∧ x.t = y.t) := by
 obtain ⟨k, n, t⟩ := x
 obtain ⟨k', n', t'⟩ := y
 simp
instance : DecidableEq El := fun x y => decidable_of_iff _ (El.ext_iff' x y).symm
instance : DecidableEq Dt := fun x y => decidable_of_iff _ (Dt.ext_iff' x y).symm
instance : DecidableEq Va := fun x y => decidable_of_iff _ (Va.ext_iff' x y).symm
def eE (x : El) : Value := elV x.k x.a x.b x.c x.d
def eD (x : Dt) : Value := dv x.r x.c
def eV (x : Va) : Value := valV x.k x.n x.t
def eM (n : Nat) : Value := .map (some n)
theorem eE_inj (x y : El) (h : eE x = eE y) : x = y := by
 obtain ⟨k, a, b, c, d⟩ := x
 obtain ⟨k', a', b', c', d'⟩ := y
 simp [eE, elV] at h
 obtain ⟨h1, h2, h3, h4, h5⟩ := h
 subst h1 h2 h3 h4 h5
 rfl
theorem eD_inj (x y : Dt) (h : eD x = eD y) : x = y := by
 obtain ⟨r, c⟩ := x
 obtain ⟨r', c'⟩ := y
 simp [eD, dv] at h
 obtain ⟨h1, h2⟩ := h
 subst h1 h2
 rfl
theorem ba_eq (a b : ByteArray) : (a.toList == b.toList) = decide (a = b) := by
 by_cases h : a = b
 ·subst h; simp
 ·have : ¬ a.toList = b.toList := by
   intro e
   rw [ByteArray.toList_eq, ByteArray.toList_eq] at e
   exact h (by
    obtain ⟨⟨x⟩⟩ := a
    obtain ⟨⟨y⟩⟩ := b
    simp at e
    subst e
    rfl)
  simp [h, this]
theorem i_eq (a b : Int) : (a == b) = decide (a = b) := by
 by_cases h : a = b
 ·subst h; simp
 ·simp [h]
theorem dec_D (x y : Dt) : decide (x = y) = (decide (x.r = y.r) && decide (x.c = y.c)) := by
 by_cases h1 : x.r = y.r <;> by_cases h2 : x.c = y.c <;> simp [Dt.ext_iff', h1, h2]
theorem dec_V (x y : Va) : decide (x = y) = (decide (x.k = y.k) && (decide (x.n = y.n) && decide (x.t = y.t))) := by
 by_cases h1 : x.k = y.k <;> by_cases h2 : x.n = y.n <;> by_cases h3 : x.t = y.t <;> simp [Va.ext_iff', h1, h2, h3]
theorem dec_E (x y : El) : decide (x = y) = (decide (x.k = y.k) && (decide (x.a = y.a) && (decide (x.b = y.b) && (decide (x.c = y.c) && decide (x.d = y.d))))) := by
 by_cases h1 : x.k = y.k <;> by_cases h2 : x.a = y.a <;> by_cases h3 : x.b = y.b <;> by_cases h4 : x.c = y.c <;> by_cases h5 : x.d = y.d <;> simp [El.ext_iff', h1, h2, h3, h4, h5]
theorem equal_D (w : World) (x y : Dt) : (Op.equal 58 (eD x) (eD y)).run Tryz.prog w = .ok (decide (x = y)) w := by
 obtain ⟨r, c⟩ := x
 obtain ⟨r', c'⟩ := y
 rw [dec_D]
 unfold eD dv Op.equal Op.maxDepth
 dsimp only
 have h1 := i_eq r r'
 have h2 := i_eq c c'
 generalize decide (r = r') = q1 at *
 generalize decide (c = c') = q2 at *
 cases q1 <;> cases q2 <;> go_simp
theorem equal_V (w : World) (x y : Va) : (Op.equal 43 (eV x) (eV y)).run Tryz.prog w = .ok (decide (x = y)) w := by
 obtain ⟨k, n, t⟩ := x
 obtain ⟨k', n', t'⟩ := y
 rw [dec_V]
 unfold eV valV Op.equal Op.maxDepth
 dsimp only
 have h1 := i_eq k k'
 have h2 := i_eq n n'
 have h3 := ba_eq t t'
 generalize decide (k = k') = q1 at *
 generalize decide (n = n') = q2 at *
 generalize decide (t = t') = q3 at *
 cases q1 <;> cases q2 <;> cases q3 <;> go_simp
theorem equal_E (w : World) (x y : El) : (Op.equal 38 (eE x) (eE y)).run Tryz.prog w = .ok (decide (x = y)) w := by
 obtain ⟨k, a, b, c, d⟩ := x
 obtain ⟨k', a', b', c', d'⟩ := y
 rw [dec_E]
 unfold eE elV Op.equal Op.maxDepth
 dsimp only
 have h1 := i_eq k k'
 have h2 := ba_eq a a'
 have h3 := ba_eq b b'
 have h4 := ba_eq c c'
 have h5 := ba_eq d d'
 generalize decide (k = k') = q1 at *
 generalize decide (a = a') = q2 at *
 generalize decide (b = b') = q3 at *
 generalize decide (c = c') = q4 at *
 generalize decide (d = d') = q5 at *
 cases q1 <;> cases q2 <;> cases q3 <;> cases q4 <;> cases q5 <;> go_simp
theorem check_I (w : World) (em : Bool) (a : Int) : (Instr.checkKey em 9999 3 (.int .i64 a)).run Tryz.prog w = .ok () w := run_checkKey (d := .int .i64) Tryz.underlying3 (by simp [IsKey]) em 9998
theorem check_S (w : World) (em : Bool) (a : ByteArray) : (Instr.checkKey em 9999 9 (.string a)).run Tryz.prog w = .ok () w := run_checkKey (d := .string) Tryz.underlying9 (by simp [IsKey]) em 9998
theorem check_D (w : World) (em : Bool) (x : Dt) : (Instr.checkKey em 10000 58 (eD x)).run Tryz.prog w = .ok () w := by
 obtain ⟨r, c⟩ := x
 unfold eD dv
 dsimp only
 have h1 := fun w a => check_I w em a
 have h2 := fun w a => check_S w em a
 rw [show (10000 : Nat) = 9999 + 1 from rfl, Instr.checkKey]
 generalize Instr.checkKey em 9999 = ck at *
 go_simp
theorem check_E (w : World) (em : Bool) (x : El) : (Instr.checkKey em 10000 38 (eE x)).run Tryz.prog w = .ok () w := by
 obtain ⟨k, a, b, c, d⟩ := x
 unfold eE elV
 dsimp only
 have h1 := fun w a => check_I w em a
 have h2 := fun w a => check_S w em a
 rw [show (10000 : Nat) = 9999 + 1 from rfl, Instr.checkKey]
 generalize Instr.checkKey em 9999 = ck at *
 go_simp
theorem stays_D (w : World) (x : Dt) : (Instr.keyThatStays (eD x) (eD x)).run Tryz.prog w = .ok (eD x) w := by
 unfold eD dv Instr.keyThatStays
 rw [show (10000 : Nat) = 9998 + 1 + 1 from rfl]
 simp [Instr.sameBits]
theorem stays_E (w : World) (x : El) : (Instr.keyThatStays (eE x) (eE x)).run Tryz.prog w = .ok (eE x) w := by
 unfold eE elV Instr.keyThatStays
 rw [show (10000 : Nat) = 9998 + 1 + 1 from rfl]
 simp [Instr.sameBits, beq_toListBytes]
theorem keyD : KeyIs Tryz.prog 58 eD where
 check := check_D
 kind := ⟨_, Tryz.underlying58, fun _ _ => rfl⟩
 equal := equal_D
 stays := stays_D
 inj := eD_inj
theorem keyE : KeyIs Tryz.prog 38 eE where
 check := check_E
 kind := ⟨_, Tryz.underlying38, fun _ _ => rfl⟩
 equal := equal_E
 stays := stays_E
 inj := eE_inj
section
variable {P : Program}
theorem run_lookup_op {o : Oper} {ρ : Operand → Value} {w : World} {t : TypeId} {m x : Operand} {vm vx v : Value} (ho : o.op = .lookup t m x false) (hm : ρ m = vm) (hx : ρ x = vx) (hr : (Instr.lookup t vm vx false).run P w = .ok v w) : (execOp ρ o).run P w = .ok (.value v) w := by
 unfold execOp
 simp [ho, hm, hx, hr]
theorem run_mapUpdate_op {o : Oper} {ρ : Operand → Value} {w w' : World} {t : TypeId} {m x y : Operand} {vm vx vy : Value} (ho : o.op = .mapUpdate t m x y) (hm : ρ m = vm) (hx : ρ x = vx) (hy : ρ y = vy) (hr : (Instr.mapUpdate t vm vx vy).run P w = .ok () w') : (execOp ρ o).run P w = .ok .skip w' := by
 unfold execOp
 simp [ho, hm, hx, hy, hr]
theorem run_delete_op {o : Oper} {ρ : Operand → Value} {w w' : World} {m x : Operand} {t k : TypeId} {vm vx : Value} (ho : o.op = .call { callee := .builtin .delete, args := #[m, x], argTypes := #[t, k] }) (hm : ρ m = vm) (hx : ρ x = vx)
  (hr : (Builtin.delete_ #[t, k] o.type #[vm, vx]).run P w = .ok (.tuple #[]) w') : (execOp ρ o).run P w = .ok (.value (.tuple #[])) w' := by
 unfold execOp
 simp [ho, hm, hx, hr, resolve, invoke, builtin]
theorem run_makeMap_op {o : Oper} {ρ : Operand → Value} {w : World} {t : TypeId} (ho : o.op = .makeMap t none) : (execOp ρ o).run P w = .ok (.value (.map (some w.heap.size))) (w.alloc (.map #[] 0)) := by
 unfold execOp
 have := run_makeMap (P := P) t w
 simp [ho, this]
theorem run_nilCheck_op {o : Oper} {ρ : Operand → Value} {w : World} {x : Operand} {ad : Addr} (ho : o.op = .nilCheck x) (hx : ρ x = .pointer (some ad)) : (execOp ρ o).run P w = .ok (.value (.pointer (some ad))) w := by
 unfold execOp
 simp [ho, hx]
theorem run_loadmap_op {o : Oper} {ρ : Operand → Value} {w : World} {ty k e : TypeId} {x : Operand} {ad : Addr} {n : Option Nat} (ho : o.op = .load ty x) (hx : ρ x = .pointer (some ad)) (hu : P.underlying ty = some (.map k e)) (hc : w.cell? ad = some (.map n)) :
  (execOp ρ o).run P w = .ok (.value (.map n)) w := by
 unfold execOp
 have ha : (isAgg ty).run P w = .ok false w := by unfold isAgg; rw [Sem.run_bind, run_underlying hu w]; simp
 simp [ho, hx, Instr.loadAt, Instr.sureAddr, loadVar, ha, hc, go_sem]
variable {ops : Array Oper} {Q : Exit → Act → World → Prop} {md : Region.Mode}
def aftB (md : Region.Mode) (o : Oper) (i : Nat) : Bool := o.after.any fun e => e.on == i && Region.binds md e
def reachB (md : Region.Mode) (ops : Array Oper) : Nat → (Nat → Bool) → Nat → Bool
 | 0, S => S
 | k + 1, S => reachB md ops k (if S k = true then fun i => S i || (match ops[k]? with | some o => aftB md o i | none => false) else S)
theorem reachB_spec {L : Nat → Bool} (hc : ∀ (j : Nat) (oj : Oper), ops[j]? = some oj → L j = true → ∀ e ∈ oj.after, Region.binds md e = true → L e.on = true) :
  ∀ (k : Nat) (S : Nat → Bool), (∀ i, S i = true → L i = true) → ∀ i, reachB md ops k S i = true → L i = true
 | 0, S, h, i, hi => h i hi
 | k + 1, S, h, i, hi => by
  refine reachB_spec hc k _ ?_ i hi
  intro j hj
  by_cases hk : S k = true
  ·simp only [hk, if_true, Bool.or_eq_true] at hj
   rcases hj with hj | hj
   ·exact h j hj
   ·cases ho : ops[k]? with
    | none => rw [ho] at hj; cases hj
    | some o =>
     rw [ho] at hj
     unfold aftB at hj
     rw [Array.any_eq_true'] at hj
     obtain ⟨e, he, h2⟩ := hj
     simp only [Bool.and_eq_true, beq_iff_eq] at h2
     rw [← h2.1]
     exact hc k o ho (h k hk) e he h2.2
  ·simp only [hk, Bool.false_eq_true, if_false] at hj
   exact h j hj
theorem wpAny_last (p : Nat → Value → World → Prop) (a0 : Act) (w1 : World) (last : Nat) (ol : Oper) (J : (Nat → Value) → World → Prop)
  (hsz : ops.size = last + 1) (hol : ops[last]? = some ol) (hwait : (List.range last).all (reachB md ops last (aftB md ol)) = true)
  (hap : apartB ops = true) (hah : aheadB md ops = true) (hin : (List.range ops.size).all (fun i => match ops[i]? with | some o => (match o.dst with | some d => decide (d < a0.tmps.size) | none => true) | none => true) = true)
  (hst : ∀ i v w w', Below w.heap.size w w' → p i v w → p i v w')
  (hop : AllIdx (fun i o => i < last → ∀ (a : Act) (w : World), Below w1.heap.size w1 w → (∀ d : Tmp, (ops.all fun o => o.dst != some d) = true → a.eval (.tmp d) = a0.eval (.tmp d)) →
   (∀ e ∈ o.after, Region.binds md e = true → ∀ oj d, ops[e.on]? = some oj → oj.dst = some d → p e.on (a.eval (.tmp d)) w) → ops[i]? = some o → wpOp P ops Q i (Step1 w1 p i a o w) a w) 0 ops.toList)
  (hlast : ∀ (vals : Nat → Value) (a : Act) (w : World), Below w1.heap.size w1 w → (∀ d : Tmp, (ops.all fun o => o.dst != some d) = true → a.eval (.tmp d) = a0.eval (.tmp d)) →
   (∀ (j : Nat) (oj : Oper) (d : Tmp), ops[j]? = some oj → j < last → oj.dst = some d → a.eval (.tmp d) = vals j) → (∀ j, j < last → p j (vals j) w) →
   wpOp P ops Q last (fun a' w' => ∃ v, a' = a.put ol.dst v ∧ ∀ vals' : Nat → Value, (∀ j, j < last → vals' j = vals j) → vals' last = v → J vals' w') a w)
  (hend : ∀ vals w, J vals w → Q .normal (layN ops (fun _ => true) vals (List.range ops.size) a0) w) :
  wpAny P md ops Q ops.size (Array.replicate ops.size false) a0 w1.drew := by
 refine wpAny_inv (fun L vals w => if L last = true then (∀ i, i < last → L i = true) ∧ J vals w else Below w1.heap.size w1 w ∧ ∀ i, i < last → L i = true → p i (vals i) w) a0 w1.drew hap hah hin ?_ ?_ ?_
 ·intro L hL
  rw [if_neg (by rw [hL]; exact Bool.false_ne_true)]
  exact ⟨(Below.refl _ _).drew, fun i _ h => by rw [hL] at h; cases h⟩
 ·have hall : ∀ (i : Nat) (o : Oper), ops[i]? = some o → ∀ (L : Nat → Bool) (vals : Nat → Value) (a : Act) (w : World), Finds md ops a0 i o L vals a →
       (if L last = true then (∀ i, i < last → L i = true) ∧ J vals w else Below w1.heap.size w1 w ∧ ∀ i, i < last → L i = true → p i (vals i) w) →
       wpOp P ops Q i (Leaves (fun L vals w => if L last = true then (∀ i, i < last → L i = true) ∧ J vals w else Below w1.heap.size w1 w ∧ ∀ i, i < last → L i = true → p i (vals i) w) i o L vals a) a w := by
   intro i o hi L vals a w hF hI
   have hil : i < ops.size := (Array.getElem?_eq_some_iff.1 hi).1
   by_cases hlt : i < last
   ·have hnl : ¬ L last = true := by
     intro h
     rw [if_pos h] at hI
     have := hI.1 i hlt
     rw [hF.open_] at this
     cases this
    rw [if_neg hnl] at hI
    have h1 := allIdx_get ops.toList 0 i o hop (by simpa using hi)
    rw [Nat.zero_add] at h1
    refine wpOp_mono ?_ (h1 hlt a w hI.1 hF.old (fun e he hb oj d hoj hd => ?_) hi)
    ·rintro a' w' ⟨⟨v, rfl, hp⟩, h2, h3⟩
     refine ⟨v, rfl, fun L' hL' hi' => ?_⟩
     have : ¬ L' last = true := by rw [hL' last (by omega)]; exact hnl
     show if L' last = true then _ else _
     rw [if_neg this]
     refine ⟨h3, fun j hj hlj => ?_⟩
     by_cases hji : j = i
     ·subst hji; simpa using hp
     ·simp only [hji, if_false]
      exact hst j _ w w' h2 (hI.2 j hj (by rw [← hL' j hji]; exact hlj))
    ·have hl := hF.ahead e he hb
     have hel : e.on < ops.size := (Array.getElem?_eq_some_iff.1 hoj).1
     have hne : e.on ≠ last := fun h => hnl (by rw [← h]; exact hl)
     rw [hF.slot e.on oj d hoj hd hl]
     exact hI.2 e.on (by omega) hl
   ·have hie : i = last := by omega
    subst hie
    have hoo : o = ol := by rw [hi] at hol; exact Option.some.inj hol
    subst hoo
    rw [if_neg (by rw [hF.open_]; exact Bool.false_ne_true)] at hI
    have hL : ∀ j, j < i → L j = true := by
     intro j hj
     simp only [List.all_eq_true, List.mem_range] at hwait
     refine reachB_spec hF.closed i _ (fun k hk => ?_) j (hwait j hj)
     unfold aftB at hk
     rw [Array.any_eq_true'] at hk
     obtain ⟨e, he, h2⟩ := hk
     simp only [Bool.and_eq_true, beq_iff_eq] at h2
     rw [← h2.1]
     exact hF.ahead e he h2.2
    refine wpOp_mono ?_ (hlast vals a w hI.1 hF.old (fun j oj d hoj hj hd => hF.slot j oj d hoj hd (hL j hj)) (fun j hj => hI.2 j hj (hL j hj)))
    rintro a' w' ⟨v, rfl, hJ⟩
    refine ⟨v, rfl, fun L' hL' hi' => ?_⟩
    show if L' i = true then _ else _
    rw [if_pos hi']
    refine ⟨fun j hj => by rw [hL' j (by omega)]; exact hL j hj, hJ _ (fun j hj => ?_) (by simp)⟩
    have : j ≠ i := by omega
    simp [this]
  have go : ∀ (l : List Oper) (k : Nat), (∀ i o, l[i]? = some o → ops[k + i]? = some o) → AllIdx (fun i o => ∀ (L : Nat → Bool) (vals : Nat → Value) (a : Act) (w : World), Finds md ops a0 i o L vals a →
    (if L last = true then (∀ i, i < last → L i = true) ∧ J vals w else Below w1.heap.size w1 w ∧ ∀ i, i < last → L i = true → p i (vals i) w) →
    wpOp P ops Q i (Leaves (fun L vals w => if L last = true then (∀ i, i < last → L i = true) ∧ J vals w else Below w1.heap.size w1 w ∧ ∀ i, i < last → L i = true → p i (vals i) w) i o L vals a) a w) k l := by
   intro l
   induction l with
   | nil => intro k _; trivial
   | cons o l ih =>
    intro k h
    refine ⟨hall k o (by simpa using h 0 o rfl), ih (k + 1) fun i o' ho' => ?_⟩
    have := h (i + 1) o' (by simpa using ho')
    rwa [show k + 1 + i = k + (i + 1) from by omega]
  exact go ops.toList 0 (fun i o h => by simpa using h)
 ·intro L vals w hL hI
  rw [if_pos (hL last (by omega))] at hI
  exact hend vals w hI.2
theorem l_skip {i : Nat} {o : Oper} {a : Act} {w : World} {K : Act → World → Prop} (hi : ops[i]? = some o) (hw : Region.wanted o (yielded ops a.tmps) = true) (w' : World) (hr : (execOp a.eval o).run P w = .ok .skip w')
  (hK : K (a.put o.dst undef) w') : wpOp P ops Q i K a w := by
 unfold wpOp
 simp only [hi, hw, if_true]
 left
 unfold Oper.wp
 rw [hr]
 exact hK
end
theorem at_store0 (g q : Nat) (w : World) : (Instr.fieldAt 91 (.pointer (some ⟨g, q, none⟩)) 0).run Tryz.prog w = .ok (.pointer (some ⟨g, q, none⟩)) w := by go_simp
theorem at_entry0 (g q : Nat) (w : World) : (Instr.fieldAt 94 (.pointer (some ⟨g, q, none⟩)) 0).run Tryz.prog w = .ok (.pointer (some ⟨g, q, none⟩)) w := by go_simp
theorem at_entry1 (g q : Nat) (w : World) : (Instr.fieldAt 94 (.pointer (some ⟨g, q, none⟩)) 1).run Tryz.prog w = .ok (.pointer (some ⟨g, q + 2, none⟩)) w := by go_simp
theorem at_dot0' (g q : Nat) (w : World) : (Instr.fieldAt 58 (.pointer (some ⟨g, q, none⟩)) 0).run Tryz.prog w = .ok (.pointer (some ⟨g, q, none⟩)) w := by go_simp
theorem at_dot1' (g q : Nat) (w : World) : (Instr.fieldAt 58 (.pointer (some ⟨g, q, none⟩)) 1).run Tryz.prog w = .ok (.pointer (some ⟨g, q + 1, none⟩)) w := by go_simp
theorem at_elem0 (g q : Nat) (w : World) : (Instr.fieldAt 38 (.pointer (some ⟨g, q, none⟩)) 0).run Tryz.prog w = .ok (.pointer (some ⟨g, q, none⟩)) w := by go_simp
theorem at_elem1 (g q : Nat) (w : World) : (Instr.fieldAt 38 (.pointer (some ⟨g, q, none⟩)) 1).run Tryz.prog w = .ok (.pointer (some ⟨g, q + 1, none⟩)) w := by go_simp
theorem at_elem2 (g q : Nat) (w : World) : (Instr.fieldAt 38 (.pointer (some ⟨g, q, none⟩)) 2).run Tryz.prog w = .ok (.pointer (some ⟨g, q + 2, none⟩)) w := by go_simp
theorem at_elem3 (g q : Nat) (w : World) : (Instr.fieldAt 38 (.pointer (some ⟨g, q, none⟩)) 3).run Tryz.prog w = .ok (.pointer (some ⟨g, q + 3, none⟩)) w := by go_simp
theorem at_elem4 (g q : Nat) (w : World) : (Instr.fieldAt 38 (.pointer (some ⟨g, q, none⟩)) 4).run Tryz.prog w = .ok (.pointer (some ⟨g, q + 4, none⟩)) w := by go_simp
def comeS (x : El) (d : Dt) (v : Va) (σ : List (El × List (Dt × Va))) : List (El × List (Dt × Va)) := putL x (putL d v ((getL x σ).getD [])) σ
def leftS (kn : Dt → Bool) (l : List (Dt × Va)) : List (Dt × Va) := l.filter fun q => !kn q.1
def undoS (x : El) (kn : Dt → Bool) (σ : List (El × List (Dt × Va))) : List (El × List (Dt × Va)) :=
 match getL x σ with
 | none => σ
 | some l => if leftS kn l = [] then delL x σ else putL x (leftS kn l) σ
section
variable {α β γ : Type} [DecidableEq α]
def mapS (h : β → γ) (I : List (α × β)) : List (α × γ) := I.map fun p => (p.1, h p.2)
theorem getL_mapS (h : β → γ) (x : α) : ∀ I : List (α × β), getL x (mapS h I) = (getL x I).map h
 | [] => rfl
 | p :: I => by
  have ih := getL_mapS h x I
  simp only [mapS, List.map_cons, getL] at ih ⊢
  split
  ·rfl
  ·exact ih
theorem keys_mapS {α β γ : Type} (h : β → γ) (I : List (α × β)) : keysL (mapS h I) = keysL I := by simp [keysL, mapS, Function.comp_def]
theorem delL_mapS (h : β → γ) (x : α) : ∀ I : List (α × β), delL x (mapS h I) = mapS h (delL x I)
 | [] => rfl
 | p :: I => by
  have ih := delL_mapS h x I
  simp only [mapS, delL, List.map_cons, List.filter_cons] at ih ⊢
  by_cases hp : p.1 = x
  ·simp only [hp, ne_eq, not_true_eq_false, decide_false, Bool.false_eq_true, if_false]; exact ih
  ·simp only [ne_eq, hp, not_false_eq_true, decide_true, if_true, List.map_cons]; rw [ih]
theorem mapS_congr {α β γ : Type} {h h' : β → γ} {I : List (α × β)} (e : ∀ p ∈ I, h p.2 = h' p.2) : mapS h I = mapS h' I :=
 List.map_congr_left fun p hp => by rw [e p hp]
theorem mapS_turn [DecidableEq β] (h : β → γ) (x : α) (n : β) (l : γ) : ∀ {I : List (α × β)}, (I.map Prod.snd).Nodup → getL x I = some n → mapS (fun m => if m = n then l else h m) I = putL x l (mapS h I)
 | [], _, hg => by cases hg
 | p :: I, hn, hg => by
  simp only [List.map_cons, List.nodup_cons] at hn
  simp only [getL] at hg
  by_cases hp : p.1 = x
  ·rw [if_pos hp] at hg
   have hpn : p.2 = n := Option.some.inj hg
   have hI : mapS (fun m => if m = n then l else h m) I = mapS h I := mapS_congr fun q hq => by
    have : q.2 ≠ n := fun e => hn.1 (by rw [hpn, ← e]; exact List.mem_map.2 ⟨q, hq, rfl⟩)
    simp only [this, if_false]
   simp only [mapS, List.map_cons, putL] at hI ⊢
   rw [if_pos hp, if_pos hpn, hI, hp]
  ·rw [if_neg hp] at hg
   have ih := mapS_turn h x n l hn.2 hg
   have hpn : p.2 ≠ n := fun e => hn.1 (by rw [e]; exact List.mem_map.2 ⟨_, getL_mem hg, rfl⟩)
   simp only [mapS, List.map_cons, putL] at ih ⊢
   rw [if_neg hp, if_neg hpn, ih]
theorem mapS_add [DecidableEq β] (h : β → γ) (x : α) (n : β) (l : γ) : ∀ {I : List (α × β)}, n ∉ I.map Prod.snd → getL x I = none → mapS (fun m => if m = n then l else h m) (putL x n I) = putL x l (mapS h I)
 | [], _, _ => by simp [mapS, putL]
 | p :: I, hn, hg => by
  simp only [List.map_cons, List.mem_cons, not_or] at hn
  simp only [getL] at hg
  by_cases hp : p.1 = x
  ·rw [if_pos hp] at hg; cases hg
  ·rw [if_neg hp] at hg
   have ih := mapS_add h x n l hn.2 hg
   have hpn : p.2 ≠ n := fun e => hn.1 e.symm
   simp only [mapS, putL, if_neg hp, List.map_cons, if_neg hpn] at ih ⊢
   rw [ih]
theorem snd_putL_new {x : α} {n : β} : ∀ {I : List (α × β)}, getL x I = none → (putL x n I).map Prod.snd = I.map Prod.snd ++ [n]
 | [], _ => rfl
 | p :: I, hg => by
  simp only [getL] at hg
  by_cases hp : p.1 = x
  ·rw [if_pos hp] at hg; cases hg
  ·rw [if_neg hp] at hg
   simp only [putL, if_neg hp, List.map_cons, snd_putL_new hg, List.cons_append]
theorem mem_putL_new {x : α} {n : β} {q : α × β} : ∀ {I : List (α × β)}, getL x I = none → (q ∈ putL x n I ↔ q ∈ I ∨ q = (x, n))
 | [], _ => by simp [putL]
 | p :: I, hg => by
  simp only [getL] at hg
  by_cases hp : p.1 = x
  ·rw [if_pos hp] at hg; cases hg
  ·rw [if_neg hp] at hg
   simp only [putL, if_neg hp, List.mem_cons, mem_putL_new hg, or_assoc]
end
def Grow (F : Nat → Prop) (w w' : World) (i : Nat) : Prop := F i ∨ (w.heap.size ≤ i ∧ i < w'.heap.size)
structure Out (F : Nat → Prop) (w w' : World) : Prop where
 os : w'.os = w.os
 tape : w'.tape = w.tape
 output : w'.output = w.output
 size : w.heap.size ≤ w'.heap.size
 block : ∀ k, k < w.heap.size → ¬ F k → w'.heap[k]? = w.heap[k]?
section
variable {F G : Nat → Prop} {w w' w'' : World}
theorem Out.refl (F : Nat → Prop) (w : World) : Out F w w := ⟨rfl, rfl, rfl, Nat.le_refl _, fun _ _ _ => rfl⟩
theorem Out.of_below (h : Below w.heap.size w w') : Out F w w' := ⟨h.os, h.tape, h.output, h.size, fun k hk _ => h.block k hk⟩
theorem Out.of_but {b : Nat} (h : But b w w') (hb : F b) : Out F w w' := ⟨h.os, h.tape, h.output, h.size, fun k hk hn => h.block k hk fun e => hn (by cases e; exact hb)⟩
theorem Out.trans (h : Out F w w') (k : Out (Grow F w w') w' w'') : Out F w w'' :=
 ⟨k.os.trans h.os, k.tape.trans h.tape, k.output.trans h.output, Nat.le_trans h.size k.size, fun i hi hn => (k.block i (Nat.lt_of_lt_of_le hi h.size) (fun e => by
  rcases e with e | e
  ·exact hn e
  ·omega)).trans (h.block i hi hn)⟩
theorem Out.trans' (h : Out F w w') (k : Out F w' w'') : Out F w w'' :=
 h.trans ⟨k.os, k.tape, k.output, k.size, fun i hi hn => k.block i hi fun e => hn (Or.inl e)⟩
theorem Out.mono (h : Out F w w') (hs : ∀ i, F i → G i) : Out G w w' := ⟨h.os, h.tape, h.output, h.size, fun k hk hn => h.block k hk fun e => hn (hs k e)⟩
theorem Out.below (h : Out F w w') {B : Nat} (hB : B ≤ w.heap.size) (hF : ∀ i, F i → B ≤ i) : Below B w w' := ⟨h.os, h.tape, h.output, h.size, fun k hk => h.block k (by omega) fun e => by have := hF k e; omega⟩
end
def InnerIs (w : World) (F : Nat → Prop) (ob : Nat) (I : List (El × Nat)) (h : Nat → List (Dt × Va)) : Prop :=
 F ob ∧ MapIs eE eM w ob I ∧ (I.map Prod.snd).Nodup ∧ ∀ p ∈ I, F p.2 ∧ p.2 ≠ ob ∧ MapIs eD eV w p.2 (h p.2)
def StoreIs (w : World) (sb : Nat) (F : Nat → Prop) (σ : List (El × List (Dt × Va))) : Prop :=
 F sb ∧ (∀ i, F i → i < w.heap.size) ∧ ((Blk w sb 91 #[.map none] ∧ σ = []) ∨ ∃ ob I h, Blk w sb 91 #[.map (some ob)] ∧ InnerIs w F ob I h ∧ σ = mapS h I)
section
variable {w w' : World} {F F' : Nat → Prop} {sb ob n : Nat} {I : List (El × Nat)} {h : Nat → List (Dt × Va)} {x : El} {l : List (Dt × Va)} {σ : List (El × List (Dt × Va))}
theorem InnerIs.kept (hI : InnerIs w F ob I h) (hF : ∀ i, F i → F' i) (hk : ∀ i, F i → w'.heap[i]? = w.heap[i]?) : InnerIs w' F' ob I h :=
 ⟨hF _ hI.1, hI.2.1.same (hk _ hI.1), hI.2.2.1, fun p hp => ⟨hF _ (hI.2.2.2 p hp).1, (hI.2.2.2 p hp).2.1, (hI.2.2.2 p hp).2.2.same (hk _ (hI.2.2.2 p hp).1)⟩⟩
theorem StoreIs.kept (hS : StoreIs w sb F σ) (hs : w.heap.size ≤ w'.heap.size) (hk : ∀ i, F i → w'.heap[i]? = w.heap[i]?) : StoreIs w' sb F σ := by
 obtain ⟨h1, h2, h3⟩ := hS
 refine ⟨h1, fun i hi => Nat.lt_of_lt_of_le (h2 i hi) hs, ?_⟩
 rcases h3 with ⟨hb, hσ⟩ | ⟨ob, I, h, hb, hI, hσ⟩
 ·exact Or.inl ⟨(hk sb h1).trans hb, hσ⟩
 ·exact Or.inr ⟨ob, I, h, (hk sb h1).trans hb, hI.kept (fun _ e => e) hk, hσ⟩
theorem StoreIs.below (hS : StoreIs w sb F σ) (hb : Below w.heap.size w w') : StoreIs w' sb F σ := hS.kept hb.size fun i hi => hb.block i (hS.2.1 i hi)
theorem InnerIs.nodup (hI : InnerIs w F ob I h) : (keysL I).Nodup := hI.2.1.nodup
theorem InnerIs.at_ (hI : InnerIs w F ob I h) (hn : getL x I = some n) : F n ∧ n ≠ ob ∧ MapIs eD eV w n (h n) := hI.2.2.2 (x, n) (getL_mem hn)
theorem InnerIs.turn (hI : InnerIs w F ob I h) (hn : getL x I = some n) (hm : MapIs eD eV w' n l) (hF : ∀ i, F i → F' i) (hk : ∀ i, F i → i ≠ n → w'.heap[i]? = w.heap[i]?) :
  InnerIs w' F' ob I (fun m => if m = n then l else h m) ∧ mapS (fun m => if m = n then l else h m) I = putL x l (mapS h I) := by
 refine ⟨⟨hF _ hI.1, hI.2.1.same (hk _ hI.1 (hI.at_ hn).2.1.symm), hI.2.2.1, fun p hp => ?_⟩, mapS_turn h x n l hI.2.2.1 hn⟩
 obtain ⟨h1, h2, h3⟩ := hI.2.2.2 p hp
 refine ⟨hF _ h1, h2, ?_⟩
 by_cases e : p.2 = n
 ·simp only [e, if_true]; exact hm
 ·simp only [e, if_false]; exact h3.same (hk _ h1 e)
theorem InnerIs.add (hI : InnerIs w F ob I h) (hn : getL x I = none) (hnF : ¬ F n) (ho : MapIs eE eM w' ob (putL x n I)) (hm : MapIs eD eV w' n l) (hF : ∀ i, F i → F' i) (hFn : F' n) (hk : ∀ i, F i → i ≠ ob → w'.heap[i]? = w.heap[i]?) :
  InnerIs w' F' ob (putL x n I) (fun m => if m = n then l else h m) ∧ mapS (fun m => if m = n then l else h m) (putL x n I) = putL x l (mapS h I) := by
 have hnI : n ∉ I.map Prod.snd := fun e => by
  obtain ⟨p, hp, hpe⟩ := List.mem_map.1 e
  exact hnF (by rw [← hpe]; exact (hI.2.2.2 p hp).1)
 have hno : n ≠ ob := fun e => hnF (by rw [e]; exact hI.1)
 refine ⟨⟨hF _ hI.1, ho, ?_, fun p hp => ?_⟩, mapS_add h x n l hnI hn⟩
 ·rw [snd_putL_new hn]
  refine List.nodup_append.2 ⟨hI.2.2.1, by simp, ?_⟩
  intro a ha b hb
  simp only [List.mem_singleton] at hb
  subst hb
  exact fun e => hnI (e ▸ ha)
 ·rcases (mem_putL_new hn).1 hp with hp | rfl
  ·obtain ⟨h1, h2, h3⟩ := hI.2.2.2 p hp
   have e : p.2 ≠ n := fun e => hnF (by rw [← e]; exact h1)
   simp only [e, if_false]
   exact ⟨hF _ h1, h2, h3.same (hk _ h1 h2)⟩
  ·simp only [if_true]
   exact ⟨hFn, hno, hm⟩
theorem InnerIs.drop (hI : InnerIs w F ob I h) (ho : MapIs eE eM w' ob (delL x I)) (hF : ∀ i, F i → F' i) (hk : ∀ i, F i → i ≠ ob → w'.heap[i]? = w.heap[i]?) :
  InnerIs w' F' ob (delL x I) h ∧ mapS h (delL x I) = delL x (mapS h I) := by
 refine ⟨⟨hF _ hI.1, ho, (List.Sublist.map _ List.filter_sublist).nodup hI.2.2.1, fun p hp => ?_⟩, (delL_mapS h x I).symm⟩
 obtain ⟨h1, h2, h3⟩ := hI.2.2.2 p (mem_delL.1 hp).1
 exact ⟨hF _ h1, h2, h3.same (hk _ h1 h2)⟩
end
def enA (d : Dt) (v : Va) : Array Value := #[.int .i64 d.r, .int .i64 d.c, .int .i64 v.k, .int .i64 v.n, .string v.t]
def enV (d : Dt) (v : Va) : Value := .agg (enA d v)
def elA (x : El) : Array Value := #[.int .i64 x.k, .string x.a, .string x.b, .string x.c, .string x.d]
end Go.Proofs.YtdgglhlofnigkaaGreatDoor
