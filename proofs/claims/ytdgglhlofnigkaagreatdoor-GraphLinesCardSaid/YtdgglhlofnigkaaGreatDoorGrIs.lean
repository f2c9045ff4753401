/- A view in memory. -/import Derived.Test.YtdgglhlofnigkaaGreatDoorGrMath
import Derived.Test.YtdgglhlofnigkaaGreatDoorStVB
namespace Go.Proofs.YtdgglhlofnigkaaGreatDoor
open Go.RowKit Go.MapKept Go.Sort Go.ChangeMaps
section
variable {own own' own1 own2 : Nat → Option Tg} {S S' : Tg → Prop} {w w' w1 w2 wa : World}
theorem Turns.below (own : Nat → Option Tg) (hl : ∀ g, own g ≠ none → g < w.heap.size) (h : Below w.heap.size w w') : Turns own own (fun _ => False) w w' :=
 ⟨fun _ _ e => e, fun g u e _ => h.block g (hl g (by rw [e]; simp)), fun _ e => .inl e, fun hl g e => Nat.lt_of_lt_of_le (hl g e) h.size, Out.of_below h⟩
theorem Turns.but {b : Nat} {tb : Tg} (hb : own b = some tb) (hl : ∀ g, own g ≠ none → g < w.heap.size) (h : But b w w') : Turns own own (fun u => u = tb) w w' :=
 ⟨fun _ _ e => e, fun g u e hu => h.block g (hl g (by rw [e]; simp)) fun e2 => hu (by rw [Option.some.inj e2, hb] at e; exact (Option.some.inj e).symm),
  fun _ e => .inl e, fun hl g e => Nat.lt_of_lt_of_le (hl g e) h.size, Out.of_but h (by rw [hb]; simp)⟩
theorem Turns.trans (h : Turns own own1 S w w1) (k : Turns own1 own2 S' w1 w2) : Turns own own2 (fun u => S u ∨ S' u) w w2 :=
 ⟨fun g u e => k.keep g u (h.keep g u e), fun g u e hu => (k.same g u (h.keep g u e) fun e2 => hu (.inr e2)).trans (h.same g u e fun e2 => hu (.inl e2)),
  fun g e => (k.new g e).elim (fun e2 => h.new g e2) fun e2 => .inr (Nat.le_trans h.out.size e2), fun hl g e => k.lt (h.lt hl) g e,
  h.out.trans ⟨k.out.os, k.out.tape, k.out.output, k.out.size, fun i hi hn => k.out.block i hi fun e => hn ((h.new i e).elim .inl fun e2 => .inr ⟨e2, hi⟩)⟩⟩
theorem Turns.mono (h : Turns own own' S w w') (hs : ∀ u, S u → S' u) : Turns own own' S' w w' := ⟨h.keep, fun g u e hu => h.same g u e fun e2 => hu (hs u e2), h.new, h.lt, h.out⟩
theorem Turns.other (h : Turns own own' S w w') {g : Nat} (hg : g < w.heap.size) (hn : own g = none) : w'.heap[g]? = w.heap[g]? ∧ own' g = none :=
 ⟨h.out.block g hg fun e => e hn, Classical.byContradiction fun e => (h.new g e).elim (fun e2 => e2 hn) fun e2 => by omega⟩
end
def OwnT {α : Type} (own : Nat → Option Tg) (t : Tg) (enc : α → List Value) (R : Nat) (e : TypeId) (k : Nat) (w : World) (v : Value) (l : List α) : Prop := OwnK enc R e k w v l ∧ ∀ g, v.ownBlock = some g → own g = some t
section
variable {α : Type} {enc : α → List Value} {own own' own1 : Nat → Option Tg} {S : Tg → Prop} {w w' w1 wa : World} {t : Tg} {R k : Nat} {e : TypeId} {v v' : Value} {l l' : List α}
theorem OwnT.nil_ (own : Nat → Option Tg) (t : Tg) (enc : α → List Value) (R : Nat) (e : TypeId) (k : Nat) (w : World) : OwnT own t enc R e k w (.slice none 0 0) [] := ⟨OwnK.nil_ enc R e k w, fun g h => by simp [Value.ownBlock] at h⟩
theorem OwnT.turned (h : OwnT own t enc R e k w v l) (hT : Turns own own' S w w') (hs : ¬ S t) : OwnT own' t enc R e k w' v l :=
 ⟨h.1.same fun g hg => hT.same g t (h.2 g hg) hs, fun g hg => hT.keep g t (h.2 g hg)⟩
theorem OwnT.turn (h : OwnT own t enc R e k w v l) (hl : ∀ g, own g ≠ none → g < w.heap.size) (hb : Below w.heap.size w wa) (ho : OwnK enc R e k w1 v' l') (hg : wa.grownBy w1 v.ownBlock)
  (hloc : v'.ownBlock = v.ownBlock ∨ (Below wa.heap.size wa w1 ∧ ∀ g, v'.ownBlock = some g → wa.heap.size ≤ g)) : ∃ own', OwnT own' t enc R e k w1 v' l' ∧ Turns own own' (fun u => u = t) w w1 := by
 have hout : Out (fun g => own g ≠ none) w w1 := ⟨hg.os.trans hb.os, hg.tape.trans hb.tape, hg.output.trans hb.output, Nat.le_trans hb.size hg.size, fun i hi hn => (hg.block i (Nat.lt_of_lt_of_le hi hb.size) fun e2 => by
  have := h.2 i e2.symm
  exact hn (by rw [this]; simp)).trans (hb.block i hi)⟩
 have hsame : ∀ g u, own g = some u → ¬ u = t → w1.heap[g]? = w.heap[g]? := fun g u e2 hu => by
  have hgl := hl g (by rw [e2]; simp)
  refine (hg.block g (Nat.lt_of_lt_of_le hgl hb.size) fun e3 => ?_).trans (hb.block g hgl)
  rw [h.2 g e3.symm] at e2
  exact hu (Option.some.inj e2).symm
 rcases hloc with hloc | ⟨_, hloc⟩
 ·exact ⟨own, ⟨ho, fun g hv => h.2 g (by rw [← hloc]; exact hv)⟩, ⟨fun _ _ e2 => e2, hsame, fun _ e2 => .inl e2, fun hl g e2 => Nat.lt_of_lt_of_le (hl g e2) hout.size, hout⟩⟩
 ·refine ⟨fun g => if v'.ownBlock = some g then some t else own g, ⟨ho, fun g hv => if_pos hv⟩, ⟨fun g u e2 => ?_, hsame, fun g e2 => ?_, fun hl g e2 => ?_, hout⟩⟩
  ·rw [if_neg fun e3 => ?_]
   ·exact e2
   ·have h1 := hloc g e3
    have h2 := hl g (by rw [e2]; simp)
    have h3 := hb.size
    omega
  ·split at e2
   ·exact .inr (Nat.le_trans hb.size (hloc g (by assumption)))
   ·exact .inl e2
  ·split at e2
   ·exact (ho.lt g (by assumption)).2
   ·exact Nat.lt_of_lt_of_le (hl g e2) hout.size
theorem own_made (hl : ∀ g, own g ≠ none → g < w.heap.size) (hb : Below w.heap.size w w1) (t : Tg) (ho : OwnK enc R e k w1 v' l') (hn : ∀ g, v'.ownBlock = some g → w.heap.size ≤ g) : ∃ own', OwnT own' t enc R e k w1 v' l' ∧ Turns own own' (fun u => u = t) w w1 := by
 have h := OwnT.turn (v := .slice none 0 0) (OwnT.nil_ own t enc R e k w) hl (Below.refl _ w) ho ⟨hb.os, hb.tape, hb.output, hb.size, fun i hi _ => hb.block i hi⟩ (.inr ⟨hb, hn⟩)
 exact h
end
structure KeyF {α : Type} [DecidableEq α] (P : Program) (k : TypeId) (eK : α → Value) : Prop where
 check : ∀ (w : World) (em : Bool) (x : α), (Instr.checkKey em 10000 k (eK x)).run P w = .ok () w
 find : ∀ {β : Type} (eV : β → Value) (w : World) (x : α) (es : List MapEntry) (L : List (α × β)), es.map (fun e => (e.key, e.val)) = L.map (fun p => (eK p.1, eV p.2)) → (Instr.findKey k (eK x) es).run P w = .ok ((idxL x L).bind fun j => (es[j]?).map fun e => (j, e.val)) w
 stays : ∀ (w : World) (x : α), (Instr.keyThatStays (eK x) (eK x)).run P w = .ok (eK x) w
 inj : ∀ x y : α, eK x = eK y → x = y
theorem KeyIs.toF {α : Type} [DecidableEq α] {P : Program} {k : TypeId} {eK : α → Value} (K : KeyIs P k eK) : KeyF P k eK := ⟨K.check, fun _ w x es L h => find_run K w x es L h, K.stays, K.inj⟩
section
variable {P : Program} {α β : Type} {eK : α → Value} {eV : β → Value} {w w' : World} {b : Nat} {L : List (α × β)} {k e t : TypeId}
theorem lookF_run [DecidableEq α] (h : MapIs eK eV w b L) (K : KeyF P k eK) (ht : P.underlying t = some (.map k e)) {z : Value} (hz : (zeroValue e).run P w = .ok z w) (x : α) :
  (Instr.lookup t (.map (some b)) (eK x) false).run P w = .ok (((getL x L).map eV).getD z) w := by
 obtain ⟨es, clock, hb, _, hL⟩ := h
 have hf := K.find eV w x es.toList L hL
 cases hi : idxL x L with
 | none =>
  rw [hi] at hf
  obtain ⟨_, h2, _⟩ := idxL_none hi
  simp [Instr.lookup, run_underlying ht, MapKept.run_getObj_map hb, K.check w _ x, hf, hz, Result.andThen, h2]
 | some j =>
  rw [hi] at hf
  obtain ⟨v0, h1, h2, _⟩ := idxL_some hi
  have h3 : (es.toList.map fun e => (e.key, e.val))[j]? = some (eK x, eV v0) := by rw [hL]; simp [h1]
  obtain ⟨a, ha, hav⟩ : ∃ a, es[j]? = some a ∧ (a.key, a.val) = (eK x, eV v0) := by simpa using h3
  have hv : a.val = eV v0 := (Prod.mk.inj hav).2
  simp [Instr.lookup, run_underlying ht, MapKept.run_getObj_map hb, K.check w _ x, hf, Result.andThen, h2, ha, hv]
theorem putF_run [DecidableEq α] (h : MapIs eK eV w b L) (K : KeyF P k eK) (ht : P.underlying t = some (.map k e)) (x : α) (v : β) :
  ∃ w', (Instr.mapUpdate t (.map (some b)) (eK x) (eV v)).run P w = .ok () w' ∧ MapIs eK eV w' b (putL x v L) ∧ But b w w' ∧ w'.heap.size = w.heap.size ∧ w'.drawn = w.drawn := by
 obtain ⟨es, clock, hb, hst, hL⟩ := h
 have hf := K.find eV w x es.toList L hL
 cases hi : idxL x L with
 | none =>
  rw [hi] at hf
  obtain ⟨h1, h2, h3⟩ := idxL_none hi
  have hk : ∀ a ∈ es.toList, a.key ≠ eK x := by
   intro a ha he
   have : (a.key, a.val) ∈ L.map fun p => (eK p.1, eV p.2) := by rw [← hL]; exact List.mem_map.2 ⟨a, ha, rfl⟩
   obtain ⟨p, hp, hpe⟩ := List.mem_map.1 this
   have : eK p.1 = eK x := by rw [← he]; exact (Prod.mk.inj hpe).1
   exact h1 (by rw [← K.inj _ _ this]; exact List.mem_map.2 ⟨p, hp, rfl⟩)
  refine ⟨setBlock w b (.map (es.push ⟨eK x, eV v, clock⟩) (clock + 1)), ?_, ⟨_, _, heap_setBlock_same hb _, stamped_push hst hk, ?_⟩, But.setBlock_ _, by simp [setBlock], rfl⟩
  ·simp [Instr.mapUpdate, run_underlying ht, MapKept.run_getObj_map hb, K.check w false x, hf, MapKept.run_setObj_map _ hb, Result.andThen, setBlock]
  ·rw [h3, Array.toList_push, List.map_append, hL, List.map_append]
   rfl
 | some j =>
  rw [hi] at hf
  obtain ⟨v0, h1, h2, h3⟩ := idxL_some hi
  have h4 : (es.toList.map fun e => (e.key, e.val))[j]? = some (eK x, eV v0) := by rw [hL]; simp [h1]
  obtain ⟨a, ha, hav⟩ : ∃ a, es[j]? = some a ∧ (a.key, a.val) = (eK x, eV v0) := by simpa using h4
  have hak : a.key = eK x := (Prod.mk.inj hav).1
  have ha' : es.toList[j]? = some a := by simpa using ha
  have hlist : (es.modify j (fun e' => { e' with key := eK x, val := eV v })).toList = es.toList.set j { a with key := eK x, val := eV v } := by rw [Array.toList_modify, Go.ChangeMaps.modify_eq_set _ _ _ _ ha']
  refine ⟨setBlock w b (.map (es.modify j (fun e' => { e' with key := eK x, val := eV v })) clock), ?_, ⟨_, _, heap_setBlock_same hb _, stamped_modify hst _ _ (fun _ _ => rfl) (fun e' _ he' => ?_), ?_⟩, But.setBlock_ _, by simp [setBlock], rfl⟩
  ·simp [Instr.mapUpdate, run_underlying ht, MapKept.run_getObj_map hb, K.check w false x, hf, ha, hak, K.stays w x, MapKept.run_setObj_map _ hb, Result.andThen, setBlock]
  ·rw [ha] at he'
   cases he'
   exact hak.symm
  ·rw [h3, hlist, List.map_set, hL, List.map_set]
end
def eS (s : ByteArray) : Value := .string s
theorem nowS_run (x : ByteArray) {β : Type} (eV : β → Value) : ∀ (es : List MapEntry) (L : List (ByteArray × β)) (i : Nat), es.map (fun e => (e.key, e.val)) = L.map (fun p => (eS p.1, eV p.2)) →
  Instr.findNow .string (eS x) es i = some ((idxL x L).bind fun j => (es[j]?).map fun e => (i + j, e.val))
 | [], L, i, h => by
  have : L = [] := by simpa using h.symm
  subst this
  rfl
 | a :: es, [], i, h => by simp at h
 | a :: es, p :: L, i, h => by
  simp only [List.map_cons, List.cons.injEq, Prod.mk.injEq] at h
  obtain ⟨⟨h1, h2⟩, h3⟩ := h
  have hs : Instr.sameNow .string (eS x) a.key = some (decide (x = p.1)) := by
   rw [h1]
   show some (x == p.1) = _
   congr 1
   exact Bool.eq_iff_iff.2 (by simp [bytes_beq])
  unfold Instr.findNow
  rw [hs]
  by_cases hp : x = p.1
  ·simp [hp, idxL]
  ·have hp' : ¬ p.1 = x := fun e => hp e.symm
   simp only [hp, decide_false]
   rw [nowS_run x eV es L (i + 1) h3]
   simp only [idxL, if_neg hp']
   cases idxL x L with
   | none => rfl
   | some j =>
    have hij : i + 1 + j = i + (j + 1) := by omega
    simp [hij]
theorem keyS : KeyF Tryz.prog 9 eS where
 check := fun w em x => run_checkKey (d := .string) Tryz.underlying9 (by unfold eS; trivial) em 9999
 find := fun eV w x es L h => run_findKey Tryz.underlying9 (by have := nowS_run x eV es L 0 h; simpa only [Nat.zero_add] using this)
 stays := fun w x => run_keyThatStays (d := .string) (by unfold eS; trivial)
 inj := fun x y h => by simpa [eS] using h
def RowsIs {α β : Type} [DecidableEq α] (eK : α → Value) (enc : β → List Value) (e : TypeId) (k : Nat) (tm : Tg) (tg : α → Tg) (own : Nat → Option Tg) (R : Nat) (w : World) (b : Nat) (f : α → Option (List β)) : Prop :=
 own b = some tm ∧ ∃ I : List (α × Value), MapIs eK id w b I ∧ ∀ x, match getL x I with
  | none => f x = none
  | some v => ∃ l, f x = some l ∧ OwnT own (tg x) enc R e k w v l
theorem getL_putL_ne {α β : Type} [DecidableEq α] {x y : α} (v : β) (hne : y ≠ x) : ∀ L : List (α × β), getL y (putL x v L) = getL y L
 | [] => by simp [getL, putL, hne.symm]
 | p :: L => by
  have ih := getL_putL_ne v hne L
  unfold putL
  split
  ·rename_i h
   simp only [getL]
   rw [if_neg (by simpa using hne.symm), if_neg (by rw [h]; exact hne.symm)]
  ·simp only [getL, ih]
section
variable {P : Program} {α β : Type} [DecidableEq α] {eK : α → Value} {enc : β → List Value} {e kt et mt : TypeId} {k : Nat} {tm : Tg} {tg : α → Tg} {own own' own1 : Nat → Option Tg} {S : Tg → Prop} {R b : Nat} {w w' w1 : World} {f : α → Option (List β)} {x : α} {v' : Value} {l' : List β}
theorem RowsIs.turned (h : RowsIs eK enc e k tm tg own R w b f) (hT : Turns own own' S w w') (hs : ¬ S tm) (hx : ∀ x, ¬ S (tg x)) : RowsIs eK enc e k tm tg own' R w' b f := by
 obtain ⟨hb, I, hI, hf⟩ := h
 refine ⟨hT.keep b tm hb, I, hI.same (hT.same b tm hb hs), fun x => ?_⟩
 have := hf x
 cases hg : getL x I with
 | none => rw [hg] at this; exact this
 | some v =>
  rw [hg] at this
  obtain ⟨l, h1, h2⟩ := this
  exact ⟨l, h1, h2.turned hT (hx x)⟩
theorem RowsIs.look (h : RowsIs eK enc e k tm tg own R w b f) (K : KeyF P kt eK) (ht : P.underlying mt = some (.map kt et)) (hz : ∀ w, (zeroValue et).run P w = .ok (.slice none 0 0) w) (x : α) :
  ∃ v, OwnT own (tg x) enc R e k w v ((f x).getD []) ∧ ∀ W, Below w.heap.size w W → (Instr.lookup mt (.map (some b)) (eK x) false).run P W = .ok (v) W := by
 obtain ⟨hb, I, hI, hf⟩ := h
 have hf := hf x
 have hl := fun W (hW : Below w.heap.size w W) => lookF_run (hI.same (hW.block b hI.lt)) K ht (hz W) x
 cases hg : getL x I with
 | none =>
  rw [hg] at hf hl
  exact ⟨_, by rw [show f x = none from hf]; exact OwnT.nil_ _ _ _ _ _ _ _, fun W hW => by exact hl W hW⟩
 | some v =>
  rw [hg] at hf hl
  obtain ⟨l, h1, h2⟩ := hf
  exact ⟨v, by rw [h1]; exact h2, fun W hW => by exact hl W hW⟩
theorem look_ok_run {eV : β → Value} {L : List (α × β)} (h : MapIs eK eV w b L) (K : KeyF P kt eK) (ht : P.underlying mt = some (.map kt et)) {z : Value} (hz : (zeroValue et).run P w = .ok z w) (x : α) :
  (Instr.lookup mt (.map (some b)) (eK x) true).run P w = .ok (.tuple #[((getL x L).map eV).getD z, .bool (getL x L).isSome]) w := by
 obtain ⟨es, clock, hb, _, hL⟩ := h
 have hf := K.find eV w x es.toList L hL
 cases hi : idxL x L with
 | none =>
  rw [hi] at hf
  obtain ⟨_, h2, _⟩ := idxL_none hi
  simp [Instr.lookup, run_underlying ht, MapKept.run_getObj_map hb, K.check w _ x, hf, hz, Result.andThen, h2]
 | some j =>
  rw [hi] at hf
  obtain ⟨v0, h1, h2, _⟩ := idxL_some hi
  have h3 : (es.toList.map fun e => (e.key, e.val))[j]? = some (eK x, eV v0) := by rw [hL]; simp [h1]
  obtain ⟨a, ha, hav⟩ : ∃ a, es[j]? = some a ∧ (a.key, a.val) = (eK x, eV v0) := by simpa using h3
  have hv : a.val = eV v0 := (Prod.mk.inj hav).2
  simp [Instr.lookup, run_underlying ht, MapKept.run_getObj_map hb, K.check w _ x, hf, Result.andThen, h2, ha, hv]
theorem RowsIs.look_ok (h : RowsIs eK enc e k tm tg own R w b f) (K : KeyF P kt eK) (ht : P.underlying mt = some (.map kt et)) (hz : ∀ w, (zeroValue et).run P w = .ok (.slice none 0 0) w) (x : α) :
  ∃ v, OwnT own (tg x) enc R e k w v ((f x).getD []) ∧ ∀ W, Below w.heap.size w W → (Instr.lookup mt (.map (some b)) (eK x) true).run P W = .ok (.tuple #[v, .bool (f x).isSome]) W := by
 obtain ⟨hb, I, hI, hf⟩ := h
 have hf := hf x
 have hl := fun W (hW : Below w.heap.size w W) => look_ok_run (hI.same (hW.block b hI.lt)) K ht (hz W) x
 cases hg : getL x I with
 | none =>
  rw [hg] at hf hl
  exact ⟨_, by rw [show f x = none from hf]; exact OwnT.nil_ _ _ _ _ _ _ _, fun W hW => by rw [show f x = none from hf]; exact hl W hW⟩
 | some v =>
  rw [hg] at hf hl
  obtain ⟨l, h1, h2⟩ := hf
  exact ⟨v, by rw [h1]; exact h2, fun W hW => by rw [h1]; exact hl W hW⟩
theorem RowsIs.put (h : RowsIs eK enc e k tm tg own R w b f) (hl : ∀ g, own g ≠ none → g < w.heap.size) (hT : Turns own own1 (fun u => u = tg x) w w1) (hv : OwnT own1 (tg x) enc R e k w1 v' l') (htm : ∀ y, tm ≠ tg y) (hinj : ∀ y z, tg y = tg z → y = z) (K : KeyF P kt eK) (ht : P.underlying mt = some (.map kt et)) :
  ∃ w2, (Instr.mapUpdate mt (.map (some b)) (eK x) v').run P w1 = .ok () w2 ∧ RowsIs eK enc e k tm tg own1 R w2 b (updG f x (some l')) ∧ Turns own own1 (fun u => u = tg x ∨ u = tm) w w2 ∧ But b w1 w2 := by
 obtain ⟨hb, I, hI, hf⟩ := h
 have hI1 : MapIs eK id w1 b I := hI.same (hT.same b tm hb (htm x))
 obtain ⟨w2, hr, hI2, hbut, _, _⟩ := putF_run hI1 K ht x v'
 have hb1 := hT.keep b tm hb
 have hT2 := Turns.but hb1 (hT.lt hl) hbut
 refine ⟨w2, hr, ⟨hb1, _, hI2, fun y => ?_⟩, hT.trans hT2, hbut⟩
 by_cases hy : y = x
 ·subst hy
  rw [getL_putL_self]
  exact ⟨l', updG_self _ _ _, hv.turned hT2 (fun e => htm y e.symm)⟩
 ·rw [getL_putL_ne _ hy]
  have := hf y
  have hu : updG f x (some l') y = f y := if_neg hy
  cases hg : getL y I with
  | none => rw [hg] at this; exact hu.trans this
  | some v =>
   rw [hg] at this
   obtain ⟨l, h1, h2⟩ := this
   exact ⟨l, hu.trans h1, (h2.turned hT fun e => hy (hinj y x e)).turned hT2 fun e => htm y e.symm⟩
theorem RowsIs.made (own : Nat → Option Tg) (b : Nat) (hb : own b = some tm) (hI : MapIs eK id w b []) : RowsIs eK enc e k tm tg own R w b (fun _ : α => (none : Option (List β))) := ⟨hb, [], hI, fun _ => rfl⟩
end
def enS (s : ByteArray) : List Value := [.string s]
def enK (x : Lk) : List Value := [.string x.f, .string x.t, .string x.y]
theorem enS_len (s : ByteArray) : (enS s).length = 1 := rfl
theorem enK_len (x : Lk) : (enK x).length = 3 := rfl
theorem enS_one : ∀ s, ∀ v ∈ enS s, v.oneCell' = true := by
 intro s v hv
 simp only [enS, List.mem_cons, List.not_mem_nil, or_false] at hv
 subst hv; rfl
theorem enK_one : ∀ s, ∀ v ∈ enK s, v.oneCell' = true := by
 intro s v hv
 simp only [enK, List.mem_cons, List.not_mem_nil, or_false] at hv
 rcases hv with rfl | rfl | rfl <;> rfl
theorem infoS : (Tryz.prog.info? 9).map (fun i => (i.zero, i.size, i.bytes)) = some (some (.string ⟨#[]⟩), 1, 16) := by kernel_rfl
theorem infoK : (Tryz.prog.info? 36).map (fun i => (i.zero, i.size, i.bytes)) = some (some (.agg #[.string ⟨#[]⟩, .string ⟨#[]⟩, .string ⟨#[]⟩]), 3, 48) := by kernel_rfl
theorem zero_Ss (w : World) : (zeroValue 32).run Tryz.prog w = .ok (.slice none 0 0) w := by kernel_rfl
theorem zero_Ks (w : World) : (zeroValue 53).run Tryz.prog w = .ok (.slice none 0 0) w := by kernel_rfl
theorem zero_Es (w : World) : (zeroValue 80).run Tryz.prog w = .ok (.slice none 0 0) w := by kernel_rfl
theorem zero_Vs (w : World) : (zeroValue 39).run Tryz.prog w = .ok (.slice none 0 0) w := by kernel_rfl
structure VIs (own : Nat → Option Tg) (R : Nat) (w : World) (vb : Nat) (V : Vw) (nv lv : Value) (b1 b2 b3 b4 b5 : Nat) : Prop where
 self : own vb = some .self
 blk : Blk w vb 78 #[nv, lv, .map (some b1), .map (some b2), .map (some b3), .map (some b4), .map (some b5)]
 nodes : OwnT own .nodes enS R 9 1 w nv V.nodes
 links : OwnT own .links enK R 36 3 w lv V.links
 lab : ∃ f, (∀ x, (f x).getD [] = V.lab x) ∧ RowsIs eS enS 9 1 .mlab .lab own R w b1 f
 out : ∃ f, (∀ x, (f x).getD [] = V.out x) ∧ RowsIs eS enK 36 3 .mout .out own R w b2 f
 inn : ∃ f, (∀ x, (f x).getD [] = V.inn x) ∧ RowsIs eS enK 36 3 .minn .inn own R w b3 f
 part : RowsIs eE enL 38 5 .mpart .part own R w b4 V.part
 val : ∃ f, (∀ x, (f x).getD [] = V.val x) ∧ RowsIs eE enW 43 3 .mval .val own R w b5 f
 lt : ∀ g, own g ≠ none → R ≤ g ∧ g < w.heap.size
section
variable {own own' own1 : Nat → Option Tg} {R vb b1 b2 b3 b4 b5 : Nat} {w w' : World} {V : Vw} {nv lv : Value}
theorem VIs.bound (h : VIs own R w vb V nv lv b1 b2 b3 b4 b5) : ∀ g, own g ≠ none → g < w.heap.size := fun g e => (h.lt g e).2
theorem VIs.keep (h : VIs own R w vb V nv lv b1 b2 b3 b4 b5) (hb : Below w.heap.size w w') : VIs own R w' vb V nv lv b1 b2 b3 b4 b5 := by
 have hT := Turns.below own h.bound hb
 obtain ⟨f1, a1, r1⟩ := h.lab
 obtain ⟨f2, a2, r2⟩ := h.out
 obtain ⟨f3, a3, r3⟩ := h.inn
 obtain ⟨f5, a5, r5⟩ := h.val
 exact ⟨h.self, h.blk.below hb h.blk.lt, h.nodes.turned hT id, h.links.turned hT id, ⟨f1, a1, r1.turned hT id fun _ => id⟩, ⟨f2, a2, r2.turned hT id fun _ => id⟩, ⟨f3, a3, r3.turned hT id fun _ => id⟩, h.part.turned hT id fun _ => id,
  ⟨f5, a5, r5.turned hT id fun _ => id⟩, fun g e => ⟨(h.lt g e).1, Nat.lt_of_lt_of_le (h.lt g e).2 hb.size⟩⟩
end
end Go.Proofs.YtdgglhlofnigkaaGreatDoor
