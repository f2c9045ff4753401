/-
  Causal rows: what came, came one by one; a turned row comes in as many passes as it has events. What is left hangs on no order. SLICES OF STRUCTS: append, whatever the source; cut, whatever the slice. hedgerowref07.knows, Live: the contracts, by walks. Conditions: lengths.
-/
import Derived.Test.YtdgglhlofnigkaaGreatDoorJStCopA
import Derived.Test.YtdgglhlofnigkaaGreatDoorStCausal
namespace Go.Proofs.YtdgglhlofnigkaaGreatDoor
open Go.RowKit Go.MapKept Go.Sort
theorem may_iff {f : Nat → Int} {e : Ev} : mayC f e = true ↔ okB e = true ∧ f e.r.toNat = e.c - 1 ∧ ∀ i, i < 16 → e.p i ≤ f i := by
 unfold mayC
 simp [and_assoc]
theorem causC_ind {R : List Ev × (Nat → Int) → Prop} (h0 : R ([], fun _ => 0)) (hs : ∀ s e, R s → mayC s.2 e = true → R (s.1 ++ [e], fun i => if i = e.r.toNat then e.c else s.2 i)) (l : List Ev) : R (causC l) := by
 suffices h : ∀ (l : List Ev) s, R s → R (l.foldl comeC s) from h l _ h0
 intro l
 induction l with
 | nil => intro s h; exact h
 | cons e l ih =>
  intro s h
  refine ih _ ?_
  cases hm : mayC s.2 e
  ·rw [comeC_no hm]; exact h
  ·rw [comeC_yes hm]; exact hs s e h hm
theorem caus_known (l : List Ev) : (∀ e ∈ (causC l).1, okB e = true ∧ e.c ≤ (causC l).2 e.r.toNat) ∧ (∀ i, 0 ≤ (causC l).2 i) ∧ ∀ i c, 1 ≤ c → c ≤ (causC l).2 i → ∃ e ∈ (causC l).1, e.r.toNat = i ∧ e.c = c := by
 refine causC_ind (R := fun s => (∀ e ∈ s.1, okB e = true ∧ e.c ≤ s.2 e.r.toNat) ∧ (∀ i, 0 ≤ s.2 i) ∧ ∀ i c, 1 ≤ c → c ≤ s.2 i → ∃ e ∈ s.1, e.r.toNat = i ∧ e.c = c) ⟨fun e h => (by cases h), fun i => Int.le_refl _, fun i c h1 h2 => (by dsimp only at h2; omega)⟩ ?_ l
 rintro ⟨D, f⟩ e ⟨h1, h2, h3⟩ hm
 obtain ⟨ho, hc, _⟩ := may_iff.1 hm
 obtain ⟨n, hn, hn2, hn3, _⟩ := ok_dot ho
 dsimp only at *
 refine ⟨fun g hg => ?_, fun i => ?_, fun i c q1 q2 => ?_⟩
 ·rcases List.mem_append.1 hg with hg | hg
  ·obtain ⟨g1, g2⟩ := h1 g hg
   refine ⟨g1, ?_⟩
   split
   ·rename_i he; rw [he] at g2; omega
   ·exact g2
  ·rw [List.mem_singleton.1 hg]
   exact ⟨ho, by rw [if_pos rfl]; exact Int.le_refl _⟩
 ·split
  ·omega
  ·exact h2 i
 ·split at q2
  ·rename_i he
   by_cases hcc : c = e.c
   ·exact ⟨e, by simp, he.symm, hcc.symm⟩
   ·obtain ⟨g, g1, g2, g3⟩ := h3 i c q1 (by rw [he]; omega)
    exact ⟨g, List.mem_append_left _ g1, g2, g3⟩
  ·obtain ⟨g, g1, g2, g3⟩ := h3 i c q1 q2
   exact ⟨g, List.mem_append_left _ g1, g2, g3⟩
def CausL (L : List Ev) : Prop := (∀ e ∈ L, okB e = true ∧ knD e.p (dtOf e) = false) ∧ L.Pairwise fun e f => dtOf e ≠ dtOf f ∧ knD e.p (dtOf f) = false
theorem kn_no {f g : Nat → Int} {e : Ev} (h : ∀ i, i < 16 → f i ≤ g i) (ho : okB e = true) (hc : g e.r.toNat < e.c) : knD f (dtOf e) = false := by
 obtain ⟨n, hn, hn2, hn3, _⟩ := ok_dot ho
 unfold knD knowsB
 rw [Bool.and_eq_false_iff]
 right
 refine decide_eq_false ?_
 show ¬ e.c ≤ f e.r.toNat
 have := h n hn2
 rw [hn, Int.toNat_natCast] at hc ⊢
 omega
theorem caus_row (l : List Ev) : CausL (causC l).1 := by
 have : (∀ e ∈ (causC l).1, okB e = true ∧ e.c ≤ (causC l).2 e.r.toNat ∧ ∀ i, i < 16 → e.p i ≤ (causC l).2 i) ∧ CausL (causC l).1 := by
  refine causC_ind (R := fun s => (∀ e ∈ s.1, okB e = true ∧ e.c ≤ s.2 e.r.toNat ∧ ∀ i, i < 16 → e.p i ≤ s.2 i) ∧ CausL s.1) ⟨fun e h => (by cases h), fun e h => (by cases h), List.Pairwise.nil⟩ ?_ l
  rintro ⟨D, f⟩ e ⟨h1, h2, h3⟩ hm
  obtain ⟨ho, hc, hp⟩ := may_iff.1 hm
  dsimp only at *
  refine ⟨fun g hg => ?_, fun g hg => ?_, ?_⟩
  ·rcases List.mem_append.1 hg with hg | hg
   ·obtain ⟨g1, g2, g3⟩ := h1 g hg
    refine ⟨g1, ?_, fun i hi => ?_⟩
    ·split
     ·rename_i he; rw [he] at g2; omega
     ·exact g2
    ·have := g3 i hi
     split
     ·rename_i he; rw [he] at this ⊢; omega
     ·exact this
   ·rw [List.mem_singleton.1 hg]
    refine ⟨ho, by rw [if_pos rfl]; exact Int.le_refl _, fun i hi => ?_⟩
    have := hp i hi
    split
    ·rename_i he; rw [he] at this ⊢; omega
    ·exact this
  ·rcases List.mem_append.1 hg with hg | hg
   ·exact h2 g hg
   ·rw [List.mem_singleton.1 hg]
    exact ⟨ho, kn_no hp ho (by omega)⟩
  ·refine List.pairwise_append.2 ⟨h3, List.pairwise_singleton .., fun g hg e' he => ?_⟩
   rw [List.mem_singleton.1 he]
   obtain ⟨g1, g2, g3⟩ := h1 g hg
   refine ⟨fun hd => ?_, kn_no g3 ho (by omega)⟩
   simp only [dtOf, Dt.mk.injEq] at hd
   rw [hd.1] at g2
   omega
 exact this.2
theorem CausL.dots {L : List Ev} (h : CausL L) : (L.map dtOf).Nodup := List.pairwise_map.2 (h.2.imp fun h => h.1)
theorem caus_all (l : List Ev) : causC (causC l).1 = causC l := by
 refine causC_ind (R := fun s => causC s.1 = s) rfl ?_ l
 rintro ⟨D, f⟩ e h hm
 dsimp only at h hm ⊢
 rw [causC_snoc, h, comeC_yes hm]
def liveP (L : List Ev) (x : El) (e : Ev) : Prop := elOf e = x ∧ (e.op = 1 ∨ e.op = 3) ∧ ∀ f ∈ L, elOf f = x → f.op ≠ 1 → dtOf f ≠ dtOf e → knD f.p (dtOf e) = false
theorem CausL.init {L : List Ev} {e : Ev} (h : CausL (L ++ [e])) : CausL L ∧ okB e = true ∧ ∀ f ∈ L, dtOf f ≠ dtOf e ∧ knD f.p (dtOf e) = false := by
 obtain ⟨h1, h2⟩ := h
 obtain ⟨p1, _, p3⟩ := List.pairwise_append.1 h2
 exact ⟨⟨fun f hf => h1 f (List.mem_append_left _ hf), p1⟩, (h1 e (by simp)).1, fun f hf => p3 f hf e (by simp)⟩
section
variable {σ : List (El × List (Dt × Va))} {x y : El}
theorem ent_come {d : Dt} {v : Va} : entS y (comeS x d v σ) = if x = y then putL d v (entS x σ) else entS y σ := by
 unfold entS comeS
 rw [getL_putL]
 split <;> rfl
theorem ent_undo (kn : Dt → Bool) : entS y (undoS x kn σ) = if x = y then leftS kn (entS x σ) else entS y σ := by
 unfold entS undoS
 cases hg : getL x σ with
 | none =>
  dsimp only
  split
  ·rename_i h; rw [← h, hg]; rfl
  ·rfl
 | some l =>
  dsimp only
  by_cases hl : leftS kn l = []
  ·rw [if_pos hl, getL_delL]
   split
   ·exact hl.symm
   ·rfl
  ·rw [if_neg hl, getL_putL]
   split <;> rfl
theorem mem_left {kn : Dt → Bool} {l : List (Dt × Va)} {q : Dt × Va} : q ∈ leftS kn l ↔ q ∈ l ∧ kn q.1 = false := by
 simp [leftS]
theorem OkS.ent_nodup (h : OkS σ) : (keysL (entS x σ)).Nodup := by
 unfold entS
 cases hg : getL x σ with
 | none => exact List.nodup_nil
 | some l => exact (h.ent hg).2.2.2.1
theorem OkS.key_iff (h : OkS σ) : x ∈ keysL σ ↔ entS x σ ≠ [] := by
 unfold entS
 cases hg : getL x σ with
 | none => exact ⟨fun e => absurd e (getL_none.1 hg), fun e => absurd rfl e⟩
 | some l =>
  refine ⟨fun _ => (h.ent hg).2.2.1, fun _ => ?_⟩
  exact List.mem_map.2 ⟨_, getL_mem hg, rfl⟩
end
theorem nodup_left {kn : Dt → Bool} {l : List (Dt × Va)} (h : (keysL l).Nodup) : (keysL (leftS kn l)).Nodup := nodup_filter h _
theorem ent_live : ∀ (n : Nat) (L : List Ev), L.length = n → CausL L → (∀ e ∈ L, Lens e) → ∀ x q, q ∈ entS x (runS L) ↔ ∃ e ∈ L, liveP L x e ∧ q = (dtOf e, vaOf e) := by
 intro n
 induction n with
 | zero =>
  intro L hL _ _ x q
  rw [List.eq_nil_of_length_eq_zero hL]
  exact ⟨fun h => (by cases h), fun ⟨e, he, _⟩ => (by cases he)⟩
 | succ n ih =>
  intro L hL hc hl x q
  obtain ⟨L, e, rfl⟩ : ∃ M e, L = M ++ [e] := ⟨L.dropLast, L.getLast (by intro h; rw [h] at hL; cases hL), (List.dropLast_concat_getLast _).symm⟩
  obtain ⟨hc1, ho, hd⟩ := hc.init
  have hL1 : L.length = n := by simpa using hL
  have hl1 : ∀ e ∈ L, Lens e := fun f hf => hl f (List.mem_append_left _ hf)
  have ih := ih L hL1 hc1 hl1
  have hok := (runS_ok L hl1).1
  have hself : knD e.p (dtOf e) = false := (hc.1 e (by simp)).2
  have hliv : ∀ f ∈ L, liveP (L ++ [e]) x f ↔ liveP L x f ∧ (elOf e = x → e.op ≠ 1 → knD e.p (dtOf f) = false) := by
   intro f hf
   have hne := (hd f hf).1
   constructor
   ·rintro ⟨h1, h2, h3⟩
    exact ⟨⟨h1, h2, fun g hg => h3 g (List.mem_append_left _ hg)⟩, fun a b => h3 e (by simp) a b (fun h => hne h.symm)⟩
   ·rintro ⟨⟨h1, h2, h3⟩, h4⟩
    refine ⟨h1, h2, fun g hg a b c => ?_⟩
    rcases List.mem_append.1 hg with hg | hg
    ·exact h3 g hg a b c
    ·rw [List.mem_singleton.1 hg] at a b ⊢
     exact h4 a b
  have hlast : liveP (L ++ [e]) x e ↔ elOf e = x ∧ (e.op = 1 ∨ e.op = 3) := by
   constructor
   ·rintro ⟨h1, h2, _⟩; exact ⟨h1, h2⟩
   ·rintro ⟨h1, h2⟩
    refine ⟨h1, h2, fun g hg a b c => ?_⟩
    rcases List.mem_append.1 hg with hg | hg
    ·exact (hd g hg).2
    ·rw [List.mem_singleton.1 hg]; exact hself
  have hex : (∃ f ∈ L ++ [e], liveP (L ++ [e]) x f ∧ q = (dtOf f, vaOf f)) ↔ (q ∈ entS x (runS L) ∧ (elOf e = x → e.op ≠ 1 → knD e.p q.1 = false)) ∨ (elOf e = x ∧ (e.op = 1 ∨ e.op = 3) ∧ q = (dtOf e, vaOf e)) := by
   constructor
   ·rintro ⟨f, hf, h1, h2⟩
    rcases List.mem_append.1 hf with hf | hf
    ·obtain ⟨a, b⟩ := (hliv f hf).1 h1
     exact .inl ⟨(ih x q).2 ⟨f, hf, a, h2⟩, by rw [h2]; exact b⟩
    ·rw [List.mem_singleton.1 hf] at h1 h2
     obtain ⟨a, b⟩ := hlast.1 h1
     exact .inr ⟨a, b, h2⟩
   ·rintro (⟨h1, h2⟩ | ⟨h1, h2, h3⟩)
    ·obtain ⟨f, hf, a, b⟩ := (ih x q).1 h1
     rw [b] at h2
     exact ⟨f, List.mem_append_left _ hf, (hliv f hf).2 ⟨a, h2⟩, b⟩
    ·exact ⟨e, by simp, hlast.2 ⟨h1, h2⟩, h3⟩
  have hnew : ∀ q ∈ entS x (runS L), q.1 ≠ dtOf e := by
   intro q hq
   obtain ⟨f, hf, _, b⟩ := (ih x q).1 hq
   rw [b]; exact (hd f hf).1
  rw [hex, runS_snoc, if_pos ho]
  unfold doS
  by_cases hx : elOf e = x
  ·subst hx
   by_cases h1 : e.op = 1
   ·rw [if_pos h1, ent_come, if_pos rfl, mem_putL hok.ent_nodup]
    constructor
    ·rintro (h | ⟨h, _⟩)
     ·exact .inr ⟨rfl, .inl h1, h⟩
     ·exact .inl ⟨h, fun _ hn => absurd h1 hn⟩
    ·rintro (⟨h, _⟩ | ⟨_, _, h⟩)
     ·exact .inr ⟨h, hnew q h⟩
     ·exact .inl h
   ·rw [if_neg h1]
    by_cases h3 : e.op = 3
    ·rw [if_pos h3, ent_come, if_pos rfl]
     have hnd : (keysL (entS (elOf e) (undoS (elOf e) (knD e.p) (runS L)))).Nodup := by
      rw [ent_undo, if_pos rfl]; exact nodup_left hok.ent_nodup
     rw [mem_putL hnd, ent_undo, if_pos rfl, mem_left]
     constructor
     ·rintro (h | ⟨⟨h, h'⟩, _⟩)
      ·exact .inr ⟨rfl, .inr h3, h⟩
      ·exact .inl ⟨h, fun _ _ => h'⟩
     ·rintro (⟨h, h'⟩ | ⟨_, _, h⟩)
      ·exact .inr ⟨⟨h, h' rfl h1⟩, hnew q h⟩
      ·exact .inl h
    ·rw [if_neg h3, ent_undo, if_pos rfl, mem_left]
     constructor
     ·rintro ⟨h, h'⟩; exact .inl ⟨h, fun _ _ => h'⟩
     ·rintro (⟨h, h'⟩ | ⟨_, h, _⟩)
      ·exact ⟨h, h' rfl h1⟩
      ·rcases h with h | h
       ·exact absurd h h1
       ·exact absurd h h3
  ·have e1 : entS x (if e.op = 1 then comeS (elOf e) (dtOf e) (vaOf e) (runS L) else if e.op = 3 then comeS (elOf e) (dtOf e) (vaOf e) (undoS (elOf e) (knD e.p) (runS L)) else undoS (elOf e) (knD e.p) (runS L)) = entS x (runS L) := by
    split
    ·rw [ent_come, if_neg hx]
    ·split
     ·rw [ent_come, if_neg hx, ent_undo, if_neg hx]
     ·rw [ent_undo, if_neg hx]
   rw [e1]
   constructor
   ·intro h; exact .inl ⟨h, fun a => absurd a hx⟩
   ·rintro (⟨h, _⟩ | ⟨h, _⟩)
    ·exact h
    ·exact absurd h hx
theorem keys_nodup_list {l : List (Dt × Va)} (h : (keysL l).Nodup) : l.Nodup := List.Pairwise.of_map Prod.fst (fun a b hne e => hne (by rw [e])) h
end Go.Proofs.YtdgglhlofnigkaaGreatDoor
namespace Go.Proofs.YtdgglhlofnigkaaGreatDoor
open Go.RowKit Go.MapKept Go.Sort
section
variable {P : Program} {α : Type} {enc : α → List Value} {k : Nat}
theorem flat_cells (hk : ∀ x, (enc x).length = k) (hk0 : 0 < k) {w : World} {b o : Nat} {l : List α} (hcell : ∀ (j : Nat) (x : α), l[j]? = some x → w.rangeAt b (o + j * k) (enc x)) : ∀ j u, (l.flatMap enc)[j]? = some u → w.cell? ((⟨b, o, none⟩ : Addr).add j) = some u := by
 intro j u hu
 have hj : j < l.length * k := by
  have := (List.getElem?_eq_some_iff.1 hu).1
  rwa [flat_length hk] at this
 have hjk : j / k < l.length := (Nat.div_lt_iff_lt_mul hk0).2 hj
 have hx := List.getElem?_eq_getElem hjk
 have h3 := flat_at hk l (j / k) (j % k) _ hx (Nat.mod_lt _ hk0)
 have e1 : j / k * k + j % k = j := by rw [Nat.mul_comm]; exact Nat.div_add_mod j k
 rw [e1, hu] at h3
 have := hcell (j / k) _ hx (j % k) u h3.symm
 rw [Addr.add_lit]
 rwa [Nat.add_assoc, e1] at this
theorem run_append_K (hk : ∀ x, (enc x).length = k) (hk0 : 0 < k) (w : World) (base : Nat) (t ty e : TypeId) (i : TypeInfo) (z : Value) (bytes : Nat) (ht : P.underlying t = some (.slice e)) (hi : P.info? e = some i) (hz : i.zero = some z)
  (hsize : i.size = k) (hby : i.bytes = bytes) (hzs : z.cells.size = k) (v : Value) (xs : List α) (hown : OwnK enc base e k w v xs)
  (v2 : Value) (l : List α) (hl : SlK enc k w v2 l) (h1 : ∀ a, ∀ u ∈ enc a, u.oneCell' = true)
  (hbytes : (xs.length + l.length) * bytes ≤ 140737488355328) (hnm : xs.length + l.length ≤ 140737488355328) (hbase : base ≤ w.heap.size) :
  ∃ v' w', (Builtin.append_ #[t, t] ty #[v, v2]).run P w = .ok v' w' ∧ OwnK enc base e k w' v' (xs ++ l) ∧ w.grownBy w' v.ownBlock := by
 obtain ⟨A, c, rfl, hlc, hx⟩ := hl
 have h63 : xs.length + l.length ≤ maxLen := by unfold maxLen; omega
 unfold OwnK at hown ⊢
 rw [List.flatMap_append, List.length_append]
 have one : ∀ u ∈ l.flatMap enc, u.oneCell' = true := by intro u hu; obtain ⟨x, _, hu⟩ := List.mem_flatMap.1 hu; exact h1 x u hu
 by_cases hn : l = []
 ·subst hn
  rcases A with _ | ad
  ·refine ⟨v, w, ?_, by simpa using hown, World.grownBy.refl w _⟩
   rcases hown.2 with ⟨hv, h0⟩ | ⟨g, cap, cur, hv, _, _, hnc, _⟩
   ·rw [hv]; simp [Builtin.append_, run_underlying ht, sizeOf, typeInfo, hi, Builtin.lenOf, Builtin.firstCells]
   ·rw [hv]; simp [Builtin.append_, run_underlying ht, sizeOf, typeInfo, hi, Builtin.lenOf, Builtin.firstCells, hnc, storeCells]
  ·obtain ⟨v', w', hr, h2, h3, _⟩ := run_append_own (P := P) w base t ty e i z k bytes ht hi hz hsize hby hzs hk0 v xs.length (xs.flatMap enc) hown ad 0 c [] (by simp) (by simp) (by simp) (by simpa using h63) (by simpa using hbytes) hbase
   exact ⟨v', w', hr, by simpa using h2, h3⟩
 ·obtain ⟨b, o, rfl, hb, hcell⟩ := hx hn
  obtain ⟨v', w', hr, h2, h3, _⟩ := run_append_own (P := P) w base t ty e i z k bytes ht hi hz hsize hby hzs hk0 v xs.length (xs.flatMap enc) hown ⟨b, o, none⟩ l.length c (l.flatMap enc) (flat_length hk l)
   (flat_cells hk hk0 hcell) one h63 hbytes hbase
  exact ⟨v', w', hr, h2, h3⟩
def slK (A : Option Addr) (c lo k : Nat) : Option Addr := if c = lo then A else A.map (·.add (lo * k))
theorem run_sliceK_lo (w : World) (t e : TypeId) (ht : P.underlying t = some (.slice e)) (hi : (P.info? e).map (·.size) = some k) (A : Option Addr) (n c m : Nat) (hm : m ≤ n) :
  (Instr.sliceAt t (.slice A n c) (some (.int .i64 m)) none none).run P w = .ok (.slice (slK A c m k) (n - m) (c - m)) w := by
 cases hq : P.info? e with
 | none => simp [hq] at hi
 | some i =>
  have hs : i.size = k := by simpa [hq] using hi
  simp [Instr.sliceAt, Instr.slice, Instr.sliceBounds, run_underlying ht, bound_ok w m n _ hm, sizeOf, typeInfo, hq, hs, slK]
theorem run_sliceK_hi (w : World) (t e : TypeId) (ht : P.underlying t = some (.slice e)) (hi : (P.info? e).map (·.size) = some k) (A : Option Addr) (n c m : Nat) (hm : m ≤ c) :
  (Instr.sliceAt t (.slice A n c) none (some (.int .i64 m)) none).run P w = .ok (.slice (slK A c 0 k) m c) w := by
 cases hq : P.info? e with
 | none => simp [hq] at hi
 | some i =>
  simp [Instr.sliceAt, Instr.slice, Instr.sliceBounds, run_underlying ht, bound_ok w m c _ hm, sizeOf, typeInfo, hq, slK]
theorem run_slhi_op {o : Oper} {ρ : Operand → Value} {w : World} {t : TypeId} {x y : Operand} {vx vy v : Value} (ho : o.op = .slice t x none (some y) none) (hx : ρ x = vx) (hy : ρ y = vy) (hr : (Instr.sliceAt t vx none (some vy) none).run P w = .ok v w) : (execOp ρ o).run P w = .ok (.value v) w := by
 unfold execOp
 simp only [ho, hx, hy, Option.map_some, Option.map_none, Sem.run_bind, hr, Result.andThen_ok, Sem.run_pure]
theorem run_sllo_op {o : Oper} {ρ : Operand → Value} {w : World} {t : TypeId} {x y : Operand} {vx vy v : Value} (ho : o.op = .slice t x (some y) none none) (hx : ρ x = vx) (hy : ρ y = vy) (hr : (Instr.sliceAt t vx (some vy) none none).run P w = .ok v w) : (execOp ρ o).run P w = .ok (.value v) w := by
 unfold execOp
 simp only [ho, hx, hy, Option.map_some, Option.map_none, Sem.run_bind, hr, Result.andThen_ok, Sem.run_pure]
end
theorem infoEvK : ∃ i, Tryz.prog.info? 60 = some i ∧ i.zero = some (.agg (evC ev0)) ∧ i.size = 27 ∧ i.bytes = 256 := info_parts infoEv
theorem append_ev (R : Nat) (w : World) (v : Value) (xs : List Ev) (hown : OwnK encE R 60 27 w v xs) (v2 : Value) (l : List Ev) (hl : SlK encE 27 w v2 l) (hn : xs.length + l.length ≤ 1000000) (hR : R ≤ w.heap.size) :
  ∃ v' w', (Builtin.append_ #[22, 22] 22 #[v, v2]).run Tryz.prog w = .ok v' w' ∧ OwnK encE R 60 27 w' v' (xs ++ l) ∧ w.grownBy w' v.ownBlock ∧ (v'.ownBlock = v.ownBlock ∨ (Below w.heap.size w w' ∧ ∀ g, v'.ownBlock = some g → w.heap.size ≤ g)) := by
 obtain ⟨i, hi, hz0, hz1, hz2⟩ := infoEvK
 obtain ⟨v', w', hr, ho, hg⟩ := run_append_K (P := Tryz.prog) encE_len (by decide) w R 22 22 60 i _ 256 Tryz.underlying22 hi hz0 hz1 hz2 rfl v xs hown v2 l hl (fun e => encE_one e) (by omega) (by omega) hR
 refine ⟨v', w', hr, ho, hg, ?_⟩
 rcases hown.2 with ⟨hv, h0⟩ | ⟨g, cap, cur, hv, _, hgb, hnc, _, hcs, _⟩
 ·obtain ⟨v2', w2', hr2, ho2, hg2⟩ := run_append_K (P := Tryz.prog) encE_len (by decide) w w.heap.size 22 22 60 i _ 256 Tryz.underlying22 hi hz0 hz1 hz2 rfl v xs ⟨hown.1, .inl ⟨hv, h0⟩⟩ v2 l hl (fun e => encE_one e) (by omega) (by omega) (Nat.le_refl _)
  obtain ⟨e1, e2⟩ := Result.ok.inj (hr.symm.trans hr2)
  subst e1 e2
  rw [hv] at hg2
  exact .inr ⟨⟨hg2.os, hg2.tape, hg2.output, hg2.size, fun k hk => hg2.block k hk (by simp [Value.ownBlock])⟩, fun g h => (ho2.lt g h).1⟩
 ·obtain ⟨A, c, rfl, hlc, hx⟩ := hl
  by_cases hroom : xs.length + l.length ≤ cap
  ·left
   by_cases hn0 : l = []
   ·subst hn0
    rw [hv] at hr
    rcases A with _ | ad
    ·simp [Builtin.append_, run_underlying Tryz.underlying22, sizeOf, typeInfo, hi, Builtin.lenOf, Builtin.firstCells, hnc, storeCells] at hr
     rw [← hr.1, hv]
    ·have := run_append_room (P := Tryz.prog) w 22 22 60 i Tryz.underlying22 hi g xs.length cap cur hgb ad 0 c [] (by simp) (by simp) (by simp) (by simpa using hroom) (by rw [hcs, hz1]; simp; exact Nat.mul_le_mul_right _ hnc)
     have e1 := (Result.ok.inj (hr.symm.trans this)).1
     rw [e1, hv]
     rfl
   ·obtain ⟨b, o, rfl, hb, hcell⟩ := hx hn0
    rw [hv] at hr
    have := run_append_room (P := Tryz.prog) w 22 22 60 i Tryz.underlying22 hi g xs.length cap cur hgb ⟨b, o, none⟩ l.length c (l.flatMap encE) (by rw [hz1]; exact flat_length encE_len l) (flat_cells encE_len (by decide) hcell) (fun u hu => by obtain ⟨x, _, hu⟩ := List.mem_flatMap.1 hu; exact encE_one x u hu) hroom (by rw [flat_length encE_len, hcs, hz1, ← Nat.add_mul]; exact Nat.mul_le_mul_right _ hroom)
    have e1 := (Result.ok.inj (hr.symm.trans this)).1
    rw [e1, hv]
    rfl
  ·right
   have hn0 : l ≠ [] := by rintro rfl; simp at hroom; omega
   obtain ⟨b, o, rfl, hb, hcell⟩ := hx hn0
   rw [hv] at hr
   obtain ⟨v2', w2', hr2, ho2, hg2⟩ := run_append_arg_grows (P := Tryz.prog) w 22 22 60 i _ 27 256 Tryz.underlying22 hi hz0 hz1 hz2 rfl (by decide) ⟨g, 0, none⟩ xs.length cap (xs.flatMap encE) (flat_length encE_len xs)
    (fun j u hu => hown.cells (by rw [hv]; rfl) j u hu) ⟨b, o, none⟩ l.length c (l.flatMap encE) (flat_length encE_len l) (flat_cells encE_len (by decide) hcell) (by omega) (by unfold maxLen; omega) (by omega)
   obtain ⟨e1, e2⟩ := Result.ok.inj (hr.symm.trans hr2)
   subst e1 e2
   exact ⟨⟨hg2.os, hg2.tape, hg2.output, hg2.size, fun k hk => hg2.block k hk (by simp)⟩, fun g h => (ho2.lt g h).1⟩
theorem bsNil (w : World) : (Instr.buildSlice 22 0 #[]).run Tryz.prog w = .ok (.slice (some ⟨w.heap.size, 0, none⟩) 0 0) (w.alloc (.cells #[] 60)) := by
 go_simp
theorem own_empty (w : World) : OwnK encE w.heap.size 60 27 (w.alloc (.cells #[] 60)) (.slice (some ⟨w.heap.size, 0, none⟩) 0 0) [] :=
 ⟨by simp, .inr ⟨w.heap.size, 0, #[], rfl, Nat.le_refl _, heap_alloc_new w _, Nat.le_refl _, Nat.zero_le _, by simp, by simp⟩⟩
theorem append_new (R : Nat) (w : World) (v2 : Value) (l : List Ev) (hl : SlK encE 27 w v2 l) (hn : l.length ≤ 1000000) (g : Nat) (hg : OwnK encE R 60 27 w (.slice (some ⟨g, 0, none⟩) 0 0) []) (hR : R ≤ w.heap.size) :
  ∃ v' w', (Builtin.append_ #[22, 22] 22 #[.slice (some ⟨g, 0, none⟩) 0 0, v2]).run Tryz.prog w = .ok v' w' ∧ OwnK encE R 60 27 w' v' l ∧ Below w.heap.size w w' := by
 obtain ⟨i, hi, hz0, hz1, hz2⟩ := infoEvK
 obtain ⟨A, c, rfl, hlc, hx⟩ := hl
 by_cases hn0 : l = []
 ·subst hn0
  refine ⟨.slice (some ⟨g, 0, none⟩) 0 0, w, ?_, hg, Below.refl _ _⟩
  rcases A with _ | ad
  ·simp [Builtin.append_, run_underlying Tryz.underlying22, sizeOf, typeInfo, hi, Builtin.lenOf, Builtin.firstCells, storeCells]
  ·have hf := run_firstCells_some (P := Tryz.prog) w i.size 0 ad 0 c [] (by simp) (by simp)
   simp [Builtin.append_, run_underlying Tryz.underlying22, sizeOf, typeInfo, hi, Builtin.lenOf, hf, storeCells]
 ·obtain ⟨b, o, rfl, hb, hcell⟩ := hx hn0
  have hpos := List.length_pos_iff.2 hn0
  obtain ⟨v', w', hr, ho, hg2⟩ := run_append_arg_grows (P := Tryz.prog) w 22 22 60 i _ 27 256 Tryz.underlying22 hi hz0 hz1 hz2 rfl (by decide) ⟨g, 0, none⟩ 0 0 [] (by simp)
   (fun j u hu => by simp at hu) ⟨b, o, none⟩ l.length c (l.flatMap encE) (flat_length encE_len l) (flat_cells encE_len (by decide) hcell) (by omega) (by unfold maxLen; omega) (by omega)
  have ho' : OwnK encE w.heap.size 60 27 w' v' l := by
   unfold OwnK; simpa using ho
  exact ⟨v', w', hr, ho'.base_ hR, ⟨hg2.os, hg2.tape, hg2.output, hg2.size, fun k hk => hg2.block k hk (by simp)⟩⟩
end Go.Proofs.YtdgglhlofnigkaaGreatDoor
namespace Go.Proofs.YtdgglhlofnigkaaGreatDoor
open Go.RowKit Go.MapKept Go.Sort
def undoB (x : El) (e f : Ev) : Bool := decide (elOf f = x) && (!(f.op == 1)) && (!decide (dtOf f = dtOf e)) && decide (e.c ≤ f.p e.r.toNat)
def liveB (L : List Ev) (x : El) (e : Ev) : Bool := decide (elOf e = x) && (e.op == 1 || e.op == 3) && L.all fun f => !undoB x e f
def liveL (L : List Ev) (x : El) : List Ev := L.filter (liveB L x)
end Go.Proofs.YtdgglhlofnigkaaGreatDoor
