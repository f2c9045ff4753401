/- Causal rows. -/import Derived.Test.YtdgglhlofnigkaaGreatDoorJStCopA
import Derived.Test.YtdgglhlofnigkaaGreatDoorStCausal
set_option maxHeartbeats 4000000
set_option maxRecDepth 100000
namespace Go.Proofs.YtdgglhlofnigkaaGreatDoor
open Lib (hid)
open Go.RowKit Go.MapKept Go.Sort
theorem may_iff {f : Nat → Int} {e : Ev} : mayC f e = true ↔ okB e = true ∧ f e.r.toNat = e.c - 1 ∧ ∀ i, i < 16 → e.p i ≤ f i := by
 unfold mayC
 simp [and_assoc]
theorem causC_ind {R : List Ev × (Nat → Int) → Prop} (h0 : R ([], fun _ => 0)) (hs : ∀ s e, R s → mayC s.2 e = true → R (s.1 ++ [e], fun i => if i = e.r.toNat then e.c else s.2 i)) (l : List Ev) : R (causC l) := by
 suffices h : ∀ (l : List Ev) s, R s → R (l.foldl comeC s) from h l _ h0
 intro l
 induction l with
 | nil => intro s h; exact h
 | cons e l ih =>
  intro s h
  refine ih _ ?_
  cases hm : mayC s.2 e
  ·rw [comeC_no hm]; exact h
  ·rw [comeC_yes hm]; exact hs s e h hm
def CausL (L : List Ev) : Prop := (∀ e ∈ L, okB e = true ∧ knD e.p (dtOf e) = false) ∧ L.Pairwise fun e f => dtOf e ≠ dtOf f ∧ knD e.p (dtOf f) = false
theorem kn_no {f g : Nat → Int} {e : Ev} (h : ∀ i, i < 16 → f i ≤ g i) (ho : okB e = true) (hc : g e.r.toNat < e.c) : knD f (dtOf e) = false := by
 obtain ⟨n, hn, hn2, hn3, _⟩ := ok_dot ho
 unfold knD knowsB
 rw [Bool.and_eq_false_iff]
 right
 refine decide_eq_false ?_
 show ¬ e.c ≤ f e.r.toNat
 have := h n hn2
 rw [hn, Int.toNat_natCast] at hc ⊢
 omega
theorem caus_row (l : List Ev) : CausL (causC l).1 := by
 have : (∀ e ∈ (causC l).1, okB e = true ∧ e.c ≤ (causC l).2 e.r.toNat ∧ ∀ i, i < 16 → e.p i ≤ (causC l).2 i) ∧ CausL (causC l).1 := by
  refine causC_ind (R := fun s => (∀ e ∈ s.1, okB e = true ∧ e.c ≤ s.2 e.r.toNat ∧ ∀ i, i < 16 → e.p i ≤ s.2 i) ∧ CausL s.1) ⟨fun e h => (by cases h), fun e h => (by cases h), List.Pairwise.nil⟩ ?_ l
  rintro ⟨D, f⟩ e ⟨h1, h2, h3⟩ hm
  obtain ⟨ho, hc, hp⟩ := may_iff.1 hm
  dsimp only at *
  refine ⟨fun g hg => ?_, fun g hg => ?_, ?_⟩
  ·rcases List.mem_append.1 hg with hg | hg
   ·obtain ⟨g1, g2, g3⟩ := h1 g hg
    refine ⟨g1, ?_, fun i hi => ?_⟩
    ·split
     ·rename_i he; rw [he] at g2; omega
     ·exact g2
    ·have := g3 i hi
     split
     ·rename_i he; rw [he] at this ⊢; omega
     ·exact this
   ·rw [List.mem_singleton.1 hg]
    refine ⟨ho, by rw [if_pos rfl]; exact Int.le_refl _, fun i hi => ?_⟩
    have := hp i hi
    split
    ·rename_i he; rw [he] at this ⊢; omega
    ·exact this
  ·rcases List.mem_append.1 hg with hg | hg
   ·exact h2 g hg
   ·rw [List.mem_singleton.1 hg]
    exact ⟨ho, kn_no hp ho (by omega)⟩
  ·refine List.pairwise_append.2 ⟨h3, List.pairwise_singleton .., fun g hg e' he => ?_⟩
   rw [List.mem_singleton.1 he]
   obtain ⟨g1, g2, g3⟩ := h1 g hg
   refine ⟨fun hd => ?_, kn_no g3 ho (by omega)⟩
   simp only [dtOf, Dt.mk.injEq] at hd
   rw [hd.1] at g2
   omega
 exact this.2
theorem CausL.dots {L : List Ev} (h : CausL L) : (L.map dtOf).Nodup := List.pairwise_map.2 (h.2.imp fun h => h.1)
def liveP (L : List Ev) (x : El) (e : Ev) : Prop := elOf e = x ∧ (e.op = 1 ∨ e.op = 3) ∧ ∀ f ∈ L, elOf f = x → f.op ≠ 1 → dtOf f ≠ dtOf e → knD f.p (dtOf e) = false
theorem CausL.init {L : List Ev} {e : Ev} (h : CausL (L ++ [e])) : CausL L ∧ okB e = true ∧ ∀ f ∈ L, dtOf f ≠ dtOf e ∧ knD f.p (dtOf e) = false := by
 obtain ⟨h1, h2⟩ := h
 obtain ⟨p1, _, p3⟩ := List.pairwise_append.1 h2
 exact ⟨⟨fun f hf => h1 f (List.mem_append_left _ hf), p1⟩, (h1 e (by simp)).1, fun f hf => p3 f hf e (by simp)⟩
section
variable {σ : List (El × List (Dt × Va))} {x y : El}
theorem ent_come {d : Dt} {v : Va} : entS y (comeS x d v σ) = if x = y then putL d v (entS x σ) else entS y σ := by
 unfold entS comeS
 rw [getL_putL]
 split <;> rfl
theorem ent_undo (kn : Dt → Bool) : entS y (undoS x kn σ) = if x = y then leftS kn (entS x σ) else entS y σ := by
 unfold entS undoS
 cases hg : getL x σ with
 | none =>
  dsimp only
  split
  ·rename_i h; rw [← h, hg]; rfl
  ·rfl
 | some l =>
  dsimp only
  by_cases hl : leftS kn l = []
  ·rw [if_pos hl, getL_delL]
   split
   ·exact hl.symm
   ·rfl
  ·rw [if_neg hl, getL_putL]
   split <;> rfl
theorem mem_left {kn : Dt → Bool} {l : List (Dt × Va)} {q : Dt × Va} : q ∈ leftS kn l ↔ q ∈ l ∧ kn q.1 = false := by
 simp [leftS]
theorem OkS.ent_nodup (h : OkS σ) : (keysL (entS x σ)).Nodup := by
 unfold entS
 cases hg : getL x σ with
 | none => exact List.nodup_nil
 | some l => exact (h.ent hg).2.2.2.1
theorem OkS.key_iff (h : OkS σ) : x ∈ keysL σ ↔ entS x σ ≠ [] := by
 unfold entS
 cases hg : getL x σ with
 | none => exact ⟨fun e => absurd e (getL_none.1 hg), fun e => absurd rfl e⟩
 | some l =>
  refine ⟨fun _ => (h.ent hg).2.2.1, fun _ => ?_⟩
  exact List.mem_map.2 ⟨_, getL_mem hg, rfl⟩
end
theorem nodup_left {kn : Dt → Bool} {l : List (Dt × Va)} (h : (keysL l).Nodup) : (keysL (leftS kn l)).Nodup := nodup_filter h _
theorem ent_live : ∀ (n : Nat) (L : List Ev), L.length = n → CausL L → (∀ e ∈ L, Lens e) → ∀ x q, q ∈ entS x (runS L) ↔ ∃ e ∈ L, liveP L x e ∧ q = (dtOf e, vaOf e) := by
 intro n
 induction n with
 | zero =>
  intro L hL _ _ x q
  rw [List.eq_nil_of_length_eq_zero hL]
  exact ⟨fun h => (by cases h), fun ⟨e, he, _⟩ => (by cases he)⟩
 | succ n ih =>
  intro L hL hc hl x q
  obtain ⟨L, e, rfl⟩ : ∃ M e, L = M ++ [e] := ⟨L.dropLast, L.getLast (by intro h; rw [h] at hL; cases hL), (List.dropLast_concat_getLast _).symm⟩
  obtain ⟨hc1, ho, hd⟩ := hc.init
  have hL1 : L.length = n := by simpa using hL
  have hl1 : ∀ e ∈ L, Lens e := fun f hf => hl f (List.mem_append_left _ hf)
  have ih := ih L hL1 hc1 hl1
  have hok := (runS_ok L hl1).1
  have hself : knD e.p (dtOf e) = false := (hc.1 e (by simp)).2
  have hliv : ∀ f ∈ L, liveP (L ++ [e]) x f ↔ liveP L x f ∧ (elOf e = x → e.op ≠ 1 → knD e.p (dtOf f) = false) := by
   intro f hf
   have hne := (hd f hf).1
   constructor
   ·rintro ⟨h1, h2, h3⟩
    exact ⟨⟨h1, h2, fun g hg => h3 g (List.mem_append_left _ hg)⟩, fun a b => h3 e (by simp) a b (fun h => hne h.symm)⟩
   ·rintro ⟨⟨h1, h2, h3⟩, h4⟩
    refine ⟨h1, h2, fun g hg a b c => ?_⟩
    rcases List.mem_append.1 hg with hg | hg
    ·exact h3 g hg a b c
    ·rw [List.mem_singleton.1 hg] at a b ⊢
     exact h4 a b
  have hlast : liveP (L ++ [e]) x e ↔ elOf e = x ∧ (e.op = 1 ∨ e.op = 3) := by
   constructor
   ·rintro ⟨h1, h2, _⟩; exact ⟨h1, h2⟩
   ·rintro ⟨h1, h2⟩
    refine ⟨h1, h2, fun g hg a b c => ?_⟩
    rcases List.mem_append.1 hg with hg | hg
    ·exact (hd g hg).2
    ·rw [List.mem_singleton.1 hg]; exact hself
  have hex : (∃ f ∈ L ++ [e], liveP (L ++ [e]) x f ∧ q = (dtOf f, vaOf f)) ↔ (q ∈ entS x (runS L) ∧ (elOf e = x → e.op ≠ 1 → knD e.p q.1 = false)) ∨ (elOf e = x ∧ (e.op = 1 ∨ e.op = 3) ∧ q = (dtOf e, vaOf e)) := by
   constructor
   ·rintro ⟨f, hf, h1, h2⟩
    rcases List.mem_append.1 hf with hf | hf
    ·obtain ⟨a, b⟩ := (hliv f hf).1 h1
     exact .inl ⟨(ih x q).2 ⟨f, hf, a, h2⟩, by rw [h2]; exact b⟩
    ·rw [List.mem_singleton.1 hf] at h1 h2
     obtain ⟨a, b⟩ := hlast.1 h1
     exact .inr ⟨a, b, h2⟩
   ·rintro (⟨h1, h2⟩ | ⟨h1, h2, h3⟩)
    ·obtain ⟨f, hf, a, b⟩ := (ih x q).1 h1
     rw [b] at h2
     exact ⟨f, List.mem_append_left _ hf, (hliv f hf).2 ⟨a, h2⟩, b⟩
    ·exact ⟨e, by simp, hlast.2 ⟨h1, h2⟩, h3⟩
  have hnew : ∀ q ∈ entS x (runS L), q.1 ≠ dtOf e := by
   intro q hq
   obtain ⟨f, hf, _, b⟩ := (ih x q).1 hq
   rw [b]; exact (hd f hf).1
  rw [hex, runS_snoc, if_pos ho]
  unfold doS
  by_cases hx : elOf e = x
  ·subst hx
   by_cases h1 : e.op = 1
   ·rw [if_pos h1, ent_come, if_pos rfl, mem_putL hok.ent_nodup]
    constructor
    ·rintro (h | ⟨h, _⟩)
     ·exact .inr ⟨rfl, .inl h1, h⟩
     ·exact .inl ⟨h, fun _ hn => absurd h1 hn⟩
    ·rintro (⟨h, _⟩ | ⟨_, _, h⟩)
     ·exact .inr ⟨h, hnew q h⟩
     ·exact .inl h
   ·rw [if_neg h1]
    by_cases h3 : e.op = 3
    ·rw [if_pos h3, ent_come, if_pos rfl]
     have hnd : (keysL (entS (elOf e) (undoS (elOf e) (knD e.p) (runS L)))).Nodup := by
      rw [ent_undo, if_pos rfl]; exact nodup_left hok.ent_nodup
     rw [mem_putL hnd, ent_undo, if_pos rfl, mem_left]
     constructor
     ·rintro (h | ⟨⟨h, h'⟩, _⟩)
      ·exact .inr ⟨rfl, .inr h3, h⟩
      ·exact .inl ⟨h, fun _ _ => h'⟩
     ·rintro (⟨h, h'⟩ | ⟨_, _, h⟩)
      ·exact .inr ⟨⟨h, h' rfl h1⟩, hnew q h⟩
      ·exact .inl h
    ·rw [if_neg h3, ent_undo, if_pos rfl, mem_left]
     constructor
     ·rintro ⟨h, h'⟩; exact .inl ⟨h, fun _ _ => h'⟩
     ·rintro (⟨h, h'⟩ | ⟨_, h, _⟩)
      ·exact ⟨h, h' rfl h1⟩
      ·rcases h with h | h
       ·exact absurd h h1
       ·exact absurd h h3
  ·have e1 : entS x (if e.op = 1 then comeS (elOf e) (dtOf e) (vaOf e) (runS L) else if e.op = 3 then comeS (elOf e) (dtOf e) (vaOf e) (undoS (elOf e) (knD e.p) (runS L)) else undoS (elOf e) (knD e.p) (runS L)) = entS x (runS L) := by
    split
    ·rw [ent_come, if_neg hx]
    ·split
     ·rw [ent_come, if_neg hx, ent_undo, if_neg hx]
     ·rw [ent_undo, if_neg hx]
   rw [e1]
   constructor
   ·intro h; exact .inl ⟨h, fun a => absurd a hx⟩
   ·rintro (⟨h, _⟩ | ⟨h, _⟩)
    ·exact h
    ·exact absurd h hx
theorem keys_nodup_list {l : List (Dt × Va)} (h : (keysL l).Nodup) : l.Nodup := List.Pairwise.of_map Prod.fst (fun a b hne e => hne (by rw [e])) h
section
variable {P : Program} {α : Type} {enc : α → List Value} {k : Nat}
theorem flat_cells (hk : ∀ x, (enc x).length = k) (hk0 : 0 < k) {w : World} {b o : Nat} {l : List α} (hcell : ∀ (j : Nat) (x : α), l[j]? = some x → w.rangeAt b (o + j * k) (enc x)) : ∀ j u, (l.flatMap enc)[j]? = some u → w.cell? ((⟨b, o, none⟩ : Addr).add j) = some u := by
 intro j u hu
 have hj : j < l.length * k := by
  have := (List.getElem?_eq_some_iff.1 hu).1
  rwa [flat_length hk] at this
 have hjk : j / k < l.length := (Nat.div_lt_iff_lt_mul hk0).2 hj
 have hx := List.getElem?_eq_getElem hjk
 have h3 := flat_at hk l (j / k) (j % k) _ hx (Nat.mod_lt _ hk0)
 have e1 : j / k * k + j % k = j := by rw [Nat.mul_comm]; exact Nat.div_add_mod j k
 rw [e1, hu] at h3
 have := hcell (j / k) _ hx (j % k) u h3.symm
 rw [Addr.add_lit]
 rwa [Nat.add_assoc, e1] at this
theorem run_append_K (hk : ∀ x, (enc x).length = k) (hk0 : 0 < k) (w : World) (base : Nat) (t ty e : TypeId) (i : TypeInfo) (z : Value) (bytes : Nat) (ht : P.underlying t = some (.slice e)) (hi : P.info? e = some i) (hz : i.zero = some z)
  (hsize : i.size = k) (hby : i.bytes = bytes) (hzs : z.cells.size = k) (v : Value) (xs : List α) (hown : OwnK enc base e k w v xs)
  (v2 : Value) (l : List α) (hl : SlK enc k w v2 l) (h1 : ∀ a, ∀ u ∈ enc a, u.oneCell' = true)
  (hbytes : (xs.length + l.length) * bytes ≤ 140737488355328) (hnm : xs.length + l.length ≤ 140737488355328) (hbase : base ≤ w.heap.size) :
  ∃ v' w', (Builtin.append_ #[t, t] ty #[v, v2]).run P w = .ok v' w' ∧ OwnK enc base e k w' v' (xs ++ l) ∧ w.grownBy w' v.ownBlock := by
 obtain ⟨A, c, rfl, hlc, hx⟩ := hl
 have h63 : xs.length + l.length ≤ maxLen := by unfold maxLen; omega
 unfold OwnK at hown ⊢
 rw [List.flatMap_append, List.length_append]
 have one : ∀ u ∈ l.flatMap enc, u.oneCell' = true := by intro u hu; obtain ⟨x, _, hu⟩ := List.mem_flatMap.1 hu; exact h1 x u hu
 by_cases hn : l = []
 ·subst hn
  rcases A with _ | ad
  ·refine ⟨v, w, ?_, by simpa using hown, World.grownBy.refl w _⟩
   rcases hown.2 with ⟨hv, h0⟩ | ⟨g, cap, cur, hv, _, _, hnc, _⟩
   ·rw [hv]; simp [Builtin.append_, run_underlying ht, sizeOf, typeInfo, hi, Builtin.lenOf, Builtin.firstCells]
   ·rw [hv]; simp [Builtin.append_, run_underlying ht, sizeOf, typeInfo, hi, Builtin.lenOf, Builtin.firstCells, hnc, storeCells]
  ·obtain ⟨v', w', hr, h2, h3, _⟩ := run_append_own (P := P) w base t ty e i z k bytes ht hi hz hsize hby hzs hk0 v xs.length (xs.flatMap enc) hown ad 0 c [] (by simp) (by simp) (by simp) (by simpa using h63) (by simpa using hbytes) hbase
   exact ⟨v', w', hr, by simpa using h2, h3⟩
 ·obtain ⟨b, o, rfl, hb, hcell⟩ := hx hn
  obtain ⟨v', w', hr, h2, h3, _⟩ := run_append_own (P := P) w base t ty e i z k bytes ht hi hz hsize hby hzs hk0 v xs.length (xs.flatMap enc) hown ⟨b, o, none⟩ l.length c (l.flatMap enc) (flat_length hk l)
   (flat_cells hk hk0 hcell) one h63 hbytes hbase
  exact ⟨v', w', hr, h2, h3⟩
def slK (A : Option Addr) (c lo k : Nat) : Option Addr := if c = lo then A else A.map (·.add (lo * k))
theorem run_sliceK_lo (w : World) (t e : TypeId) (ht : P.underlying t = some (.slice e)) (hi : (P.info? e).map (·.size) = some k) (A : Option Addr) (n c m : Nat) (hm : m ≤ n) :
  (Instr.sliceAt t (.slice A n c) (some (.int .i64 m)) none none).run P w = .ok (.slice (slK A c m k) (n - m) (c - m)) w := by
 cases hq : P.info? e with
 | none => simp [hq] at hi
 | some i =>
  have hs : i.size = k := by simpa [hq] using hi
  simp [Instr.sliceAt, Instr.slice, Instr.sliceBounds, run_underlying ht, bound_ok w m n _ hm, sizeOf, typeInfo, hq, hs, slK]
theorem run_sliceK_hi (w : World) (t e : TypeId) (ht : P.underlying t = some (.slice e)) (hi : (P.info? e).map (·.size) = some k) (A : Option Addr) (n c m : Nat) (hm : m ≤ c) :
  (Instr.sliceAt t (.slice A n c) none (some (.int .i64 m)) none).run P w = .ok (.slice (slK A c 0 k) m c) w := by
 cases hq : P.info? e with
 | none => simp [hq] at hi
 | some i =>
  simp [Instr.sliceAt, Instr.slice, Instr.sliceBounds, run_underlying ht, bound_ok w m c _ hm, sizeOf, typeInfo, hq, slK]
theorem run_slhi_op {o : Oper} {ρ : Operand → Value} {w : World} {t : TypeId} {x y : Operand} {vx vy v : Value} (ho : o.op = .slice t x none (some y) none) (hx : ρ x = vx) (hy : ρ y = vy) (hr : (Instr.sliceAt t vx none (some vy) none).run P w = .ok v w) : (execOp ρ o).run P w = .ok (.value v) w := by
 unfold execOp
 simp only [ho, hx, hy, Option.map_some, Option.map_none, Sem.run_bind, hr, Result.andThen_ok, Sem.run_pure]
theorem run_sllo_op {o : Oper} {ρ : Operand → Value} {w : World} {t : TypeId} {x y : Operand} {vx vy v : Value} (ho : o.op = .slice t x (some y) none none) (hx : ρ x = vx) (hy : ρ y = vy) (hr : (Instr.sliceAt t vx (some vy) none none).run P w = .ok v w) : (execOp ρ o).run P w = .ok (.value v) w := by
 unfold execOp
 simp only [ho, hx, hy, Option.map_some, Option.map_none, Sem.run_bind, hr, Result.andThen_ok, Sem.run_pure]
theorem SlK.part {w : World} {A : Option Addr} {n c : Nat} {l : List α} (h : SlK enc k w (.slice A n c) l) (lo hi : Nat) (hlo : lo ≤ hi) (hhi : hi ≤ n) : SlK enc k w (.slice (slK A c lo k) (hi - lo) (c - lo)) ((l.take hi).drop lo) := by
 obtain ⟨A', c', hv, hlc, hx⟩ := h
 injection hv with h1 h2 h3
 subst h1 h3 h2
 have hl : ((l.take hi).drop lo).length = hi - lo := by rw [List.length_drop, List.length_take]; omega
 refine ⟨slK A c lo k, c - lo, by rw [hl], by rw [hl]; omega, fun hn => ?_⟩
 have hpos : 0 < hi - lo := by rw [← hl]; exact List.length_pos_iff.2 hn
 obtain ⟨b, o, hA, hb, hcell⟩ := hx (by rintro rfl; simp at hn)
 refine ⟨b, o + lo * k, by rw [slK, if_neg (by omega), hA]; simp [Addr.add_lit], hb, fun j u hu => ?_⟩
 rw [List.getElem?_drop, List.getElem?_take] at hu
 split at hu
 ·have := hcell (lo + j) u hu
  rwa [Nat.add_mul, ← Nat.add_assoc] at this
 ·cases hu
theorem SlK.lo {w : World} {A : Option Addr} {n c : Nat} {l : List α} (h : SlK enc k w (.slice A n c) l) (m : Nat) (hm : m ≤ n) : SlK enc k w (.slice (slK A c m k) (n - m) (c - m)) (l.drop m) := by
 have hl : n = l.length := by obtain ⟨A', c', hv, _⟩ := h; injection hv
 have := h.part m n hm (Nat.le_refl _)
 rwa [hl, List.take_length, ← hl] at this
theorem SlK.hi {w : World} {A : Option Addr} {n c : Nat} {l : List α} (h : SlK enc k w (.slice A n c) l) (m : Nat) (hm : m ≤ n) : SlK enc k w (.slice (slK A c 0 k) m c) (l.take m) := by
 have := h.part 0 m (Nat.zero_le _) hm
 simpa using this
theorem SlK.len_ {w : World} {A : Option Addr} {n c : Nat} {l : List α} (h : SlK enc k w (.slice A n c) l) : n = l.length ∧ l.length ≤ c := by
 obtain ⟨A', c', hv, hlc, _⟩ := h
 injection hv with h1 h2 h3
 subst h3
 exact ⟨h2, hlc⟩
end
theorem run_append_at {P : Program} {α : Type} {enc : α → List Value} {k : Nat} (hk : ∀ x, (enc x).length = k) (hk0 : 0 < k) (R : Nat) (w : World) (t ty e : TypeId) (i : TypeInfo) (z : Value) (bytes : Nat) (ht : P.underlying t = some (.slice e)) (hi : P.info? e = some i) (hz0 : i.zero = some z)
  (hz1 : i.size = k) (hz2 : i.bytes = bytes) (hzs : z.cells.size = k) (v : Value) (xs : List α) (hown : OwnK enc R e k w v xs)
  (v2 : Value) (l : List α) (hl : SlK enc k w v2 l) (h1 : ∀ a, ∀ u ∈ enc a, u.oneCell' = true)
  (hbytes : (xs.length + l.length) * bytes ≤ 140737488355328) (hnm : xs.length + l.length ≤ 140737488355328) (hR : R ≤ w.heap.size) :
  ∃ v' w', (Builtin.append_ #[t, t] ty #[v, v2]).run P w = .ok v' w' ∧ OwnK enc R e k w' v' (xs ++ l) ∧ w.grownBy w' v.ownBlock ∧ (v'.ownBlock = v.ownBlock ∨ (Below w.heap.size w w' ∧ ∀ g, v'.ownBlock = some g → w.heap.size ≤ g)) := by
 obtain ⟨v', w', hr, ho, hg⟩ := run_append_K (P := P) hk hk0 w R t ty e i z bytes ht hi hz0 hz1 hz2 hzs v xs hown v2 l hl h1 hbytes hnm hR
 refine ⟨v', w', hr, ho, hg, ?_⟩
 rcases hown.2 with ⟨hv, h0⟩ | ⟨g, cap, cur, hv, _, hgb, hnc, _, hcs, _⟩
 ·obtain ⟨v2', w2', hr2, ho2, hg2⟩ := run_append_K (P := P) hk hk0 w w.heap.size t ty e i z bytes ht hi hz0 hz1 hz2 hzs v xs ⟨hown.1, .inl ⟨hv, h0⟩⟩ v2 l hl h1 hbytes hnm (Nat.le_refl _)
  obtain ⟨e1, e2⟩ := Result.ok.inj (hr.symm.trans hr2)
  subst e1 e2
  rw [hv] at hg2
  exact .inr ⟨⟨hg2.os, hg2.tape, hg2.output, hg2.size, fun k hk => hg2.block k hk (by simp [Value.ownBlock])⟩, fun g h => (ho2.lt g h).1⟩
 ·obtain ⟨A, c, rfl, hlc, hx⟩ := hl
  by_cases hroom : xs.length + l.length ≤ cap
  ·left
   by_cases hn0 : l = []
   ·subst hn0
    rw [hv] at hr
    rcases A with _ | ad
    ·simp [Builtin.append_, run_underlying ht, sizeOf, typeInfo, hi, Builtin.lenOf, Builtin.firstCells, hnc, storeCells] at hr
     rw [← hr.1, hv]
    ·have := run_append_room (P := P) w t ty e i ht hi g xs.length cap cur hgb ad 0 c [] (by simp) (by simp) (by simp) (by simpa using hroom) (by rw [hcs, hz1]; simp; exact Nat.mul_le_mul_right _ hnc)
     have e1 := (Result.ok.inj (hr.symm.trans this)).1
     rw [e1, hv]
     rfl
   ·obtain ⟨b, o, rfl, hb, hcell⟩ := hx hn0
    rw [hv] at hr
    have := run_append_room (P := P) w t ty e i ht hi g xs.length cap cur hgb ⟨b, o, none⟩ l.length c (l.flatMap enc) (by rw [hz1]; exact flat_length hk l) (flat_cells hk hk0 hcell) (fun u hu => by obtain ⟨x, _, hu⟩ := List.mem_flatMap.1 hu; exact h1 x u hu) hroom (by rw [flat_length hk, hcs, hz1, ← Nat.add_mul]; exact Nat.mul_le_mul_right _ hroom)
    have e1 := (Result.ok.inj (hr.symm.trans this)).1
    rw [e1, hv]
    rfl
  ·right
   have hn0 : l ≠ [] := by
    rintro rfl
    simp only [List.length_nil, Nat.add_zero] at hroom
    omega
   obtain ⟨b, o, rfl, hb, hcell⟩ := hx hn0
   rw [hv] at hr
   obtain ⟨v2', w2', hr2, ho2, hg2⟩ := run_append_arg_grows (P := P) w t ty e i z k bytes ht hi hz0 hz1 hz2 hzs hk0 ⟨g, 0, none⟩ xs.length cap (xs.flatMap enc) (flat_length hk xs)
    (fun j u hu => hown.cells (by rw [hv]; rfl) j u hu) ⟨b, o, none⟩ l.length c (l.flatMap enc) (flat_length hk l) (flat_cells hk hk0 hcell) (by omega) (by unfold maxLen; omega) hbytes
   obtain ⟨e1, e2⟩ := Result.ok.inj (hr.symm.trans hr2)
   subst e1 e2
   exact ⟨⟨hg2.os, hg2.tape, hg2.output, hg2.size, fun k hk => hg2.block k hk (by simp)⟩, fun g h => (ho2.lt g h).1⟩
inductive Tg where
 | self | mlab | mout | minn | mpart | mval | nodes | links
 | lab (k : ByteArray)
 | out (k : ByteArray)
 | inn (k : ByteArray)
 | part (e : El)
 | val (e : El)
structure Turns (own own' : Nat → Option Tg) (S : Tg → Prop) (w w' : World) : Prop where
 keep : ∀ g u, own g = some u → own' g = some u
 same : ∀ g u, own g = some u → ¬ S u → w'.heap[g]? = w.heap[g]?
 new : ∀ g, own' g ≠ none → own g ≠ none ∨ w.heap.size ≤ g
 lt : (∀ g, own g ≠ none → g < w.heap.size) → ∀ g, own' g ≠ none → g < w'.heap.size
 out : Out (fun g => own g ≠ none) w w'
theorem infoEvK : ∃ i, Tryz.prog.info? 60 = some i ∧ i.zero = some (.agg (evC ev0)) ∧ i.size = 27 ∧ i.bytes = 256 := info_parts infoEv
theorem append_ev (R : Nat) (w : World) (v : Value) (xs : List Ev) (hown : OwnK encE R 60 27 w v xs) (v2 : Value) (l : List Ev) (hl : SlK encE 27 w v2 l) (hn : xs.length + l.length ≤ 1000000) (hR : R ≤ w.heap.size) :
  ∃ v' w', (Builtin.append_ #[22, 22] 22 #[v, v2]).run Tryz.prog w = .ok v' w' ∧ OwnK encE R 60 27 w' v' (xs ++ l) ∧ w.grownBy w' v.ownBlock ∧ (v'.ownBlock = v.ownBlock ∨ (Below w.heap.size w w' ∧ ∀ g, v'.ownBlock = some g → w.heap.size ≤ g)) := by
 obtain ⟨i, hi, hz0, hz1, hz2⟩ := infoEvK
 exact run_append_at (P := Tryz.prog) encE_len (by decide) R w 22 22 60 i _ 256 Tryz.underlying22 hi hz0 hz1 hz2 rfl v xs hown v2 l hl (fun e => encE_one e) (by omega) (by omega) hR
theorem run_geiL {a b : Int} {q : Bool} (h : decide (b ≤ a) = q) (w : World) : (binOp .geq 3 (.int .i64 a) (.int .i64 b)).run Tryz.prog w = .ok (.bool q) w := by subst h; go_simp
theorem rknows_any (f : Nat → Int) (n : Nat) (hn : n < 16) (c : Int) (w : World) : Calls Tryz.prog 64 #[.agg (vA f), dv n c] w (Gives w (.bool (decide (c ≤ f n)))) := by
 obtain ⟨p, hp⟩ : ∃ p, w.heap.size = p := ⟨_, rfl⟩
 obtain ⟨X, hX⟩ : ∃ X, X = (w.alloc (.cells (vA f) 26)).alloc (.cells #[.int .i64 n, .int .i64 c] 58) := ⟨_, rfl⟩
 have HV := hid (show VB X p f by rw [hX, ← hp]; exact (VB.new_ f rfl).alloc_ _)
 have HD := hid (show Blk X (p + 1) 58 #[.int .i64 n, .int .i64 c] by
  rw [hX, ← hp]
  have := Blk.new (w.alloc (.cells (vA f) 26)) 58 #[.int .i64 n, .int .i64 c]
  simpa using this)
 have HY := hid (show Below w.heap.size w X by rw [hX]; exact ((Below.refl _ _).alloc (Nat.le_refl _) _).alloc (by simp) _)
 have HX := hid hX
 have HP := hid hp
 have HD0 := hid (show X.cell? ⟨p + 1, 0, none⟩ = some (.int .i64 n) from (Blk.cell HD.out 0).trans rfl)
 have HD1 := hid (show X.cell? ⟨p + 1, 0 + 1, none⟩ = some (.int .i64 c) from (Blk.cell HD.out 1).trans rfl)
 have HDb := hid (Blk.lt HD.out)
 have HVb : Hid (p < X.heap.size) := hid (Blk.lt (show Blk X p 26 (vA f) from HV.out))
 obtain ⟨q, hq⟩ : ∃ q, decide (c ≤ f n) = q := ⟨_, rfl⟩
 have HQ := hid hq
 rw [hq]
 clear hX hp hq
 unfold dv
 go_enter Tryz.func64, Tryz.ntmps64
 go_upto_region 1 with fail
 rw [← HX.out, HP.out]
 refine wp_region_any (by kernel_rfl) ?_
 refine wpAny_below (fun i v _ => v = ([.pointer (some ⟨p + 1, 0, none⟩), .int .i64 n, .pointer (some ⟨p, n, none⟩), .int .i64 (f n), .pointer (some ⟨p + 1, 0 + 1, none⟩), .int .i64 c, .bool q, .bool q] : List Value).getD i undef) _ X (by kernel_rfl) (by kernel_rfl) (by kernel_rfl) (fun i v w w' _ h => h) ?_ ?_
 ·refine ⟨?_, ?_, ?_, ?_, ?_, ?_, ?_, ?_, trivial⟩
  ·intro a W hI hun haft hi
   have e3 := hun 3 (by kernel_rfl)
   exact b_same hi hI rfl _ (run_fieldAddr_op rfl e3 (at_dot0' _ _ _)) rfl
  ·intro a W hI hun haft hi
   have f0 : a.eval (.tmp 5) = .pointer (some ⟨p + 1, 0, none⟩) := haft ⟨0, .data⟩ (by simp) rfl _ _ rfl rfl
   exact b_same hi hI rfl _ (run_loadint_op rfl f0 Tryz.underlying3 ((Below.cell hI HDb.out).trans HD0.out)) rfl
  ·intro a W hI hun haft hi
   have e2 := hun 2 (by kernel_rfl)
   have f1 := haft ⟨1, .data⟩ (by simp) rfl _ _ rfl rfl
   exact b_same hi hI rfl _ (run_indexAddr_op rfl e2 f1 (at_vec p n hn _)) rfl
  ·intro a W hI hun haft hi
   have f2 : a.eval (.tmp 7) = .pointer (some ⟨p, n, none⟩) := haft ⟨2, .data⟩ (by simp) rfl _ _ rfl rfl
   exact b_same hi hI rfl _ (run_loadint_op rfl f2 Tryz.underlying3 ((Below.cell hI HVb.out).trans (VB.cell_ HV.out n hn))) rfl
  ·intro a W hI hun haft hi
   have e3 := hun 3 (by kernel_rfl)
   exact b_same hi hI rfl _ (run_fieldAddr_op rfl e3 (at_dot1' _ _ _)) rfl
  ·intro a W hI hun haft hi
   have f4 : a.eval (.tmp 9) = .pointer (some ⟨p + 1, 0 + 1, none⟩) := haft ⟨4, .data⟩ (by simp) rfl _ _ rfl rfl
   exact b_same hi hI rfl _ (run_loadint_op rfl f4 Tryz.underlying3 ((Below.cell hI HDb.out).trans HD1.out)) rfl
  ·intro a W hI hun haft hi
   have f3 := haft ⟨3, .data⟩ (by simp) rfl _ _ rfl rfl
   have f5 := haft ⟨5, .data⟩ (by simp) rfl _ _ rfl rfl
   exact b_same hi hI rfl (.bool q) (run_bin_op rfl f3 f5 (by kernel_rfl) (run_geiL HQ.out _)) rfl
  ·intro a W hI hun haft hi
   have f6 := haft ⟨6, .data⟩ (by simp) rfl _ _ rfl rfl
   exact b_same hi hI rfl _ (run_assign_op rfl f6) rfl
 ·intro vals W hI hp
  have hl7 : vals 7 = .bool q := hp 7 (by decide)
  have HI := hid hI
  clear hp hI
  simp only [layN, layS, List.range, List.range.loop, if_true, Act.put, Nat.zero_add, Nat.reduceAdd, hl7]
  clear hl7
  go_wp2
  go_ret
  exact ⟨rfl, HY.out.trans (HI.out.mono HY.out.size)⟩
def undoB (x : El) (e f : Ev) : Bool := decide (elOf f = x) && (!(f.op == 1)) && (!decide (dtOf f = dtOf e)) && decide (e.c ≤ f.p e.r.toNat)
def liveB (L : List Ev) (x : El) (e : Ev) : Bool := decide (elOf e = x) && (e.op == 1 || e.op == 3) && L.all fun f => !undoB x e f
def liveL (L : List Ev) (x : El) : List Ev := L.filter (liveB L x)
theorem live_next {L l : List Ev} {x : El} {j : Nat} {e : Ev} (h : l[j]? = some e) : (l.take (j + 1)).filter (liveB L x) = (l.take j).filter (liveB L x) ++ (if liveB L x e then [e] else []) := by
 rw [List.take_add_one, h, List.filter_append]
 congr 1
 cases hk : liveB L x e <;> simp [hk]
theorem undo_next {l : List Ev} {x : El} {e f : Ev} {j : Nat} (h : l[j]? = some f) : ((l.take (j + 1)).all fun g => !undoB x e g) = (((l.take j).all fun g => !undoB x e g) && !undoB x e f) := by
 rw [List.take_add_one, h, List.all_append]
 simp
theorem eq_inE (w : World) (x y : El) : (Op.equalIn 10000 38 (eE x) (eE y)).run Tryz.prog w = .ok (decide (x = y)) w := equal_E w x y
theorem eq_inD (w : World) (x y : Dt) : (Op.equalIn 10000 58 (eD x) (eD y)).run Tryz.prog w = .ok (decide (x = y)) w := equal_D w x y
theorem live_any (x : El) (l : List Ev) (A : Option Addr) (N c : Nat) (w : World) (hs : SlK encE 27 w (.slice A N c) l) (hN : l.length = N) (hN2 : N ≤ 10000) (hok : ∀ e ∈ l, okB e = true) :
  Calls Tryz.prog 46 #[.slice A N c, eE x] w fun e w' => ∃ v, e = .returned v ∧ OwnK encE w.heap.size 60 27 w' v (liveL l x) ∧ Below w.heap.size w w' := by
 obtain ⟨p, hp⟩ : ∃ p, w.heap.size = p := ⟨_, rfl⟩
 obtain ⟨X, hX⟩ : ∃ X, X = w.alloc (.cells #[.int .i64 x.k, .string x.a, .string x.b, .string x.c, .string x.d] 38) := ⟨_, rfl⟩
 have HE := hid (show Blk X p 38 #[.int .i64 x.k, .string x.a, .string x.b, .string x.c, .string x.d] by rw [hX, ← hp]; exact Blk.new w _ _)
 have HY := hid (show Below w.heap.size w X by rw [hX]; exact (Below.refl _ _).alloc (Nat.le_refl _) _)
 have HX := hid hX
 have HP := hid hp
 have HS := hid hs
 have HN := hid hN
 have HN2 := hid hN2
 have HOk := hid hok
 have HZe := hid (zero_of_info zeroE).1
 clear hX hp hs hN hN2 hok
 unfold eE elV
 go_enter Tryz.func46, Tryz.ntmps46
 go_upto_region 1 with fail
 rw [← HX.out, HP.out]
 go_wp2_with fail
 go_loopw [5, 13] (fun v5 v13 wr => ∃ j : Nat, v13 = .int .i64 j ∧ j ≤ N ∧ OwnK encE p 60 27 wr v5 ((l.take j).filter (liveB l x)) ∧ Below w.heap.size w wr ∧ Blk wr p 38 #[.int .i64 x.k, .string x.a, .string x.b, .string x.c, .string x.d]) (fun _ v13 _ => N - (intOf v13).toNat)
 case atStart => exact ⟨0, rfl, Nat.zero_le _, OwnK.nil_ _ _ _ _ _, HY.out, HE.out⟩
 case round =>
  obtain ⟨j, rfl, hj, ho, hbw, hel⟩ := hrel
  obtain ⟨wo, rfl⟩ : ∃ wo, wo = wr := ⟨_, rfl⟩
  have HBw := hid hbw
  by_cases hlt : j < N
  ·obtain ⟨e, he⟩ : ∃ e, l[j]? = some e := ⟨l[j]'(by rw [HN.out]; exact hlt), List.getElem?_eq_getElem _⟩
   obtain ⟨gs, o, hA, hgl, hce⟩ := (HS.out.below hbw).ev he
   subst hA
   have HCe := hid hce
   have HAt := hid (at_Ev gs o c N j hlt wo)
   have HNx := hid (live_next (L := l) (x := x) he)
   have HOe := hid (HOk.out e (List.mem_of_getElem? he))
   have HAl := hid fun c => World.setRow_alloc_new wo (evC ev0) c 60
   have HZz := hid (show Blk (wo.alloc (.cells (evC ev0) 60)) wo.heap.size 60 (evC ev0) from Blk.new _ _ _)
   obtain ⟨Y, hY⟩ : ∃ Y, Y = wo.alloc (.cells (evC e) 60) := ⟨_, rfl⟩
   have hbY : Below wo.heap.size wo Y := by rw [hY]; exact (Below.refl _ _).alloc (Nat.le_refl _) _
   have HBY := hid (show EB Y wo.heap.size e by rw [hY]; exact Blk.new _ _ _)
   have HYe := hid hY
   have HOY := hid (ho.keep hbY)
   have HEY := hid (hel.below hbY hel.lt)
   have HbY := hid (HBw.out.trans (hbY.mono HBw.out.size))
   have HOl := hid (show ∀ k, u5.ownBlock = some k → k < wo.heap.size from fun k hk => (ho.lt k hk).2)
   have HLl := hid (show ((l.take j).filter (liveB l x)).length ≤ 10000 from by
    have h1 : ((l.take j).filter (liveB l x)).length ≤ (l.take j).length := List.length_filter_le _ _
    have h2 := List.length_take_le j l
    have h3 := HN2.out
    omega)
   have HW1 := hid (IntWalk.i64_in ((j : Int) + 1) (by have := HN2.out; omega))
   have HJ1 := hid (show ¬ 9223372036854775807 < j + 1 by have := HN2.out; omega)
   clear he hgl hce hY hbY ho hel hbw
   have hz := HZe.out
   go_upto_region 5 with (first
    | (refine wpList_val (o := ⟨some 15, _, _, _, _, _⟩) rfl (.pointer (some ⟨gs, o + j * 27, none⟩)) wo (run_indexAddr_op rfl rfl rfl HAt.out) ?_)
    | (refine' wpList_load_midif ?q1 60 (.tmp 15) ?q2 gs (o + j * 27) ?q3 (encE e) _ ?q4 Tryz.underlying60 ?q5 ?q6 ?_; (case q2 => rfl); (case q1 => rfl); (case q3 => rfl); (case q4 => exact HCe.out); (case q5 => rfl); (case q6 => exact (sizeE e)))
    | (refine wpList_store_row (o := ⟨none, _, _, _, _, _⟩) rfl 60 (.tmp 7) (.tmp 16) rfl wo.heap.size (evC e) rfl rfl _ _ HZz.out (sizeE e) rfl (by kernel_rfl) ?_; rw [HAl.out, ← HYe.out])
    | fail)
   clear hz HZz HAl HYe HAt HCe
   obtain ⟨b7, hb7⟩ : ∃ b7, wo.heap.size = b7 := ⟨_, rfl⟩
   rw [hb7] at HBY HOl ⊢
   clear hb7
   have hqe := fun w => eq_inE w (elOf e) x
   have e18 := HBY.out.opc
   unfold eE elV elOf at hqe
   dsimp only at hqe
   obtain ⟨b1, hb1⟩ : ∃ b1, b1 = decide (elOf e = x) := ⟨_, rfl⟩
   have HB1 := hid hb1
   unfold elOf at hb1
   rw [← hb1] at hqe
   clear hb1
   have k19 : Y.cell? ⟨b7, 19, none⟩ = some (.int .i64 e.ek) := (Blk.cell HBY.out 19).trans rfl
   have k20 : Y.cell? ⟨b7, 20, none⟩ = some (.string e.a) := (Blk.cell HBY.out 20).trans rfl
   have k21 : Y.cell? ⟨b7, 21, none⟩ = some (.string e.b) := (Blk.cell HBY.out 21).trans rfl
   have k22 : Y.cell? ⟨b7, 22, none⟩ = some (.string e.cc) := (Blk.cell HBY.out 22).trans rfl
   have k23 : Y.cell? ⟨b7, 23, none⟩ = some (.string e.d) := (Blk.cell HBY.out 23).trans rfl
   have d0 : Y.cell? ⟨p, 0, none⟩ = some (.int .i64 x.k) := (Blk.cell HEY.out 0).trans rfl
   have d1 : Y.cell? ⟨p, 1, none⟩ = some (.string x.a) := (Blk.cell HEY.out 1).trans rfl
   have d2 : Y.cell? ⟨p, 2, none⟩ = some (.string x.b) := (Blk.cell HEY.out 2).trans rfl
   have d3 : Y.cell? ⟨p, 3, none⟩ = some (.string x.c) := (Blk.cell HEY.out 3).trans rfl
   have d4 : Y.cell? ⟨p, 4, none⟩ = some (.string x.d) := (Blk.cell HEY.out 4).trans rfl
   simp only [Act.put]
   go_cut [30] (fun t wx => t = .bool (!(decide (elOf e = x) && (e.op == 1 || e.op == 3))) ∧ Y = wx)
   case first =>
    cases b1
    ·go_wp2_with fail
     go_meet
     exact ⟨by rw [← HB1.out]; rfl, rfl⟩
    ·by_cases h1 : e.op = 1
     ·have n1 : (e.op == 1) = true := by rw [beq_iff_eq]; exact h1
      have n2 : (e.op != 1) = false := by rw [bne, n1]; rfl
      have H1 := hid n1
      clear h1
      go_wp2_with fail
      go_meet
      exact ⟨by rw [← HB1.out, H1.out]; rfl, rfl⟩
     ·have n1 : (e.op == 1) = false := by rw [beq_eq_false_iff_ne]; exact h1
      have n2 : (e.op != 1) = true := by rw [bne, n1]; rfl
      by_cases h3 : e.op = 3
      ·have n3 : (e.op == 3) = true := by rw [beq_iff_eq]; exact h3
       have n4 : (e.op != 3) = false := by rw [bne, n3]; rfl
       have H1 := hid n1
       have H3 := hid n3
       clear h1 h3
       go_wp2_with fail
       go_meet
       exact ⟨by rw [← HB1.out, H1.out, H3.out]; rfl, rfl⟩
      ·have n3 : (e.op == 3) = false := by rw [beq_eq_false_iff_ne]; exact h3
       have n4 : (e.op != 3) = true := by rw [bne, n3]; rfl
       have H1 := hid n1
       have H3 := hid n3
       clear h1 h3
       go_wp2_with fail
       go_meet
       exact ⟨by rw [← HB1.out, H1.out, H3.out]; rfl, rfl⟩
   case rest =>
    obtain ⟨ht, hw⟩ := hcut
    subst ht hw
    clear k19 k20 k21 k22 k23 d0 d1 d2 d3 d4 e18 hqe
    obtain ⟨bs, hbs⟩ : ∃ bs, (decide (elOf e = x) && (e.op == 1 || e.op == 3)) = bs := ⟨_, rfl⟩
    rw [hbs]
    cases bs
    ·have hlv : liveB l x e = false := by unfold liveB; rw [hbs]; rfl
     have HLv := hid hlv
     have hjm := HJ1.out
     have hw := HW1.out
     clear hlv hbs
     go_wp2
     go_roundw
     case rel => exact ⟨j + 1, by go_num, by omega, by rw [HNx.out, HLv.out, if_neg (by decide), List.append_nil]; exact HOY.out, HbY.out, HEY.out⟩
     case measure => simp [intOf] <;> omega
    ·have HBs := hid hbs
     clear hbs
     go_wp2_with fail
     go_loopw [8, 33] (fun v8 v33 wr => ∃ i : Nat, v33 = .int .i64 i ∧ i ≤ N ∧ v8 = .bool ((l.take i).all fun g => !undoB x e g) ∧ Below Y.heap.size Y wr) (fun _ v33 _ => N - (intOf v33).toNat)
     case atStart => exact ⟨0, rfl, Nat.zero_le _, rfl, Below.refl _ _⟩
     case round =>
      obtain ⟨i, rfl, hi, rfl, hbi⟩ := hrel
      obtain ⟨wi, rfl⟩ : ∃ wi, wi = wr := ⟨_, rfl⟩
      have HBi := hid hbi
      by_cases hil : i < N
      ·obtain ⟨f, hf⟩ : ∃ f, l[i]? = some f := ⟨l[i]'(by rw [HN.out]; exact hil), List.getElem?_eq_getElem _⟩
       obtain ⟨gt, ot, hA2, _, hcf⟩ := (HS.out.below (HbY.out.trans (hbi.mono HbY.out.size))).ev hf
       injection hA2 with hA2
       injection hA2 with e1 e2 _
       subst e1 e2
       have HCf := hid hcf
       have HAt2 := hid (at_Ev gs o c N i hil wi)
       have HUn := hid (undo_next (x := x) (e := e) hf)
       have HAl2 := hid fun c => World.setRow_alloc_new wi (evC ev0) c 60
       have HZ2 := hid (show Blk (wi.alloc (.cells (evC ev0) 60)) wi.heap.size 60 (evC ev0) from Blk.new _ _ _)
       obtain ⟨Z, hZ⟩ : ∃ Z, Z = wi.alloc (.cells (evC f) 60) := ⟨_, rfl⟩
       have hbZ : Below wi.heap.size wi Z := by rw [hZ]; exact (Below.refl _ _).alloc (Nat.le_refl _) _
       have HFZ := hid (show EB Z wi.heap.size f by rw [hZ]; exact Blk.new _ _ _)
       have HZf := hid hZ
       have HEZ := hid (EB.keep (EB.keep HBY.out hbi) hbZ)
       have HELZ := hid ((HEY.out.below hbi HEY.out.lt).below hbZ (HEY.out.below hbi HEY.out.lt).lt)
       have HbZ := hid (hbi.trans (hbZ.mono hbi.size))
       obtain ⟨n, hrn, hn, _, _⟩ := ok_dot HOe.out
       have HRn := hid hrn
       have HW2 := hid (IntWalk.i64_in ((i : Int) + 1) (by have := HN2.out; omega))
       have HJ2 := hid (show ¬ 9223372036854775807 < i + 1 by have := HN2.out; omega)
       clear hf hcf hZ hbZ hbi
       have hz := HZe.out
       go_upto_region 10 with (first
        | (refine wpList_val (o := ⟨some 35, _, _, _, _, _⟩) rfl (.pointer (some ⟨gs, o + i * 27, none⟩)) wi (run_indexAddr_op rfl rfl rfl HAt2.out) ?_)
        | (refine' wpList_load_midif ?q1 60 (.tmp 35) ?q2 gs (o + i * 27) ?q3 (encE f) _ ?q4 Tryz.underlying60 ?q5 ?q6 ?_; (case q2 => rfl); (case q1 => rfl); (case q3 => rfl); (case q4 => exact HCf.out); (case q5 => rfl); (case q6 => exact (sizeE f)))
        | (refine wpList_store_row (o := ⟨none, _, _, _, _, _⟩) rfl 60 (.tmp 10) (.tmp 36) rfl wi.heap.size (evC f) rfl rfl _ _ HZ2.out (sizeE f) rfl (by kernel_rfl) ?_; rw [HAl2.out, ← HZf.out])
        | fail)
       clear hz HZ2 HAl2 HZf HAt2 HCf
       obtain ⟨b10, hb10⟩ : ∃ b10, wi.heap.size = b10 := ⟨_, rfl⟩
       rw [hb10] at HFZ ⊢
       clear hb10
       simp only [Act.put]
       have m0 : Z.cell? ⟨b10, 0, none⟩ = some (.int .i64 f.r) := (Blk.cell HFZ.out 0).trans rfl
       have m1 : Z.cell? ⟨b10, 1, none⟩ = some (.int .i64 f.c) := (Blk.cell HFZ.out 1).trans rfl
       have m2 : Z.cell? ⟨b10, 2, none⟩ = some (.int .i64 (f.p 0)) := (Blk.cell HFZ.out 2).trans rfl
       have m3 : Z.cell? ⟨b10, 3, none⟩ = some (.int .i64 (f.p 1)) := (Blk.cell HFZ.out 3).trans rfl
       have m4 : Z.cell? ⟨b10, 4, none⟩ = some (.int .i64 (f.p 2)) := (Blk.cell HFZ.out 4).trans rfl
       have m5 : Z.cell? ⟨b10, 5, none⟩ = some (.int .i64 (f.p 3)) := (Blk.cell HFZ.out 5).trans rfl
       have m6 : Z.cell? ⟨b10, 6, none⟩ = some (.int .i64 (f.p 4)) := (Blk.cell HFZ.out 6).trans rfl
       have m7 : Z.cell? ⟨b10, 7, none⟩ = some (.int .i64 (f.p 5)) := (Blk.cell HFZ.out 7).trans rfl
       have m8 : Z.cell? ⟨b10, 8, none⟩ = some (.int .i64 (f.p 6)) := (Blk.cell HFZ.out 8).trans rfl
       have m9 : Z.cell? ⟨b10, 9, none⟩ = some (.int .i64 (f.p 7)) := (Blk.cell HFZ.out 9).trans rfl
       have m10 : Z.cell? ⟨b10, 10, none⟩ = some (.int .i64 (f.p 8)) := (Blk.cell HFZ.out 10).trans rfl
       have m11 : Z.cell? ⟨b10, 11, none⟩ = some (.int .i64 (f.p 9)) := (Blk.cell HFZ.out 11).trans rfl
       have m12 : Z.cell? ⟨b10, 12, none⟩ = some (.int .i64 (f.p 10)) := (Blk.cell HFZ.out 12).trans rfl
       have m13 : Z.cell? ⟨b10, 13, none⟩ = some (.int .i64 (f.p 11)) := (Blk.cell HFZ.out 13).trans rfl
       have m14 : Z.cell? ⟨b10, 14, none⟩ = some (.int .i64 (f.p 12)) := (Blk.cell HFZ.out 14).trans rfl
       have m15 : Z.cell? ⟨b10, 15, none⟩ = some (.int .i64 (f.p 13)) := (Blk.cell HFZ.out 15).trans rfl
       have m16 : Z.cell? ⟨b10, 16, none⟩ = some (.int .i64 (f.p 14)) := (Blk.cell HFZ.out 16).trans rfl
       have m17 : Z.cell? ⟨b10, 17, none⟩ = some (.int .i64 (f.p 15)) := (Blk.cell HFZ.out 17).trans rfl
       have m18 : Z.cell? ⟨b10, 18, none⟩ = some (.int .i64 f.op) := HFZ.out.opc
       have m19 : Z.cell? ⟨b10, 19, none⟩ = some (.int .i64 f.ek) := (Blk.cell HFZ.out 19).trans rfl
       have m20 : Z.cell? ⟨b10, 20, none⟩ = some (.string f.a) := (Blk.cell HFZ.out 20).trans rfl
       have m21 : Z.cell? ⟨b10, 21, none⟩ = some (.string f.b) := (Blk.cell HFZ.out 21).trans rfl
       have m22 : Z.cell? ⟨b10, 22, none⟩ = some (.string f.cc) := (Blk.cell HFZ.out 22).trans rfl
       have m23 : Z.cell? ⟨b10, 23, none⟩ = some (.string f.d) := (Blk.cell HFZ.out 23).trans rfl
       have r0 : Z.cell? ⟨b7, 0, none⟩ = some (.int .i64 n) := (Blk.cell HEZ.out 0).trans (by rw [show (evC e)[0]? = some (.int .i64 e.r) from rfl, hrn])
       have r1 : Z.cell? ⟨b7, 1, none⟩ = some (.int .i64 e.c) := (Blk.cell HEZ.out 1).trans rfl
       have d0 : Z.cell? ⟨p, 0, none⟩ = some (.int .i64 x.k) := (Blk.cell HELZ.out 0).trans rfl
       have d1 : Z.cell? ⟨p, 1, none⟩ = some (.string x.a) := (Blk.cell HELZ.out 1).trans rfl
       have d2 : Z.cell? ⟨p, 2, none⟩ = some (.string x.b) := (Blk.cell HELZ.out 2).trans rfl
       have d3 : Z.cell? ⟨p, 3, none⟩ = some (.string x.c) := (Blk.cell HELZ.out 3).trans rfl
       have d4 : Z.cell? ⟨p, 4, none⟩ = some (.string x.d) := (Blk.cell HELZ.out 4).trans rfl
       have hqe := fun w => eq_inE w (elOf f) x
       unfold eE elV elOf at hqe
       dsimp only at hqe
       obtain ⟨b1, hb1⟩ : ∃ b1, b1 = decide (elOf f = x) := ⟨_, rfl⟩
       have HB1 := hid hb1
       unfold elOf at hb1
       rw [← hb1] at hqe
       have hqd := fun w => eq_inD w (dtOf f) (dtOf e)
       unfold eD dv dtOf at hqd
       dsimp only at hqd
       obtain ⟨b2, hb2⟩ : ∃ b2, b2 = decide (dtOf f = dtOf e) := ⟨_, rfl⟩
       have HB2 := hid hb2
       unfold dtOf at hb2
       rw [← hb2] at hqd
       rw [hrn] at hqd
       have hun0 : undoB x e f = (b1 && (!(f.op == 1)) && (!b2) && decide (e.c ≤ f.p n)) := by unfold undoB; rw [← HB1.out, ← HB2.out, hrn, Int.toNat_natCast]
       have HU0 := hid hun0
       have hjm := HJ2.out
       have hw := HW2.out
       clear hb1 hb2 hrn hun0
       cases b1
       ·have HUN := hid (show undoB x e f = false by rw [HU0.out]; rfl)
        go_wp2_with fail
        go_roundw
        case rel =>
                            repeat apply Exists.intro (α := Value)
                            refine And.intro ?rl ?fr
                            case fr => repeat' (first | apply And.intro | rfl)
                            case rl => exact ⟨i + 1, by go_num, by omega, by rw [HUn.out, HUN.out, Bool.not_false, Bool.and_true], HbZ.out⟩
        case measure => simp [intOf] <;> omega
       ·by_cases h1 : f.op = 1
        ·have n1 : (f.op == 1) = true := by rw [beq_iff_eq]; exact h1
         have n2 : (f.op != 1) = false := by rw [bne, n1]; rfl
         have HUN := hid (show undoB x e f = false by rw [HU0.out, n1]; rfl)
         clear h1
         go_wp2_with fail
         go_roundw
         case rel =>
                           repeat apply Exists.intro (α := Value)
                           refine And.intro ?rl ?fr
                           case fr => repeat' (first | apply And.intro | rfl)
                           case rl => exact ⟨i + 1, by go_num, by omega, by rw [HUn.out, HUN.out, Bool.not_false, Bool.and_true], HbZ.out⟩
         case measure => simp [intOf] <;> omega
        ·have n1 : (f.op == 1) = false := by rw [beq_eq_false_iff_ne]; exact h1
         have n2 : (f.op != 1) = true := by rw [bne, n1]; rfl
         have H1 := hid n1
         clear h1
         cases b2
         ·go_wp2_with fail
          refine (rknows_any f.p n hn e.c _).mono ?_
          rintro _ w5 ⟨rfl, hb5⟩
          have HbZ := hid (HbZ.out.trans (hb5.mono HbZ.out.size))
          cases hk : decide (e.c ≤ f.p n)
          ·have HUN := hid (show undoB x e f = false by rw [HU0.out, H1.out, hk]; rfl)
           clear hk hb5
           go_wp2_with fail
           go_roundw
           case rel =>
                         repeat apply Exists.intro (α := Value)
                         refine And.intro ?rl ?fr
                         case fr => repeat' (first | apply And.intro | rfl)
                         case rl => exact ⟨i + 1, by go_num, by omega, by rw [HUn.out, HUN.out, Bool.not_false, Bool.and_true], HbZ.out⟩
           case measure => simp [intOf] <;> omega
          ·have HUN := hid (show undoB x e f = true by rw [HU0.out, H1.out, hk]; rfl)
           clear hk hb5
           go_wp2_with fail
           go_roundw
           case rel =>
                         repeat apply Exists.intro (α := Value)
                         refine And.intro ?rl ?fr
                         case fr => repeat' (first | apply And.intro | rfl)
                         case rl => exact ⟨i + 1, by go_num, by omega, by rw [HUn.out, HUN.out, Bool.not_true, Bool.and_false], HbZ.out⟩
           case measure => simp [intOf] <;> omega
         ·have HUN := hid (show undoB x e f = false by rw [HU0.out, H1.out]; rfl)
          go_wp2_with fail
          go_roundw
          case rel =>
                          repeat apply Exists.intro (α := Value)
                          refine And.intro ?rl ?fr
                          case fr => repeat' (first | apply And.intro | rfl)
                          case rl => exact ⟨i + 1, by go_num, by omega, by rw [HUn.out, HUN.out, Bool.not_false, Bool.and_true], HbZ.out⟩
          case measure => simp [intOf] <;> omega
      ·have hiN : i = N := by omega
       rw [hiN, List.take_of_length_le (Nat.le_of_eq HN.out)]
       have hlv : liveB l x e = l.all fun g => !undoB x e g := by unfold liveB; rw [HBs.out, Bool.true_and]
       rw [← hlv]
       have HEi := hid (EB.keep HBY.out hbi)
       have HOi := hid (HOY.out.keep hbi)
       have HELi := hid (HEY.out.below hbi HEY.out.lt)
       have HbI := hid (HbY.out.trans (hbi.mono HbY.out.size))
       cases hv : liveB l x e
       ·have HLv := hid hv
        have hjm := HJ1.out
        have hw := HW1.out
        clear hlv hv hbi hiN hil hi
        go_wp2
        go_roundw
        case rel => exact ⟨j + 1, by go_num, by omega, by rw [HNx.out, HLv.out, if_neg (by decide), List.append_nil]; exact HOi.out, HbI.out, HELi.out⟩
        case measure => simp [intOf] <;> omega
       ·have HLv := hid hv
        have hpw : p ≤ wi.heap.size := by have := HbI.out.size; have := HP.out; omega
        have hba : Below wi.heap.size wi (wi.alloc (.cells (evC e) 60)) := (Below.refl _ _).alloc (Nat.le_refl _) _
        have hsl : SlK encE 27 (wi.alloc (.cells (evC e) 60)) (.slice (some ⟨wi.heap.size, 0, none⟩) 1 1) [e] := ⟨_, _, rfl, Nat.le_refl _, fun _ => ⟨wi.heap.size, 0, rfl, by simp, fun q y hq => by
         have hq0 : q = 0 := by have := (List.getElem?_eq_some_iff.1 hq).1; simp at this; exact this
         subst hq0
         have hy : y = e := by simpa using hq.symm
         subst hy
         intro i u hu
         rw [Blk.cell (Blk.new wi _ _)]
         simpa [encE] using hu⟩⟩
        obtain ⟨u', w3, hr3, ho3, hg3, _⟩ := append_ev p (wi.alloc (.cells (evC e) 60)) u5 _ (HOi.out.keep hba) _ [e] hsl (by have := HLl.out; simp; omega) (Nat.le_trans hpw hba.size)
        have HA := hid hr3
        have HO3 := hid ho3
        have hel3 := HELi.out.below hba HELi.out.lt
        have hne := own_ne_blk (HOi.out.keep hba) hel3 (by decide)
        have HEL3 := hid (show Blk w3 p 38 #[.int .i64 x.k, .string x.a, .string x.b, .string x.c, .string x.d] from (hg3.block p hel3.lt (fun h => hne h.symm)).trans hel3)
        have hb3 := ((HbI.out.trans (hba.mono HbI.out.size))).grown hg3 (Nat.le_trans HbI.out.size hba.size) (fun q hq => by rw [HP.out]; exact ((HOi.out.keep hba).lt q hq).1)
        have HB3 := hid hb3
        have hjm := HJ1.out
        have hw := HW1.out
        clear hlv hv hbi hiN hil hi hpw hba hsl hr3 ho3 hg3 hel3 hne hb3
        go_wp2_with (first
         | (refine' wpList_load_if ?q1 60 (.tmp 7) ?q2 b7 ?q3 _ _ _ _ ?q4 Tryz.underlying60 ?q5 ?q6 ?_; (case q2 => rfl); (case q1 => rfl); (case q3 => rfl); (case q4 => exact HEi.out); (case q5 => rfl); (case q6 => exact (sizeE e)))
         | (refine wpList_val (o := ⟨some 64, _, _, _, _, _⟩) rfl (.slice (some ⟨wi.heap.size, 0, none⟩) 1 1) (wi.alloc (.cells (evC e) 60)) (run_buildSlice_op (vs := #[(0, .agg (evC e))]) rfl (by simp only [List.map_toArray, List.map_cons, List.map_nil]; rfl) (bsEv e wi)) ?_)
         | (at_builtin; refine Lib.wpList_append_run (o := ⟨some 65, _, _, _, _, _⟩) _ rfl _ _ _ _ rfl _ _ rfl rfl _ _ HA.out ?_)
         | fail)
        go_roundw
        case rel => exact ⟨j + 1, by go_num, by omega, by rw [HNx.out, HLv.out, if_pos rfl]; exact HO3.out, HB3.out, HEL3.out⟩
        case measure => simp [intOf] <;> omega
  ·have hjN : j = N := by omega
   rw [hjN, List.take_of_length_le (Nat.le_of_eq HN.out)] at ho
   rw [hjN]
   have HO := hid ho
   clear ho hel hbw
   go_wp2
   go_ret
   exact ⟨_, rfl, by rw [HP.out]; exact HO.out, HBw.out⟩
end Go.Proofs.YtdgglhlofnigkaaGreatDoor
