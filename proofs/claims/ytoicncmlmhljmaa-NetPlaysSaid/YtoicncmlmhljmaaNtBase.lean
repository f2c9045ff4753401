/-
  What a net holds, in memory; what a call that turns a net leaves as it was. Conditions: none.
-/
import Derived.Test.YtoicncmlmhljmaaDkPre
import Derived.Test.YtoicncmlmhljmaaSlK
import Derived.Test.YtoicncmlmhljmaaTurn
import Derived.Test.YtoicncmlmhljmaaLast
import Derived.Laws.CopyRow
namespace Go.Proofs.Ytoicncmlmhljmaa
open Go.RowKit

/-- A parcel: to whom, its bytes, the slice in which they lie, and whether it was turned. -/
structure Pc where
  to : Int
  b : List UInt8
  v : Value
  t : Bool
def encP (p : Pc) : List Value := [.int .i64 p.to, p.v, .bool p.t]
theorem encP_len (p : Pc) : (encP p).length = 3 := rfl
/-- A row of bytes of the call's own. -/
def Ob (R : Nat) (w : World) (v : Value) (l : List UInt8) : Prop := w.ownsRow R 5 1 v l.length (bs l)
def Apart (l : List Value) : Prop := l.Pairwise fun u v => ∀ k, u.ownBlock = some k → v.ownBlock ≠ some k
/-- Block g is a net: its row in the slice v. -/
structure Nt (R : Nat) (w : World) (g : Nat) (v : Value) (l : List Pc) : Prop where
  base : R ≤ g
  blk : Blk w g 49 #[v]
  own : OwnK encP R 52 3 w v l
  row : ∀ p ∈ l, Ob R w p.v p.b
  apart : Apart (l.map Pc.v)
/-- The call turns nothing below R, and no block of another kind than a net's. -/
structure Tn (R : Nat) (w w' : World) : Prop where
  below : Below R w w'
  other : ∀ k t cs, Blk w k t cs → t ≠ 49 → t ≠ 52 → t ≠ 5 → Blk w' k t cs

section
variable {R R' g k : Nat} {e t t' : TypeId} {w w' w1 w2 : World} {v u : Value} {l : List Pc} {n : Nat} {xs : List Value} {cs cs' : Array Value} {b : List UInt8}
theorem own_blk (h : w.ownsRow R e k v n xs) {g : Nat} (hg : v.ownBlock = some g) : R ≤ g ∧ ∃ cs, Blk w g e cs := by
  rcases h.2 with ⟨rfl, _⟩ | ⟨g', cap, cur, rfl, hb, hx, _⟩
  · cases hg
  · cases hg
    exact ⟨hb, cur, hx⟩
theorem own_keep (h : w.ownsRow R e k v n xs) (hk : ∀ g, v.ownBlock = some g → w'.heap[g]? = w.heap[g]?) : w'.ownsRow R e k v n xs := by
  refine ⟨h.1, h.2.elim Or.inl fun ⟨g, cap, cur, hv, hg, hx, r⟩ => Or.inr ⟨g, cap, cur, hv, hg, ?_, r⟩⟩
  rw [hk g (by rw [hv]; rfl)]
  exact hx
theorem own_base (h : w.ownsRow R e k v n xs) (hR : R' ≤ R) : w.ownsRow R' e k v n xs :=
  ⟨h.1, h.2.elim Or.inl fun ⟨g, cap, cur, hv, hg, r⟩ => Or.inr ⟨g, cap, cur, hv, Nat.le_trans hR hg, r⟩⟩
theorem blk_ne (h : Blk w g t cs) (h' : Blk w k t' cs') (hn : t ≠ t') : g ≠ k := by
  rintro rfl
  unfold Blk at h h'
  rw [h] at h'
  simp only [Option.some.injEq, Obj.cells.injEq] at h'
  exact hn h'.2.1
theorem Ob.sl (h : Ob R w v b) : Sl bv w v b := Sl.of_own h
theorem Ob.form (h : Ob R w v b) : ∃ A c, v = .slice A b.length c := (Ob.sl h).form
theorem Ob.keep (h : Ob R w v b) (hb : Below w.heap.size w w') : Ob R w' v b := own_keep h fun g hg => hb.block g (Blk.lt (own_blk h hg).2.choose_spec)
theorem Nt.lt (h : Nt R w g v l) : g < w.heap.size := h.blk.lt
theorem Nt.form (h : Nt R w g v l) : ∃ A c, v = .slice A l.length c := by
  obtain ⟨A, c, rfl, _, _⟩ := h.own.read encP_len
  exact ⟨A, c, rfl⟩
theorem Nt.keep (h : Nt R w g v l) (hb : Below w.heap.size w w') : Nt R w' g v l :=
  ⟨h.base, h.blk.below hb h.lt, own_keep h.own fun g hg => hb.block g (Blk.lt (own_blk h.own hg).2.choose_spec), fun p hp => (h.row p hp).keep hb, h.apart⟩
theorem Nt.at_ (h : Nt R w g v l) : ∃ A c, v = .slice A l.length c ∧ ∀ i (hi : i < l.length), ∃ r, A = some ⟨r, 0, none⟩ ∧ R ≤ r ∧ (∃ cur, Blk w r 52 cur) ∧ w.rangeAt r (i * 3) (encP l[i]) := by
  by_cases hn : l = []
  · obtain ⟨A, c, hv⟩ := h.form
    exact ⟨A, c, hv, fun i hi => by rw [hn] at hi; cases hi⟩
  · obtain ⟨r, cap, cur, hv, hr, hb, _⟩ := h.own.block hn
    refine ⟨_, cap, hv, fun i hi => ⟨r, rfl, hr, ⟨cur, hb⟩, ?_⟩⟩
    obtain ⟨A', c', hv', _, hx⟩ := h.own.read encP_len
    rw [hv] at hv'
    injection hv' with h1
    obtain ⟨b, o, h2, _, h3⟩ := hx hn
    rw [← h1] at h2
    simp only [Option.some.injEq, Addr.mk.injEq] at h2
    obtain ⟨rfl, rfl, _⟩ := h2
    have := h3 i _ (List.getElem?_eq_getElem hi)
    rwa [Nat.zero_add] at this
theorem Tn.refl (R : Nat) (w : World) : Tn R w w := ⟨Below.refl _ _, fun _ _ _ h _ _ _ => h⟩
theorem Tn.trans (h : Tn R w w1) (k : Tn R w1 w2) : Tn R w w2 := ⟨h.below.trans k.below, fun i t cs hb h1 h2 h3 => k.other i t cs (h.other i t cs hb h1 h2 h3) h1 h2 h3⟩
theorem Tn.of_below (h : Below w.heap.size w w') (hR : R ≤ w.heap.size) : Tn R w w' := ⟨h.mono hR, fun _ _ _ hb _ _ _ => hb.below h hb.lt⟩
theorem Tn.then (h : Tn R w w1) (k : Below w1.heap.size w1 w2) (hR : R ≤ w.heap.size) : Tn R w w2 := h.trans (Tn.of_below k (Nat.le_trans hR h.below.size))
/-- One block of a net's turns. -/
theorem Tn.but {q : Nat} (h : But q w w') (hq : R ≤ q) (hR : R ≤ w.heap.size) (hb : Blk w q t cs) (ht : t = 49 ∨ t = 52 ∨ t = 5) : Tn R w w' :=
  ⟨h.below hq hR, fun k t' cs' hk h1 h2 h3 => h.blk hk (blk_ne hk hb (by rcases ht with rfl | rfl | rfl <;> assumption))⟩
theorem Tn.grown {row : Option Nat} (h : w.grownBy w' row) (hR : R ≤ w.heap.size) (hb : ∀ q, row = some q → R ≤ q ∧ ∃ cs, Blk w q t cs) (ht : t = 49 ∨ t = 52 ∨ t = 5) : Tn R w w' :=
  ⟨⟨h.os, h.tape, h.output, h.size, fun k hk => h.block k (by omega) (fun e => by have := (hb k e.symm).1; omega)⟩, fun k t' cs' hk h1 h2 h3 => (h.block k hk.lt (fun e => by
    obtain ⟨_, c2, hb2⟩ := hb k e.symm
    exact blk_ne hk hb2 (by rcases ht with rfl | rfl | rfl <;> assumption) rfl)).trans hk⟩
end

section
variable {P : Program}
/-- copy between two parts of rows, elements of k cells. -/
theorem run_copyK (k : Nat) (w : World) (dT sT ty elem : TypeId) (g o dLen dCap : Nat) (a : Addr) (sLen sCap : Nat) (cur : Array Value) (t : TypeId) (cs : List Value)
    (hu : P.underlying dT = some (.slice elem)) (hs : (P.info? elem).map (·.size) = some k)
    (hg : w.heap[g]? = some (.cells cur t (0, 0))) (hn : cs.length = Nat.min sLen dLen * k)
    (hsrc : ∀ j v, cs[j]? = some v → w.cell? (a.add j) = some v) (hfit : o + cs.length ≤ cur.size) (h1 : ∀ v ∈ cs, v.oneCell' = true) :
    (Builtin.copy_ #[dT, sT] ty #[.slice (some ⟨g, o, none⟩) dLen dCap, .slice (some a) sLen sCap]).run P w =
      .ok (goInt (Nat.min sLen dLen : Nat)) (w.setRow g (cur.toList.take o ++ cs ++ cur.toList.drop (o + cs.length)).toArray) := by
  have hl := run_loadCells_list (P := P) w a cs hsrc
  have hst := run_storeCells_at P g o t cs 0 cur w hg (by simpa using hfit) h1
  cases hq : P.info? elem with
  | none => simp [hq] at hs
  | some i =>
    have hi : i.size = k := by simpa [hq] using hs
    simp [Builtin.copy_, run_underlying hu, Builtin.lenOf, Builtin.firstCells, sizeOf, typeInfo, hq, hi, ← hn, hl, hst]
/-- append onto a slice of the call's own; the source's cells are one each. -/
theorem run_append_K1 {α : Type} {enc : α → List Value} {k : Nat} (hk : ∀ x, (enc x).length = k) (hk0 : 0 < k) (w : World) (base : Nat) (t ty e : TypeId) (i : TypeInfo) (z : Value) (bytes : Nat) (ht : P.underlying t = some (.slice e)) (hi : P.info? e = some i) (hz : i.zero = some z)
    (hsize : i.size = k) (hby : i.bytes = bytes) (hzs : z.cells.size = k) (v : Value) (xs : List α) (hown : OwnK enc base e k w v xs)
    (v2 : Value) (l : List α) (hl : SlK enc k w v2 l) (h1 : ∀ a ∈ l, ∀ u ∈ enc a, u.oneCell' = true)
    (hbytes : (xs.length + l.length) * bytes ≤ 140737488355328) (hnm : xs.length + l.length ≤ 140737488355328) (hbase : base ≤ w.heap.size) :
    ∃ v' w', (Builtin.append_ #[t, t] ty #[v, v2]).run P w = .ok v' w' ∧ OwnK enc base e k w' v' (xs ++ l) ∧ w.grownBy w' v.ownBlock := by
  obtain ⟨A, c, rfl, hlc, hx⟩ := hl
  have h63 : xs.length + l.length ≤ maxLen := by unfold maxLen; omega
  unfold OwnK at hown ⊢
  rw [List.flatMap_append, List.length_append]
  have one : ∀ u ∈ l.flatMap enc, u.oneCell' = true := by intro u hu; obtain ⟨x, hxl, hu⟩ := List.mem_flatMap.1 hu; exact h1 x hxl u hu
  by_cases hn : l = []
  · subst hn
    rcases A with _ | ad
    · refine ⟨v, w, ?_, by simpa using hown, World.grownBy.refl w _⟩
      rcases hown.2 with ⟨hv, h0⟩ | ⟨g, cap, cur, hv, _, _, hnc, _⟩
      · rw [hv]; simp [Builtin.append_, run_underlying ht, sizeOf, typeInfo, hi, Builtin.lenOf, Builtin.firstCells]
      · rw [hv]; simp [Builtin.append_, run_underlying ht, sizeOf, typeInfo, hi, Builtin.lenOf, Builtin.firstCells, hnc, storeCells]
    · obtain ⟨v', w', hr, h2, h3, _⟩ := run_append_own (P := P) w base t ty e i z k bytes ht hi hz hsize hby hzs hk0 v xs.length (xs.flatMap enc) hown ad 0 c [] (by simp) (by simp) (by simp) (by simpa using h63) (by simpa using hbytes) hbase
      exact ⟨v', w', hr, by simpa using h2, h3⟩
  · obtain ⟨b, o, rfl, hb, hcell⟩ := hx hn
    obtain ⟨v', w', hr, h2, h3, _⟩ := run_append_own (P := P) w base t ty e i z k bytes ht hi hz hsize hby hzs hk0 v xs.length (xs.flatMap enc) hown ⟨b, o, none⟩ l.length c (l.flatMap enc) (flat_length hk l)
      (flat_cells hk hk0 hcell) one h63 hbytes hbase
    exact ⟨v', w', hr, h2, h3⟩
end

end Go.Proofs.Ytoicncmlmhljmaa
