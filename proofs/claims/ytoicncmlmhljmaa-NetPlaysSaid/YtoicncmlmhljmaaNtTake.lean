/-
  Take: the contracts, by walks (written by gennt2.py). Conditions: none.
-/
import Derived.Test.YtoicncmlmhljmaaNtTurn
namespace Go.Proofs.Ytoicncmlmhljmaa
open Go.RowKit

/-- Where a part begins. -/
def slK (A : Option Addr) (c lo k : Nat) : Option Addr := if c = lo then A else A.map (·.add (lo * k))
section
variable {P : Program} {k : Nat}
theorem run_sliceK_lo (w : World) (t e : TypeId) (ht : P.underlying t = some (.slice e)) (hi : (P.info? e).map (·.size) = some k) (A : Option Addr) (n c m : Nat) (hm : m ≤ n) :
    (Instr.sliceAt t (.slice A n c) (some (.int .i64 m)) none none).run P w = .ok (.slice (slK A c m k) (n - m) (c - m)) w := by
  cases hq : P.info? e with
  | none => simp [hq] at hi
  | some i =>
    have hs : i.size = k := by simpa [hq] using hi
    simp [Instr.sliceAt, Instr.slice, Instr.sliceBounds, run_underlying ht, bound_ok w m n _ hm, sizeOf, typeInfo, hq, hs, slK]
theorem run_sliceK_hi (w : World) (t e : TypeId) (ht : P.underlying t = some (.slice e)) (hi : (P.info? e).map (·.size) = some k) (A : Option Addr) (n c m : Nat) (hm : m ≤ c) :
    (Instr.sliceAt t (.slice A n c) none (some (.int .i64 m)) none).run P w = .ok (.slice (slK A c 0 k) m c) w := by
  cases hq : P.info? e with
  | none => simp [hq] at hi
  | some i =>
    simp [Instr.sliceAt, Instr.slice, Instr.sliceBounds, run_underlying ht, bound_ok w m c _ hm, sizeOf, typeInfo, hq, slK]
theorem wpList_sliceK_hi {ops : Array Oper} {rest : List Oper} {o : Oper} {a : Act} {w : World} {Q : Exit → Act → World → Prop} (hgd : o.guard = none) (t e : TypeId) (x y : Operand) (ho : o.op = .slice t x none (some y) none)
    (ht : P.underlying t = some (.slice e)) (hi : (P.info? e).map (·.size) = some k) (A : Option Addr) (n c m : Nat) (hx : a.eval x = .slice A n c) (hy : a.eval y = .int .i64 m) (hm : m ≤ c) (hA : slK A c 0 k = A)
    (h : wpList P ops Q rest (a.put o.dst (.slice A m c)) w) : wpList P ops Q (o :: rest) a w :=
  wpList_plain hgd fun _ hK => by
    unfold Oper.wp execOp
    simp only [ho, hx, hy, Option.map_some, Option.map_none, Sem.run_bind, run_sliceK_hi w t e ht hi A n c m hm, Result.andThen_ok, Sem.run_pure, hA]
    exact hK _ _ h
theorem slK_zero (r c k : Nat) : slK (some ⟨r, 0, none⟩) c 0 k = some ⟨r, 0, none⟩ := by
  unfold slK
  split
  · rfl
  · simp [Addr.add_lit]
end
theorem flat_erase {α : Type} {enc : α → List Value} {k : Nat} (hk : ∀ x, (enc x).length = k) (L : List Value) (l : List α) (i : Nat) (hi : i < l.length) (hL : L.take (l.length * k) = l.flatMap enc) :
    (L.take (i * k) ++ (l.drop (i + 1)).flatMap enc ++ L.drop (i * k + ((l.drop (i + 1)).flatMap enc).length)).take ((l.length - 1) * k) = (l.eraseIdx i).flatMap enc := by
  have h1 : L.take (i * k) = (l.take i).flatMap enc := by
    have e : L.take (i * k) = (L.take (l.length * k)).take (i * k) := by rw [List.take_take, Nat.min_eq_left (Nat.mul_le_mul_right _ (Nat.le_of_lt hi))]
    have e2 : l.flatMap enc = (l.take i).flatMap enc ++ (l.drop i).flatMap enc := by rw [← List.flatMap_append, List.take_append_drop]
    rw [e, hL, e2]
    exact List.take_left' (by rw [flat_length hk, List.length_take, Nat.min_eq_left (Nat.le_of_lt hi)])
  rw [h1, ← List.flatMap_append, ← List.eraseIdx_eq_take_drop_succ]
  exact List.take_left' (by rw [flat_length hk, List.length_eraseIdx_of_lt hi])
theorem blk_setCells {g : Nat} {t : TypeId} : ∀ (vs : List Value) (o : Nat) (cs : Array Value) (w : World), Blk w g t cs → ∃ cs', Blk (w.setCells g o vs) g t cs' ∧ cs'.size = cs.size ∧ ∀ j, j < o → cs'[j]? = cs[j]?
  | [], _, cs, _, h => ⟨cs, h, rfl, fun _ _ => rfl⟩
  | v :: vs, o, cs, w, h => by
    obtain ⟨cs', h1, h2, h3⟩ := blk_setCells (t := t) (g := g) vs (o + 1) (cs.setIfInBounds o v) (w.setCell ⟨g, o, none⟩ v) (h.set_ o v)
    refine ⟨cs', h1, by rw [h2]; simp, fun j hj => (h3 j (by omega)).trans ?_⟩
    rw [Array.getElem?_setIfInBounds_ne (by omega)]

/-- A block that is newer than w turns. -/
theorem Tn.new {R q : Nat} {w w1 w2 : World} (h : Tn R w w1) (hb : But q w1 w2) (hq : w.heap.size ≤ q) (hR : R ≤ w.heap.size) : Tn R w w2 :=
  ⟨h.below.trans (hb.below (Nat.le_trans hR hq) (Nat.le_trans hR h.below.size)), fun k t cs hk h1 h2 h3 => hb.blk (h.other k t cs hk h1 h2 h3) (by have := hk.lt; omega)⟩
theorem add16 (a : Nat) (h : a + 1 ≤ 9223372036854775807) (w : World) : (binOp .add 3 (.int .i64 a) (.int .i64 1)).run Try.prog w = .ok (.int .i64 ((a + 1 : Nat) : Int)) w := by
  have hw := IntWalk.i64_in ((a : Int) + 1) (by omega)
  go_simp
/-- What the copy of a Take leaves. -/
structure TakeJ (R g r q cap i : Nat) (l : List Pc) (w : World) (p : Pc) (W : World) : Prop where
  row : ∃ cs, Blk W r 52 cs ∧ cs.size = cap * 3 ∧ cs.toList.take ((l.length - 1) * 3) = (l.eraseIdx i).flatMap encP
  net : Blk W g 49 #[.slice (some ⟨r, 0, none⟩) l.length cap]
  bytes : ∀ x ∈ l, Ob R W x.v x.b
  res : Blk W q 35 #[.int .i64 0, .slice none 0 0]
  out : Blk W (q + 1) 35 #[.int .i64 p.to, p.v]
  tn : Tn R w W
theorem take_facts {R g r q cap i : Nat} {l : List Pc} {w W : World} {p : Pc} (h : TakeJ R g r q cap i l w p W) (hi : i < l.length) (hc : l.length ≤ cap) (hm : cap ≤ maxLen) (hp : p ∈ l) (hR : R ≤ r) (hRg : R ≤ g) (ha : Apart (l.map Pc.v)) :
    W.there r ((l.length - 1) * 3) 3 ∧
    (W.setCells r ((l.length - 1) * 3) [.int .i64 0, .slice none 0 0, .bool false]).cell? ⟨g, 0, none⟩ = some (.slice (some ⟨r, 0, none⟩) l.length cap) ∧
    (W.setCells r ((l.length - 1) * 3) [.int .i64 0, .slice none 0 0, .bool false]).frozen? ⟨g, 0, none⟩ = false ∧
    (((W.setCells r ((l.length - 1) * 3) [.int .i64 0, .slice none 0 0, .bool false]).setCell ⟨g, 0, none⟩ (.slice (some ⟨r, 0, none⟩) (l.length - 1) cap)).cell? ⟨q + 1, 0, none⟩ = some (.int .i64 p.to)) ∧
    (((W.setCells r ((l.length - 1) * 3) [.int .i64 0, .slice none 0 0, .bool false]).setCell ⟨g, 0, none⟩ (.slice (some ⟨r, 0, none⟩) (l.length - 1) cap)).cell? ⟨q + 1, 1, none⟩ = some p.v) ∧
    (((W.setCells r ((l.length - 1) * 3) [.int .i64 0, .slice none 0 0, .bool false]).setCell ⟨g, 0, none⟩ (.slice (some ⟨r, 0, none⟩) (l.length - 1) cap)).there q 0 2) ∧
    Blk (((W.setCells r ((l.length - 1) * 3) [.int .i64 0, .slice none 0 0, .bool false]).setCell ⟨g, 0, none⟩ (.slice (some ⟨r, 0, none⟩) (l.length - 1) cap)).setCells q 0 [.int .i64 p.to, p.v]) q 35 #[.int .i64 p.to, p.v] ∧
    Ob R (((W.setCells r ((l.length - 1) * 3) [.int .i64 0, .slice none 0 0, .bool false]).setCell ⟨g, 0, none⟩ (.slice (some ⟨r, 0, none⟩) (l.length - 1) cap)).setCells q 0 [.int .i64 p.to, p.v]) p.v p.b ∧
    Nt R (((W.setCells r ((l.length - 1) * 3) [.int .i64 0, .slice none 0 0, .bool false]).setCell ⟨g, 0, none⟩ (.slice (some ⟨r, 0, none⟩) (l.length - 1) cap)).setCells q 0 [.int .i64 p.to, p.v]) g (.slice (some ⟨r, 0, none⟩) (l.length - 1) cap) (l.eraseIdx i) ∧
    Tn R W ((W.setCells r ((l.length - 1) * 3) [.int .i64 0, .slice none 0 0, .bool false]).setCell ⟨g, 0, none⟩ (.slice (some ⟨r, 0, none⟩) (l.length - 1) cap)) := by
  obtain ⟨cs, hb, hcs, htk⟩ := h.row
  have hrg : r ≠ g := blk_ne hb h.net (by decide)
  have hrq : r ≠ q := blk_ne hb h.res (by decide)
  have hrq1 : r ≠ q + 1 := blk_ne hb h.out (by decide)
  have hgq : g ≠ q := blk_ne h.net h.res (by decide)
  have hgq1 : g ≠ q + 1 := blk_ne h.net h.out (by decide)
  have hW : R ≤ W.heap.size := Nat.le_trans hR (Nat.le_of_lt hb.lt)
  have hlt : (l.length - 1) * 3 + 3 ≤ cs.size := by rw [hcs]; omega
  obtain ⟨cs2, hb2, hcs2, hold⟩ := blk_setCells [.int .i64 0, .slice none 0 0, .bool false] ((l.length - 1) * 3) cs W hb
  have hB2 := But.setCells W r ((l.length - 1) * 3) [.int .i64 0, .slice none 0 0, .bool false]
  have hT2 : Tn R W (W.setCells r ((l.length - 1) * 3) [.int .i64 0, .slice none 0 0, .bool false]) := Tn.but hB2 hR hW hb (.inr (.inl rfl))
  obtain ⟨W2, hW2⟩ : ∃ W2, W2 = W.setCells r ((l.length - 1) * 3) [.int .i64 0, .slice none 0 0, .bool false] := ⟨_, rfl⟩
  rw [← hW2] at hb2 hB2 hT2 ⊢
  have hg2 : Blk W2 g 49 #[.slice (some ⟨r, 0, none⟩) l.length cap] := hB2.blk h.net (Ne.symm hrg)
  have hq2 : Blk W2 q 35 #[.int .i64 0, .slice none 0 0] := hB2.blk h.res (Ne.symm hrq)
  have ho2 : Blk W2 (q + 1) 35 #[.int .i64 p.to, p.v] := hB2.blk h.out (Ne.symm hrq1)
  have hby2 : ∀ x ∈ l, Ob R W2 x.v x.b := fun x hx => own_keep (h.bytes x hx) fun k hk => by
    rw [hW2]
    obtain ⟨_, c2, hc2⟩ := own_blk (h.bytes x hx) hk
    exact heap_setCells_ne W r _ _ (blk_ne hc2 hb (by decide))
  have htk2 : cs2.toList.take ((l.length - 1) * 3) = (l.eraseIdx i).flatMap encP := by
    rw [← htk]
    apply List.ext_getElem?
    intro j
    rw [List.getElem?_take, List.getElem?_take]
    split
    · rename_i hj
      rw [Array.getElem?_toList, Array.getElem?_toList, hold j hj]
    · rfl
  have hB3 := But.setCell W2 g 0 (.slice (some ⟨r, 0, none⟩) (l.length - 1) cap)
  have hT3 : Tn R W2 (W2.setCell ⟨g, 0, none⟩ (.slice (some ⟨r, 0, none⟩) (l.length - 1) cap)) := Tn.but hB3 hRg (Nat.le_trans hW hT2.below.size) hg2 (.inl rfl)
  have hg3 : Blk (W2.setCell ⟨g, 0, none⟩ (.slice (some ⟨r, 0, none⟩) (l.length - 1) cap)) g 49 #[.slice (some ⟨r, 0, none⟩) (l.length - 1) cap] := by simpa using hg2.set_ 0 _
  have hc0 := hg2.cell 0
  have hf0 := hg2.free 0
  obtain ⟨W3, hW3⟩ : ∃ W3, W3 = W2.setCell ⟨g, 0, none⟩ (.slice (some ⟨r, 0, none⟩) (l.length - 1) cap) := ⟨_, rfl⟩
  rw [← hW3] at hB3 hT3 hg3 ⊢
  have hq3 : Blk W3 q 35 #[.int .i64 0, .slice none 0 0] := hB3.blk hq2 (Ne.symm hgq)
  have ho3 : Blk W3 (q + 1) 35 #[.int .i64 p.to, p.v] := hB3.blk ho2 (Ne.symm hgq1)
  have hb3 : Blk W3 r 52 cs2 := hB3.blk hb2 hrg
  have hby3 : ∀ x ∈ l, Ob R W3 x.v x.b := fun x hx => own_keep (hby2 x hx) fun k hk => by
    rw [hW3]
    obtain ⟨_, c2, hc2⟩ := own_blk (hby2 x hx) hk
    exact Below.heap_setCell W2 ⟨g, 0, none⟩ _ k (blk_ne hc2 hg2 (by decide))
  have hB4 := But.setCells W3 q 0 [.int .i64 p.to, p.v]
  have hby4 : ∀ x ∈ l, Ob R (W3.setCells q 0 [.int .i64 p.to, p.v]) x.v x.b := fun x hx => own_keep (hby3 x hx) fun k hk => by
    obtain ⟨_, c2, hc2⟩ := own_blk (hby3 x hx) hk
    exact heap_setCells_ne W3 q _ _ (blk_ne hc2 hq3 (by decide))
  have hl1 : (l.eraseIdx i).length = l.length - 1 := List.length_eraseIdx_of_lt hi
  refine ⟨fun j hj => ⟨?_, hb.free _⟩, hc0.trans rfl, hf0, (ho3.cell 0).trans rfl, (ho3.cell 1).trans rfl, fun j hj => ?_, set2_blk hq3, hby4 p hp, ⟨hRg, hB4.blk hg3 hgq, ?_, fun x hx => hby4 x (List.mem_of_mem_eraseIdx hx), ?_⟩, hT2.trans hT3⟩
  · rw [hb.cell]
    rw [Array.getElem?_eq_getElem (by omega)]; rfl
  · rw [Nat.zero_add]
    refine ⟨?_, hq3.free j⟩
    rw [hq3.cell j]
    rcases (show j = 0 ∨ j = 1 by omega) with rfl | rfl <;> rfl
  · have hb4 : Blk (W3.setCells q 0 [.int .i64 p.to, p.v]) r 52 cs2 := hB4.blk hb3 hrq
    unfold OwnK World.ownsRow
    rw [hl1]
    exact ⟨by rw [flat_length encP_len, hl1], .inr ⟨r, cap, cs2, rfl, hR, hb4, by omega, hm, by rw [hcs2, hcs], htk2⟩⟩
  · exact List.Pairwise.sublist ((List.eraseIdx_sublist l i).map Pc.v) ha

set_option maxHeartbeats 1000000 in
theorem ntake_out {R g : Nat} {v : Value} {l : List Pc} (i : Int) (w : World) (h : Nt R w g v l) (hi : ¬ (0 ≤ i ∧ i < l.length)) :
    Calls Try.prog 9 #[.pointer (some ⟨g, 0, none⟩), .int .i64 i] w fun e w' => e = .returned (.tuple #[.agg #[.int .i64 0, .slice none 0 0], .int .i64 5]) ∧ Below w.heap.size w w' := by
  obtain ⟨q, hq⟩ : ∃ q, w.heap.size = q := ⟨_, rfl⟩
  obtain ⟨X, hX⟩ : ∃ X, X = w.alloc (.cells #[.int .i64 0, .slice none 0 0] 35) := ⟨_, rfl⟩
  have hXb : Below w.heap.size w X := by rw [hX]; exact (Below.refl _ _).alloc (Nat.le_refl _) _
  have hB : Blk X q 35 #[.int .i64 0, .slice none 0 0] := by rw [hX, ← hq]; exact Blk.new w _ _
  have HC := Lib.hid (find_out i X (h.keep hXb) hi)
  have HB := Lib.hid (show Blk (X.setCells q 0 [.int .i64 0, .slice none 0 0]) q 35 #[.int .i64 0, .slice none 0 0] from set2_blk hB)
  have HW := Lib.hid (show Below w.heap.size w (X.setCells q 0 [.int .i64 0, .slice none 0 0]) from hXb.trans ((But.setCells X q 0 _).below (Nat.le_of_eq hq) hXb.size))
  have HT := Lib.hid (show X.there q 0 (#[Value.int .i64 0, .slice none 0 0] : Array Value).size from fun j hj => by
    have hj2 : j < 2 := hj
    rw [Nat.zero_add]
    refine ⟨?_, hB.free j⟩
    rw [hB.cell j]
    rcases (show j = 0 ∨ j = 1 by omega) with rfl | rfl <;> rfl)
  have HX := Lib.hid hX
  clear hX hXb h hi hB
  go_enter Try.func9, Try.ntmps9
  go_upto_region 1 with fail
  rw [← HX.out]
  clear hq
  go_wp2_with fail
  refine HC.out.mono ?_
  rintro e w' ⟨rfl, rfl⟩
  go_wp2_with (first
    | (refine wpList_store_mid rfl 35 (.tmp 4) (.tmp 18) rfl q 0 #[.int .i64 0, .slice none 0 0] rfl rfl HT.out sizePc (by simp [Value.oneCell']) ?_)
    | fail)
  refine bodyPost_ret (ret_cell rfl _ _ _ _ _ _ (.int .i64 5) rfl HB.out Try.underlying35 rfl sizePc rfl) rfl ?_
  exact ⟨rfl, HW.out⟩

set_option maxRecDepth 100000 in
set_option maxHeartbeats 4000000 in
theorem ntake_in {R g : Nat} {v : Value} {l : List Pc} (i : Nat) (w : World) (h : Nt R w g v l) (hi : i < l.length) :
    Calls Try.prog 9 #[.pointer (some ⟨g, 0, none⟩), .int .i64 i] w fun e w' => e = .returned (.tuple #[.agg #[.int .i64 l[i].to, l[i].v], .int .i64 0]) ∧ Ob R w' l[i].v l[i].b ∧ (∃ v', Nt R w' g v' (l.eraseIdx i)) ∧ Tn R w w' := by
  obtain ⟨r, cap, cur, rfl, hr, hbk, hlc, hcm, hcs, htk⟩ := h.own.block (fun e => by rw [e] at hi; cases hi)
  obtain ⟨q, hq⟩ : ∃ q, w.heap.size = q := ⟨_, rfl⟩
  obtain ⟨X, hX⟩ : ∃ X, X = w.alloc (.cells #[.int .i64 0, .slice none 0 0] 35) := ⟨_, rfl⟩
  have hXb : Below w.heap.size w X := by rw [hX]; exact (Below.refl _ _).alloc (Nat.le_refl _) _
  have hQ : Blk X q 35 #[.int .i64 0, .slice none 0 0] := by rw [hX, ← hq]; exact Blk.new w _ _
  have hN := h.keep hXb
  have HF := Lib.hid (find_in i X hN hi)
  obtain ⟨A', c', hv', hx⟩ := hN.at_
  injection hv' with e1 e2 e3
  obtain ⟨r', hA, _, _, hra⟩ := hx i hi
  rw [← e1] at hA
  simp only [Option.some.injEq, Addr.mk.injEq, and_true] at hA
  subst hA
  obtain ⟨k0, k1, k2⟩ := at_cells hra
  obtain ⟨p, hp⟩ : ∃ p, p = l[i] := ⟨_, rfl⟩
  rw [← hp] at k0 k1 ⊢
  have hob : Ob R X p.v p.b := by rw [hp]; exact hN.row _ (List.getElem_mem hi)
  obtain ⟨B, d, hpv⟩ := hob.form
  rw [hpv] at k1
  have hpl : p ∈ l := by rw [hp]; exact List.getElem_mem hi
  obtain ⟨Z, hZ⟩ : ∃ Z, Z = X.alloc (.cells #[.int .i64 p.to, .slice B p.b.length d] 35) := ⟨_, rfl⟩
  have hXs : X.heap.size = q + 1 := by rw [hX, ← hq]; simp
  have hZb : Below X.heap.size X Z := by rw [hZ]; exact (Below.refl _ _).alloc (Nat.le_refl _) _
  have hoZ : Blk Z (q + 1) 35 #[.int .i64 p.to, p.v] := by rw [hZ, hpv, ← hXs]; exact Blk.new X _ _
  have hNZ := hN.keep hZb
  have HB := Lib.hid hNZ.blk
  have HQ := Lib.hid (hQ.below hZb hQ.lt)
  have HO := Lib.hid hoZ
  have hwZ : Below w.heap.size w Z := hXb.trans (hZb.mono hXb.size)
  have HRw := Lib.hid (show R ≤ w.heap.size from Nat.le_trans h.base (Nat.le_of_lt h.lt))
  have HTZ := Lib.hid (Tn.of_below hwZ HRw.out)
  have HCur := Lib.hid (show Blk Z r 52 cur from ((show Blk w r 52 cur from hbk).below hwZ (Blk.lt hbk)))
  have HTk := Lib.hid htk
  have HCs := Lib.hid hcs
  have HLc := Lib.hid hlc
  have HBy := Lib.hid hNZ.row
  have HPl := Lib.hid hpl
  have HPv := Lib.hid hpv
  have HR := Lib.hid hr
  have HIl := Lib.hid hi
  have HCm := Lib.hid hcm
  have HXs := Lib.hid hXs
  have HQw := Lib.hid hq
  have HW64 := Lib.hid (show wrap64 ((l.length - 1 : Nat) : Int) = ((l.length - 1 : Nat) : Int) by have := hcm; unfold maxLen at this; rw [IntWalk.wrap64_in] <;> omega)
  have HZ := Lib.hid hZ
  have HX := Lib.hid hX
  have HRg := Lib.hid h.base
  have HAp := Lib.hid h.apart
  have HRq := Lib.hid (show R ≤ q from hq ▸ HRw.out)
  have HA1 := Lib.hid (fun W : World => add16 i (by have := hcm; unfold maxLen at this; omega) W)
  have c0 := hNZ.blk.cell 0
  have h1 : 1 ≤ l.length := by omega
  simp at c0
  clear hX hXb hQ hN e1 e2 e3 hx hra hp hob hpv hpl hZ hXs hZb hoZ hNZ hwZ h hr hbk hlc hcm hcs htk k2
  go_enter Try.func9, Try.ntmps9
  go_upto_region 1 with fail
  rw [← HX.out]
  clear hq
  go_wp2_with fail
  refine HF.out.mono ?_
  rintro e w' ⟨rfl, rfl⟩
  clear hi
  go_upto_region 5 with fail
  rw [← HZ.out]
  clear k0 k1
  go_upto_region 6 with fail
  clear c0
  rw [show ((l.length : Int) - 1) = ((l.length - 1 : Nat) : Int) from by omega, HW64.out, HXs.out]
  refine wp_region_any (by kernel_rfl) ?_
  refine Lt.wpAny_last (pN ([some (.pointer (some ⟨g, 0, none⟩)), some (.pointer (some ⟨g, 0, none⟩)), some (.pointer (some ⟨g, 0, none⟩)), some (.slice (some ⟨r, 0, none⟩) l.length cap), some (.int .i64 i), some (.slice (slK (some ⟨r, 0, none⟩) cap i 3) (l.length - i) (cap - i)), some (.pointer (some ⟨g, 0, none⟩)), some (.pointer (some ⟨g, 0, none⟩)), some (.pointer (some ⟨g, 0, none⟩)), some (.slice (some ⟨r, 0, none⟩) l.length cap), some (.int .i64 i), some (.int .i64 ((i + 1 : Nat) : Int)), some (.slice (slK (some ⟨r, 0, none⟩) cap (i + 1) 3) (l.length - (i + 1)) (cap - (i + 1))), some (undef)]) (fun _ _ _ => True)) _ Z 13 _ (fun _ W => TakeJ R g r q cap i l w p W) (by kernel_rfl) rfl (by kernel_rfl) (by kernel_rfl) (by kernel_rfl) (by kernel_rfl) (pN_keep fun _ _ _ _ _ _ => trivial) ?_ ?_ ?_
  · refine ⟨?_, ?_, ?_, ?_, ?_, ?_, ?_, ?_, ?_, ?_, ?_, ?_, ?_, fun h => absurd h (Nat.lt_irrefl _), trivial⟩
    · intro _ a W hI hun haft hi
      have e0 : a.eval (.tmp 0) = .pointer (some ⟨g, 0, none⟩) := hun 0 (by kernel_rfl)
      exact b_same hi hI rfl _ (run_move_op rfl e0) rfl
    · intro _ a W hI hun haft hi
      have f0 : a.eval (.tmp 30) = .pointer (some ⟨g, 0, none⟩) := haft ⟨0, .data⟩ (by simp) rfl _ _ rfl rfl
      exact b_same hi hI rfl _ (run_nilCheck_op rfl f0) rfl
    · intro _ a W hI hun haft hi
      have f1 : a.eval (.tmp 31) = .pointer (some ⟨g, 0, none⟩) := haft ⟨1, .data⟩ (by simp) rfl _ _ rfl rfl
      exact b_same hi hI rfl _ (run_fieldAddr_any rfl f1 (at_net0 _ _ _)) rfl
    · intro _ a W hI hun haft hi
      have f2 : a.eval (.tmp 32) = .pointer (some ⟨g, 0, none⟩) := haft ⟨2, .data⟩ (by simp) rfl _ _ rfl rfl
      exact b_same hi hI rfl _ (run_load1_op rfl f2 Try.underlying47 rfl ((Blk.below HB.out hI (Blk.lt HB.out)).cell 0)) rfl
    · intro _ a W hI hun haft hi
      have e1 : a.eval (.tmp 1) = .int .i64 i := hun 1 (by kernel_rfl)
      exact b_same hi hI rfl _ (run_move_op rfl e1) rfl
    · intro _ a W hI hun haft hi
      have f3 : a.eval (.tmp 33) = .slice (some ⟨r, 0, none⟩) l.length cap := haft ⟨3, .data⟩ (by simp) rfl _ _ rfl rfl
      have f4 : a.eval (.tmp 34) = .int .i64 i := haft ⟨4, .data⟩ (by simp) rfl _ _ rfl rfl
      exact b_same hi hI rfl _ (run_sllo_op rfl f3 f4 (run_sliceK_lo W _ _ Try.underlying47 sizeSent _ _ _ i (Nat.le_of_lt HIl.out))) rfl
    · intro _ a W hI hun haft hi
      have e0 : a.eval (.tmp 0) = .pointer (some ⟨g, 0, none⟩) := hun 0 (by kernel_rfl)
      exact b_same hi hI rfl _ (run_move_op rfl e0) rfl
    · intro _ a W hI hun haft hi
      have f6 : a.eval (.tmp 36) = .pointer (some ⟨g, 0, none⟩) := haft ⟨6, .data⟩ (by simp) rfl _ _ rfl rfl
      exact b_same hi hI rfl _ (run_nilCheck_op rfl f6) rfl
    · intro _ a W hI hun haft hi
      have f7 : a.eval (.tmp 37) = .pointer (some ⟨g, 0, none⟩) := haft ⟨7, .data⟩ (by simp) rfl _ _ rfl rfl
      exact b_same hi hI rfl _ (run_fieldAddr_any rfl f7 (at_net0 _ _ _)) rfl
    · intro _ a W hI hun haft hi
      have f8 : a.eval (.tmp 38) = .pointer (some ⟨g, 0, none⟩) := haft ⟨8, .data⟩ (by simp) rfl _ _ rfl rfl
      exact b_same hi hI rfl _ (run_load1_op rfl f8 Try.underlying47 rfl ((Blk.below HB.out hI (Blk.lt HB.out)).cell 0)) rfl
    · intro _ a W hI hun haft hi
      have e1 : a.eval (.tmp 1) = .int .i64 i := hun 1 (by kernel_rfl)
      exact b_same hi hI rfl _ (run_move_op rfl e1) rfl
    · intro _ a W hI hun haft hi
      have f10 : a.eval (.tmp 40) = .int .i64 i := haft ⟨10, .data⟩ (by simp) rfl _ _ rfl rfl
      exact b_same hi hI rfl _ (run_bin_op rfl f10 rfl rfl (HA1.out W)) rfl
    · intro _ a W hI hun haft hi
      have f9 : a.eval (.tmp 39) = .slice (some ⟨r, 0, none⟩) l.length cap := haft ⟨9, .data⟩ (by simp) rfl _ _ rfl rfl
      have f11 : a.eval (.tmp 41) = .int .i64 ((i + 1 : Nat) : Int) := haft ⟨11, .data⟩ (by simp) rfl _ _ rfl rfl
      exact b_same hi hI rfl _ (run_sllo_op rfl f9 f11 (run_sliceK_lo W _ _ Try.underlying47 sizeSent _ _ _ (i + 1) HIl.out)) rfl
  · intro vals a W hI hun hsl hp
    have f5 : a.eval (.tmp 35) = .slice (slK (some ⟨r, 0, none⟩) cap i 3) (l.length - i) (cap - i) := (hsl 5 _ _ rfl (by decide) rfl).trans (hp 5 (by decide))
    have f12 : a.eval (.tmp 42) = .slice (slK (some ⟨r, 0, none⟩) cap (i + 1) 3) (l.length - (i + 1)) (cap - (i + 1)) := (hsl 12 _ _ rfl (by decide) rfl).trans (hp 12 (by decide))
    have hi := HIl.out
    have hlc := HLc.out
    have hcs := HCs.out
    have hcur := HCur.out.below hI HCur.out.lt
    have hS1 : slK (some ⟨r, 0, none⟩) cap i 3 = some ⟨r, i * 3, none⟩ := by unfold slK; rw [if_neg (by omega)]; simp [Addr.add_lit]
    obtain ⟨ad, hS2, hsrc⟩ : ∃ ad, slK (some ⟨r, 0, none⟩) cap (i + 1) 3 = some ad ∧ ∀ j v, ((l.drop (i + 1)).flatMap encP)[j]? = some v → W.cell? (ad.add j) = some v := by
      by_cases he : cap = i + 1
      · have e0 : l.drop (i + 1) = [] := List.drop_eq_nil_of_le (by omega)
        exact ⟨_, by unfold slK; rw [if_pos he], fun j v h => by rw [e0] at h; simp at h⟩
      · refine ⟨⟨r, (i + 1) * 3, none⟩, by unfold slK; rw [if_neg he]; simp [Addr.add_lit], fun j v hjv => ?_⟩
        rw [Addr.add_lit, hcur.cell, ← Array.getElem?_toList]
        have hjl : j < (l.length - (i + 1)) * 3 := by
          have := (List.getElem?_eq_some_iff.1 hjv).1
          rwa [flat_length encP_len, List.length_drop] at this
        have e2 : (cur.toList.take (l.length * 3))[(i + 1) * 3 + j]? = (l.flatMap encP)[(i + 1) * 3 + j]? := by rw [HTk.out]
        rw [List.getElem?_take_of_lt (by omega)] at e2
        rw [e2]
        have e3 : l.flatMap encP = (l.take (i + 1)).flatMap encP ++ (l.drop (i + 1)).flatMap encP := by rw [← List.flatMap_append, List.take_append_drop]
        have e4 : ((l.take (i + 1)).flatMap encP).length = (i + 1) * 3 := by rw [flat_length encP_len, List.length_take]; omega
        rw [e3, List.getElem?_append_right (by omega), e4, Nat.add_sub_cancel_left]
        exact hjv
    rw [hS1] at f5
    rw [hS2] at f12
    have hlen : ((l.drop (i + 1)).flatMap encP).length = (l.length - (i + 1)) * 3 := by rw [flat_length encP_len, List.length_drop]
    have hone : ∀ v ∈ (l.drop (i + 1)).flatMap encP, v.oneCell' = true := by
      intro v hv
      obtain ⟨x, hx, hv⟩ := List.mem_flatMap.1 hv
      by_cases hxu : v = x.v
      · obtain ⟨A2, c2, h2⟩ := (HBy.out x (List.mem_of_mem_drop hx)).form
        rw [hxu, h2]; rfl
      · exact encP_one _ v hv hxu
    have hrun := run_copyK (P := Try.prog) 3 W 47 47 3 _ r (i * 3) (l.length - i) (cap - i) ad (l.length - (i + 1)) (cap - (i + 1)) cur 52 ((l.drop (i + 1)).flatMap encP) Try.underlying47 sizeSent hcur
      (by rw [hlen, show Nat.min (l.length - (i + 1)) (l.length - i) = l.length - (i + 1) from Nat.min_eq_left (by omega)]) hsrc (by rw [hlen, hcs]; omega) hone
    obtain ⟨cs1, hcs1⟩ : ∃ cs1, cs1 = (cur.toList.take (i * 3) ++ (l.drop (i + 1)).flatMap encP ++ cur.toList.drop (i * 3 + ((l.drop (i + 1)).flatMap encP).length)).toArray := ⟨_, rfl⟩
    rw [← hcs1] at hrun
    have hbut : But r W (W.setRow r cs1) := ⟨rfl, rfl, rfl, by simp [World.setRow], fun k hk hne => setRow_other W r k cs1 (fun e => hne (by rw [e]))⟩
    refine wpOp_val rfl rfl _ _ (run_copy_op rfl f5 f12 hrun) ⟨_, rfl, fun _ _ _ => ⟨⟨cs1, setRow_heap W r cur cs1 _ _ hcur, ?_, ?_⟩, ?_, ?_, ?_, ?_, ?_⟩⟩
    · rw [hcs1]; simp only [List.size_toArray, List.length_append, List.length_take, List.length_drop, hlen, Array.length_toList, hcs]; omega
    · rw [hcs1]; exact flat_erase encP_len cur.toList l i hi HTk.out
    · exact hbut.blk (HB.out.below hI HB.out.lt) (blk_ne (HB.out.below hI HB.out.lt) hcur (by decide))
    · intro x hx
      have hox := (HBy.out x hx).keep hI
      exact own_keep hox fun k hk => setRow_other W r k cs1 (by
        obtain ⟨_, c2, hc2⟩ := own_blk hox hk
        exact blk_ne hc2 hcur (by decide))
    · exact hbut.blk (HQ.out.below hI HQ.out.lt) (blk_ne (HQ.out.below hI HQ.out.lt) hcur (by decide))
    · exact hbut.blk (HO.out.below hI HO.out.lt) (blk_ne (HO.out.below hI HO.out.lt) hcur (by decide))
    · exact (HTZ.out.then hI HRw.out).trans (Tn.but hbut HR.out (Nat.le_trans HR.out (Nat.le_of_lt hcur.lt)) hcur (.inr (.inl rfl)))
  · rintro vals W hJ
    obtain ⟨f1, f2, f3, f4, f5, f6, f7, f8, f9, f10⟩ := take_facts hJ HIl.out HLc.out HCm.out HPl.out HR.out HRg.out HAp.out
    have HJt := Lib.hid (hJ.tn.trans f10)
    have HJq := Lib.hid (show q < W.heap.size from hJ.res.lt)
    have G1 := Lib.hid f1
    have G6 := Lib.hid f6
    have G7 := Lib.hid f7
    have G8 := Lib.hid f8
    have G9 := Lib.hid f9
    have d0 := hJ.net.cell 0
    simp at d0
    rw [HPv.out] at f5 G7 G9 G8
    clear hJ f1 f6 f7 f8 f9 f10
    simp only [layN, List.size_toArray, List.length_cons, List.length_nil, List.range, List.range.loop, if_true, List.getElem?_toArray, List.getElem?_cons_zero, List.getElem?_cons_succ, Act.put, List.setIfInBounds_toArray, List.set_cons_zero, List.set_cons_succ, Nat.zero_add, Nat.reduceAdd]
    obtain ⟨m, hm⟩ : ∃ m, m = l.length - 1 := ⟨_, rfl⟩
    obtain ⟨n, hn⟩ : ∃ n, n = l.length := ⟨_, rfl⟩
    rw [← hm] at f2 f3 f4 f5 G1 G6 G7 G8 G9 HJt ⊢
    rw [← hn] at d0 f2 hm h1 ⊢
    have HLn := Lib.hid (show n ≤ cap from hn ▸ HLc.out)
    have HMc := Lib.hid (show m ≤ cap from by have := HLn.out; omega)
    have hm0 : (0 : Int) ≤ (m : Int) := by omega
    have hm1 : (m : Int) < (n : Int) := by omega
    clear hn h1 hm
    have HS0 := Lib.hid (slK_zero r cap 3)
    have F2 := Lib.hid f2
    have F3 := Lib.hid f3
    have F4 := Lib.hid f4
    have F5 := Lib.hid f5
    clear f2 f3 f4 f5
    go_upto_region 7 with fail
    go_upto_region 8 with (first
      | (refine wpList_store_mid (op := ⟨none, .store _ (.tmp 50) (.tmp 49), _, _, _, _⟩) rfl 52 (.tmp 50) (.tmp 49) rfl r (m * 3) #[.int .i64 0, .slice none 0 0, .bool false] rfl rfl G1.out sizeSent (by simp [Value.oneCell']) ?_)
      | fail)
    clear d0
    generalize W.setCells r (m * 3) [.int .i64 0, .slice none 0 0, .bool false] = W2 at *
    have f2 := F2.out
    have f3 := F3.out
    go_upto_region 9 with (first
      | (refine wpList_sliceK_hi (o := ⟨some 57, _, _, _, _, _⟩) rfl _ _ _ _ rfl Try.underlying47 sizeSent (some ⟨r, 0, none⟩) n cap m rfl rfl HMc.out HS0.out ?_)
      | fail)
    clear f2 f3
    generalize W2.setCell ⟨g, 0, none⟩ (.slice (some ⟨r, 0, none⟩) m cap) = W3 at *
    have f4 := F4.out
    have f5 := F5.out
    go_wp2_with (first
      | (refine wpList_store_mid (op := ⟨none, .store _ (.tmp 4) (.tmp 60), _, _, _, _⟩) rfl 35 (.tmp 4) (.tmp 60) rfl q 0 #[.int .i64 p.to, .slice B p.b.length d] rfl rfl G6.out sizePc (by simp [Value.oneCell']) ?_)
      | fail)
    refine bodyPost_ret (ret_cell rfl _ _ _ _ _ _ (.int .i64 0) rfl G7.out Try.underlying35 rfl sizePc rfl) rfl ?_
    refine ⟨by rw [HPv.out], by rw [HPv.out]; exact G8.out, ⟨_, G9.out⟩, ?_⟩
    exact Tn.new HJt.out (But.setCells _ q 0 _) (Nat.le_of_eq HQw.out) HRw.out

end Go.Proofs.Ytoicncmlmhljmaa
