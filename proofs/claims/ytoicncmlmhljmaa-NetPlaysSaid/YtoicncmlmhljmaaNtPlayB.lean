/-
  The law's own row of parcels: what a call leaves of it, what it leaves of a net. Conditions: lengths.
-/
import Derived.Test.YtoicncmlmhljmaaNtFixed
import Derived.Test.YtoicncmlmhljmaaNtSwap
import Derived.Test.YtoicncmlmhljmaaArgsA
import Derived.StillTailTactics
import Derived.Deep.CutBlock
namespace Go.Proofs.Ytoicncmlmhljmaa
open Go.RowKit

def strP (b : List UInt8) : Value := .string ⟨b.toArray⟩
def encR (p : Pc) : List Value := [.int .i64 p.to, .string ⟨p.b.toArray⟩, .bool p.t]
theorem encR_len (p : Pc) : (encR p).length = 3 := rfl
theorem encR_one (p : Pc) : ∀ x ∈ encR p, x.oneCell' = true := by
  intro x hx
  simp only [encR, List.mem_cons, List.not_mem_nil, or_false] at hx
  rcases hx with rfl | rfl | rfl <;> rfl
/-- The law's row. -/
def Lr (R : Nat) (w : World) (u : Value) (l : List Pc) : Prop := OwnK encR R 33 3 w u l
section
variable {R R' g : Nat} {w w' : World} {u u' v : Value} {l l' : List Pc}
theorem Lr.keep (h : Lr R w u l) (hb : Below w.heap.size w w') : Lr R w' u l := own_keep h fun g hg => hb.block g (Blk.lt (own_blk h hg).2.choose_spec)
theorem Lr.tn (h : Lr R w u l) (ht : Tn R' w w') : Lr R w' u l := own_keep h fun g hg => by
  obtain ⟨_, cs, hb⟩ := own_blk h hg
  exact (ht.other g _ cs hb (by decide) (by decide) (by decide)).trans hb.symm
theorem Lr.form (h : Lr R w u l) : ∃ A c, u = .slice A l.length c := by
  obtain ⟨A, c, rfl, _, _⟩ := h.read encR_len
  exact ⟨A, c, rfl⟩
theorem Lr.at_ (h : Lr R w u l) : ∃ A c, u = .slice A l.length c ∧ l.length ≤ c ∧ ∀ i (hi : i < l.length), ∃ r, A = some ⟨r, 0, none⟩ ∧ R ≤ r ∧ (∃ cur, Blk w r 33 cur) ∧ w.rangeAt r (i * 3) (encR l[i]) := by
  by_cases hn : l = []
  · obtain ⟨A, c, hv, hc, _⟩ := h.read encR_len
    exact ⟨A, c, hv, hc, fun i hi => by rw [hn] at hi; cases hi⟩
  · obtain ⟨r, cap, cur, hv, hr, hb, hlc, _⟩ := h.block hn
    refine ⟨_, cap, hv, hlc, fun i hi => ⟨r, rfl, hr, ⟨cur, hb⟩, ?_⟩⟩
    obtain ⟨A', c', hv', _, hx⟩ := h.read encR_len
    rw [hv] at hv'
    injection hv' with h1
    obtain ⟨b, o, h2, _, h3⟩ := hx hn
    rw [← h1] at h2
    simp only [Option.some.injEq, Addr.mk.injEq] at h2
    obtain ⟨rfl, rfl, _⟩ := h2
    have := h3 i _ (List.getElem?_eq_getElem hi)
    rwa [Nat.zero_add] at this
/-- The law's row turns; nothing of the net's. -/
structure Tr (R : Nat) (w w' : World) : Prop where
  below : Below R w w'
  other : ∀ k t cs, Blk w k t cs → t ≠ 33 → Blk w' k t cs
theorem Tr.of_below (h : Below w.heap.size w w') (hR : R ≤ w.heap.size) : Tr R w w' := ⟨h.mono hR, fun _ _ _ hb _ => hb.below h hb.lt⟩
theorem Tr.trans {w1 w2 : World} (h : Tr R w w1) (h2 : Tr R w1 w2) : Tr R w w2 := ⟨h.below.trans h2.below, fun i t cs hb h1 => h2.other i t cs (h.other i t cs hb h1) h1⟩
theorem Tr.grown (h : Lr R w u l) (hg : w.grownBy w' u.ownBlock) (hR : R ≤ w.heap.size) : Tr R w w' :=
  ⟨⟨hg.os, hg.tape, hg.output, hg.size, fun k hk => hg.block k (by omega) (fun e => by have := (own_blk h e.symm).1; omega)⟩, fun _ _ _ hk h1 => (hg.block _ hk.lt (fun e => by
    obtain ⟨_, c2, hb2⟩ := own_blk h e.symm
    exact blk_ne hk hb2 h1 rfl)).trans hk⟩
theorem Tr.but {q : Nat} {cs : Array Value} (h : But q w w') (hq : R ≤ q) (hR : R ≤ w.heap.size) (hb : Blk w q 33 cs) : Tr R w w' :=
  ⟨h.below hq hR, fun _ _ _ hk h1 => h.blk hk (blk_ne hk hb h1)⟩
theorem own_tr {R' k : Nat} {e : TypeId} {n : Nat} {xs : List Value} (he : e ≠ 33) (h : w.ownsRow R' e k v n xs) (ht : Tr R w w') : w'.ownsRow R' e k v n xs := own_keep h fun g hg => by
  obtain ⟨_, cs, hb⟩ := own_blk h hg
  exact (ht.other g _ cs hb he).trans hb.symm
theorem Nt.tr (h : Nt R' w g v l) (ht : Tr R w w') : Nt R' w' g v l :=
  ⟨h.base, ht.other _ _ _ h.blk (by decide), own_tr (by decide) h.own ht, fun p hp => own_tr (by decide) (h.row p hp) ht, h.apart⟩
theorem Nn.tr {w0 : World} (h : Nn w0 w g v l) (ht : Tr w0.heap.size w w') : Nn w0 w' g v l := ⟨h.1.tr ht, h.2.trans ht.below⟩
end

theorem infoLp : (Try.prog.info? 33).map (fun i => (i.zero, i.size, i.bytes)) = some (some (.agg #[.int .i64 0, .string ⟨#[]⟩, .bool false]), 3, 32) := by kernel_rfl
theorem sizeLp : (Try.prog.info? 33).map (·.size) = some 3 := by kernel_rfl
/-- append onto the law's row, whatever the source. -/
theorem append_lr (R : Nat) (w : World) (u : Value) (l : List Pc) (h : Lr R w u l) (hR : R ≤ w.heap.size) (x : Value) (m : List Pc) (hx : SlK encR 3 w x m) (hn : l.length + m.length ≤ 1000) :
    ∃ u' w', (Builtin.append_ #[26, 26] 26 #[u, x]).run Try.prog w = .ok u' w' ∧ Lr R w' u' (l ++ m) ∧ Tr R w w' := by
  obtain ⟨i, hi, hz0, hz1, hz2⟩ := info_parts infoLp
  obtain ⟨u', w', hr, ho, hg⟩ := run_append_K1 (P := Try.prog) encR_len (by decide) w R 26 26 33 i _ 32 Try.underlying26 hi hz0 hz1 hz2 rfl u l h x m hx (fun p _ => encR_one p) (by omega) (by omega) hR
  exact ⟨u', w', hr, ho, Tr.grown h hg hR⟩
theorem sl_lp (p : Pc) (w : World) : SlK encR 3 (w.alloc (.cells #[.int .i64 p.to, .string ⟨p.b.toArray⟩, .bool p.t] 33)) (.slice (some ⟨w.heap.size, 0, none⟩) 1 1) [p] := by
  refine ⟨_, 1, rfl, Nat.le_refl _, fun _ => ⟨w.heap.size, 0, rfl, by simp, fun j x hj => ?_⟩⟩
  have : j = 0 := by
    have := (List.getElem?_eq_some_iff.1 hj).1
    simpa using this
  subst this
  have : x = p := by simpa using hj.symm
  subst this
  intro i u' hu
  have := (Blk.new w 33 #[.int .i64 x.to, .string ⟨x.b.toArray⟩, .bool x.t]).cell i
  rw [show 0 + 0 * 3 + i = i from by omega, this]
  simpa [encR] using hu
/-- append of one parcel just laid. -/
theorem append_lp (R : Nat) (w : World) (u : Value) (l : List Pc) (h : Lr R w u l) (hR : R ≤ w.heap.size) (p : Pc) (hn : l.length ≤ 900) :
    ∃ u' w', (Builtin.append_ #[26, 26] 26 #[u, .slice (some ⟨w.heap.size, 0, none⟩) 1 1]).run Try.prog (w.alloc (.cells #[.int .i64 p.to, .string ⟨p.b.toArray⟩, .bool p.t] 33)) = .ok u' w' ∧ Lr R w' u' (l ++ [p]) ∧ Tr R w w' := by
  have hba : Below w.heap.size w (w.alloc (.cells #[.int .i64 p.to, .string ⟨p.b.toArray⟩, .bool p.t] 33)) := (Below.refl _ _).alloc (Nat.le_refl _) _
  obtain ⟨u', w', hr, h1, h2⟩ := append_lr R _ u l (h.keep hba) (Nat.le_trans hR hba.size) _ [p] (sl_lp p w) (by simp; omega)
  exact ⟨u', w', hr, h1, (Tr.of_below hba hR).trans h2⟩
/-- The law's row as one of the same parcels in other slices. -/
theorem Lr.plain {R : Nat} {w : World} {u : Value} {l l' : List Pc} (h : Lr R w u l) (he : l.map (fun p => (p.to, p.b, p.t)) = l'.map (fun p => (p.to, p.b, p.t))) : Lr R w u l' := by
  have hl : l.length = l'.length := by simpa using congrArg List.length he
  have hf : l.flatMap encR = l'.flatMap encR := by
    have key : ∀ m : List Pc, m.flatMap encR = (m.map (fun p => (p.to, p.b, p.t))).flatMap (fun x => [.int .i64 x.1, .string ⟨x.2.1.toArray⟩, .bool x.2.2]) := fun m => by rw [List.flatMap_map]; rfl
    rw [key, key, he]
  unfold Lr OwnK at *
  rwa [hl, hf] at h

end Go.Proofs.Ytoicncmlmhljmaa
