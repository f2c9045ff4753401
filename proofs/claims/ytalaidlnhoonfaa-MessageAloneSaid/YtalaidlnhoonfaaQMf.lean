/-
  A REGION THAT DRAWS ITS ORDER AND READS, APPENDS AND LAYS BACK (s.f = append(s.f, read(r))): the rule. What hedgerowref14.Parse reads. What message.Parse and hedgerowref14.Parse tell is the same. Conditions: lengths.
-/
import Derived.Test.YtalaidlnhoonfaaOrderLate
import Derived.Test.YtalaidlnhoonfaaMgRefRead
import Derived.Test.YtalaidlnhoonfaaMgRefRight
import Derived.Test.YtalaidlnhoonfaaMgParse
import Derived.Test.YtalaidlnhoonfaaQCd
namespace Go.Proofs.Ytalaidlnhoonfaa.Lt
open Go.RowKit

section
variable {P : Program} {ops : Array Oper} {Q : Exit → Act → World → Prop} {md : Region.Mode}
def invP (K : World → Prop) (J5 : Value → World → Prop) (I3 I0 : World → Prop) (v0 v1 v2 v3 : Value) (S4 : Value → World → Prop) (L : Nat → Bool) (vals : Nat → Value) (w : World) : Prop :=
  if L 7 = true then K w else if L 5 = true then J5 (vals 5) w ∧ (L 6 = true → vals 6 = v0)
  else if L 3 = true then I3 w ∧ vals 3 = v3 ∧ (L 4 = true → S4 (vals 4) w) ∧ (L 0 = true → vals 0 = v0) ∧ (L 1 = true → vals 1 = v1)
  else I0 w ∧ (L 0 = true → vals 0 = v0) ∧ (L 1 = true → vals 1 = v1) ∧ (L 2 = true → vals 2 = v2)
/-- What the operations' order says of those that are done. -/
def Chain (L : Nat → Bool) : Prop := (L 7 = true → L 6 = true ∧ L 5 = true) ∧ (L 6 = true → L 5 = true) ∧ (L 5 = true → L 4 = true ∧ L 1 = true) ∧ (L 4 = true → L 3 = true) ∧ (L 3 = true → L 2 = true) ∧ (L 1 = true → L 0 = true)

theorem wpAny_readapp (K : World → Prop) (J5 : Value → World → Prop) (I3 I0 : World → Prop) (v0 v1 v2 v3 : Value) (S4 : Value → World → Prop) (a0 : Act) (w1 : World) (o0 o1 o2 o3 o4 o5 o6 o7 : Oper) (d0 d1 d2 d3 d4 d5 d6 : Tmp)
    (hops : ops = #[o0, o1, o2, o3, o4, o5, o6, o7]) (e0 : o0.dst = some d0) (e1 : o1.dst = some d1) (e2 : o2.dst = some d2) (e3 : o3.dst = some d3) (e4 : o4.dst = some d4) (e5 : o5.dst = some d5) (e6 : o6.dst = some d6) (e7 : o7.dst = none)
    (hap : apartB ops = true) (hah : aheadB md ops = true) (hin : (List.range ops.size).all (fun i => match ops[i]? with | some o => (match o.dst with | some d => decide (d < a0.tmps.size) | none => true) | none => true) = true)
    (hch : ∀ L : Nat → Bool, (∀ (j : Nat) (oj : Oper), ops[j]? = some oj → L j = true → ∀ e ∈ oj.after, Region.binds md e = true → L e.on = true) → Chain L)
    (a1 : Region.binds md ⟨0, .data⟩ = true) (m1 : ⟨0, .data⟩ ∈ o1.after) (m3 : ⟨2, .data⟩ ∈ o3.after) (m4 : ⟨3, .data⟩ ∈ o4.after) (m51 : ⟨1, .data⟩ ∈ o5.after) (m54 : ⟨4, .data⟩ ∈ o5.after) (m6 : ⟨5, .phase⟩ ∈ o6.after) (b6 : Region.binds md ⟨5, .phase⟩ = true) (m76 : ⟨6, .data⟩ ∈ o7.after) (m75 : ⟨5, .data⟩ ∈ o7.after) (bd : ∀ k, Region.binds md ⟨k, .data⟩ = true)
    (hI : I0 w1.drew)
    (h0 : ∀ (a : Act) (w : World), I0 w ∨ I3 w → (∀ d : Tmp, (ops.all fun o => o.dst != some d) = true → a.eval (.tmp d) = a0.eval (.tmp d)) → ops[0]? = some o0 → wpOp P ops Q 0 (fun a' w' => a' = a.put (some d0) v0 ∧ w' = w) a w)
    (h1 : ∀ (a : Act) (w : World), I0 w ∨ I3 w → a.eval (.tmp d0) = v0 → ops[1]? = some o1 → wpOp P ops Q 1 (fun a' w' => a' = a.put (some d1) v1 ∧ w' = w) a w)
    (h2 : ∀ (a : Act) (w : World), I0 w → (∀ d : Tmp, (ops.all fun o => o.dst != some d) = true → a.eval (.tmp d) = a0.eval (.tmp d)) → ops[2]? = some o2 → wpOp P ops Q 2 (fun a' w' => a' = a.put (some d2) v2 ∧ w' = w) a w)
    (h3 : ∀ (a : Act) (w : World), I0 w → a.eval (.tmp d2) = v2 → ops[3]? = some o3 → wpOp P ops Q 3 (fun a' w' => a' = a.put (some d3) v3 ∧ I3 w') a w)
    (h4 : ∀ (a : Act) (w : World), I3 w → a.eval (.tmp d3) = v3 → ops[4]? = some o4 → wpOp P ops Q 4 (fun a' w' => ∃ v, a' = a.put (some d4) v ∧ I3 w' ∧ S4 v w') a w)
    (h5 : ∀ (a : Act) (w : World) (u : Value), I3 w → S4 u w → a.eval (.tmp d1) = v1 → a.eval (.tmp d4) = u → ops[5]? = some o5 → wpOp P ops Q 5 (fun a' w' => ∃ v, a' = a.put (some d5) v ∧ J5 v w') a w)
    (h6 : ∀ (a : Act) (w : World) (u : Value), J5 u w → (∀ d : Tmp, (ops.all fun o => o.dst != some d) = true → a.eval (.tmp d) = a0.eval (.tmp d)) → ops[6]? = some o6 → wpOp P ops Q 6 (fun a' w' => a' = a.put (some d6) v0 ∧ w' = w) a w)
    (h7 : ∀ (a : Act) (w : World) (u : Value), J5 u w → a.eval (.tmp d6) = v0 → a.eval (.tmp d5) = u → ops[7]? = some o7 → wpOp P ops Q 7 (fun a' w' => ∃ v, a' = a.put none v ∧ K w') a w)
    (hend : ∀ vals w, K w → Q .normal (layN ops (fun _ => true) vals (List.range ops.size) a0) w) :
    wpAny P md ops Q ops.size (Array.replicate ops.size false) a0 w1.drew := by
  have hsz : ops.size = 8 := by rw [hops]; rfl
  refine wpAny_inv (invP K J5 I3 I0 v0 v1 v2 v3 S4) a0 w1.drew hap hah hin (fun L h => ?_) ?_ (fun L vals w hL hI => ?_)
  · unfold invP
    rw [if_neg (by rw [h]; exact Bool.false_ne_true), if_neg (by rw [h]; exact Bool.false_ne_true), if_neg (by rw [h]; exact Bool.false_ne_true)]
    refine ⟨hI, fun g => ?_, fun g => ?_, fun g => ?_⟩ <;> (rw [h] at g; cases g)
  · subst hops
    refine ⟨?_, ?_, ?_, ?_, ?_, ?_, ?_, ?_, trivial⟩
    · intro L vals a w hF hI
      obtain ⟨c7, c6, c5, c4, c3, c1⟩ := hch L hF.closed
      have hop : L 0 = false := hF.open_
      have n5 : ¬ L 5 = true := fun h => by rw [c1 (c5 h).2] at hop; cases hop
      have n7 : ¬ L 7 = true := fun h => n5 (c7 h).2
      unfold invP at hI
      rw [if_neg n7, if_neg n5] at hI
      have hor : I0 w ∨ I3 w := by
        split at hI
        · exact .inr hI.1
        · exact .inl hI.1
      refine wpOp_mono ?_ (h0 a w hor hF.old hF.it)
      rintro a' w' ⟨rfl, rfl⟩
      refine ⟨v0, by rw [e0], fun L' k2 k3 => ?_⟩
      unfold invP
      rw [if_neg (by rw [k2 7 (by decide)]; exact n7), if_neg (by rw [k2 5 (by decide)]; exact n5), k2 3 (by decide)]
      split at hI
      · rename_i h
        rw [if_pos h]
        exact ⟨hI.1, hI.2.1, fun g => hI.2.2.1 (by rw [← k2 4 (by decide)]; exact g), fun _ => rfl, fun g => hI.2.2.2.2 (by rw [← k2 1 (by decide)]; exact g)⟩
      · rename_i h
        rw [if_neg h]
        exact ⟨hI.1, fun _ => rfl, fun g => hI.2.2.1 (by rw [← k2 1 (by decide)]; exact g), fun g => hI.2.2.2 (by rw [← k2 2 (by decide)]; exact g)⟩
    · intro L vals a w hF hI
      obtain ⟨c7, c6, c5, c4, c3, c1⟩ := hch L hF.closed
      have hop : L 1 = false := hF.open_
      have n5 : ¬ L 5 = true := fun h => by rw [(c5 h).2] at hop; cases hop
      have n7 : ¬ L 7 = true := fun h => n5 (c7 h).2
      have l0 : L 0 = true := hF.ahead _ m1 a1
      unfold invP at hI
      rw [if_neg n7, if_neg n5] at hI
      have hor : I0 w ∨ I3 w := by
        split at hI
        · exact .inr hI.1
        · exact .inl hI.1
      have hv : vals 0 = v0 := by
        split at hI
        · exact hI.2.2.2.1 l0
        · exact hI.2.1 l0
      refine wpOp_mono ?_ (h1 a w hor ((hF.slot 0 o0 d0 rfl e0 l0).trans hv) hF.it)
      rintro a' w' ⟨rfl, rfl⟩
      refine ⟨v1, by rw [e1], fun L' k2 k3 => ?_⟩
      unfold invP
      rw [if_neg (by rw [k2 7 (by decide)]; exact n7), if_neg (by rw [k2 5 (by decide)]; exact n5), k2 3 (by decide)]
      split at hI
      · rename_i h
        rw [if_pos h]
        exact ⟨hI.1, hI.2.1, fun g => hI.2.2.1 (by rw [← k2 4 (by decide)]; exact g), fun g => hv, fun _ => rfl⟩
      · rename_i h
        rw [if_neg h]
        exact ⟨hI.1, fun g => hv, fun _ => rfl, fun g => hI.2.2.2 (by rw [← k2 2 (by decide)]; exact g)⟩
    · intro L vals a w hF hI
      obtain ⟨c7, c6, c5, c4, c3, c1⟩ := hch L hF.closed
      have hop : L 2 = false := hF.open_
      have n3 : ¬ L 3 = true := fun h => by rw [c3 h] at hop; cases hop
      have n5 : ¬ L 5 = true := fun h => n3 (c4 (c5 h).1)
      have n7 : ¬ L 7 = true := fun h => n5 (c7 h).2
      unfold invP at hI
      rw [if_neg n7, if_neg n5, if_neg n3] at hI
      refine wpOp_mono ?_ (h2 a w hI.1 hF.old hF.it)
      rintro a' w' ⟨rfl, rfl⟩
      refine ⟨v2, by rw [e2], fun L' k2 k3 => ?_⟩
      unfold invP
      rw [if_neg (by rw [k2 7 (by decide)]; exact n7), if_neg (by rw [k2 5 (by decide)]; exact n5), if_neg (by rw [k2 3 (by decide)]; exact n3)]
      exact ⟨hI.1, fun g => hI.2.1 (by rw [← k2 0 (by decide)]; exact g), fun g => hI.2.2.1 (by rw [← k2 1 (by decide)]; exact g), fun _ => rfl⟩
    · intro L vals a w hF hI
      obtain ⟨c7, c6, c5, c4, c3, c1⟩ := hch L hF.closed
      have hop : L 3 = false := hF.open_
      have n3 : ¬ L 3 = true := fun h => by rw [h] at hop; cases hop
      have n4 : ¬ L 4 = true := fun h => n3 (c4 h)
      have n5 : ¬ L 5 = true := fun h => n4 (c5 h).1
      have n7 : ¬ L 7 = true := fun h => n5 (c7 h).2
      have l2 : L 2 = true := hF.ahead _ m3 (bd 2)
      unfold invP at hI
      rw [if_neg n7, if_neg n5, if_neg n3] at hI
      refine wpOp_mono ?_ (h3 a w hI.1 ((hF.slot 2 o2 d2 rfl e2 l2).trans (hI.2.2.2 l2)) hF.it)
      rintro a' w' ⟨rfl, hi3⟩
      refine ⟨v3, by rw [e3], fun L' k2 k3 => ?_⟩
      unfold invP
      rw [if_neg (by rw [k2 7 (by decide)]; exact n7), if_neg (by rw [k2 5 (by decide)]; exact n5), if_pos k3]
      exact ⟨hi3, rfl, fun g => absurd (by rw [← k2 4 (by decide)]; exact g) n4, fun g => hI.2.1 (by rw [← k2 0 (by decide)]; exact g), fun g => hI.2.2.1 (by rw [← k2 1 (by decide)]; exact g)⟩
    · intro L vals a w hF hI
      obtain ⟨c7, c6, c5, c4, c3, c1⟩ := hch L hF.closed
      have hop : L 4 = false := hF.open_
      have n4 : ¬ L 4 = true := fun h => by rw [h] at hop; cases hop
      have n5 : ¬ L 5 = true := fun h => n4 (c5 h).1
      have n7 : ¬ L 7 = true := fun h => n5 (c7 h).2
      have l3 : L 3 = true := hF.ahead _ m4 (bd 3)
      unfold invP at hI
      rw [if_neg n7, if_neg n5, if_pos l3] at hI
      refine wpOp_mono ?_ (h4 a w hI.1 ((hF.slot 3 o3 d3 rfl e3 l3).trans hI.2.1) hF.it)
      rintro a' w' ⟨v, rfl, hi3, hs⟩
      refine ⟨v, by rw [e4], fun L' k2 k3 => ?_⟩
      unfold invP
      rw [if_neg (by rw [k2 7 (by decide)]; exact n7), if_neg (by rw [k2 5 (by decide)]; exact n5), if_pos (by rw [k2 3 (by decide)]; exact l3)]
      exact ⟨hi3, hI.2.1, fun _ => hs, fun g => hI.2.2.2.1 (by rw [← k2 0 (by decide)]; exact g), fun g => hI.2.2.2.2 (by rw [← k2 1 (by decide)]; exact g)⟩
    · intro L vals a w hF hI
      obtain ⟨c7, c6, c5, c4, c3, c1⟩ := hch L hF.closed
      have hop : L 5 = false := hF.open_
      have n5 : ¬ L 5 = true := fun h => by rw [h] at hop; cases hop
      have n7 : ¬ L 7 = true := fun h => n5 (c7 h).2
      have n6 : ¬ L 6 = true := fun h => n5 (c6 h)
      have l1 : L 1 = true := hF.ahead _ m51 (bd 1)
      have l4 : L 4 = true := hF.ahead _ m54 (bd 4)
      unfold invP at hI
      rw [if_neg n7, if_neg n5, if_pos (c4 l4)] at hI
      refine wpOp_mono ?_ (h5 a w (vals 4) hI.1 (hI.2.2.1 l4) ((hF.slot 1 o1 d1 rfl e1 l1).trans (hI.2.2.2.2 l1)) (hF.slot 4 o4 d4 rfl e4 l4) hF.it)
      rintro a' w' ⟨v, rfl, hj⟩
      refine ⟨v, by rw [e5], fun L' k2 k3 => ?_⟩
      unfold invP
      rw [if_neg (by rw [k2 7 (by decide)]; exact n7), if_pos k3]
      exact ⟨hj, fun g => absurd (by rw [← k2 6 (by decide)]; exact g) n6⟩
    · intro L vals a w hF hI
      obtain ⟨c7, c6, c5, c4, c3, c1⟩ := hch L hF.closed
      have hop : L 6 = false := hF.open_
      have n7 : ¬ L 7 = true := fun h => by rw [(c7 h).1] at hop; cases hop
      have l5 : L 5 = true := hF.ahead _ m6 b6
      unfold invP at hI
      rw [if_neg n7, if_pos l5] at hI
      refine wpOp_mono ?_ (h6 a w (vals 5) hI.1 hF.old hF.it)
      rintro a' w' ⟨rfl, rfl⟩
      refine ⟨v0, by rw [e6], fun L' k2 k3 => ?_⟩
      unfold invP
      rw [if_neg (by rw [k2 7 (by decide)]; exact n7), if_pos (by rw [k2 5 (by decide)]; exact l5)]
      exact ⟨hI.1, fun _ => rfl⟩
    · intro L vals a w hF hI
      obtain ⟨c7, c6, c5, c4, c3, c1⟩ := hch L hF.closed
      have hop : L 7 = false := hF.open_
      have n7 : ¬ L 7 = true := fun h => by rw [h] at hop; cases hop
      have l6 : L 6 = true := hF.ahead _ m76 (bd 6)
      have l5 : L 5 = true := hF.ahead _ m75 (bd 5)
      unfold invP at hI
      rw [if_neg n7, if_pos l5] at hI
      refine wpOp_mono ?_ (h7 a w (vals 5) hI.1 ((hF.slot 6 o6 d6 rfl e6 l6).trans (hI.2 l6)) (hF.slot 5 o5 d5 rfl e5 l5) hF.it)
      rintro a' w' ⟨v, he, hk⟩
      refine ⟨v, by rw [e7]; exact he, fun L' k2 k3 => ?_⟩
      unfold invP
      rw [if_pos k3]
      exact hk
  · unfold invP at hI
    rw [if_pos (hL 7 (by omega))] at hI
    exact hend vals w hI
end

end Go.Proofs.Ytalaidlnhoonfaa.Lt

namespace Go.Proofs.Ytalaidlnhoonfaa
open Go.RowKit

theorem rNum_bad {s : List UInt8 × Bool} (h : s.2 = true) (m : Int) : rNum s m = (0, s) := by unfold rNum; rw [if_pos h]
theorem rText_bad {s : List UInt8 × Bool} (h : s.2 = true) (m : Int) : (rText s m).2 = s := by
  unfold rText
  rw [rNum_bad h, if_pos h]
theorem rSig_bad {s : List UInt8 × Bool} (h : s.2 = true) : (rSig s).2 = s := by
  unfold rSig
  rw [rNum_bad h]
theorem Rr.new (w : World) (A : Option Addr) (n c : Nat) (l : List UInt8) (h : Sl bv w (.slice A n c) l) (hl : l.length ≤ 140737488350000) : Rr (w.alloc (.cells #[.slice A n c, .bool false] 62)) w.heap.size w.heap.size (l, false) := by
  obtain ⟨A', c', hv, h1, h2⟩ := h
  injection hv with e1 e2 e3
  subst e1 e2 e3
  refine ⟨A, c, h1, Nat.le_refl _, hl, fun hn => ?_, Blk.new _ _ _⟩
  obtain ⟨b, o, hA, hb, hc⟩ := h2 hn
  exact ⟨b, o, hA, hb, fun j u hu => (((Below.refl w.heap.size w).alloc (Nat.le_refl _) _).cell (p := ⟨b, o + j, none⟩) hb).trans (hc j u hu)⟩
theorem Rr.flag {w : World} {B g : Nat} {s : List UInt8 × Bool} (h : Rr w B g s) : w.cell? ⟨g, 1, none⟩ = some (.bool s.2) := by
  obtain ⟨A, c, hb, _⟩ := h.sl
  exact (Blk.cell hb 1).trans rfl
theorem Rr.rest {w : World} {B g : Nat} {s : List UInt8 × Bool} (h : Rr w B g s) : ∃ A c, w.cell? ⟨g, 0, none⟩ = some (.slice A s.1.length c) := by
  obtain ⟨A, c, hb, _⟩ := h.sl
  exact ⟨A, c, (Blk.cell hb 0).trans rfl⟩
theorem Rr.grown_ {w w' : World} {B g : Nat} {s : List UInt8 × Bool} {v : Value} {l : List Ev} (h : Rr w B g s) (hg : w.grownBy w' v.ownBlock) (ho : OwnK encE B 48 27 w v l) : Rr w' B g s := by
  obtain ⟨A, c, hb, _⟩ := h.sl
  refine h.kept fun k hk hc => hg.block k hk (fun e => ?_)
  rcases hc with hc | hc
  · have := (ho.lt k e.symm).1; omega
  · subst hc; exact own_ne_blk ho hb (by decide) e.symm
theorem run_storesl_op {P : Program} {o : Oper} {ρ : Operand → Value} {w : World} {ty : TypeId} {x y : Operand} {ad : Addr} {A : Option Addr} {n c : Nat} {u : Value} (ho : o.op = .store ty x y) (hx : ρ x = .pointer (some ad)) (hy : ρ y = .slice A n c) (hi : (P.info? ty).map (·.size) = some 1) (hc : w.cell? ad = some u) (hf : w.frozen? ad = false) :
    (execOp ρ o).run P w = .ok .skip (w.setCell ad (.slice A n c)) := by
  cases hq : P.info? ty with
  | none => simp [hq] at hi
  | some i =>
    have hs : i.size = 1 := by simpa [hq] using hi
    have h2 : (storeVar ty ad (.slice A n c)).run P w = .ok () (w.setCell ad (.slice A n c)) := by
      simp [storeVar, Value.cells, sizeOf, typeInfo, hq, hs, storeCells, run_store P _ _ (.slice A n c) _ rfl, Addr.add_zero', hc, hf, Result.andThen]
    unfold execOp
    simp only [ho, hx, hy, Instr.storeAt, Instr.sureAddr, Sem.run_bind, Sem.run_pure, Result.andThen_ok, h2]
theorem at_mg4 (g : Nat) (w : World) : (Instr.fieldAt 26 (.pointer (some ⟨g, 0, none⟩)) 4).run Try.prog w = .ok (.pointer (some ⟨g, 19, none⟩)) w := by go_simp
theorem sizeSl : (Try.prog.info? 24).map (·.size) = some 1 := by kernel_rfl
end Go.Proofs.Ytalaidlnhoonfaa
namespace Go.Proofs.Ytalaidlnhoonfaa.Rf
open Go.RowKit

/-- The first numbers. -/
def rdP (s : List UInt8 × Bool) : Nat → Mg × (List UInt8 × Bool)
  | 0 => (m0, s)
  | k + 1 => ((rdP s k).1.put k (rNum (rdP s k).2 mq).1, (rNum (rdP s k).2 mq).2)
/-- The first events. -/
def rdL (t : List UInt8 × Bool) : Nat → List Ev × (List UInt8 × Bool)
  | 0 => ([], t)
  | j + 1 => ((rdL t j).1 ++ [nextE (rdL t j).2], nextS (rdL t j).2)
def cnt (s : List UInt8 × Bool) : Nat := (rNum (rdP s 19).2 200).1.toNat
def st (s : List UInt8 × Bool) : List UInt8 × Bool := (rNum (rdP s 19).2 200).2
def refQ (p : List UInt8) : List Ev × (List UInt8 × Bool) := rdL (st (p, false)) (cnt (p, false))
/-- What a payload tells. -/
def refR (p : List UInt8) : Option (Mg × List Ev) :=
  if (refQ p).2.2 = true then none else if (refQ p).2.1.length ≠ 0 then none else if rightM (rdP (p, false) 19).1 (refQ p).1 = true then some ((rdP (p, false) 19).1, (refQ p).1) else none
def refC (l : List UInt8) : Nat := if (Fr.wholeF l).2 ≠ 0 then (Fr.wholeF l).2 else if (refR (Fr.wholeF l).1).isSome then 0 else 2
def refM (l : List UInt8) : Mg × List Ev := if (Fr.wholeF l).2 ≠ 0 then (m0, []) else (refR (Fr.wholeF l).1).getD (m0, [])
/-- What Parse answers, and leaves. -/
def ParsesR (w : World) (l : List UInt8) (e : Ending) (w' : World) : Prop :=
  ∃ A c, e = .returned (.tuple #[mV (refM l).1 (.slice A (refM l).2.length c), .int .i64 (refC l)]) ∧ OwnK encE w.heap.size 48 27 w' (.slice A (refM l).2.length c) (refM l).2 ∧ Below w.heap.size w w'
theorem pN_bad {s : List UInt8 × Bool} (h : s.2 = true) : ∀ k, (pN s k).2 = s
  | 0 => by
    show (n2 s).2 = s
    unfold n2 n1
    rw [rNum_bad h, rNum_bad h]
  | k + 1 => by
    show (rNum (pN s k).2 mq).2 = s
    rw [pN_bad h k, rNum_bad h]
theorem nextS_bad {s : List UInt8 × Bool} (h : s.2 = true) : nextS s = s := by
  have h4 : (n4 s).2 = s := by unfold n4; rw [pN_bad h, rNum_bad h]
  have h5 : (n5 s).2 = s := by unfold n5; rw [h4, rNum_bad h]
  have h6 : (t6 s).2 = s := by unfold t6; rw [h5, rText_bad h]
  have h7 : (t7 s).2 = s := by unfold t7; rw [h6, rText_bad h]
  have h8 : (t8 s).2 = s := by unfold t8; rw [h7, rText_bad h]
  have h9 : (t9 s).2 = s := by unfold t9; rw [h8, rText_bad h]
  have h10 : (n10 s).2 = s := by unfold n10; rw [h9, rNum_bad h]
  have h11 : (n11 s).2 = s := by unfold n11; rw [h10, rSig_bad h]
  unfold nextS t12
  rw [h11, rText_bad h]
theorem rdL_bad {t : List UInt8 × Bool} {j : Nat} (h : (rdL t j).2.2 = true) : ∀ n, j ≤ n → (rdL t n).2.2 = true := by
  intro n
  induction n with
  | zero =>
    intro hn
    have : j = 0 := by omega
    rw [this] at h; exact h
  | succ n ih =>
    intro hn
    by_cases e : j = n + 1
    · rw [← e]; exact h
    · have h1 := ih (by omega)
      show (nextS (rdL t n).2).2 = true
      rw [nextS_bad h1]
      exact h1
theorem rdL_len (t : List UInt8 × Bool) : ∀ j, (rdL t j).1.length = j
  | 0 => rfl
  | j + 1 => by show ((rdL t j).1 ++ [_]).length = _; simp [rdL_len t j]
theorem rdP_le (s : List UInt8 × Bool) : ∀ k, (rdP s k).2.1.length ≤ s.1.length
  | 0 => Nat.le_refl _
  | k + 1 => Nat.le_trans (rNum_le _ _) (rdP_le s k)
theorem pN_le (s : List UInt8 × Bool) (k : Nat) : (pN s k).2.1.length ≤ s.1.length := by
  induction k with
  | zero => exact Nat.le_trans (rNum_le _ _) (rNum_le _ _)
  | succ k ih => exact Nat.le_trans (rNum_le _ _) ih
theorem next_le (s : List UInt8 × Bool) (h : s.1.length ≤ 1000000) : Tiny (nextE s) ∧ (nextS s).1.length ≤ s.1.length := by
  have h0 := pN_le s 16
  have h4 : (n4 s).2.1.length ≤ s.1.length := Nat.le_trans (rNum_le _ _) h0
  have h5 : (n5 s).2.1.length ≤ s.1.length := Nat.le_trans (rNum_le _ _) h4
  have a6 := rText_le (n5 s).2 mt
  have a7 := rText_le (t6 s).2 mt
  have a8 := rText_le (t7 s).2 mt
  have a9 := rText_le (t8 s).2 mt
  have h10 : (n10 s).2.1.length ≤ (t9 s).2.1.length := rNum_le _ _
  have h11 : (n11 s).2.1.length ≤ (n10 s).2.1.length := rNum_le _ _
  have a12 := rText_le (n11 s).2 mt
  change (t6 s).2.1.length ≤ _ ∧ (t6 s).1.length ≤ _ at a6
  change (t7 s).2.1.length ≤ _ ∧ (t7 s).1.length ≤ _ at a7
  change (t8 s).2.1.length ≤ _ ∧ (t8 s).1.length ≤ _ at a8
  change (t9 s).2.1.length ≤ _ ∧ (t9 s).1.length ≤ _ at a9
  change (t12 s).2.1.length ≤ _ ∧ (t12 s).1.length ≤ _ at a12
  refine ⟨⟨?_, ?_, ?_, ?_, ?_⟩, ?_⟩
  · show (ba (t6 s).1).size ≤ _; rw [ba_size]; omega
  · show (ba (t7 s).1).size ≤ _; rw [ba_size]; omega
  · show (ba (t8 s).1).size ≤ _; rw [ba_size]; omega
  · show (ba (t9 s).1).size ≤ _; rw [ba_size]; omega
  · show (ba (t12 s).1).size ≤ _; rw [ba_size]; omega
  · show (t12 s).2.1.length ≤ _; omega
theorem rdL_tiny {t : List UInt8 × Bool} (ht : t.1.length ≤ 1000000) : ∀ j, (rdL t j).2.1.length ≤ t.1.length ∧ ∀ e ∈ (rdL t j).1, Tiny e
  | 0 => ⟨Nat.le_refl _, fun e he => by cases he⟩
  | j + 1 => by
    obtain ⟨h1, h2⟩ := rdL_tiny ht j
    have h3 := next_le (rdL t j).2 (by omega)
    refine ⟨Nat.le_trans h3.2 h1, fun e he => ?_⟩
    rcases List.mem_append.1 he with h | h
    · exact h2 e h
    · rw [List.mem_singleton.1 h]; exact h3.1
theorem cnt_eq (s : List UInt8 × Bool) : (rNum (rdP s 19).2 200).1 = ((cnt s : Nat) : Int) := by
  unfold cnt
  have := (rNum_rng (rdP s 19).2 200).1
  omega
theorem cnt_le (s : List UInt8 × Bool) : cnt s ≤ 200 := by
  unfold cnt
  have := rNum_top (rdP s 19).2 200 (by decide)
  omega

end Go.Proofs.Ytalaidlnhoonfaa.Rf

namespace Go.Proofs.Ytalaidlnhoonfaa
open Go.RowKit

/-- The same, or both spoilt. -/
def Eqv (s s' : List UInt8 × Bool) : Prop := s = s' ∨ (s.2 = true ∧ s'.2 = true)
theorem Eqv.flag {s s' : List UInt8 × Bool} (h : Eqv s s') : s.2 = s'.2 := by
  rcases h with h | h
  · rw [h]
  · rw [h.1, h.2]
theorem num_mx (s : List UInt8 × Bool) : rNum s mx = rNum s Rf.mq := by
  unfold rNum
  split
  · rfl
  · split
    · rfl
    · rename_i n k h
      have := (takeN_some h).1
      rw [if_neg (by unfold mx; omega), if_neg (by unfold Rf.mq; omega)]
theorem num_eqv {s s' : List UInt8 × Bool} (h : Eqv s s') : (rNum s mx).1 = (rNum s' Rf.mq).1 ∧ Eqv (rNum s mx).2 (rNum s' Rf.mq).2 := by
  rcases h with rfl | ⟨h1, h2⟩
  · rw [num_mx]; exact ⟨rfl, .inl rfl⟩
  · rw [rNum_bad h1, rNum_bad h2]; exact ⟨rfl, .inr ⟨h1, h2⟩⟩
theorem sig_eqv {s s' : List UInt8 × Bool} (h : Eqv s s') : (rSig s).1 = (rSig s').1 ∧ Eqv (rSig s).2 (rSig s').2 := by
  rcases h with rfl | ⟨h1, h2⟩
  · exact ⟨rfl, .inl rfl⟩
  · rw [rSig_bad h1, rSig_bad h2]
    refine ⟨?_, .inr ⟨h1, h2⟩⟩
    unfold rSig; rw [rNum_bad h1, rNum_bad h2]
theorem text_bad {s : List UInt8 × Bool} (h : s.2 = true) (m : Int) : rText s m = ([], s) := by
  unfold rText; rw [rNum_bad h, if_pos h]
theorem text_mx (s : List UInt8 × Bool) (hl : s.1.length ≤ 1000000) : (rText s mx).1 = (rText s Rf.mt).1 ∧ Eqv (rText s mx).2 (rText s Rf.mt).2 := by
  by_cases hb : s.2 = true
  · rw [text_bad hb, text_bad hb]; exact ⟨rfl, .inl rfl⟩
  · cases ht : takeN s.1 with
    | none =>
      have h1 : ∀ m, rNum s m = (0, (s.1, true)) := fun m => by unfold rNum; rw [if_neg hb, ht]
      unfold rText
      rw [h1, h1]
      exact ⟨rfl, .inl rfl⟩
    | some q =>
      obtain ⟨n, k⟩ := q
      have hn := (takeN_some ht).1
      have h1 : rNum s mx = ((n : Int), (s.1.drop k, false)) := by
        unfold rNum; rw [if_neg hb, ht]; dsimp only; rw [if_neg (by unfold mx; omega)]
      by_cases hg : 1048576 < n
      · have h2 : rNum s Rf.mt = (0, (s.1, true)) := by
          unfold rNum; rw [if_neg hb, ht]; dsimp only; rw [if_pos (by unfold Rf.mt; omega)]
        unfold rText
        rw [h1, h2]
        have hk : (s.1.drop k).length ≤ s.1.length := by simp
        rw [if_neg (by simp), if_pos (by dsimp only; omega), if_pos rfl]
        exact ⟨rfl, .inr ⟨rfl, rfl⟩⟩
      · have h2 : rNum s Rf.mt = ((n : Int), (s.1.drop k, false)) := by
          unfold rNum; rw [if_neg hb, ht]; dsimp only; rw [if_neg (by unfold Rf.mt; omega)]
        unfold rText
        rw [h1, h2]
        exact ⟨rfl, .inl rfl⟩
theorem text_eqv {s s' : List UInt8 × Bool} (h : Eqv s s') (hl : s.1.length ≤ 1000000) : (rText s mx).1 = (rText s' Rf.mt).1 ∧ Eqv (rText s mx).2 (rText s' Rf.mt).2 := by
  rcases h with rfl | ⟨h1, h2⟩
  · exact text_mx s hl
  · rw [text_bad h1, text_bad h2]; exact ⟨rfl, .inr ⟨h1, h2⟩⟩
theorem pN_eqv {s s' : List UInt8 × Bool} (h : Eqv s s') : ∀ k, (pN s k).1 = (Rf.pN s' k).1 ∧ Eqv (pN s k).2 (Rf.pN s' k).2
  | 0 => ⟨rfl, (num_eqv (num_eqv h).2).2⟩
  | k + 1 => by
    obtain ⟨h1, h2⟩ := pN_eqv h k
    have h3 := num_eqv h2
    refine ⟨?_, h3.2⟩
    funext i
    show (if i = k then (rNum (pN s k).2 mx).1 else (pN s k).1 i) = (if i = k then (rNum (Rf.pN s' k).2 Rf.mq).1 else (Rf.pN s' k).1 i)
    rw [h3.1, h1]
theorem next_eqv {s s' : List UInt8 × Bool} (h : Eqv s s') (hl : s.1.length ≤ 1000000) : nextE s = Rf.nextE s' ∧ Eqv (nextS s) (Rf.nextS s') := by
  have e1 := num_eqv h
  have e2 := num_eqv e1.2
  have e3 := pN_eqv h 16
  have e4 := num_eqv e3.2
  have e5 := num_eqv e4.2
  have l0 := pN_le s 16
  have l4 : (n4 s).2.1.length ≤ s.1.length := Nat.le_trans (rNum_le _ _) l0
  have l5 : (n5 s).2.1.length ≤ s.1.length := Nat.le_trans (rNum_le _ _) l4
  have e6 := text_eqv e5.2 (Nat.le_trans l5 hl)
  have l6 : (t6 s).2.1.length ≤ s.1.length := Nat.le_trans (rText_le (n5 s).2 mx).1 l5
  have e7 := text_eqv e6.2 (Nat.le_trans l6 hl)
  have l7 : (t7 s).2.1.length ≤ s.1.length := Nat.le_trans (rText_le (t6 s).2 mx).1 l6
  have e8 := text_eqv e7.2 (Nat.le_trans l7 hl)
  have l8 : (t8 s).2.1.length ≤ s.1.length := Nat.le_trans (rText_le (t7 s).2 mx).1 l7
  have e9 := text_eqv e8.2 (Nat.le_trans l8 hl)
  have l9 : (t9 s).2.1.length ≤ s.1.length := Nat.le_trans (rText_le (t8 s).2 mx).1 l8
  have e10 := num_eqv e9.2
  have l10 : (n10 s).2.1.length ≤ s.1.length := Nat.le_trans (rNum_le _ _) l9
  have e11 := sig_eqv e10.2
  have l11 : (n11 s).2.1.length ≤ s.1.length := Nat.le_trans (rNum_le _ _) l10
  have e12 := text_eqv e11.2 (Nat.le_trans l11 hl)
  refine ⟨?_, e12.2⟩
  have q1 : (n1 s).1 = (Rf.n1 s').1 := e1.1
  have q2 : (n2 s).1 = (Rf.n2 s').1 := e2.1
  have q4 : (n4 s).1 = (Rf.n4 s').1 := e4.1
  have q5 : (n5 s).1 = (Rf.n5 s').1 := e5.1
  have q6 : (t6 s).1 = (Rf.t6 s').1 := e6.1
  have q7 : (t7 s).1 = (Rf.t7 s').1 := e7.1
  have q8 : (t8 s).1 = (Rf.t8 s').1 := e8.1
  have q9 : (t9 s).1 = (Rf.t9 s').1 := e9.1
  have q10 : (n10 s).1 = (Rf.n10 s').1 := e10.1
  have q11 : (n11 s).1 = (Rf.n11 s').1 := e11.1
  have q12 : (t12 s).1 = (Rf.t12 s').1 := e12.1
  unfold nextE Rf.nextE
  rw [q1, q2, e3.1, q4, q5, q6, q7, q8, q9, q10, q11, q12]
theorem Mg.put_p (m : Mg) (i j : Nat) (x : Int) : (m.put i x).p j = if j = i then x else m.p j := by
  by_cases h0 : i = 0
  · have e : m.put i x = { m with k := x } := if_pos h0
    rw [e]; unfold Mg.p; dsimp only
    repeat' split
    all_goals first | rfl | (exfalso; omega)
  · by_cases h1 : i = 1
    · have e : m.put i x = { m with f := x } := by unfold Mg.put; rw [if_neg h0, if_pos h1]
      rw [e]; unfold Mg.p; dsimp only
      repeat' split
      all_goals first | rfl | (exfalso; omega)
    · by_cases h2 : i = 2
      · have e : m.put i x = { m with t := x } := by unfold Mg.put; rw [if_neg h0, if_neg h1, if_pos h2]
        rw [e]; unfold Mg.p; dsimp only
        repeat' split
        all_goals first | rfl | (exfalso; omega)
      · have e : m.put i x = { m with v := fun j => if j = i - 3 then x else m.v j } := by unfold Mg.put; rw [if_neg h0, if_neg h1, if_neg h2]
        rw [e]; unfold Mg.p; dsimp only
        repeat' split
        all_goals first | rfl | (exfalso; omega)
theorem rightM_big {m : Mg} {i : Nat} (hi : i < 19) (h : 1048576 < m.p i) (l : List Ev) : rightM m l = false := by
  unfold rightM
  by_cases h0 : i = 0
  · subst h0
    change 1048576 < m.k at h
    have : evsB m l = false := by unfold evsB; rw [if_neg (by omega), if_neg (by omega)]
    rw [this, Bool.and_false]
  · by_cases h1 : i = 1
    · subst h1
      change 1048576 < m.f at h
      have : repB m.f = false := decide_eq_false (by omega)
      rw [this]; simp
    · by_cases h2 : i = 2
      · subst h2
        change 1048576 < m.t at h
        have : repB m.t = false := decide_eq_false (by omega)
        rw [this]; simp
      · have hv : m.p i = m.v (i - 3) := by unfold Mg.p; rw [if_neg h0, if_neg h1, if_neg h2]
        rw [hv] at h
        have : rightV m.v = false := by
          cases hq : rightV m.v with
          | false => rfl
          | true => exfalso; have := (right_iff _).1 hq (i - 3) (by omega); omega
        rw [this]; simp
theorem rightM_wrong {m : Mg} {l : List Ev} {e : Ev} (he : e ∈ l) (h : okB e = false) : rightM m l = false := by
  have h1 : l.any (wrongB m.v) = true := List.any_eq_true.2 ⟨e, he, by unfold wrongB; rw [h]; rfl⟩
  have h2 : evsB m l = false := by
    unfold evsB
    rw [h1]
    split
    · refine decide_eq_false fun h0 => ?_
      rw [List.eq_nil_of_length_eq_zero h0] at he
      cases he
    · split
      · simp
      · rfl
  unfold rightM
  rw [h2, Bool.and_false]
theorem rdP_eqv (s : List UInt8 × Bool) : ∀ k, k ≤ 19 → rdP s k = Rf.rdP s k ∨ ((rdP s k).2.2 = true ∧ ((Rf.rdP s k).2.2 = true ∨ ∃ i, i < k ∧ 1048576 < (Rf.rdP s k).1.p i))
  | 0, _ => .inl rfl
  | k + 1, hk => by
    rcases rdP_eqv s k (by omega) with h | ⟨h1, h2⟩
    · show ((rdP s k).1.put k (rNum (rdP s k).2 1048576).1, (rNum (rdP s k).2 1048576).2) = ((Rf.rdP s k).1.put k (rNum (Rf.rdP s k).2 Rf.mq).1, (rNum (Rf.rdP s k).2 Rf.mq).2) ∨ ((rNum (rdP s k).2 1048576).2.2 = true ∧ ((rNum (Rf.rdP s k).2 Rf.mq).2.2 = true ∨ ∃ i, i < k + 1 ∧ 1048576 < ((Rf.rdP s k).1.put k (rNum (Rf.rdP s k).2 Rf.mq).1).p i))
      rw [h]
      generalize (Rf.rdP s k).2 = u
      by_cases hb : u.2 = true
      · rw [rNum_bad hb, rNum_bad hb]; exact .inl rfl
      · cases ht : takeN u.1 with
        | none =>
          have h1 : ∀ m, rNum u m = (0, (u.1, true)) := fun m => by unfold rNum; rw [if_neg hb, ht]
          rw [h1, h1]; exact .inl rfl
        | some q =>
          obtain ⟨n, j⟩ := q
          have hn := (takeN_some ht).1
          have h1 : rNum u Rf.mq = ((n : Int), (u.1.drop j, false)) := by
            unfold rNum; rw [if_neg hb, ht]; dsimp only; rw [if_neg (by unfold Rf.mq; omega)]
          by_cases hg : 1048576 < n
          · have h2 : rNum u 1048576 = (0, (u.1, true)) := by
              unfold rNum; rw [if_neg hb, ht]; dsimp only; rw [if_pos (by omega)]
            rw [h1, h2]
            exact .inr ⟨rfl, .inr ⟨k, Nat.lt_succ_self k, by rw [Mg.put_p, if_pos rfl]; dsimp only; omega⟩⟩
          · have h2 : rNum u 1048576 = ((n : Int), (u.1.drop j, false)) := by
              unfold rNum; rw [if_neg hb, ht]; dsimp only; rw [if_neg (by omega)]
            rw [h1, h2]; exact .inl rfl
    · refine .inr ⟨?_, ?_⟩
      · show (rNum (rdP s k).2 1048576).2.2 = true
        rw [rNum_bad h1]; exact h1
      · rcases h2 with h2 | ⟨i, hi, h2⟩
        · refine .inl ?_
          show (rNum (Rf.rdP s k).2 Rf.mq).2.2 = true
          rw [rNum_bad h2]; exact h2
        · refine .inr ⟨i, by omega, ?_⟩
          show 1048576 < ((Rf.rdP s k).1.put k (rNum (Rf.rdP s k).2 Rf.mq).1).p i
          rw [Mg.put_p, if_neg (by omega)]
          exact h2
theorem rdE_eqv (u : List UInt8 × Bool) (hl : u.1.length ≤ 1000000) : ∀ j, (∃ es t, rdE u j = some (es, t) ∧ (Rf.rdL u j).1 = es ∧ Eqv t (Rf.rdL u j).2) ∨ (rdE u j = none ∧ ((Rf.rdL u j).2.2 = true ∨ ∃ e, e ∈ (Rf.rdL u j).1 ∧ okB e = false))
  | 0 => .inl ⟨[], u, rfl, rfl, .inl rfl⟩
  | j + 1 => by
    rcases rdE_eqv u hl j with ⟨es, t, h1, h2, h3⟩ | ⟨h1, h2⟩
    · have hn := next_eqv h3 (Nat.le_trans (rdE_le h1).2 hl)
      by_cases hr : readC t = true
      · refine .inl ⟨_, _, rdE_yes h1 hr, ?_, hn.2⟩
        show (Rf.rdL u j).1 ++ [Rf.nextE (Rf.rdL u j).2] = _
        rw [h2, hn.1]
      · have hr2 : readC t = false := by simpa using hr
        refine .inr ⟨rdE_no h1 hr2, ?_⟩
        unfold readC at hr2
        cases hf : (nextS t).2 with
        | true =>
          refine .inl ?_
          show (Rf.nextS (Rf.rdL u j).2).2 = true
          rw [← hn.2.flag]; exact hf
        | false =>
          rw [hf] at hr2
          refine .inr ⟨nextE t, ?_, by simpa using hr2⟩
          show _ ∈ (Rf.rdL u j).1 ++ [Rf.nextE (Rf.rdL u j).2]
          rw [hn.1]; simp
    · refine .inr ⟨rdE_none h1 (j + 1) (Nat.le_succ j), ?_⟩
      rcases h2 with h2 | ⟨e, he, h2⟩
      · exact .inl (Rf.rdL_bad h2 (j + 1) (Nat.le_succ j))
      · exact .inr ⟨e, List.mem_append_left _ he, h2⟩
theorem msg_same (p : List UInt8) (hp : p.length ≤ 1000000) : Rf.refR p = msgR p := by
  rcases rdP_eqv (p, false) 19 (Nat.le_refl _) with h | ⟨h1, h2⟩
  · have hc : cntM (p, false) = Rf.cnt (p, false) := by unfold cntM Rf.cnt; rw [h]
    have hs : stM (p, false) = Rf.st (p, false) := by unfold stM Rf.st; rw [h]
    have hl : (Rf.st (p, false)).1.length ≤ 1000000 := Nat.le_trans (rNum_le _ _) (Nat.le_trans (Rf.rdP_le (p, false) 19) hp)
    unfold msgR readM Rf.refR Rf.refQ
    rw [hc, hs, h]
    rcases rdE_eqv (Rf.st (p, false)) hl (Rf.cnt (p, false)) with ⟨es, t, h1, h2, h3⟩ | ⟨h1, h2⟩
    · rw [h1, h2]
      dsimp only
      rcases h3 with h3 | ⟨h3, h4⟩
      · rw [← h3]
        cases hf : t.2 with
        | true =>
          have hd : rDone t = false := by unfold rDone; rw [hf]; simp
          rw [hd, if_pos rfl]; rfl
        | false =>
          rw [if_neg Bool.false_ne_true]
          by_cases h0 : t.1.length = 0
          · have hd : rDone t = true := by unfold rDone; rw [hf]; simp [List.eq_nil_of_length_eq_zero h0]
            rw [hd, if_neg (by omega)]; rfl
          · have hd : rDone t = false := by
              unfold rDone; rw [hf]
              cases ht : t.1 with
              | nil => rw [ht] at h0; exact absurd rfl h0
              | cons a b => simp
            rw [hd, if_pos h0]; rfl
      · have hd : rDone t = false := by unfold rDone; rw [h3]; simp
        rw [h4, hd, if_pos rfl]; rfl
    · rw [h1]
      dsimp only
      rcases h2 with h2 | ⟨e, he, h2⟩
      · rw [if_pos h2]
      · rw [rightM_wrong he h2]
        split
        · rfl
        · split
          · rfl
          · rfl
  · have hb : (stM (p, false)).2 = true := by unfold stM; rw [rNum_bad h1]; exact h1
    have hc : cntM (p, false) = 0 := by unfold cntM; rw [rNum_bad h1]; rfl
    have hm : msgR p = none := by
      unfold msgR readM
      rw [hc]
      have hd : rDone (stM (p, false)) = false := by unfold rDone; rw [hb]; simp
      show (match (match some (([] : List Ev), stM (p, false)) with | none => none | some (es, t) => if rDone t = true then some ((rdP (p, false) 19).1, es) else none) with | none => none | some (m, es) => if rightM m es = true then some (m, es) else none) = none
      dsimp only
      rw [hd]
      rfl
    rw [hm]
    unfold Rf.refR
    rcases h2 with h2 | ⟨i, hi, h2⟩
    · have hs : (Rf.st (p, false)).2 = true := by unfold Rf.st; rw [rNum_bad h2]; exact h2
      have hq : (Rf.refQ p).2.2 = true := Rf.rdL_bad (j := 0) hs _ (Nat.zero_le _)
      rw [if_pos hq]
    · rw [rightM_big hi h2]
      split
      · rfl
      · split
        · rfl
        · rfl
theorem refC_is (l : List UInt8) (hl : l.length ≤ 1000000) : Rf.refC l = msgC l := by
  unfold Rf.refC msgC
  rw [msg_same _ (Nat.le_trans (wholeF_le l) hl)]
theorem refM_is (l : List UInt8) (hl : l.length ≤ 1000000) : Rf.refM l = msgM l := by
  unfold Rf.refM msgM
  rw [msg_same _ (Nat.le_trans (wholeF_le l) hl)]

end Go.Proofs.Ytalaidlnhoonfaa
