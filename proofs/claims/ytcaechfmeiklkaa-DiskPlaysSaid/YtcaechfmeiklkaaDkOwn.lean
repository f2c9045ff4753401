/-
  A disk that a call has made: what it is worth behind each step. Conditions: none.
-/
import Derived.Test.YtcaechfmeiklkaaDkTwin
namespace Go.Proofs.Ytcaechfmeiklkaa
open Go.RowKit

/-- Disk g, made behind world w0, of l and s; nothing that was there in w0 has turned. -/
def Dkn (w0 w : World) (g : Nat) (v : Value) (l : List UInt8) (s : Nat) : Prop :=
  Dk w g v l s ∧ w0.heap.size ≤ g ∧ (∀ k, v.ownBlock = some k → w0.heap.size ≤ k) ∧ Below w0.heap.size w0 w

section
variable {w0 w w' : World} {g : Nat} {v v' : Value} {l l' : List UInt8} {s s' : Nat}
theorem Dkn.dk (h : Dkn w0 w g v l s) : Dk w g v l s := h.1
theorem Dkn.base (h : Dkn w0 w g v l s) : Below w0.heap.size w0 w := h.2.2.2
theorem Dkn.size (h : Dkn w0 w g v l s) : w0.heap.size ≤ w.heap.size := h.2.2.2.size
theorem Dkn.below (h : Dkn w0 w g v l s) (hb : Below w.heap.size w w') : Dkn w0 w' g v l s :=
  ⟨h.1.below hb, h.2.1, h.2.2.1, h.2.2.2.trans (hb.mono h.size)⟩
theorem Dkn.alloc (h : Dkn w0 w g v l s) (o : Obj) : Dkn w0 (w.alloc o) g v l s := h.below ((Below.refl _ _).alloc (Nat.le_refl _) o)
theorem Dkn.drew (h : Dkn w0 w g v l s) : Dkn w0 w.drew g v l s := h.below ((Below.refl _ _).drew)
theorem Dkn.moved (h : Dkn w0 w g v l s) (hm : Mv g v w w' v') : Below w0.heap.size w0 w' := h.base.trans (hm.below h.2.1 h.2.2.1 h.size)
theorem Dkn.turn (h : Dkn w0 w g v l s) (hd : Dk w' g v' l' s') (hm : Mv g v w w' v') : Dkn w0 w' g v' l' s' :=
  ⟨hd, h.2.1, hm.own h.2.2.1 h.size, h.moved hm⟩
theorem Dkn.turns (h : Dkn w0 w g v l s) (ht : Turns w g v l' s' w') : ∃ v', Dkn w0 w' g v' l' s' ∧ Mv g v w w' v' := by
  obtain ⟨v', hd, hm⟩ := ht
  exact ⟨v', h.turn hd hm, hm⟩
theorem Dkn.new (w : World) (hd : Dk w' w.heap.size v l s) (hv : v.ownBlock = none) (hb : Below w.heap.size w w') : Dkn w w' w.heap.size v l s :=
  ⟨hd, Nat.le_refl _, (fun k hk => by rw [hv] at hk; cases hk), hb⟩
/-- The same disk, where less is asked to have stayed. -/
theorem Dkn.mono (h : Dkn w' w g v l s) (hb : Below w0.heap.size w0 w') : Dkn w0 w g v l s :=
  ⟨h.1, Nat.le_trans hb.size h.2.1, fun k hk => Nat.le_trans hb.size (h.2.2.1 k hk), hb.trans (h.2.2.2.mono hb.size)⟩
/-- Another disk turns, whose bytes lie apart. -/
theorem Dkn.far {h2 : Nat} {u : Value} {m : List UInt8} {t : Nat} (h : Dkn w0 w g v l s) (k : Dk w h2 u m t) (hm : Mv h2 u w w' v') (hne : g ≠ h2) (hu : ∀ i, v.ownBlock = some i → u.ownBlock ≠ some i) (hb : Below w0.heap.size w0 w') : Dkn w0 w' g v l s :=
  ⟨hm.far k h.1 hne hu, h.2.1, h.2.2.1, hb⟩
end

/-- A slice just laid. -/
theorem sl_lit (w : World) (l : List UInt8) (cs : Array Value) (t : TypeId) (fr : Nat × Nat) (n : Nat) (hcs : cs = (bs l).toArray) (hn : n = l.length) : Sl bv (w.alloc (.cells cs t fr)) (.slice (some ⟨w.heap.size, 0, none⟩) n n) l := by
  subst hcs hn
  refine ⟨_, _, rfl, Nat.le_refl _, fun _ => ⟨w.heap.size, 0, rfl, by simp, fun j u hu => ?_⟩⟩
  rw [cell_of_row (w.alloc (.cells (bs l).toArray t fr)) w.heap.size (0 + j) (bs l).toArray t fr (heap_alloc_new w _), Nat.zero_add]
  simp [bs, hu]

end Go.Proofs.Ytcaechfmeiklkaa
