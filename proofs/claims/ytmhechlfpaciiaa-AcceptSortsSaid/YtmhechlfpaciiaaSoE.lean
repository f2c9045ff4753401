/-
  A row of events in memory as an array, exchanged place by place; operations that the stable sort's walks meet. Conditions: lengths.
-/
import Derived.Test.YtmhechlfpaciiaaAcGB
import Derived.Test.YtmhechlfpaciiaaSoM
import Derived.Deep.DeepCutAuto
namespace Go.Proofs.Ytmhechlfpaciiaa
open Go.RowKit Go.MapKept Go.Sort

def vB : Bool → Value → Value
  | true, v => v
  | false, _ => undef
instance : Inhabited Ev := ⟨ev0⟩
/-- A row of events, all else as it was. -/
def RowE (w0 : World) (B g cap N : Nat) (d : Array Ev) (w : World) : Prop := OwnK encE B 39 27 w (.slice (some ⟨g, 0, none⟩) N cap) d.toList ∧ d.size = N ∧ Out (fun i => i = g) w0 w
section
variable {w0 w w' : World} {B g cap N : Nat} {d : Array Ev}
theorem RowE.below (h : RowE w0 B g cap N d w) (hb : Below w.heap.size w w') : RowE w0 B g cap N d w' := ⟨h.1.keep hb, h.2.1, h.2.2.trans' (Out.of_below hb)⟩
theorem RowE.range (h : RowE w0 B g cap N d w) (k : Nat) (hk : k < N) : w.rangeAt g (k * 27) (encE d[k]!) := by
  have hk2 : k < d.size := by rw [h.2.1]; exact hk
  have e : d.toList[k]? = some d[k]! := by rw [Array.getElem?_toList, Array.getElem?_eq_getElem hk2, getElem!_pos d k hk2]
  obtain ⟨g2, hA, _, _, hr⟩ := h.1.at_ encE_len e
  injection hA with hA
  injection hA with hA
  subst hA
  exact hr
theorem RowE.set (h : RowE w0 B g cap N d w) (k : Nat) (hk : k < N) (x : Ev) : w.there g (k * 27) 27 ∧ RowE w0 B g cap N (d.setIfInBounds k x) (w.setCells g (k * 27) (encE x)) := by
  obtain ⟨h1, h2, _⟩ := h.1.put_ encE_len (by decide) (j := k) (by rw [Array.length_toList, h.2.1]; exact hk) x
  refine ⟨h1, ?_, by rw [Array.size_setIfInBounds]; exact h.2.1, out_set h.2.2⟩
  rw [Array.toList_setIfInBounds]
  exact h2
theorem RowE.of (h : OwnK encE B 39 27 w (.slice (some ⟨g, 0, none⟩) N cap) d.toList) (hN : d.size = N) : RowE w B g cap N d w := ⟨h, hN, Out.refl _ _⟩
theorem RowE.then {w1 : World} {d' : Array Ev} (h : RowE w0 B g cap N d w1) (k : RowE w1 B g cap N d' w') : RowE w0 B g cap N d' w' := ⟨k.1, k.2.1, h.2.2.trans' k.2.2⟩
theorem RowE.again (h : RowE w0 B g cap N d w) : RowE w B g cap N d w := ⟨h.1, h.2.1, Out.refl _ _⟩
end
theorem at_EN (g c N k : Nat) (h : k < N) (w : World) : (Instr.indexAt 22 (.slice (some ⟨g, 0, none⟩) N c) (.int .i64 ((k : Nat) : Int))).run Try.prog w = .ok (.pointer (some ⟨g, k * 27, none⟩)) w := by
  have h2 : (k : Int) < N := by omega
  go_simp
theorem add_n (a b : Nat) (h : a + b ≤ 1000000) (w : World) : (binOp .add 3 (.int .i64 (a : Nat)) (.int .i64 (b : Nat))).run Try.prog w = .ok (.int .i64 ((a + b : Nat) : Int)) w := by
  have hi := IntWalk.i64_in ((a : Int) + b) (by omega)
  go_simp
theorem sub_n (a b : Nat) (hb : b ≤ a) (h : a ≤ 1000000) (w : World) : (binOp .sub 3 (.int .i64 (a : Nat)) (.int .i64 (b : Nat))).run Try.prog w = .ok (.int .i64 ((a - b : Nat) : Int)) w := by
  have e : ((a : Int) - b) = ((a - b : Nat) : Int) := by omega
  have hi := IntWalk.i64_in ((a : Int) - b) (by omega)
  have hj := IntWalk.i64_in ((a - b : Nat) : Int) (by omega)
  go_simp
theorem lt_isS (a b : Int) (q : Bool) (h : decide (a < b) = q) (w : World) : (binOp .lss 3 (.int .i64 a) (.int .i64 b)).run Try.prog w = .ok (.bool q) w := by
  subst h; go_simp
theorem gt_isS (a b : Int) (q : Bool) (h : decide (b < a) = q) (w : World) : (binOp .gtr 3 (.int .i64 a) (.int .i64 b)).run Try.prog w = .ok (.bool q) w := by
  subst h; go_simp

end Go.Proofs.Ytmhechlfpaciiaa
