/-
  The view turns: a slice is laid into a field, or into a map: what it is then. Conditions: lengths.
-/
import Derived.Test.YtdgglhlofnigkaaGreatDoorGrTurn
namespace Go.Proofs.YtdgglhlofnigkaaGreatDoor
open Go.RowKit Go.MapKept Go.Sort
section
variable {own own' : Nat → Option Tg} {R vb b1 b2 b3 b4 b5 : Nat} {X W : World} {V : Vw} {nv lv v : Value}
theorem VIs.above (h : VIs own R X vb V nv lv b1 b2 b3 b4 b5) : R ≤ X.heap.size := by
 have := h.lt vb (by rw [h.self]; simp)
 omega
theorem VIs.newlt (h : VIs own R X vb V nv lv b1 b2 b3 b4 b5) {S : Tg → Prop} (hT : Turns own own' S X W) : ∀ g, own' g ≠ none → R ≤ g ∧ g < W.heap.size := fun g e =>
 ⟨(hT.new g e).elim (fun e2 => (h.lt g e2).1) fun e2 => Nat.le_trans h.above e2, hT.lt h.bound g e⟩
theorem VIs.setNodes {l' : List ByteArray} (h : VIs own R X vb V nv lv b1 b2 b3 b4 b5) (hT : Turns own own' (fun u => u = .nodes) X W) (ho : OwnT own' .nodes enS R 9 1 W v l') :
  VIs own' R (W.setCell ⟨vb, 0, none⟩ v) vb { V with nodes := l' } v lv b1 b2 b3 b4 b5 ∧ Turns own own' (fun u => u = .nodes ∨ u = .self) X (W.setCell ⟨vb, 0, none⟩ v) := by
 have hs := hT.keep _ _ h.self
 have hB : Blk W vb 78 _ := (hT.same vb .self h.self (by simp)).trans h.blk
 have hT2 := Turns.but hs (hT.lt h.bound) (But.setCell W vb 0 v)
 have hT3 := hT.trans hT2
 refine ⟨⟨hs, by simpa using Blk.set_ hB 0 v, ho.turned hT2 (by simp), h.links.turned hT3 (by simp), ?_, ?_, ?_, ?_, ?_, h.newlt hT3⟩, hT3⟩
 ·obtain ⟨f, a, r⟩ := h.lab; exact ⟨f, a, r.turned hT3 (by simp) (by simp)⟩
 ·obtain ⟨f, a, r⟩ := h.out; exact ⟨f, a, r.turned hT3 (by simp) (by simp)⟩
 ·obtain ⟨f, a, r⟩ := h.inn; exact ⟨f, a, r.turned hT3 (by simp) (by simp)⟩
 ·exact h.part.turned hT3 (by simp) (by simp)
 ·obtain ⟨f, a, r⟩ := h.val; exact ⟨f, a, r.turned hT3 (by simp) (by simp)⟩
theorem VIs.setLinks {l' : List Lk} (h : VIs own R X vb V nv lv b1 b2 b3 b4 b5) (hT : Turns own own' (fun u => u = .links) X W) (ho : OwnT own' .links enK R 36 3 W v l') :
  VIs own' R (W.setCell ⟨vb, 1, none⟩ v) vb { V with links := l' } nv v b1 b2 b3 b4 b5 ∧ Turns own own' (fun u => u = .links ∨ u = .self) X (W.setCell ⟨vb, 1, none⟩ v) := by
 have hs := hT.keep _ _ h.self
 have hB : Blk W vb 78 _ := (hT.same vb .self h.self (by simp)).trans h.blk
 have hT2 := Turns.but hs (hT.lt h.bound) (But.setCell W vb 1 v)
 have hT3 := hT.trans hT2
 refine ⟨⟨hs, by simpa using Blk.set_ hB 1 v, h.nodes.turned hT3 (by simp), ho.turned hT2 (by simp), ?_, ?_, ?_, ?_, ?_, h.newlt hT3⟩, hT3⟩
 ·obtain ⟨f, a, r⟩ := h.lab; exact ⟨f, a, r.turned hT3 (by simp) (by simp)⟩
 ·obtain ⟨f, a, r⟩ := h.out; exact ⟨f, a, r.turned hT3 (by simp) (by simp)⟩
 ·obtain ⟨f, a, r⟩ := h.inn; exact ⟨f, a, r.turned hT3 (by simp) (by simp)⟩
 ·exact h.part.turned hT3 (by simp) (by simp)
 ·obtain ⟨f, a, r⟩ := h.val; exact ⟨f, a, r.turned hT3 (by simp) (by simp)⟩
theorem VIs.putLab {x : ByteArray} {l' : List ByteArray} (h : VIs own R X vb V nv lv b1 b2 b3 b4 b5) (hT : Turns own own' (fun u => u = .lab x) X W) (ho : OwnT own' (.lab x) enS R 9 1 W v l') :
  ∃ w2, (Instr.mapUpdate 73 (.map (some b1)) (eS x) v).run Tryz.prog W = .ok () w2 ∧ VIs own' R w2 vb { V with lab := updG V.lab x l' } nv lv b1 b2 b3 b4 b5 ∧ Turns own own' (fun u => u = .lab x ∨ u = .mlab) X w2 ∧ But b1 W w2 := by
 obtain ⟨f, ha, hr0⟩ := h.lab
 obtain ⟨w2, hr, hR2, hT3, hbut⟩ := hr0.put h.bound hT ho (by simp) (fun y z e => by cases e; rfl) keyS Tryz.underlying73
 refine ⟨w2, hr, ⟨hT3.keep _ _ h.self, (hT3.same vb .self h.self (by simp)).trans h.blk, h.nodes.turned hT3 (by simp), h.links.turned hT3 (by simp), ?_, ?_, ?_, ?_, ?_, h.newlt hT3⟩, hT3, hbut⟩
 ·refine ⟨_, fun y => ?_, hR2⟩
  unfold updG
  by_cases hy : y = x
  ·rw [if_pos hy]; exact (if_pos hy).symm
  ·rw [if_neg hy]; exact (ha y).trans (if_neg hy).symm
 ·obtain ⟨f, a, r⟩ := h.out; exact ⟨f, a, r.turned hT3 (by simp) (by simp)⟩
 ·obtain ⟨f, a, r⟩ := h.inn; exact ⟨f, a, r.turned hT3 (by simp) (by simp)⟩
 ·exact h.part.turned hT3 (by simp) (by simp)
 ·obtain ⟨f, a, r⟩ := h.val; exact ⟨f, a, r.turned hT3 (by simp) (by simp)⟩
theorem VIs.putOut {x : ByteArray} {l' : List Lk} (h : VIs own R X vb V nv lv b1 b2 b3 b4 b5) (hT : Turns own own' (fun u => u = .out x) X W) (ho : OwnT own' (.out x) enK R 36 3 W v l') :
  ∃ w2, (Instr.mapUpdate 74 (.map (some b2)) (eS x) v).run Tryz.prog W = .ok () w2 ∧ VIs own' R w2 vb { V with out := updG V.out x l' } nv lv b1 b2 b3 b4 b5 ∧ Turns own own' (fun u => u = .out x ∨ u = .mout) X w2 ∧ But b2 W w2 := by
 obtain ⟨f, ha, hr0⟩ := h.out
 obtain ⟨w2, hr, hR2, hT3, hbut⟩ := hr0.put h.bound hT ho (by simp) (fun y z e => by cases e; rfl) keyS Tryz.underlying74
 refine ⟨w2, hr, ⟨hT3.keep _ _ h.self, (hT3.same vb .self h.self (by simp)).trans h.blk, h.nodes.turned hT3 (by simp), h.links.turned hT3 (by simp), ?_, ?_, ?_, ?_, ?_, h.newlt hT3⟩, hT3, hbut⟩
 ·obtain ⟨f, a, r⟩ := h.lab; exact ⟨f, a, r.turned hT3 (by simp) (by simp)⟩
 ·refine ⟨_, fun y => ?_, hR2⟩
  unfold updG
  by_cases hy : y = x
  ·rw [if_pos hy]; exact (if_pos hy).symm
  ·rw [if_neg hy]; exact (ha y).trans (if_neg hy).symm
 ·obtain ⟨f, a, r⟩ := h.inn; exact ⟨f, a, r.turned hT3 (by simp) (by simp)⟩
 ·exact h.part.turned hT3 (by simp) (by simp)
 ·obtain ⟨f, a, r⟩ := h.val; exact ⟨f, a, r.turned hT3 (by simp) (by simp)⟩
theorem VIs.putInn {x : ByteArray} {l' : List Lk} (h : VIs own R X vb V nv lv b1 b2 b3 b4 b5) (hT : Turns own own' (fun u => u = .inn x) X W) (ho : OwnT own' (.inn x) enK R 36 3 W v l') :
  ∃ w2, (Instr.mapUpdate 74 (.map (some b3)) (eS x) v).run Tryz.prog W = .ok () w2 ∧ VIs own' R w2 vb { V with inn := updG V.inn x l' } nv lv b1 b2 b3 b4 b5 ∧ Turns own own' (fun u => u = .inn x ∨ u = .minn) X w2 ∧ But b3 W w2 := by
 obtain ⟨f, ha, hr0⟩ := h.inn
 obtain ⟨w2, hr, hR2, hT3, hbut⟩ := hr0.put h.bound hT ho (by simp) (fun y z e => by cases e; rfl) keyS Tryz.underlying74
 refine ⟨w2, hr, ⟨hT3.keep _ _ h.self, (hT3.same vb .self h.self (by simp)).trans h.blk, h.nodes.turned hT3 (by simp), h.links.turned hT3 (by simp), ?_, ?_, ?_, ?_, ?_, h.newlt hT3⟩, hT3, hbut⟩
 ·obtain ⟨f, a, r⟩ := h.lab; exact ⟨f, a, r.turned hT3 (by simp) (by simp)⟩
 ·obtain ⟨f, a, r⟩ := h.out; exact ⟨f, a, r.turned hT3 (by simp) (by simp)⟩
 ·refine ⟨_, fun y => ?_, hR2⟩
  unfold updG
  by_cases hy : y = x
  ·rw [if_pos hy]; exact (if_pos hy).symm
  ·rw [if_neg hy]; exact (ha y).trans (if_neg hy).symm
 ·exact h.part.turned hT3 (by simp) (by simp)
 ·obtain ⟨f, a, r⟩ := h.val; exact ⟨f, a, r.turned hT3 (by simp) (by simp)⟩
theorem VIs.putPart {x : El} {l' : List El} (h : VIs own R X vb V nv lv b1 b2 b3 b4 b5) (hT : Turns own own' (fun u => u = .part x) X W) (ho : OwnT own' (.part x) enL R 38 5 W v l') :
  ∃ w2, (Instr.mapUpdate 75 (.map (some b4)) (eE x) v).run Tryz.prog W = .ok () w2 ∧ VIs own' R w2 vb { V with part := updG V.part x (some l') } nv lv b1 b2 b3 b4 b5 ∧ Turns own own' (fun u => u = .part x ∨ u = .mpart) X w2 ∧ But b4 W w2 := by
 obtain ⟨w2, hr, hR2, hT3, hbut⟩ := h.part.put h.bound hT ho (by simp) (fun y z e => by cases e; rfl) keyE.toF Tryz.underlying75
 refine ⟨w2, hr, ⟨hT3.keep _ _ h.self, (hT3.same vb .self h.self (by simp)).trans h.blk, h.nodes.turned hT3 (by simp), h.links.turned hT3 (by simp), ?_, ?_, ?_, ?_, ?_, h.newlt hT3⟩, hT3, hbut⟩
 ·obtain ⟨f, a, r⟩ := h.lab; exact ⟨f, a, r.turned hT3 (by simp) (by simp)⟩
 ·obtain ⟨f, a, r⟩ := h.out; exact ⟨f, a, r.turned hT3 (by simp) (by simp)⟩
 ·obtain ⟨f, a, r⟩ := h.inn; exact ⟨f, a, r.turned hT3 (by simp) (by simp)⟩
 ·exact hR2
 ·obtain ⟨f, a, r⟩ := h.val; exact ⟨f, a, r.turned hT3 (by simp) (by simp)⟩
theorem VIs.putVal {x : El} {l' : List Va} (h : VIs own R X vb V nv lv b1 b2 b3 b4 b5) (hT : Turns own own' (fun u => u = .val x) X W) (ho : OwnT own' (.val x) enW R 43 3 W v l') :
  ∃ w2, (Instr.mapUpdate 76 (.map (some b5)) (eE x) v).run Tryz.prog W = .ok () w2 ∧ VIs own' R w2 vb { V with val := updG V.val x l' } nv lv b1 b2 b3 b4 b5 ∧ Turns own own' (fun u => u = .val x ∨ u = .mval) X w2 ∧ But b5 W w2 := by
 obtain ⟨f, ha, hr0⟩ := h.val
 obtain ⟨w2, hr, hR2, hT3, hbut⟩ := hr0.put h.bound hT ho (by simp) (fun y z e => by cases e; rfl) keyE.toF Tryz.underlying76
 refine ⟨w2, hr, ⟨hT3.keep _ _ h.self, (hT3.same vb .self h.self (by simp)).trans h.blk, h.nodes.turned hT3 (by simp), h.links.turned hT3 (by simp), ?_, ?_, ?_, ?_, ?_, h.newlt hT3⟩, hT3, hbut⟩
 ·obtain ⟨f, a, r⟩ := h.lab; exact ⟨f, a, r.turned hT3 (by simp) (by simp)⟩
 ·obtain ⟨f, a, r⟩ := h.out; exact ⟨f, a, r.turned hT3 (by simp) (by simp)⟩
 ·obtain ⟨f, a, r⟩ := h.inn; exact ⟨f, a, r.turned hT3 (by simp) (by simp)⟩
 ·exact h.part.turned hT3 (by simp) (by simp)
 ·refine ⟨_, fun y => ?_, hR2⟩
  unfold updG
  by_cases hy : y = x
  ·rw [if_pos hy]; exact (if_pos hy).symm
  ·rw [if_neg hy]; exact (ha y).trans (if_neg hy).symm
theorem VIs.lookLab (h : VIs own R X vb V nv lv b1 b2 b3 b4 b5) (x : ByteArray) : ∃ v, OwnT own (.lab x) enS R 9 1 X v (V.lab x) ∧ ∀ W, Below X.heap.size X W → (Instr.lookup 73 (.map (some b1)) (eS x) false).run Tryz.prog W = .ok v W := by
 obtain ⟨f, a, r⟩ := h.lab
 obtain ⟨v, h1, h2⟩ := r.look keyS Tryz.underlying73 zero_Ss x
 rw [a x] at h1
 exact ⟨v, h1, h2⟩
theorem VIs.lookOut (h : VIs own R X vb V nv lv b1 b2 b3 b4 b5) (x : ByteArray) : ∃ v, OwnT own (.out x) enK R 36 3 X v (V.out x) ∧ ∀ W, Below X.heap.size X W → (Instr.lookup 74 (.map (some b2)) (eS x) false).run Tryz.prog W = .ok v W := by
 obtain ⟨f, a, r⟩ := h.out
 obtain ⟨v, h1, h2⟩ := r.look keyS Tryz.underlying74 zero_Ks x
 rw [a x] at h1
 exact ⟨v, h1, h2⟩
theorem VIs.lookInn (h : VIs own R X vb V nv lv b1 b2 b3 b4 b5) (x : ByteArray) : ∃ v, OwnT own (.inn x) enK R 36 3 X v (V.inn x) ∧ ∀ W, Below X.heap.size X W → (Instr.lookup 74 (.map (some b3)) (eS x) false).run Tryz.prog W = .ok v W := by
 obtain ⟨f, a, r⟩ := h.inn
 obtain ⟨v, h1, h2⟩ := r.look keyS Tryz.underlying74 zero_Ks x
 rw [a x] at h1
 exact ⟨v, h1, h2⟩
theorem VIs.lookVal (h : VIs own R X vb V nv lv b1 b2 b3 b4 b5) (x : El) : ∃ v, OwnT own (.val x) enW R 43 3 X v (V.val x) ∧ ∀ W, Below X.heap.size X W → (Instr.lookup 76 (.map (some b5)) (eE x) false).run Tryz.prog W = .ok v W := by
 obtain ⟨f, a, r⟩ := h.val
 obtain ⟨v, h1, h2⟩ := r.look keyE.toF Tryz.underlying76 zero_Vs x
 rw [a x] at h1
 exact ⟨v, h1, h2⟩
theorem VIs.lookPart (h : VIs own R X vb V nv lv b1 b2 b3 b4 b5) (x : El) : ∃ v, OwnT own (.part x) enL R 38 5 X v ((V.part x).getD []) ∧ ∀ W, Below X.heap.size X W → (Instr.lookup 75 (.map (some b4)) (eE x) false).run Tryz.prog W = .ok v W :=
 h.part.look keyE.toF Tryz.underlying75 zero_Es x
end
end Go.Proofs.YtdgglhlofnigkaaGreatDoor
