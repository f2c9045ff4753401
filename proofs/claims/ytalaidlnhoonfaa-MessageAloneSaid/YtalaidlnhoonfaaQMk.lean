/-
  event.Parse, Bytes, Put: the contracts, by walks. hedgerowref06.Short: the contract, by a walk. Conditions: lengths.
-/
import Derived.Test.YtalaidlnhoonfaaEvNext
namespace Go.Proofs.Ytalaidlnhoonfaa
open Go.RowKit

theorem rNum_le (s : List UInt8 × Bool) (m : Int) : (rNum s m).2.1.length ≤ s.1.length := by
  unfold rNum
  split
  · exact Nat.le_refl _
  · split
    · exact Nat.le_refl _
    · split
      · exact Nat.le_refl _
      · simp
theorem rText_le (s : List UInt8 × Bool) (m : Int) : (rText s m).2.1.length ≤ s.1.length ∧ (rText s m).1.length ≤ s.1.length := by
  have := rNum_le s m
  unfold rText
  split
  · exact ⟨this, by simp⟩
  · split
    · exact ⟨this, by simp⟩
    · simp only [List.length_drop, List.length_take]; omega
theorem pN_le (s : List UInt8 × Bool) (k : Nat) : (pN s k).2.1.length ≤ s.1.length := by
  induction k with
  | zero => exact Nat.le_trans (rNum_le _ _) (rNum_le _ _)
  | succ k ih => exact Nat.le_trans (rNum_le _ _) ih
theorem ba_size (l : List UInt8) : (ba l).size = l.length := by simp [ba, ByteArray.size]
theorem nextE_lens (s : List UInt8 × Bool) (h : s.1.length ≤ 4294967280) : Lens (nextE s) := by
  have h0 := pN_le s 16
  have h4 : (n4 s).2.1.length ≤ s.1.length := Nat.le_trans (rNum_le _ _) h0
  have h5 : (n5 s).2.1.length ≤ s.1.length := Nat.le_trans (rNum_le _ _) h4
  have a6 := rText_le (n5 s).2 mx
  have a7 := rText_le (t6 s).2 mx
  have a8 := rText_le (t7 s).2 mx
  have a9 := rText_le (t8 s).2 mx
  have h10 : (n10 s).2.1.length ≤ (t9 s).2.1.length := rNum_le _ _
  have h11 : (n11 s).2.1.length ≤ (n10 s).2.1.length := rNum_le _ _
  have a12 := rText_le (n11 s).2 mx
  change (t6 s).2.1.length ≤ _ ∧ (t6 s).1.length ≤ _ at a6
  change (t7 s).2.1.length ≤ _ ∧ (t7 s).1.length ≤ _ at a7
  change (t8 s).2.1.length ≤ _ ∧ (t8 s).1.length ≤ _ at a8
  change (t9 s).2.1.length ≤ _ ∧ (t9 s).1.length ≤ _ at a9
  change _ ∧ (t12 s).1.length ≤ _ at a12
  refine ⟨?_, ?_, ?_, ?_, ?_⟩
  · show (ba (t6 s).1).size ≤ _; rw [ba_size]; omega
  · show (ba (t7 s).1).size ≤ _; rw [ba_size]; omega
  · show (ba (t8 s).1).size ≤ _; rw [ba_size]; omega
  · show (ba (t9 s).1).size ≤ _; rw [ba_size]; omega
  · show (ba (t12 s).1).size ≤ _; rw [ba_size]; omega

/-- What Parse answers. -/
def parsC (l : List UInt8) : Int := if rDone (nextS (l, false)) = true then codeI (okB (nextE (l, false))) else 2
def parsE (l : List UInt8) : Ev := if parsC l = 0 then nextE (l, false) else ev0
theorem results_cell_tmp {P : Program} {fn : Func} {p q : Tmp} {ty : TypeId} (h : fn.results = #[.cell p ty, .tmp q]) (tmps : Array Value) (w : World) (g : Nat) (t : TypeId) (cs : Array Value) (fr : Nat × Nat) (d : TypeDesc)
    (hp : tmps.getD p undef = .pointer (some ⟨g, 0, none⟩)) (hg : w.heap[g]? = some (.cells cs t fr))
    (hu : P.underlying ty = some d) (hd : (match d with | .struct _ | .array _ _ => true | _ => false) = true) (hi : (P.info? ty).map (·.size) = some cs.size) :
    (results fn tmps).run P w = .ok (.tuple #[.agg cs, tmps.getD q undef]) w := by
  have hp' : tmps[p]?.getD undef = .pointer (some ⟨g, 0, none⟩) := by simpa using hp
  simp [results, h, hp', asAddr, run_loadVar_row w g t ty cs fr d hg hu hd hi]

end Go.Proofs.Ytalaidlnhoonfaa

namespace Go.Proofs.Ytalaidlnhoonfaa
open Go.RowKit

/-- Aren't its texts too long? -/
def shortB (e : Ev) : Bool := decide (e.a.size + e.b.size + e.cc.size + e.d.size + e.t.size ≤ 300)
/-- Texts that can be. -/
def Fit (e : Ev) : Prop := e.a.size ≤ 140737488355328 ∧ e.b.size ≤ 140737488355328 ∧ e.cc.size ≤ 140737488355328 ∧ e.d.size ≤ 140737488355328 ∧ e.t.size ≤ 140737488355328
theorem short_lens (e : Ev) (h : shortB e = true) : Lens e := by
  unfold shortB at h
  rw [decide_eq_true_eq] at h
  exact ⟨by omega, by omega, by omega, by omega, by omega⟩

set_option maxRecDepth 100000 in
set_option maxHeartbeats 1000000 in
theorem short_any (e : Ev) (w : World) (hl : Fit e) : Calls Try.prog 17 #[evV e] w (Gives w (.bool (shortB e))) := by
  obtain ⟨r, c, p, op, ek, a, b, cc, d, vk, vn, t⟩ := e
  obtain ⟨l1, l2, l3, l4, l5⟩ := hl
  dsimp only at l1 l2 l3 l4 l5
  have HS : Hid (shortB ⟨r, c, p, op, ek, a, b, cc, d, vk, vn, t⟩ = decide ((a.size : Int) + b.size + cc.size + d.size + t.size ≤ 300)) := Lib.hid (by unfold shortB; exact decide_eq_decide.2 (by dsimp only; omega))
  have hk := EB.new_ w ⟨r, c, p, op, ek, a, b, cc, d, vk, vn, t⟩
  have hy : Below w.heap.size w (w.alloc (.cells (evC ⟨r, c, p, op, ek, a, b, cc, d, vk, vn, t⟩) 48)) := (Below.refl _ _).alloc (Nat.le_refl _) _
  obtain ⟨X, hX⟩ : ∃ X, X = w.alloc (.cells (evC ⟨r, c, p, op, ek, a, b, cc, d, vk, vn, t⟩) 48) := ⟨_, rfl⟩
  rw [← hX] at hk hy
  have c1 : X.cell? ⟨w.heap.size, 20, none⟩ = some (.string a) := (Blk.cell hk 20).trans rfl
  have c2 : X.cell? ⟨w.heap.size, 21, none⟩ = some (.string b) := (Blk.cell hk 21).trans rfl
  have c3 : X.cell? ⟨w.heap.size, 22, none⟩ = some (.string cc) := (Blk.cell hk 22).trans rfl
  have c4 : X.cell? ⟨w.heap.size, 23, none⟩ = some (.string d) := (Blk.cell hk 23).trans rfl
  have c5 : X.cell? ⟨w.heap.size, 26, none⟩ = some (.string t) := (Blk.cell hk 26).trans rfl
  have HX := Lib.hid hX
  have HY := Lib.hid hy
  clear hX hk hy
  unfold evV
  go_enter Try.func17, Try.ntmps17
  go_upto_region 1 with fail
  rw [← HX.out]
  go_wp2
  go_ret
  exact ⟨by rw [HS.out]; rfl, HY.out⟩

end Go.Proofs.Ytalaidlnhoonfaa
