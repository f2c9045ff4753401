/-
  value.Parse: the contract, by a walk. Conditions: the world holds the library's tables (WOk); likely's contract at the text is a hypothesis.
-/
import Derived.Test.YtmmphgapginmjaaGreatDoorValParse
namespace Go.Proofs.YtmmphgapginmjaaGreatDoor
open Go.RowKit

def noneV : Value := .tuple #[valV 0 0 ⟨#[]⟩, .bool false]
def parsedV (k n : Int) (u s : ByteArray) : Value := if textB k n u.data.toList = s.data.toList then .tuple #[valV k n u, .bool true] else noneV

theorem str_beq {X Y : ByteArray} {l m : List UInt8} (hX : X.data.toList = l) (hY : Y.data.toList = m) : (X.toList == Y.toList) = decide (l = m) := by
  rw [Lib.toList_data, Lib.toList_data, hX, hY]
  by_cases h : l = m
  · subst h; simp
  · simp [h]

set_option maxHeartbeats 2000000 in
set_option maxRecDepth 100000 in
theorem parse_none (s : ByteArray) (w : World) (h : s.size = 0 ∨ 130 < s.size) : Calls Tryz.prog 46 #[.string s] w (Gives w noneV) := by
  have HB : Hid (∀ o : Obj, Below w.heap.size w (w.alloc o)) := Lib.hid (alloc_below w)
  by_cases h0 : s.size = 0
  · have he : s.toList.isEmpty = true := by
      rw [Lib.toList_data]; have : s.data.toList.length = 0 := by rw [Array.length_toList]; exact h0
      simpa using List.eq_nil_of_length_eq_zero this
    clear h0 h
    go_enter Tryz.func46, Tryz.ntmps46
    go_wp2
    go_returns
    exact ⟨rfl, HB.out _⟩
  · have h1 : 130 < s.size := by omega
    have h1' : ¬ ((s.size : Int) ≤ 130) := by omega
    have h1'' : (130 : Int) < (s.size : Int) := by omega
    have he : s.toList.isEmpty = false := by
      rw [Lib.toList_data]
      cases hl : s.data.toList with
      | nil => exfalso; apply h0; have : s.data.toList.length = s.size := by rw [Array.length_toList]; rfl
               rw [hl] at this; simpa using this.symm
      | cons a t => rfl
    clear h0 h
    go_enter Tryz.func46, Tryz.ntmps46
    go_wp2
    go_returns
    exact ⟨rfl, HB.out _⟩

theorem Blk.three {w : World} {t : TypeId} {a b c : Value} {g : Nat} (h : Blk w g t #[a, b, c]) :
    w.cell? ⟨g, 0, none⟩ = some a ∧ w.cell? ⟨g, 1, none⟩ = some b ∧ w.cell? ⟨g, 2, none⟩ = some c ∧ w.frozen? ⟨g, 0, none⟩ = false ∧ w.frozen? ⟨g, 1, none⟩ = false ∧ w.frozen? ⟨g, 2, none⟩ = false ∧ g < w.heap.size :=
  ⟨by rw [h.cell]; rfl, by rw [h.cell]; rfl, by rw [h.cell]; rfl, h.free 0, h.free 1, h.free 2, h.lt⟩

set_option maxHeartbeats 2000000 in
set_option maxRecDepth 100000 in
theorem parse_any (k n : Int) (u s : ByteArray) (w : World) (hw : WOk w) (h1 : 0 < s.size) (h2 : s.size ≤ 130) (hu : u.size < 4294967281)
    (hl : ∀ W, WOk W → Calls Tryz.prog 64 #[.string s] W (Gives W (valV k n u))) : Calls Tryz.prog 46 #[.string s] w (Gives w (parsedV k n u s)) := by
  have he : s.toList.isEmpty = false := by
    rw [Lib.toList_data]
    cases hl : s.data.toList with
    | nil => exfalso; have : s.data.toList.length = s.size := by rw [Array.length_toList]; rfl
             rw [hl] at this; simp at this; omega
    | cons a t => rfl
  have h2' : ¬ ((130 : Int) < (s.size : Int)) := by omega
  have hwa := fun o => hw.alloc o
  have hwa2 := fun o o' => (hw.alloc o).alloc o'
  go_enter Tryz.func46, Tryz.ntmps46
  go_wp2_with fail
  refine (hl _ (by first | exact hw | exact hwa _ | exact hwa2 _ _)).mono ?_
  rintro e w1 ⟨rfl, hb1⟩
  unfold valV
  have k1 := In1.of hb1
  have W1 : WOk w1 := hw.below k1.below
  obtain ⟨c0, c1, c2, f0, f1, f2, hlt⟩ := k1.three
  have HW : Hid (∀ o : Obj, WOk (w1.alloc o)) := Lib.hid (fun o => W1.alloc o)
  clear hb1 hwa hwa2 W1 hw hl
  go_wp2_with fail
  refine (string_any k n u _ hu (HW.out _)).mono ?_
  rintro e w3 ⟨rfl, hb3⟩
  have k3 : In1 w _ w3 := (k1.then_ (alloc_below w1 _)).then_ hb3
  have b3 := (In1.of hb3).blk
  clear hb3 c0 c1 c2 f0 f1 f2 HW k1
  have hne : w.heap.size ≠ w1.heap.size := by omega
  obtain ⟨c0, c1, c2, f0, f1, f2, hlt3⟩ := k3.three
  obtain ⟨d0, d1, d2, _, _, _, hlt4⟩ := b3.three
  have hb := k3.below
  have hXY : (textB k n u.data.toList == s.toList) = decide (textB k n u.data.toList = s.data.toList) := by
    rw [Lib.toList_data]
    by_cases h : textB k n u.data.toList = s.data.toList
    · rw [h]; simp
    · simp [h]
  unfold sv
  by_cases hq : textB k n u.data.toList = s.data.toList
  · have HV : Hid (parsedV k n u s = .tuple #[.agg #[.int .i64 k, .int .i64 n, .string u], .bool true]) := Lib.hid (by unfold parsedV; rw [if_pos hq]; rfl)
    rw [decide_eq_true hq] at hXY
    clear hq
    go_wp2
    (try simp only [Exit.inBlock, Exit.then])
    refine bodyPost_ret (ret_cell rfl _ _ _ _ _ _ (.bool true) rfl (set3_blk k3 _ _ _) Tryz.underlying48 rfl (by kernel_rfl) rfl) rfl ?_
    exact ⟨by rw [HV.out], set3_below hb _ _ _⟩
  · have HV : Hid (parsedV k n u s = noneV) := Lib.hid (by unfold parsedV; rw [if_neg hq])
    rw [decide_eq_false hq] at hXY
    clear hq
    go_wp2
    (try simp only [Exit.inBlock, Exit.then])
    refine bodyPost_ret (ret_cell rfl _ _ _ _ _ _ (.bool false) rfl (set3_blk k3 _ _ _) Tryz.underlying48 rfl (by kernel_rfl) rfl) rfl ?_
    exact ⟨by rw [HV.out]; rfl, set3_below hb _ _ _⟩

end Go.Proofs.YtmmphgapginmjaaGreatDoor
