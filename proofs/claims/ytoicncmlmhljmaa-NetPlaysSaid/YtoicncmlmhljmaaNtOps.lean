/-
  The calls of a net that draw no order: New, find, Len. Conditions: none.
-/
import Derived.Test.YtoicncmlmhljmaaNtBase
namespace Go.Proofs.Ytoicncmlmhljmaa
open Go.RowKit

def pnt (g : Nat) : Value := .pointer (some ⟨g, 0, none⟩)

set_option maxHeartbeats 400000 in
theorem nnew_any (R : Nat) (w : World) (hR : R ≤ w.heap.size) : Calls Try.prog 7 #[] w fun e w' => e = .returned (.pointer (some ⟨w.heap.size, 0, none⟩)) ∧ Nt R w' w.heap.size (.slice none 0 0) [] ∧ Below w.heap.size w w' := by
  have H : Hid (Nt R (w.alloc (.cells #[.slice none 0 0] 49)) w.heap.size (.slice none 0 0) [] ∧ Below w.heap.size w (w.alloc (.cells #[.slice none 0 0] 49))) :=
    Lib.hid ⟨⟨hR, Blk.new w _ #[.slice none 0 0], OwnK.nil_ _ _ _ _ _, (fun p hp => by simp at hp), List.Pairwise.nil⟩, (Below.refl _ _).alloc (Nat.le_refl _) _⟩
  clear hR
  go_enter Try.func7, Try.ntmps7
  go_wp2
  go_ret
  exact ⟨rfl, H.out⟩

set_option maxHeartbeats 400000 in
theorem nlen_any {R g : Nat} {v : Value} {l : List Pc} (w : World) (h : Nt R w g v l) : Calls Try.prog 13 #[.pointer (some ⟨g, 0, none⟩)] w fun e w' => e = .returned (.int .i64 l.length) ∧ w = w' := by
  have c0 := h.blk.cell 0
  simp at c0
  obtain ⟨A, c, rfl⟩ := h.form
  clear h
  go_enter Try.func13, Try.ntmps13
  go_wp2
  go_ret
  exact ⟨rfl, rfl⟩
set_option maxHeartbeats 400000 in
theorem nlen_nil (w : World) : Calls Try.prog 13 #[.pointer none] w fun e w' => e = .returned (.int .i64 0) ∧ w = w' := by
  go_enter Try.func13, Try.ntmps13
  go_wp2
  go_ret
  exact ⟨rfl, rfl⟩

set_option maxHeartbeats 1000000 in
theorem find_in {R g r n c : Nat} {l : List Pc} (i : Nat) (w : World) (h : Nt R w g (.slice (some ⟨r, 0, none⟩) n c) l) (hi : i < n) :
    Calls Try.prog 15 #[.pointer (some ⟨g, 0, none⟩), .int .i64 i] w fun e w' => e = .returned (.tuple #[.pointer (some ⟨r, i * 3, none⟩), .int .i64 0]) ∧ w = w' := by
  have c0 := h.blk.cell 0
  simp at c0
  clear h
  have h0 : (0 : Int) ≤ (i : Int) := by omega
  have h1 : (i : Int) < (n : Int) := by omega
  go_enter Try.func15, Try.ntmps15
  go_wp2
  go_ret2
  exact ⟨by simp, rfl⟩
set_option maxHeartbeats 1000000 in
theorem find_out {R g : Nat} {v : Value} {l : List Pc} (i : Int) (w : World) (h : Nt R w g v l) (hi : ¬ (0 ≤ i ∧ i < l.length)) :
    Calls Try.prog 15 #[.pointer (some ⟨g, 0, none⟩), .int .i64 i] w fun e w' => e = .returned (.tuple #[.pointer none, .int .i64 5]) ∧ w = w' := by
  have c0 := h.blk.cell 0
  simp at c0
  obtain ⟨A, c, rfl⟩ := h.form
  clear h
  by_cases h0 : 0 ≤ i
  · have h1 : ¬ i < l.length := fun h1 => hi ⟨h0, h1⟩
    clear hi
    go_enter Try.func15, Try.ntmps15
    go_wp2
    go_ret2
    exact ⟨rfl, rfl⟩
  · clear hi
    go_enter Try.func15, Try.ntmps15
    go_wp2
    go_ret2
    exact ⟨rfl, rfl⟩

end Go.Proofs.Ytoicncmlmhljmaa
