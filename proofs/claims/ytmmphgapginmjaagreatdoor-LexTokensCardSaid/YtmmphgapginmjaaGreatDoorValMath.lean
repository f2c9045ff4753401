/-
  NAMES AND PLAIN TEXTS: plain mathematics on bytes; nothing of the program. Conditions: none.
-/
import Derived.WalkKit
namespace Go.Proofs.YtmmphgapginmjaaGreatDoor
open Go.RowKit

def lettB (c : Int) : Bool := (decide (97 ≤ c) && decide (c ≤ 122)) || (decide (65 ≤ c) && decide (c ≤ 90))
def digI (c : Int) : Bool := decide (48 ≤ c) && decide (c ≤ 57)
/-- Whether a sign may stand at place i of a name. -/
def okR (c : Int) (i : Nat) : Bool := lettB c || (decide (0 < i) && (digI c || c == 95))
def okAt (l : List UInt8) (i : Nat) : Bool := okR ((l.getD i 0).toNat : Int) i
def nameB (l : List UInt8) : Bool := decide (0 < l.length) && decide (l.length ≤ 16) && (List.range l.length).all (okAt l)
def plnR (c : Int) : Bool := decide (32 ≤ c) && decide (c ≤ 126)
def plnAt (l : List UInt8) (i : Nat) : Bool := plnR ((l.getD i 0).toNat : Int)
def plainB (l : List UInt8) : Bool := decide (l.length ≤ 64) && (List.range l.length).all (plnAt l)

theorem okR_high (c : Int) (i : Nat) (h : 128 ≤ c) : okR c i = false := by
  have h1 : lettB c = false := by simp [lettB]; omega
  have h2 : digI c = false := by simp [digI]; omega
  have h3 : (c == 95) = false := by rw [beq_eq_false_iff_ne]; omega
  simp [okR, h1, h2, h3]
theorem plnR_high (c : Int) (h : 128 ≤ c) : plnR c = false := by simp [plnR]; omega

theorem all_range_false {n i : Nat} {f : Nat → Bool} (hi : i < n) (h : f i = false) : (List.range n).all f = false := by
  rw [List.all_eq_false]
  exact ⟨i, List.mem_range.2 hi, by simp [h]⟩
theorem all_range_true {n : Nat} {f : Nat → Bool} (h : ∀ i, i < n → f i = true) : (List.range n).all f = true := by
  rw [List.all_eq_true]
  exact fun i hi => h i (List.mem_range.1 hi)

end Go.Proofs.YtmmphgapginmjaaGreatDoor
