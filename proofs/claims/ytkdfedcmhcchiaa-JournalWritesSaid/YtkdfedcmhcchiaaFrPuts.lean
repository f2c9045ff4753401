/-
  Rows of frames: their sizes, and that all of them are read. Plain mathematics. Conditions: none.
-/
import Derived.Test.YtkdfedcmhcchiaaFrAllW
namespace Go.Proofs.Ytkdfedcmhcchiaa
open Go.RowKit

theorem framesB_snoc (l : List (List UInt8)) (k : Nat) (h : k < l.length) : framesB (l.take (k + 1)) = framesB (l.take k) ++ frameB l[k] := by
  unfold framesB
  rw [List.take_succ_eq_append_getElem h, List.flatMap_append]; simp
theorem framesB_len (l : List (List UInt8)) (m : Nat) (h : ∀ p ∈ l, p.length ≤ m) : (framesB l).length ≤ (m + 8) * l.length := by
  induction l with
  | nil => simp [framesB]
  | cons p l ih =>
    have e : framesB (p :: l) = frameB p ++ framesB l := by simp [framesB]
    have h1 := h p (by simp)
    have h2 := ih fun q hq => h q (by simp [hq])
    rw [e, List.length_append, frameB_length, List.length_cons, Nat.mul_add]
    omega
theorem allF_whole (l : List (List UInt8)) (h : ∀ p ∈ l, p.length ≤ 1048576) : allF (framesB l) = (l, (framesB l).length, 0) := by
  have := allF_frames l [] h
  rw [List.append_nil, allF_nil] at this
  simpa using this

end Go.Proofs.Ytkdfedcmhcchiaa
