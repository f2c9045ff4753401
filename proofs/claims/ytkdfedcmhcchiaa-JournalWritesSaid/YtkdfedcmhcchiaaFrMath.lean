/-
  Frames as lists of bytes: what a frame is, what is taken off the front, all of them. Plain mathematics. Conditions: none.
-/
import Derived.Test.YtkdfedcmhcchiaaCrcOf
namespace Go.Proofs.Ytkdfedcmhcchiaa

/-- What stands ahead of a payload of n bytes. -/
def headB (n : Nat) : List UInt8 := [UInt8.ofNat n, UInt8.ofNat (n / 256), UInt8.ofNat (n / 65536), 165 ^^^ UInt8.ofNat n ^^^ UInt8.ofNat (n / 256) ^^^ UInt8.ofNat (n / 65536)]
/-- A payload's frame. -/
def frameB (p : List UInt8) : List UInt8 := headB p.length ++ p ++ leB (crcOf p)
/-- The length that the first three bytes tell. -/
def lenB : List UInt8 → Nat
  | x :: y :: z :: _ => x.toNat + 256 * y.toNat + 65536 * z.toNat
  | _ => 0
/-- What is at the front: the payload, the frame's size, what is wrong. -/
def takeF (b : List UInt8) : List UInt8 × Nat × Nat :=
  if b.length < 4 then ([], 0, 2)
  else if headB (lenB b) ≠ b.take 4 then ([], 0, 7)
  else if 1048576 < lenB b then ([], 0, 3)
  else if b.length < lenB b + 8 then ([], 0, 2)
  else if leB (crcOf ((b.drop 4).take (lenB b))) ≠ (b.drop (lenB b + 4)).take 4 then ([], 0, 7)
  else ((b.drop 4).take (lenB b), lenB b + 8, 0)
theorem headB_length (n : Nat) : (headB n).length = 4 := rfl
theorem leB_length (r : BitVec 32) : (leB r).length = 4 := rfl
theorem frameB_length (p : List UInt8) : (frameB p).length = p.length + 8 := by
  simp only [frameB, List.length_append, headB_length, leB_length]; omega
theorem lenB_lt (b : List UInt8) : lenB b < 16777216 := by
  match b with
  | x :: y :: z :: t =>
    have := x.toNat_lt; have := y.toNat_lt; have := z.toNat_lt
    show x.toNat + 256 * y.toNat + 65536 * z.toNat < _
    omega
  | [] => simp [lenB]
  | [_] => simp [lenB]
  | [_, _] => simp [lenB]
theorem lenB_head (n : Nat) (t : List UInt8) (h : n < 16777216) : lenB (headB n ++ t) = n := by
  show (UInt8.ofNat n).toNat + 256 * (UInt8.ofNat (n / 256)).toNat + 65536 * (UInt8.ofNat (n / 65536)).toNat = n
  simp only [UInt8.toNat_ofNat']
  omega
/-- A frame is taken as it was put, whatever stands behind. -/
theorem takeF_frame (p t : List UInt8) (h : p.length ≤ 1048576) : takeF (frameB p ++ t) = (p, p.length + 8, 0) := by
  have hl : lenB (frameB p ++ t) = p.length := by
    rw [frameB, List.append_assoc, List.append_assoc]; exact lenB_head _ _ (by omega)
  have hlen : (frameB p ++ t).length = p.length + 8 + t.length := by rw [List.length_append, frameB_length]
  have h4 : (frameB p ++ t).take 4 = headB p.length := by
    rw [frameB, List.append_assoc, List.append_assoc, List.take_append_of_le_length (by rw [headB_length]; omega)]
    exact List.take_of_length_le (by rw [headB_length]; omega)
  have hd : (frameB p ++ t).drop 4 = p ++ (leB (crcOf p) ++ t) := by
    rw [frameB, List.append_assoc, List.append_assoc, List.drop_append_of_le_length (by rw [headB_length]; omega)]
    rw [List.drop_of_length_le (by rw [headB_length]; omega), List.nil_append]
  have hp : ((frameB p ++ t).drop 4).take p.length = p := by rw [hd]; simp
  have hs : ((frameB p ++ t).drop (p.length + 4)).take 4 = leB (crcOf p) := by
    rw [Nat.add_comm, ← List.drop_drop, hd]
    rw [List.drop_left, List.take_append_of_le_length (by rw [leB_length]; omega)]
    exact List.take_of_length_le (by rw [leB_length]; omega)
  unfold takeF
  rw [hl, hlen, if_neg (by omega), if_neg (by rw [h4]; simp), if_neg (by omega), if_neg (by omega), if_neg (by rw [hp, hs]; simp), hp]

/-- All that are there, one behind the other: fuel bounds them. -/
def allN : Nat → List UInt8 → List (List UInt8) × Nat × Nat
  | 0, _ => ([], 0, 0)
  | f + 1, b => if b = [] then ([], 0, 0) else if (takeF b).2.2 ≠ 0 then ([], 0, (takeF b).2.2)
      else ((takeF b).1 :: (allN f (b.drop (takeF b).2.1)).1, (takeF b).2.1 + (allN f (b.drop (takeF b).2.1)).2.1, (allN f (b.drop (takeF b).2.1)).2.2)
def allF (b : List UInt8) : List (List UInt8) × Nat × Nat := allN (b.length + 1) b
theorem takeF_size (b : List UInt8) (h : (takeF b).2.2 = 0) : 8 ≤ (takeF b).2.1 ∧ (takeF b).2.1 ≤ b.length ∧ (takeF b).1.length + 8 = (takeF b).2.1 := by
  unfold takeF at h ⊢
  split at h
  · cases h
  · split at h
    · cases h
    · split at h
      · cases h
      · split at h
        · cases h
        · split at h
          · cases h
          · rename_i h1 h2 h3 h4 h5
            rw [if_neg h1, if_neg h2, if_neg h3, if_neg h4, if_neg h5]
            simp only [List.length_take, List.length_drop]
            omega
theorem takeF_err (b : List UInt8) (h : (takeF b).2.2 ≠ 0) : (takeF b).1 = [] ∧ (takeF b).2.1 = 0 := by
  unfold takeF at h ⊢
  split <;> (try exact ⟨rfl, rfl⟩)
  split <;> (try exact ⟨rfl, rfl⟩)
  split <;> (try exact ⟨rfl, rfl⟩)
  split <;> (try exact ⟨rfl, rfl⟩)
  split <;> (try exact ⟨rfl, rfl⟩)
  rename_i h1 h2 h3 h4 h5
  rw [if_neg h1, if_neg h2, if_neg h3, if_neg h4, if_neg h5] at h
  exact absurd rfl h
theorem allN_fuel (f : Nat) : ∀ (g : Nat) (b : List UInt8), b.length < f → b.length < g → allN f b = allN g b := by
  induction f with
  | zero => intro g b h; omega
  | succ f ih =>
    intro g b hf hg
    cases g with
    | zero => omega
    | succ g =>
      simp only [allN]
      by_cases h0 : b = []
      · rw [if_pos h0, if_pos h0]
      · rw [if_neg h0, if_neg h0]
        by_cases he : (takeF b).2.2 = 0
        · have hs := takeF_size b he
          have hd : (b.drop (takeF b).2.1).length < b.length := by rw [List.length_drop]; omega
          rw [ih g (b.drop (takeF b).2.1) (by omega) (by omega)]
        · rw [if_pos he, if_pos he]
theorem allF_nil : allF [] = ([], 0, 0) := rfl
theorem allF_err (b : List UInt8) (h0 : b ≠ []) (he : (takeF b).2.2 ≠ 0) : allF b = ([], 0, (takeF b).2.2) := by
  unfold allF; rw [allN, if_neg h0, if_pos he]
theorem allF_cons (b : List UInt8) (h0 : b ≠ []) (he : (takeF b).2.2 = 0) : allF b = ((takeF b).1 :: (allF (b.drop (takeF b).2.1)).1, (takeF b).2.1 + (allF (b.drop (takeF b).2.1)).2.1, (allF (b.drop (takeF b).2.1)).2.2) := by
  have hs := takeF_size b he
  have hd : (b.drop (takeF b).2.1).length < b.length := by rw [List.length_drop]; omega
  unfold allF
  rw [allN, if_neg h0, if_neg (by simp [he]), allN_fuel b.length ((b.drop (takeF b).2.1).length + 1) _ hd (by omega)]

/-- Frames, one behind the other. -/
def framesB (l : List (List UInt8)) : List UInt8 := l.flatMap frameB
theorem allF_frames (l : List (List UInt8)) (t : List UInt8) (h : ∀ p ∈ l, p.length ≤ 1048576) : allF (framesB l ++ t) = (l ++ (allF t).1, (framesB l).length + (allF t).2.1, (allF t).2.2) := by
  induction l with
  | nil => simp [framesB]
  | cons p l ih =>
    have e : framesB (p :: l) ++ t = frameB p ++ (framesB l ++ t) := by simp [framesB]
    have ht := takeF_frame p (framesB l ++ t) (h p (by simp))
    have hl := frameB_length p
    rw [e, allF_cons _ (by intro h0; have := congrArg List.length h0; rw [List.length_append, hl] at this; simp at this) (by rw [ht]), ht]
    have hd : (frameB p ++ (framesB l ++ t)).drop (p.length + 8) = framesB l ++ t := by rw [← hl]; exact List.drop_left ..
    simp only [hd, ih (fun q hq => h q (by simp [hq]))]
    simp only [framesB, List.flatMap_cons, List.length_append, hl, List.cons_append]
    simp only [Prod.mk.injEq, true_and, and_true]
    omega

end Go.Proofs.Ytkdfedcmhcchiaa
