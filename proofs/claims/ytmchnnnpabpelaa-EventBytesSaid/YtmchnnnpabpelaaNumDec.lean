/-
  READING NUMBERS OUT OF BYTES: plain mathematics; nothing of the program. Conditions: none.
-/
import Derived.Test.YtmchnnnpabpelaaNumMath
namespace Go.Proofs.Ytmchnnnpabpelaa

/-- The number at the beginning, of at most so many bytes, with the fewest bytes; and how many it has. -/
def dec : Nat → List UInt8 → Option (Nat × Nat)
  | 0, _ => none
  | _ + 1, [] => none
  | f + 1, x :: t =>
    if x.toNat < 128 then some (x.toNat, 1)
    else match dec f t with
      | none => none
      | some (n, k) => if n = 0 then none else some (x.toNat - 128 + 128 * n, k + 1)

theorem dec_enc : ∀ (f n : Nat) (r : List UInt8), (enc n).length ≤ f → dec f (enc n ++ r) = some (n, (enc n).length)
  | 0, n, r, h => by
    have := List.length_pos_iff.2 (enc_ne n); omega
  | f + 1, n, r, h => by
    by_cases hn : 127 < n
    · rw [enc_big n hn] at h ⊢
      have ih := dec_enc f (n / 128) r (by simpa using h)
      have e := ofNat_toNat (n % 128 + 128) (by omega)
      simp only [List.cons_append, dec, e]
      rw [if_neg (by omega), ih]
      simp only
      rw [if_neg (by omega)]
      simp; omega
    · rw [enc_small n hn]
      have e := ofNat_toNat n (by omega)
      simp only [List.cons_append, List.nil_append, dec, e]
      rw [if_pos (by omega)]; simp

theorem dec_some : ∀ (f : Nat) (l : List UInt8) (n k : Nat), dec f l = some (n, k) → (enc n).length ≤ f ∧ k = (enc n).length ∧ l = enc n ++ l.drop k
  | 0, l, n, k, h => by simp [dec] at h
  | f + 1, [], n, k, h => by simp [dec] at h
  | f + 1, x :: t, n, k, h => by
    simp only [dec] at h
    by_cases hx : x.toNat < 128
    · rw [if_pos hx] at h
      simp only [Option.some.injEq, Prod.mk.injEq] at h
      obtain ⟨rfl, rfl⟩ := h
      rw [enc_small _ (by omega)]
      simp
    · rw [if_neg hx] at h
      cases hd : dec f t with
      | none => rw [hd] at h; cases h
      | some p =>
        obtain ⟨m, j⟩ := p
        rw [hd] at h
        simp only at h
        by_cases hm : m = 0
        · rw [if_pos hm] at h; cases h
        · rw [if_neg hm] at h
          simp only [Option.some.injEq, Prod.mk.injEq] at h
          obtain ⟨rfl, rfl⟩ := h
          obtain ⟨h1, h2, h3⟩ := dec_some f t m j hd
          have hx2 : x.toNat < 256 := x.toNat_lt
          have e1 : (x.toNat - 128 + 128 * m) / 128 = m := by omega
          have e2 : (x.toNat - 128 + 128 * m) % 128 + 128 = x.toNat := by omega
          rw [enc_big _ (by omega), e1, e2]
          refine ⟨by simpa using h1, by simpa using h2, ?_⟩
          simp only [List.cons_append, List.drop_succ_cons]
          rw [← h3]; simp

/-- The number at the beginning of bytes, and what is behind it. -/
def takeN (l : List UInt8) : Option (Nat × Nat) :=
  match dec 9 l with
  | none => none
  | some (n, k) => if n < 4611686018427387904 then some (n, k) else none

theorem takeN_enc (n : Nat) (r : List UInt8) (h : n < 4611686018427387904) : takeN (enc n ++ r) = some (n, (enc n).length) := by
  simp [takeN, dec_enc 9 n r (enc_length_9 n h), h]
theorem takeN_some {l : List UInt8} {n k : Nat} (h : takeN l = some (n, k)) : n < 4611686018427387904 ∧ k = (enc n).length ∧ l = enc n ++ l.drop k := by
  unfold takeN at h
  cases hd : dec 9 l with
  | none => rw [hd] at h; cases h
  | some p =>
    obtain ⟨m, j⟩ := p
    rw [hd] at h
    simp only at h
    by_cases hm : m < 4611686018427387904
    · rw [if_pos hm] at h
      simp only [Option.some.injEq, Prod.mk.injEq] at h
      obtain ⟨rfl, rfl⟩ := h
      exact ⟨hm, (dec_some 9 l _ _ hd).2⟩
    · rw [if_neg hm] at h; cases h
theorem takeN_len {l : List UInt8} {n k : Nat} (h : takeN l = some (n, k)) : 0 < k ∧ k ≤ l.length ∧ k ≤ 9 := by
  obtain ⟨h1, h2, h3⟩ := takeN_some h
  have := List.length_pos_iff.2 (enc_ne n)
  have h9 := enc_length_9 n h1
  refine ⟨by omega, ?_, by omega⟩
  rw [h3, List.length_append]; omega

/-- A reader: what is left, and whether something failed. What is read of it: the number, and the reader behind. -/
def rNum (s : List UInt8 × Bool) (most : Int) : Int × (List UInt8 × Bool) :=
  if s.2 = true then (0, s) else
  match takeN s.1 with
  | none => (0, (s.1, true))
  | some (n, k) => if most < (n : Int) then (0, (s.1, true)) else ((n : Int), (s.1.drop k, false))
def unzig (n : Int) : Int := if n % 2 = 1 then -((n + 1) / 2) else n / 2
def rSig (s : List UInt8 × Bool) : Int × (List UInt8 × Bool) := (unzig (rNum s 2305843009213693952).1, (rNum s 2305843009213693952).2)
def rText (s : List UInt8 × Bool) (most : Int) : List UInt8 × (List UInt8 × Bool) :=
  if (rNum s most).2.2 = true then ([], (rNum s most).2) else
  if ((rNum s most).2.1.length : Int) < (rNum s most).1 then ([], ((rNum s most).2.1, true)) else
  ((rNum s most).2.1.take (rNum s most).1.toNat, ((rNum s most).2.1.drop (rNum s most).1.toNat, false))
def rLeft (s : List UInt8 × Bool) : Nat := if s.2 = true then 0 else s.1.length
def rDone (s : List UInt8 × Bool) : Bool := !s.2 && s.1.isEmpty

theorem rNum_rng (s : List UInt8 × Bool) (most : Int) : 0 ≤ (rNum s most).1 ∧ (rNum s most).1 < 4611686018427387904 ∧ ((rNum s most).1 ≤ most ∨ (rNum s most).2.2 = true) := by
  unfold rNum
  split
  · rename_i h; simp [h]
  · split
    · simp
    · rename_i n k h
      have := (takeN_some h).1
      split
      · simp
      · simp; omega
theorem rNum_len (s : List UInt8 × Bool) (most : Int) : (rNum s most).2.1.length ≤ s.1.length := by
  unfold rNum
  split
  · simp
  · split
    · simp
    · split <;> simp
theorem rNum_at (n : Nat) (r : List UInt8) (most : Int) (h : n < 4611686018427387904) (hm : (n : Int) ≤ most) : rNum (enc n ++ r, false) most = ((n : Int), (r, false)) := by
  unfold rNum
  simp only [takeN_enc n r h, Bool.false_eq_true, if_false]
  rw [if_neg (by omega), List.drop_left]
theorem rNum_put (n : Int) (r : List UInt8) (most : Int) (h0 : 0 ≤ n) (h : n < 4611686018427387904) (hm : n ≤ most) : rNum (putB n ++ r, false) most = (n, (r, false)) := by
  unfold putB
  rw [if_neg (by omega)]
  rw [rNum_at _ r most (by omega) (by omega), Int.toNat_of_nonneg h0]
theorem rSig_put (n : Int) (r : List UInt8) (h0 : -1152921504606846976 ≤ n) (h : n ≤ 1152921504606846976) : rSig (sigB n ++ r, false) = (n, (r, false)) := by
  unfold sigB rSig
  rw [if_neg (by omega)]
  have hz : (zig n : Int) ≤ 2305843009213693952 := by unfold zig; split <;> omega
  rw [rNum_at (zig n) r _ (by omega) hz]
  simp only
  refine congrArg (·, (r, false)) ?_
  unfold unzig zig
  by_cases hn : n < 0
  · rw [if_pos hn, if_pos (by omega)]; omega
  · rw [if_neg hn, if_neg (by omega)]; omega
theorem rText_put (s r : List UInt8) (most : Int) (hs : (s.length : Int) < 4611686018427387904) (hm : (s.length : Int) ≤ most) : rText (putB s.length ++ (s ++ r), false) most = (s, (r, false)) := by
  unfold rText
  rw [rNum_put s.length (s ++ r) most (by omega) hs hm]
  simp only [Bool.false_eq_true, if_false, Int.toNat_natCast]
  rw [if_neg (by rw [List.length_append]; omega), List.take_left, List.drop_left]

end Go.Proofs.Ytmchnnnpabpelaa
