/-
  NUMBERS AS BYTES: plain mathematics; nothing of the program. Conditions: none.
-/
import Derived.Below
namespace Go.Proofs.Ytmchnnnpabpelaa

def encF : Nat → Nat → List UInt8
  | 0, n => [UInt8.ofNat n]
  | f + 1, n => if 127 < n then UInt8.ofNat (n % 128 + 128) :: encF f (n / 128) else [UInt8.ofNat n]
/-- A number's bytes. -/
def enc (n : Nat) : List UInt8 := encF n n

theorem encF_eq : ∀ (f g n : Nat), n ≤ f → n ≤ g → encF f n = encF g n
  | 0, 0, _, _, _ => rfl
  | 0, g + 1, n, h, _ => by
    have : ¬ 127 < n := by omega
    simp [encF, this]
  | f + 1, 0, n, _, h => by
    have : ¬ 127 < n := by omega
    simp [encF, this]
  | f + 1, g + 1, n, hf, hg => by
    by_cases h : 127 < n
    · simp only [encF, if_pos h]
      rw [encF_eq f g (n / 128) (by omega) (by omega)]
    · simp [encF, h]

theorem enc_big (n : Nat) (h : 127 < n) : enc n = UInt8.ofNat (n % 128 + 128) :: enc (n / 128) := by
  obtain ⟨m, rfl⟩ : ∃ m, n = m + 1 := ⟨n - 1, by omega⟩
  show encF (m + 1) (m + 1) = _
  simp only [encF, if_pos h]
  rw [enc, encF_eq m ((m + 1) / 128) ((m + 1) / 128) (by omega) (by omega)]
theorem enc_small (n : Nat) (h : ¬ 127 < n) : enc n = [UInt8.ofNat n] := by
  unfold enc
  cases n with
  | zero => rfl
  | succ m => simp [encF, h]
theorem enc_ne (n : Nat) : enc n ≠ [] := by
  by_cases h : 127 < n
  · rw [enc_big n h]; simp
  · rw [enc_small n h]; simp

/-- As many bytes as it takes. -/
theorem enc_length_le : ∀ (k n : Nat), n < 128 ^ (k + 1) → (enc n).length ≤ k + 1
  | 0, n, h => by rw [enc_small n (by omega)]; simp
  | k + 1, n, h => by
    by_cases hn : 127 < n
    · rw [enc_big n hn]
      have := enc_length_le k (n / 128) (by rw [Nat.div_lt_iff_lt_mul (by omega)]; rw [Nat.pow_succ] at h; omega)
      simp; omega
    · rw [enc_small n hn]; simp
theorem enc_length_9 (n : Nat) (h : n < 4611686018427387904) : (enc n).length ≤ 9 :=
  enc_length_le 8 n (by omega)

theorem enc_mono : ∀ (m n : Nat), m ≤ n → (enc m).length ≤ (enc n).length := by
  intro m
  induction m using Nat.strongRecOn with
  | ind m ih =>
    intro n h
    by_cases hm : 127 < m
    · rw [enc_big m hm, enc_big n (by omega)]
      have := ih (m / 128) (by omega) (n / 128) (by omega)
      simpa using this
    · rw [enc_small m hm]
      have := List.length_pos_iff.2 (enc_ne n)
      simp only [List.length_cons, List.length_nil]; omega

theorem ofNat_toNat (x : Nat) (h : x < 256) : (UInt8.ofNat x).toNat = x := by
  simp; omega

/-- No number's bytes are the beginning of another one's. -/
theorem enc_prefix : ∀ (m n : Nat) (l k : List UInt8), enc m ++ l = enc n ++ k → m = n ∧ l = k := by
  intro m
  induction m using Nat.strongRecOn with
  | ind m ih =>
    intro n l k h
    by_cases hm : 127 < m <;> by_cases hn : 127 < n
    · rw [enc_big m hm, enc_big n hn] at h
      simp only [List.cons_append, List.cons.injEq] at h
      obtain ⟨h1, h2⟩ := h
      have e := congrArg UInt8.toNat h1
      rw [ofNat_toNat _ (by omega), ofNat_toNat _ (by omega)] at e
      obtain ⟨e2, e3⟩ := ih (m / 128) (by omega) (n / 128) l k h2
      exact ⟨by omega, e3⟩
    · rw [enc_big m hm, enc_small n hn] at h
      simp only [List.cons_append, List.cons.injEq] at h
      have e := congrArg UInt8.toNat h.1
      rw [ofNat_toNat _ (by omega), ofNat_toNat _ (by omega)] at e
      omega
    · rw [enc_small m hm, enc_big n hn] at h
      simp only [List.cons_append, List.cons.injEq] at h
      have e := congrArg UInt8.toNat h.1
      rw [ofNat_toNat _ (by omega), ofNat_toNat _ (by omega)] at e
      omega
    · rw [enc_small m hm, enc_small n hn] at h
      simp only [List.cons_append, List.cons.injEq, List.nil_append] at h
      have e := congrArg UInt8.toNat h.1
      rw [ofNat_toNat _ (by omega), ofNat_toNat _ (by omega)] at e
      exact ⟨e, h.2⟩

/-- A signed number as one without a sign. -/
def zig (n : Int) : Nat := if n < 0 then (-2 * n - 1).toNat else (2 * n).toNat
/-- What is put: nothing beyond the range. -/
def putB (n : Int) : List UInt8 := if n < 0 ∨ 4611686018427387904 ≤ n then [] else enc n.toNat
def sigB (n : Int) : List UInt8 := if n < -1152921504606846976 ∨ 1152921504606846976 < n then [] else enc (zig n)
theorem sigB_neg (n : Int) (h1 : -1152921504606846976 ≤ n) (h2 : n < 0) : putB (-2 * n - 1) = sigB n := by
  unfold putB sigB zig
  rw [if_neg (by omega), if_neg (by omega), if_pos h2]
theorem sigB_pos (n : Int) (h1 : 0 ≤ n) (h2 : n ≤ 1152921504606846976) : putB (2 * n) = sigB n := by
  unfold putB sigB zig
  rw [if_neg (by omega), if_neg (by omega), if_neg (by omega)]
theorem sigB_none (n : Int) (h : n < -1152921504606846976 ∨ 1152921504606846976 < n) : sigB n = [] := by
  unfold sigB
  rw [if_pos h]
theorem putB_len (n : Int) : (putB n).length ≤ 9 := by
  unfold putB
  split
  · simp
  · exact enc_length_9 _ (by omega)
theorem sigB_len (n : Int) : (sigB n).length ≤ 9 := by
  unfold sigB
  split
  · simp
  · exact enc_length_9 _ (by unfold zig; split <;> omega)

end Go.Proofs.Ytmchnnnpabpelaa
