/-
  READING NUMBERS OUT OF BYTES: plain mathematics; nothing of the program. num.first: the contract, by a walk. num.Read and the reader's methods: the contracts, by walks. (*Reader).Num, Signed, Text: the contracts, by walks. Conditions: lengths.
-/
import Derived.Test.YtejljikikhecnaaGreatNNa
import Derived.Lib.Strings
namespace Go.Proofs.YtejljikikhecnaaGreat

/-- The number at the beginning, of at most so many bytes, with the fewest bytes; and how many it has. -/
def dec : Nat → List UInt8 → Option (Nat × Nat)
  | 0, _ => none
  | _ + 1, [] => none
  | f + 1, x :: t =>
    if x.toNat < 128 then some (x.toNat, 1)
    else match dec f t with
      | none => none
      | some (n, k) => if n = 0 then none else some (x.toNat - 128 + 128 * n, k + 1)

theorem dec_enc : ∀ (f n : Nat) (r : List UInt8), (enc n).length ≤ f → dec f (enc n ++ r) = some (n, (enc n).length)
  | 0, n, r, h => by
    have := List.length_pos_iff.2 (enc_ne n); omega
  | f + 1, n, r, h => by
    by_cases hn : 127 < n
    · rw [enc_big n hn] at h ⊢
      have ih := dec_enc f (n / 128) r (by simpa using h)
      have e := ofNat_toNat (n % 128 + 128) (by omega)
      simp only [List.cons_append, dec, e]
      rw [if_neg (by omega), ih]
      simp only
      rw [if_neg (by omega)]
      simp; omega
    · rw [enc_small n hn]
      have e := ofNat_toNat n (by omega)
      simp only [List.cons_append, List.nil_append, dec, e]
      rw [if_pos (by omega)]; simp

theorem dec_some : ∀ (f : Nat) (l : List UInt8) (n k : Nat), dec f l = some (n, k) → (enc n).length ≤ f ∧ k = (enc n).length ∧ l = enc n ++ l.drop k
  | 0, l, n, k, h => by simp [dec] at h
  | f + 1, [], n, k, h => by simp [dec] at h
  | f + 1, x :: t, n, k, h => by
    simp only [dec] at h
    by_cases hx : x.toNat < 128
    · rw [if_pos hx] at h
      simp only [Option.some.injEq, Prod.mk.injEq] at h
      obtain ⟨rfl, rfl⟩ := h
      rw [enc_small _ (by omega)]
      simp
    · rw [if_neg hx] at h
      cases hd : dec f t with
      | none => rw [hd] at h; cases h
      | some p =>
        obtain ⟨m, j⟩ := p
        rw [hd] at h
        simp only at h
        by_cases hm : m = 0
        · rw [if_pos hm] at h; cases h
        · rw [if_neg hm] at h
          simp only [Option.some.injEq, Prod.mk.injEq] at h
          obtain ⟨rfl, rfl⟩ := h
          obtain ⟨h1, h2, h3⟩ := dec_some f t m j hd
          have hx2 : x.toNat < 256 := x.toNat_lt
          have e1 : (x.toNat - 128 + 128 * m) / 128 = m := by omega
          have e2 : (x.toNat - 128 + 128 * m) % 128 + 128 = x.toNat := by omega
          rw [enc_big _ (by omega), e1, e2]
          refine ⟨by simpa using h1, by simpa using h2, ?_⟩
          simp only [List.cons_append, List.drop_succ_cons]
          rw [← h3]; simp

/-- The number at the beginning of bytes, and what is behind it. -/
def takeN (l : List UInt8) : Option (Nat × Nat) :=
  match dec 9 l with
  | none => none
  | some (n, k) => if n < 4611686018427387904 then some (n, k) else none

theorem takeN_enc (n : Nat) (r : List UInt8) (h : n < 4611686018427387904) : takeN (enc n ++ r) = some (n, (enc n).length) := by
  simp [takeN, dec_enc 9 n r (enc_length_9 n h), h]
theorem takeN_some {l : List UInt8} {n k : Nat} (h : takeN l = some (n, k)) : n < 4611686018427387904 ∧ k = (enc n).length ∧ l = enc n ++ l.drop k := by
  unfold takeN at h
  cases hd : dec 9 l with
  | none => rw [hd] at h; cases h
  | some p =>
    obtain ⟨m, j⟩ := p
    rw [hd] at h
    simp only at h
    by_cases hm : m < 4611686018427387904
    · rw [if_pos hm] at h
      simp only [Option.some.injEq, Prod.mk.injEq] at h
      obtain ⟨rfl, rfl⟩ := h
      exact ⟨hm, (dec_some 9 l _ _ hd).2⟩
    · rw [if_neg hm] at h; cases h
theorem takeN_len {l : List UInt8} {n k : Nat} (h : takeN l = some (n, k)) : 0 < k ∧ k ≤ l.length ∧ k ≤ 9 := by
  obtain ⟨h1, h2, h3⟩ := takeN_some h
  have := List.length_pos_iff.2 (enc_ne n)
  have h9 := enc_length_9 n h1
  refine ⟨by omega, ?_, by omega⟩
  rw [h3, List.length_append]; omega

/-- A reader: what is left, and whether something failed. What is read of it: the number, and the reader behind. -/
def rNum (s : List UInt8 × Bool) (most : Int) : Int × (List UInt8 × Bool) :=
  if s.2 = true then (0, s) else
  match takeN s.1 with
  | none => (0, (s.1, true))
  | some (n, k) => if most < (n : Int) then (0, (s.1, true)) else ((n : Int), (s.1.drop k, false))
def unzig (n : Int) : Int := if n % 2 = 1 then -((n + 1) / 2) else n / 2
def rSig (s : List UInt8 × Bool) : Int × (List UInt8 × Bool) := (unzig (rNum s 2305843009213693952).1, (rNum s 2305843009213693952).2)
def rText (s : List UInt8 × Bool) (most : Int) : List UInt8 × (List UInt8 × Bool) :=
  if (rNum s most).2.2 = true then ([], (rNum s most).2) else
  if ((rNum s most).2.1.length : Int) < (rNum s most).1 then ([], ((rNum s most).2.1, true)) else
  ((rNum s most).2.1.take (rNum s most).1.toNat, ((rNum s most).2.1.drop (rNum s most).1.toNat, false))
def rLeft (s : List UInt8 × Bool) : Nat := if s.2 = true then 0 else s.1.length
def rDone (s : List UInt8 × Bool) : Bool := !s.2 && s.1.isEmpty

theorem rNum_rng (s : List UInt8 × Bool) (most : Int) : 0 ≤ (rNum s most).1 ∧ (rNum s most).1 < 4611686018427387904 ∧ ((rNum s most).1 ≤ most ∨ (rNum s most).2.2 = true) := by
  unfold rNum
  split
  · rename_i h; simp [h]
  · split
    · simp
    · rename_i n k h
      have := (takeN_some h).1
      split
      · simp
      · simp; omega
theorem rNum_len (s : List UInt8 × Bool) (most : Int) : (rNum s most).2.1.length ≤ s.1.length := by
  unfold rNum
  split
  · simp
  · split
    · simp
    · split <;> simp
theorem rNum_at (n : Nat) (r : List UInt8) (most : Int) (h : n < 4611686018427387904) (hm : (n : Int) ≤ most) : rNum (enc n ++ r, false) most = ((n : Int), (r, false)) := by
  unfold rNum
  simp only [takeN_enc n r h, Bool.false_eq_true, if_false]
  rw [if_neg (by omega), List.drop_left]
theorem rNum_put (n : Int) (r : List UInt8) (most : Int) (h0 : 0 ≤ n) (h : n < 4611686018427387904) (hm : n ≤ most) : rNum (putB n ++ r, false) most = (n, (r, false)) := by
  unfold putB
  rw [if_neg (by omega)]
  rw [rNum_at _ r most (by omega) (by omega), Int.toNat_of_nonneg h0]
theorem rSig_put (n : Int) (r : List UInt8) (h0 : -1152921504606846976 ≤ n) (h : n ≤ 1152921504606846976) : rSig (sigB n ++ r, false) = (n, (r, false)) := by
  unfold sigB rSig
  rw [if_neg (by omega)]
  have hz : (zig n : Int) ≤ 2305843009213693952 := by unfold zig; split <;> omega
  rw [rNum_at (zig n) r _ (by omega) hz]
  simp only
  refine congrArg (·, (r, false)) ?_
  unfold unzig zig
  by_cases hn : n < 0
  · rw [if_pos hn, if_pos (by omega)]; omega
  · rw [if_neg hn, if_neg (by omega)]; omega
theorem rText_put (s r : List UInt8) (most : Int) (hs : (s.length : Int) < 4611686018427387904) (hm : (s.length : Int) ≤ most) : rText (putB s.length ++ (s ++ r), false) most = (s, (r, false)) := by
  unfold rText
  rw [rNum_put s.length (s ++ r) most (by omega) hs hm]
  simp only [Bool.false_eq_true, if_false, Int.toNat_natCast]
  rw [if_neg (by rw [List.length_append]; omega), List.take_left, List.drop_left]

end Go.Proofs.YtejljikikhecnaaGreat

namespace Go.Proofs.YtejljikikhecnaaGreat
open Go.RowKit

def comb (i acc : Nat) (r : Option (Nat × Nat)) : Option (Nat × Nat) :=
  match r with
  | none => none
  | some (m, k) => if m = 0 ∧ 0 < i then none else some (acc + 128 ^ i * m, k + i)
def fin62 (r : Option (Nat × Nat)) : Option (Nat × Nat) :=
  match r with
  | none => none
  | some (n, k) => if n < 4611686018427387904 then some (n, k) else none
theorem takeN_start (l : List UInt8) : takeN l = fin62 (comb 0 0 (dec (9 - 0) (l.drop 0))) := by
  unfold takeN comb fin62
  simp only [Nat.sub_zero, List.drop_zero]
  cases dec 9 l with
  | none => rfl
  | some p => simp
theorem comb_step (i acc : Nat) (l : List UInt8) (hi : i < 9) (hl : i < l.length) (hx : ¬ l[i].toNat < 128) :
    comb i acc (dec (9 - i) (l.drop i)) = comb (i + 1) (acc + l[i].toNat % 128 * 128 ^ i) (dec (9 - (i + 1)) (l.drop (i + 1))) := by
  rw [List.drop_eq_getElem_cons hl, show 9 - i = (9 - (i + 1)) + 1 from by omega]
  simp only [dec]
  rw [if_neg hx]
  generalize dec (9 - (i + 1)) (l.drop (i + 1)) = d
  cases d with
  | none => rfl
  | some p =>
    obtain ⟨m, k⟩ := p
    simp only
    by_cases hm : m = 0
    · subst hm; simp [comb]
    · have hx2 : l[i].toNat < 256 := l[i].toNat_lt
      have e : l[i].toNat % 128 = l[i].toNat - 128 := by omega
      rw [if_neg hm, e]
      simp only [comb]
      rw [if_neg (by omega), if_neg (by omega)]
      congr 2
      · rw [Nat.mul_add, Nat.pow_succ, Nat.mul_comm (l[i].toNat - 128), ← Nat.mul_assoc]; omega
      · omega
theorem comb_end (i acc : Nat) (l : List UInt8) (hi : i < 9) (hl : i < l.length) (hx : l[i].toNat < 128) :
    comb i acc (dec (9 - i) (l.drop i)) = if l[i].toNat = 0 ∧ 0 < i then none else some (acc + l[i].toNat % 128 * 128 ^ i, i + 1) := by
  rw [List.drop_eq_getElem_cons hl, show 9 - i = (9 - (i + 1)) + 1 from by omega]
  simp only [dec]
  rw [if_pos hx]
  simp only [comb]
  rw [Nat.mod_eq_of_lt hx, Nat.mul_comm]
  rw [Nat.add_comm 1 i]
theorem comb_over (i acc : Nat) (l : List UInt8) (h : 9 ≤ i ∨ l.length ≤ i) : comb i acc (dec (9 - i) (l.drop i)) = none := by
  rcases h with h | h
  · rw [show 9 - i = 0 from by omega]; rfl
  · rw [List.drop_eq_nil_of_le h]
    cases 9 - i <;> rfl

/-- What num.first tells. -/
def fstV (l : List UInt8) : Int × Int := match takeN l with | none => (0, 0) | some (n, k) => (n, k)
theorem fst_none {l : List UInt8} (h : takeN l = none) : fstV l = (0, 0) := by unfold fstV; rw [h]
theorem fst_some {l : List UInt8} {n k : Nat} (h : takeN l = some (n, k)) : fstV l = ((n : Int), (k : Int)) := by unfold fstV; rw [h]

def Two (w : World) (p : Int × Int) (e : Ending) (w' : World) : Prop := e = .returned (.tuple #[.int .i64 p.1, .int .i64 p.2]) ∧ w = w'

theorem pow_le_63 (i : Nat) (h : i < 9) : 128 * 128 ^ i ≤ 9223372036854775808 := by
  have : 128 ^ i ≤ 128 ^ 8 := Nat.pow_le_pow_right (by omega) (by omega)
  have e : 128 ^ 8 = 72057594037927936 := by decide
  omega
theorem shl_128 (x i : Nat) : (x : Int) * 2 ^ (7 * i) = ((x * 128 ^ i : Nat) : Int) := by
  have h : (2 : Nat) ^ (7 * i) = 128 ^ i := by rw [Nat.pow_mul]
  rw [← h]; push_cast; rfl

theorem acc_step (acc i x : Nat) (ha : acc < 128 ^ i) : acc + x % 128 * 128 ^ i < 128 ^ (i + 1) := by
  have h1 : x % 128 ≤ 127 := by omega
  have h2 : x % 128 * 128 ^ i ≤ 127 * 128 ^ i := Nat.mul_le_mul_right _ h1
  rw [Nat.pow_succ]; omega

/-- What a round comes to, by what the byte is. -/
theorem round_facts (s : ByteArray) (i acc : Nat) (h9 : i < 9) (hs : i < s.size) (ha : acc < 128 ^ i) (ht : takeN s.data.toList = fin62 (comb i acc (dec (9 - i) (s.data.toList.drop i)))) :
    (0 : Int) ≤ (s[i].toNat : Int) % 128 * 2 ^ (7 * i) ∧ (acc : Int) + (s[i].toNat : Int) % 128 * 2 ^ (7 * i) ≤ 9223372036854775807 ∧
    (acc : Int) + (s[i].toNat : Int) % 128 * 2 ^ (7 * i) = ((acc + s[i].toNat % 128 * 128 ^ i : Nat) : Int) ∧ acc + s[i].toNat % 128 * 128 ^ i < 128 ^ (i + 1) ∧
    (¬ s[i].toNat < 128 → takeN s.data.toList = fin62 (comb (i + 1) (acc + s[i].toNat % 128 * 128 ^ i) (dec (9 - (i + 1)) (s.data.toList.drop (i + 1))))) ∧
    (s[i].toNat < 128 → takeN s.data.toList = fin62 (if s[i].toNat = 0 ∧ 0 < i then none else some (acc + s[i].toNat % 128 * 128 ^ i, i + 1))) := by
  have hl : i < s.data.toList.length := by rw [str_len]; exact hs
  have e : ((s[i].toNat : Int) % 128 * 2 ^ (7 * i)) = ((s[i].toNat % 128 * 128 ^ i : Nat) : Int) := by rw [← shl_128]; push_cast; rfl
  have hp := pow_le_63 i h9
  have hst := acc_step acc i s[i].toNat ha
  rw [e]
  refine ⟨by omega, ?_, by omega, hst, ?_, ?_⟩
  · rw [Nat.pow_succ, Nat.mul_comm (128 ^ i) 128] at hst; generalize s[i].toNat % 128 * 128 ^ i = t at *; generalize 128 * 128 ^ i = u at *; omega
  · intro hx; rw [ht]; exact congrArg fin62 (comb_step i acc s.data.toList h9 hl hx)
  · intro hx; rw [ht]; exact congrArg fin62 (comb_end i acc s.data.toList h9 hl hx)

set_option maxRecDepth 100000 in
set_option maxHeartbeats 4000000 in
theorem first_any (s : ByteArray) (w : World) (hsz : s.size ≤ 9223372036854775807) :
    Calls Tryz.prog 103 #[.string s] w (Two w (fstV s.data.toList)) := by
  have hlen : s.data.toList.length = s.size := str_len s
  have HL := Lib.hid hlen; clear hlen
  by_cases hm : s.size ≤ 9
  all_goals
    go_enter Tryz.func103, Tryz.ntmps103
    go_wp2
    go_loop [4, 10] (fun n i => ∃ k acc : Nat, k ≤ 9 ∧ k ≤ s.size ∧ i = .int .i64 k ∧ n = .int .i64 acc ∧ acc < 128 ^ k ∧ takeN s.data.toList = fin62 (comb k acc (dec (9 - k) (s.data.toList.drop k)))) (fun _ i => 9 - (intOf i).toNat)
    case atStart => exact ⟨0, 0, by omega, by omega, rfl, rfl, by omega, takeN_start _⟩
    case round =>
      obtain ⟨i, acc, hk, hks, rfl, rfl, hacc, htk⟩ := hrel
      by_cases hlt : i < 9 ∧ i < s.size
      · obtain ⟨h9, hs⟩ := hlt
        obtain ⟨b1, b2, he, hst, hA, hB⟩ := round_facts s i acc h9 hs hacc htk
        have HE := Lib.hid he
        have HS := Lib.hid hst
        by_cases hx : s[i].toNat < 128
        · have HT := Lib.hid (hB hx)
          by_cases hx0 : s[i].toNat = 0
          · by_cases hi : i = 0
            · subst hi
              have ha0 : acc = 0 := by simp at hacc; omega
              subst ha0
              have e1 : ((0 + s[0].toNat % 128 * 128 ^ 0 : Nat)) = 0 := by rw [hx0]
              have HF : Hid (fstV s.data.toList = (0, 1)) := fst_some (n := 0) (k := 1) (by rw [HT.out, if_neg (by omega), e1]; rfl)
              clear he hst hA hB htk hacc HE HS HT b1 b2 e1
              go_wp2
              go_ret2
              exact ⟨by rw [HF.out]; rfl, rfl⟩
            · have HF : Hid (fstV s.data.toList = (0, 0)) := fst_none (by rw [HT.out, if_pos (by omega)]; rfl)
              clear he hst hA hB htk hacc HE HS HT
              go_wp2
              go_ret2
              exact ⟨by rw [HF.out]; rfl, rfl⟩
          · by_cases hv : acc + s[i].toNat % 128 * 128 ^ i < 4611686018427387904
            · have hv' : ¬ 4611686018427387904 ≤ (acc : Int) + (s[i].toNat : Int) % 128 * 2 ^ (7 * i) := by omega
              have HF : Hid (fstV s.data.toList = (((acc + s[i].toNat % 128 * 128 ^ i : Nat) : Int), ((i + 1 : Nat) : Int))) := fst_some (by rw [HT.out, if_neg (by omega)]; simp only [fin62]; rw [if_pos hv])
              clear he hst hA hB htk hacc HS HT hv
              go_wp2
              go_ret2
              exact ⟨by rw [HF.out, HE.out]; rfl, rfl⟩
            · have hv' : 4611686018427387904 ≤ (acc : Int) + (s[i].toNat : Int) % 128 * 2 ^ (7 * i) := by omega
              have HF : Hid (fstV s.data.toList = (0, 0)) := fst_none (by rw [HT.out, if_neg (by omega)]; simp only [fin62]; rw [if_neg hv])
              clear he hst hA hB htk hacc HS HT hv HE
              go_wp2
              go_ret2
              exact ⟨by rw [HF.out]; rfl, rfl⟩
        · have HT := Lib.hid (hA hx)
          clear he hst hA hB htk hacc
          go_wp2
          go_round
          case rel => exact ⟨i + 1, acc + s[i].toNat % 128 * 128 ^ i, by omega, by omega, by go_num, by rw [HE.out], HS.out, HT.out⟩
          case measure => simp [intOf]; omega
      · have HF : Hid (fstV s.data.toList = (0, 0)) := fst_none (by rw [htk, comb_over i acc _ (by rw [HL.out]; omega)]; rfl)
        clear htk hacc
        go_wp2
        go_ret2
        exact ⟨by rw [HF.out]; rfl, rfl⟩

end Go.Proofs.YtejljikikhecnaaGreat

namespace Go.Proofs.YtejljikikhecnaaGreat
open Go.RowKit

/-- Block g is a reader: what is left, and whether something failed. -/
def Rd (w : World) (g : Nat) (s : List UInt8 × Bool) : Prop := ∃ b : ByteArray, b.data.toList = s.1 ∧ b.size ≤ 9223372036854775807 ∧ Blk w g 122 #[.string b, .bool s.2]
theorem Rd.below {w w' : World} {g : Nat} {s : List UInt8 × Bool} (h : Rd w g s) (hb : Below w.heap.size w w') : Rd w' g s := by
  obtain ⟨b, h1, h2, h3⟩ := h
  exact ⟨b, h1, h2, h3.below hb h3.lt⟩
theorem Rd.lt {w : World} {g : Nat} {s : List UInt8 × Bool} (h : Rd w g s) : g < w.heap.size := by
  obtain ⟨b, h1, h2, h3⟩ := h
  exact h3.lt
theorem Rd.but {w w' : World} {g h : Nat} {s : List UInt8 × Bool} (hr : Rd w h s) (hb : But g w w') (hne : h ≠ g) : Rd w' h s := by
  obtain ⟨b, h1, h2, h3⟩ := hr
  exact ⟨b, h1, h2, hb.blk h3 hne⟩

/-- Hands v back; block g is then the reader s; all else is as it was. -/
def Moves (w : World) (g : Nat) (v : Value) (s : List UInt8 × Bool) (e : Ending) (w' : World) : Prop := e = .returned v ∧ Rd w' g s ∧ But g w w'
def Same (w : World) (v : Value) (e : Ending) (w' : World) : Prop := e = .returned v ∧ w = w'

set_option maxRecDepth 100000 in
set_option maxHeartbeats 400000 in
theorem fail_nil (w : World) : Calls Tryz.prog 70 #[.pointer none] w (Same w (.bool true)) := by
  go_enter Tryz.func70, Tryz.ntmps70
  go_wp2
  go_ret
  exact ⟨rfl, rfl⟩
set_option maxRecDepth 100000 in
set_option maxHeartbeats 400000 in
theorem fail_any (g : Nat) (s : List UInt8 × Bool) (w : World) (h : Rd w g s) : Calls Tryz.prog 70 #[.pointer (some ⟨g, 0, none⟩)] w (Same w (.bool s.2)) := by
  obtain ⟨b, h1, h2, h3⟩ := h
  have c1 := h3.cell 1
  simp at c1
  clear h1 h3
  go_enter Tryz.func70, Tryz.ntmps70
  go_wp2
  go_ret
  exact ⟨rfl, rfl⟩
set_option maxRecDepth 100000 in
set_option maxHeartbeats 400000 in
theorem left_any (g : Nat) (s : List UInt8 × Bool) (w : World) (h : Rd w g s) : Calls Tryz.prog 76 #[.pointer (some ⟨g, 0, none⟩)] w (Same w (.int .i64 (rLeft s))) := by
  have hf := fail_any g s w h
  obtain ⟨b, h1, h2, h3⟩ := h
  have c0 := h3.cell 0
  simp at c0
  have hl : b.size = s.1.length := by rw [← h1, str_len]
  clear h3 h1
  obtain ⟨l, f⟩ := s
  have HL := Lib.hid hl
  have HF := Lib.hid hf
  clear hl hf
  cases f
  all_goals
    go_enter Tryz.func76, Tryz.ntmps76
    go_wp2_with fail
    refine HF.out.mono ?_
    rintro e w' ⟨rfl, rfl⟩
    go_wp2
    go_ret
    exact ⟨by simp [rLeft, HL.out], rfl⟩
set_option maxRecDepth 100000 in
set_option maxHeartbeats 400000 in
theorem done_any (g : Nat) (s : List UInt8 × Bool) (w : World) (h : Rd w g s) : Calls Tryz.prog 40 #[.pointer (some ⟨g, 0, none⟩)] w (Same w (.bool (rDone s))) := by
  have hf := fail_any g s w h
  have hl := left_any g s w h
  obtain ⟨l, f⟩ := s
  have HF := Lib.hid hf
  have HL := Lib.hid hl
  clear hf hl h
  cases f
  · go_enter Tryz.func40, Tryz.ntmps40
    go_wp2_with fail
    refine HF.out.mono ?_
    rintro e w' ⟨rfl, rfl⟩
    go_wp2_with fail
    refine HL.out.mono ?_
    rintro e w' ⟨rfl, rfl⟩
    go_wp2
    go_ret
    exact ⟨by cases l <;> simp [rDone, rLeft]; omega, rfl⟩
  · go_enter Tryz.func40, Tryz.ntmps40
    go_wp2_with fail
    refine HF.out.mono ?_
    rintro e w' ⟨rfl, rfl⟩
    go_wp2
    go_ret
    exact ⟨rfl, rfl⟩

/-- The bytes that a slice reads, as a string. -/
theorem run_string_sl {P : Program} (w : World) (src dst e : TypeId) (hs : P.underlying src = some (.slice e)) (he : P.underlying e = some (.int .u8)) (hd : P.underlying dst = some .string)
    (v : Value) (l : List UInt8) (h : Sl bv w v l) : (convert src dst v).run P w = .ok (.string ⟨l.toArray⟩) w := by
  obtain ⟨A, c, rfl, hlc, hx⟩ := h
  by_cases hn : l = []
  · subst hn
    rcases A with _ | ad
    · exact run_convert_bytes_nil w src e hs he 0 c dst hd
    · rw [run_convert_bytes_string w src dst e _ _ c hs he hd, run_bytesToString w ad _ c [] (by simp [loadCells, loadCellsFrom])]
      rfl
  · obtain ⟨b, o, rfl, hb, hcell⟩ := hx hn
    have := run_convert_bytes_arg (P := P) w src e hs he b o l.length c (l.map fun x => (x.toNat : Int)) (by simp) (fun i hi => by
      rw [hcell i l[i] (List.getElem?_eq_getElem hi)]
      simp [bv, List.getD, hi]) dst hd
    rw [this]
    have e2 : ((l.map fun x => (x.toNat : Int)).map fun n => UInt8.ofNat n.toNat) = l := by
      rw [List.map_map]
      conv => rhs; rw [← List.map_id l]
      exact List.map_congr_left fun x _ => by simp
    unfold strOfNums
    rw [e2]

theorem str_run {P : Program} (w : World) (src dst e : TypeId) (hs : P.underlying src = some (.slice e)) (he : P.underlying e = some (.int .u8)) (hd : P.underlying dst = some .string)
    (v : Value) (l : List UInt8) (h : Sl bv w v l) (X : ByteArray) (hX : X.data.toList = l) : (convert src dst v).run P w = .ok (.string X) w := by
  rw [run_string_sl w src dst e hs he hd v l h]
  obtain ⟨⟨k⟩⟩ := X
  simp at hX
  subst hX
  rfl
theorem str_ex (l : List UInt8) : ∃ X : ByteArray, X.data.toList = l := ⟨⟨l.toArray⟩, rfl⟩
theorem str_beq {X Y : ByteArray} {l m : List UInt8} (hX : X.data.toList = l) (hY : Y.data.toList = m) : (X.toList == Y.toList) = decide (l = m) := by
  rw [Lib.toList_data, Lib.toList_data, hX, hY]
  by_cases h : l = m <;> simp [h]

set_option maxRecDepth 100000 in
set_option maxHeartbeats 400000 in
theorem read_any (v : Value) (l : List UInt8) (w : World) (h : Sl bv w v l) (hlen : l.length ≤ 9223372036854775807) :
    Calls Tryz.prog 34 #[v] w fun e w' => e = .returned (.pointer (some ⟨w.heap.size, 0, none⟩)) ∧ Rd w' w.heap.size (l, false) ∧ Below w.heap.size w w' := by
  have hr := run_string_sl (P := Tryz.prog) w 30 9 5 Tryz.underlying30 Tryz.underlying5 Tryz.underlying9 v l h
  have H : Hid (Rd (w.alloc (.cells #[.string ⟨l.toArray⟩, .bool false] 122)) w.heap.size (l, false)) := ⟨⟨l.toArray⟩, rfl, by simpa [ByteArray.size] using hlen, Blk.new w _ _⟩
  clear h
  go_enter Tryz.func34, Tryz.ntmps34
  go_wp2
  go_ret
  exact ⟨rfl, H.out, (Below.refl _ _).alloc (Nat.le_refl _) _⟩

end Go.Proofs.YtejljikikhecnaaGreat

namespace Go.Proofs.YtejljikikhecnaaGreat
open Go.RowKit

set_option maxRecDepth 100000 in
set_option maxHeartbeats 400000 in
theorem num_nil (most : Int) (w : World) : Calls Tryz.prog 69 #[.pointer none, .int .i64 most] w (Same w (.int .i64 0)) := by
  go_enter Tryz.func69, Tryz.ntmps69
  go_wp2_with fail
  refine (fail_nil _).mono ?_
  rintro e w' ⟨rfl, rfl⟩
  go_wp2
  go_ret
  exact ⟨rfl, rfl⟩

/-- A reader's block behind a store to one of its fields. -/
theorem Blk.fail {w : World} {g : Nat} {b : ByteArray} {f : Bool} (h : Blk w g 122 #[.string b, .bool f]) (hb : b.size ≤ 9223372036854775807) : Rd (w.setCell ⟨g, 1, none⟩ (.bool true)) g (b.data.toList, true) ∧ But g w (w.setCell ⟨g, 1, none⟩ (.bool true)) :=
  ⟨⟨b, rfl, hb, by simpa using h.set_ 1 (.bool true)⟩, But.setCell w g 1 _⟩
theorem Blk.rest {w : World} {g : Nat} {b b' : ByteArray} {f : Bool} (h : Blk w g 122 #[.string b, .bool f]) (hb : b'.size ≤ 9223372036854775807) : Rd (w.setCell ⟨g, 0, none⟩ (.string b')) g (b'.data.toList, f) ∧ But g w (w.setCell ⟨g, 0, none⟩ (.string b')) :=
  ⟨⟨b', rfl, hb, by simpa using h.set_ 0 (.string b')⟩, But.setCell w g 0 _⟩
theorem ext_drop (b : ByteArray) (k : Nat) : (b.extract k b.size).data.toList = b.data.toList.drop k := by
  rw [Lib.extract_data]; exact List.take_of_length_le (by rw [List.length_drop, str_len]; omega)
theorem ext_take (b : ByteArray) (k : Nat) : (b.extract 0 k).data.toList = b.data.toList.take k := by
  rw [Lib.extract_data]; simp
theorem ext_size (b : ByteArray) (i j : Nat) : (b.extract i j).size ≤ b.size := by
  simp; omega

set_option maxRecDepth 100000 in
set_option maxHeartbeats 1000000 in
theorem num_any (g : Nat) (s : List UInt8 × Bool) (most : Int) (w : World) (h : Rd w g s) :
    Calls Tryz.prog 69 #[.pointer (some ⟨g, 0, none⟩), .int .i64 most] w (Moves w g (.int .i64 (rNum s most).1) (rNum s most).2) := by
  have hf := fail_any g s w h
  have h0 := h
  obtain ⟨b, h1, h2, h3⟩ := h
  have c0 := h3.cell 0
  have c1 := h3.cell 1
  have f0 := h3.free 0
  have f1 := h3.free 1
  simp at c0 c1
  obtain ⟨l, f⟩ := s
  simp only at h1 c1
  subst h1
  have HF := Lib.hid hf; clear hf
  have HB := Lib.hid h3; clear h3
  have H0 := Lib.hid h0; clear h0
  cases f
  · have hfst := first_any b w h2
    cases ht : takeN b.data.toList with
    | none =>
      have HN : Hid (rNum (b.data.toList, false) most = (0, (b.data.toList, true))) := by unfold rNum; simp only [ht]; rfl
      rw [fst_none ht] at hfst
      have HFi := Lib.hid hfst; clear hfst ht
      have hP := Lib.hid (Blk.fail HB.out h2)
      go_enter Tryz.func69, Tryz.ntmps69
      go_wp2_with fail
      refine HF.out.mono ?_
      rintro e w' ⟨rfl, rfl⟩
      go_wp2_with fail
      refine HFi.out.mono ?_
      rintro e w' ⟨rfl, rfl⟩
      go_wp2
      go_ret
      exact ⟨by rw [HN.out]; rfl, by rw [HN.out]; exact hP.out⟩
    | some p =>
      obtain ⟨n, k⟩ := p
      obtain ⟨k0, kl, k9⟩ := takeN_len ht
      rw [str_len] at kl
      have hk0 : ((k : Int) == 0) = false := by rw [beq_eq_false_iff_ne]; omega
      rw [fst_some ht] at hfst
      have HFi := Lib.hid hfst; clear hfst
      by_cases hm : most < (n : Int)
      · have HN : Hid (rNum (b.data.toList, false) most = (0, (b.data.toList, true))) := by unfold rNum; simp only [ht]; rw [if_pos hm]; rfl
        clear ht
        have hP := Lib.hid (Blk.fail HB.out h2)
        go_enter Tryz.func69, Tryz.ntmps69
        go_wp2_with fail
        refine HF.out.mono ?_
        rintro e w' ⟨rfl, rfl⟩
        go_wp2_with fail
        refine HFi.out.mono ?_
        rintro e w' ⟨rfl, rfl⟩
        go_wp2
        go_ret
        exact ⟨by rw [HN.out]; rfl, by rw [HN.out]; exact hP.out⟩
      · have HN : Hid (rNum (b.data.toList, false) most = ((n : Int), (b.data.toList.drop k, false))) := by unfold rNum; simp only [ht]; rw [if_neg hm]; rfl
        clear ht
        have hP := Lib.hid (Blk.rest (b' := b.extract k b.size) HB.out (by have := ext_size b k b.size; omega))
        go_enter Tryz.func69, Tryz.ntmps69
        go_wp2_with fail
        refine HF.out.mono ?_
        rintro e w' ⟨rfl, rfl⟩
        go_wp2_with fail
        refine HFi.out.mono ?_
        rintro e w' ⟨rfl, rfl⟩
        go_wp2
        go_ret
        exact ⟨by rw [HN.out]; rfl, by rw [HN.out, ← ext_drop]; exact hP.out⟩
  · have HN : Hid (rNum (b.data.toList, true) most = (0, (b.data.toList, true))) := by unfold rNum; rfl
    go_enter Tryz.func69, Tryz.ntmps69
    go_wp2_with fail
    refine HF.out.mono ?_
    rintro e w' ⟨rfl, rfl⟩
    go_wp2
    go_ret
    exact ⟨by rw [HN.out]; rfl, by rw [HN.out]; exact H0.out, But.refl _ _⟩

set_option maxRecDepth 100000 in
set_option maxHeartbeats 400000 in
theorem sig_any (g : Nat) (s : List UInt8 × Bool) (w : World) (h : Rd w g s) :
    Calls Tryz.prog 105 #[.pointer (some ⟨g, 0, none⟩)] w (Moves w g (.int .i64 (rSig s).1) (rSig s).2) := by
  have hn := num_any g s 2305843009213693952 w h
  have hr := rNum_rng s 2305843009213693952
  have HS : Hid ((rSig s).2 = (rNum s 2305843009213693952).2) := rfl
  have HV : Hid ((rSig s).1 = unzig (rNum s 2305843009213693952).1) := rfl
  generalize rNum s 2305843009213693952 = q at *
  obtain ⟨n, s'⟩ := q
  obtain ⟨r1, r2, _⟩ := hr
  simp only at r1 r2
  have HN := Lib.hid hn; clear hn
  by_cases ho : n % 2 = 1
  · have h3 : (n % 2 == 1) = true := by simpa using ho
    have HO := Lib.hid ho; clear ho
    go_enter Tryz.func105, Tryz.ntmps105
    go_wp2_with fail
    refine HN.out.mono ?_
    rintro e w' ⟨rfl, hr1, hb1⟩
    go_wp2
    go_ret
    refine ⟨?_, by rw [HS.out]; exact hr1, hb1⟩
    rw [HV.out]
    simp only [unzig, if_pos HO.out]
    have e9 : wrap64 (-(n + 1).tdiv 2) = -((n + 1) / 2) := by
      rw [Int.tdiv_eq_ediv_of_nonneg (by omega)]; exact IntWalk.wrap64_in _ ⟨by omega, by omega⟩
    exact congrArg (fun x => Ending.returned (Value.int IntKind.i64 x)) e9
  · have h3 : (n % 2 == 1) = false := by simpa using ho
    have HO := Lib.hid ho; clear ho
    go_enter Tryz.func105, Tryz.ntmps105
    go_wp2_with fail
    refine HN.out.mono ?_
    rintro e w' ⟨rfl, hr1, hb1⟩
    go_wp2
    go_ret
    refine ⟨?_, by rw [HS.out]; exact hr1, hb1⟩
    rw [HV.out]
    simp only [unzig, if_neg HO.out]
    rfl

set_option maxRecDepth 100000 in
set_option maxHeartbeats 400000 in
theorem rtext_nil (most : Int) (w : World) : Calls Tryz.prog 104 #[.pointer none, .int .i64 most] w (Same w (.string ByteArray.empty)) := by
  go_enter Tryz.func104, Tryz.ntmps104
  go_wp2_with fail
  refine (num_nil _ _).mono ?_
  rintro e w' ⟨rfl, rfl⟩
  go_wp2_with fail
  refine (fail_nil _).mono ?_
  rintro e w' ⟨rfl, rfl⟩
  go_wp2
  go_ret
  exact ⟨rfl, rfl⟩

/-- Hands back a string of these bytes; block g is then the reader s; all else is as it was. -/
def MovesS (w : World) (g : Nat) (l : List UInt8) (s : List UInt8 × Bool) (e : Ending) (w' : World) : Prop := ∃ b : ByteArray, b.data.toList = l ∧ e = .returned (.string b) ∧ Rd w' g s ∧ But g w w'

set_option maxRecDepth 100000 in
set_option maxHeartbeats 1000000 in
theorem rtext_any (g : Nat) (s : List UInt8 × Bool) (most : Int) (w : World) (h : Rd w g s) :
    Calls Tryz.prog 104 #[.pointer (some ⟨g, 0, none⟩), .int .i64 most] w (MovesS w g (rText s most).1 (rText s most).2) := by
  have hn := num_any g s most w h
  have hr := rNum_rng s most
  have HS : Hid (rText s most = if (rNum s most).2.2 = true then ([], (rNum s most).2) else
    if ((rNum s most).2.1.length : Int) < (rNum s most).1 then ([], ((rNum s most).2.1, true)) else
    ((rNum s most).2.1.take (rNum s most).1.toNat, ((rNum s most).2.1.drop (rNum s most).1.toNat, false))) := rfl
  generalize rNum s most = q at *
  obtain ⟨n, l, f⟩ := q
  obtain ⟨r1, r2, _⟩ := hr
  simp only at r1 r2
  simp only at HS
  have HN := Lib.hid hn; clear hn
  go_enter Tryz.func104, Tryz.ntmps104
  go_wp2_with fail
  refine HN.out.mono ?_
  rintro e w1 ⟨rfl, hr1, hb1⟩
  have hf := fail_any g (l, f) w1 hr1
  have H1 := Lib.hid hr1
  obtain ⟨b, h1, h2, h3⟩ := hr1
  simp only at h1
  subst h1
  have hbl := str_len b
  cases f
  · have HF := Lib.hid hf; clear hf
    have c0 := h3.cell 0
    have c1 := h3.cell 1
    have f0 := h3.free 0
    have f1 := h3.free 1
    simp at c0 c1
    by_cases hlt : (b.size : Int) < n
    · have HQ : Hid (rText s most = ([], (b.data.toList, true))) := Lib.hid (by rw [HS.out, if_neg (by simp), if_pos (by rw [hbl]; exact hlt)])
      have hP := Lib.hid (Blk.fail h3 h2)
      clear h3 hbl
      go_wp2_with fail
      refine HF.out.mono ?_
      rintro e w' ⟨rfl, rfl⟩
      go_wp2
      go_ret
      exact ⟨ByteArray.empty, by rw [HQ.out]; rfl, rfl, by rw [HQ.out]; exact hP.out.1, hb1.trans hP.out.2⟩
    · obtain ⟨m, rfl⟩ := Int.eq_ofNat_of_zero_le r1
      have HQ : Hid (rText s most = (b.data.toList.take m, (b.data.toList.drop m, false))) := Lib.hid (by rw [HS.out, if_neg (by simp), if_neg (by rw [hbl]; exact hlt)]; rfl)
      have hP := Lib.hid (Blk.rest (b' := b.extract m b.size) h3 (by have := ext_size b m b.size; omega))
      have hmb : m ≤ b.size := by omega
      clear h3 hbl r2 r1
      go_wp2_with fail
      refine HF.out.mono ?_
      rintro e w' ⟨rfl, rfl⟩
      go_wp2
      go_ret
      exact ⟨b.extract 0 m, by rw [HQ.out, ext_take], rfl, by rw [HQ.out, ← ext_drop]; exact hP.out.1, hb1.trans hP.out.2⟩
  · have HQ : Hid (rText s most = ([], (b.data.toList, true))) := Lib.hid (by rw [HS.out, if_pos rfl])
    have HF := Lib.hid hf; clear hf h3 hbl
    go_wp2_with fail
    refine HF.out.mono ?_
    rintro e w' ⟨rfl, rfl⟩
    go_wp2
    go_ret
    exact ⟨ByteArray.empty, by rw [HQ.out]; rfl, rfl, by rw [HQ.out]; exact H1.out, hb1⟩

end Go.Proofs.YtejljikikhecnaaGreat
