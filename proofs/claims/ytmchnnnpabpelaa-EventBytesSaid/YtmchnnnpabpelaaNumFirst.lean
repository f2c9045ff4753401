/-
  num.first: the contract, by a walk. Conditions: none.
-/
import Derived.Test.YtmchnnnpabpelaaNumPut
import Derived.Test.YtmchnnnpabpelaaNumDec
namespace Go.Proofs.Ytmchnnnpabpelaa
open Go.RowKit

def comb (i acc : Nat) (r : Option (Nat × Nat)) : Option (Nat × Nat) :=
  match r with
  | none => none
  | some (m, k) => if m = 0 ∧ 0 < i then none else some (acc + 128 ^ i * m, k + i)
def fin62 (r : Option (Nat × Nat)) : Option (Nat × Nat) :=
  match r with
  | none => none
  | some (n, k) => if n < 4611686018427387904 then some (n, k) else none
theorem takeN_start (l : List UInt8) : takeN l = fin62 (comb 0 0 (dec (9 - 0) (l.drop 0))) := by
  unfold takeN comb fin62
  simp only [Nat.sub_zero, List.drop_zero]
  cases dec 9 l with
  | none => rfl
  | some p => simp
theorem comb_step (i acc : Nat) (l : List UInt8) (hi : i < 9) (hl : i < l.length) (hx : ¬ l[i].toNat < 128) :
    comb i acc (dec (9 - i) (l.drop i)) = comb (i + 1) (acc + l[i].toNat % 128 * 128 ^ i) (dec (9 - (i + 1)) (l.drop (i + 1))) := by
  rw [List.drop_eq_getElem_cons hl, show 9 - i = (9 - (i + 1)) + 1 from by omega]
  simp only [dec]
  rw [if_neg hx]
  generalize dec (9 - (i + 1)) (l.drop (i + 1)) = d
  cases d with
  | none => rfl
  | some p =>
    obtain ⟨m, k⟩ := p
    simp only
    by_cases hm : m = 0
    · subst hm; simp [comb]
    · have hx2 : l[i].toNat < 256 := l[i].toNat_lt
      have e : l[i].toNat % 128 = l[i].toNat - 128 := by omega
      rw [if_neg hm, e]
      simp only [comb]
      rw [if_neg (by omega), if_neg (by omega)]
      congr 2
      · rw [Nat.mul_add, Nat.pow_succ, Nat.mul_comm (l[i].toNat - 128), ← Nat.mul_assoc]; omega
      · omega
theorem comb_end (i acc : Nat) (l : List UInt8) (hi : i < 9) (hl : i < l.length) (hx : l[i].toNat < 128) :
    comb i acc (dec (9 - i) (l.drop i)) = if l[i].toNat = 0 ∧ 0 < i then none else some (acc + l[i].toNat % 128 * 128 ^ i, i + 1) := by
  rw [List.drop_eq_getElem_cons hl, show 9 - i = (9 - (i + 1)) + 1 from by omega]
  simp only [dec]
  rw [if_pos hx]
  simp only [comb]
  rw [Nat.mod_eq_of_lt hx, Nat.mul_comm]
  rw [Nat.add_comm 1 i]
theorem comb_over (i acc : Nat) (l : List UInt8) (h : 9 ≤ i ∨ l.length ≤ i) : comb i acc (dec (9 - i) (l.drop i)) = none := by
  rcases h with h | h
  · rw [show 9 - i = 0 from by omega]; rfl
  · rw [List.drop_eq_nil_of_le h]
    cases 9 - i <;> rfl

/-- What num.first tells. -/
def fstV (l : List UInt8) : Int × Int := match takeN l with | none => (0, 0) | some (n, k) => (n, k)
theorem fst_none {l : List UInt8} (h : takeN l = none) : fstV l = (0, 0) := by unfold fstV; rw [h]
theorem fst_some {l : List UInt8} {n k : Nat} (h : takeN l = some (n, k)) : fstV l = ((n : Int), (k : Int)) := by unfold fstV; rw [h]

def Two (w : World) (p : Int × Int) (e : Ending) (w' : World) : Prop := e = .returned (.tuple #[.int .i64 p.1, .int .i64 p.2]) ∧ w = w'

theorem pow_le_63 (i : Nat) (h : i < 9) : 128 * 128 ^ i ≤ 9223372036854775808 := by
  have : 128 ^ i ≤ 128 ^ 8 := Nat.pow_le_pow_right (by omega) (by omega)
  have e : 128 ^ 8 = 72057594037927936 := by decide
  omega
theorem shl_128 (x i : Nat) : (x : Int) * 2 ^ (7 * i) = ((x * 128 ^ i : Nat) : Int) := by
  have h : (2 : Nat) ^ (7 * i) = 128 ^ i := by rw [Nat.pow_mul]
  rw [← h]; push_cast; rfl

theorem acc_step (acc i x : Nat) (ha : acc < 128 ^ i) : acc + x % 128 * 128 ^ i < 128 ^ (i + 1) := by
  have h1 : x % 128 ≤ 127 := by omega
  have h2 : x % 128 * 128 ^ i ≤ 127 * 128 ^ i := Nat.mul_le_mul_right _ h1
  rw [Nat.pow_succ]; omega

/-- What a round comes to, by what the byte is. -/
theorem round_facts (s : ByteArray) (i acc : Nat) (h9 : i < 9) (hs : i < s.size) (ha : acc < 128 ^ i) (ht : takeN s.data.toList = fin62 (comb i acc (dec (9 - i) (s.data.toList.drop i)))) :
    (0 : Int) ≤ (s[i].toNat : Int) % 128 * 2 ^ (7 * i) ∧ (acc : Int) + (s[i].toNat : Int) % 128 * 2 ^ (7 * i) ≤ 9223372036854775807 ∧
    (acc : Int) + (s[i].toNat : Int) % 128 * 2 ^ (7 * i) = ((acc + s[i].toNat % 128 * 128 ^ i : Nat) : Int) ∧ acc + s[i].toNat % 128 * 128 ^ i < 128 ^ (i + 1) ∧
    (¬ s[i].toNat < 128 → takeN s.data.toList = fin62 (comb (i + 1) (acc + s[i].toNat % 128 * 128 ^ i) (dec (9 - (i + 1)) (s.data.toList.drop (i + 1))))) ∧
    (s[i].toNat < 128 → takeN s.data.toList = fin62 (if s[i].toNat = 0 ∧ 0 < i then none else some (acc + s[i].toNat % 128 * 128 ^ i, i + 1))) := by
  have hl : i < s.data.toList.length := by rw [str_len]; exact hs
  have e : ((s[i].toNat : Int) % 128 * 2 ^ (7 * i)) = ((s[i].toNat % 128 * 128 ^ i : Nat) : Int) := by rw [← shl_128]; push_cast; rfl
  have hp := pow_le_63 i h9
  have hst := acc_step acc i s[i].toNat ha
  rw [e]
  refine ⟨by omega, ?_, by omega, hst, ?_, ?_⟩
  · rw [Nat.pow_succ, Nat.mul_comm (128 ^ i) 128] at hst; generalize s[i].toNat % 128 * 128 ^ i = t at *; generalize 128 * 128 ^ i = u at *; omega
  · intro hx; rw [ht]; exact congrArg fin62 (comb_step i acc s.data.toList h9 hl hx)
  · intro hx; rw [ht]; exact congrArg fin62 (comb_end i acc s.data.toList h9 hl hx)

set_option maxHeartbeats 4000000 in
theorem first_any (s : ByteArray) (w : World) (hsz : s.size ≤ 9223372036854775807) :
    Calls Try.prog 58 #[.string s] w (Two w (fstV s.data.toList)) := by
  have hlen : s.data.toList.length = s.size := str_len s
  have HL := Lib.hid hlen; clear hlen
  by_cases hm : s.size ≤ 9
  all_goals
    go_enter Try.func58, Try.ntmps58
    go_wp2
    go_loop [4, 10] (fun n i => ∃ k acc : Nat, k ≤ 9 ∧ k ≤ s.size ∧ i = .int .i64 k ∧ n = .int .i64 acc ∧ acc < 128 ^ k ∧ takeN s.data.toList = fin62 (comb k acc (dec (9 - k) (s.data.toList.drop k)))) (fun _ i => 9 - (intOf i).toNat)
    case atStart => exact ⟨0, 0, by omega, by omega, rfl, rfl, by omega, takeN_start _⟩
    case round =>
      obtain ⟨i, acc, hk, hks, rfl, rfl, hacc, htk⟩ := hrel
      by_cases hlt : i < 9 ∧ i < s.size
      · obtain ⟨h9, hs⟩ := hlt
        obtain ⟨b1, b2, he, hst, hA, hB⟩ := round_facts s i acc h9 hs hacc htk
        have HE := Lib.hid he
        have HS := Lib.hid hst
        by_cases hx : s[i].toNat < 128
        · have HT := Lib.hid (hB hx)
          by_cases hx0 : s[i].toNat = 0
          · by_cases hi : i = 0
            · subst hi
              have ha0 : acc = 0 := by simp at hacc; omega
              subst ha0
              have e1 : ((0 + s[0].toNat % 128 * 128 ^ 0 : Nat)) = 0 := by rw [hx0]
              have HF : Hid (fstV s.data.toList = (0, 1)) := fst_some (n := 0) (k := 1) (by rw [HT.out, if_neg (by omega), e1]; rfl)
              clear he hst hA hB htk hacc HE HS HT b1 b2 e1
              go_wp2
              go_ret2
              exact ⟨by rw [HF.out]; rfl, rfl⟩
            · have HF : Hid (fstV s.data.toList = (0, 0)) := fst_none (by rw [HT.out, if_pos (by omega)]; rfl)
              clear he hst hA hB htk hacc HE HS HT
              go_wp2
              go_ret2
              exact ⟨by rw [HF.out]; rfl, rfl⟩
          · by_cases hv : acc + s[i].toNat % 128 * 128 ^ i < 4611686018427387904
            · have hv' : ¬ 4611686018427387904 ≤ (acc : Int) + (s[i].toNat : Int) % 128 * 2 ^ (7 * i) := by omega
              have HF : Hid (fstV s.data.toList = (((acc + s[i].toNat % 128 * 128 ^ i : Nat) : Int), ((i + 1 : Nat) : Int))) := fst_some (by rw [HT.out, if_neg (by omega)]; simp only [fin62]; rw [if_pos hv])
              clear he hst hA hB htk hacc HS HT hv
              go_wp2
              go_ret2
              exact ⟨by rw [HF.out, HE.out]; rfl, rfl⟩
            · have hv' : 4611686018427387904 ≤ (acc : Int) + (s[i].toNat : Int) % 128 * 2 ^ (7 * i) := by omega
              have HF : Hid (fstV s.data.toList = (0, 0)) := fst_none (by rw [HT.out, if_neg (by omega)]; simp only [fin62]; rw [if_neg hv])
              clear he hst hA hB htk hacc HS HT hv HE
              go_wp2
              go_ret2
              exact ⟨by rw [HF.out]; rfl, rfl⟩
        · have HT := Lib.hid (hA hx)
          clear he hst hA hB htk hacc
          go_wp2
          go_round
          case rel => exact ⟨i + 1, acc + s[i].toNat % 128 * 128 ^ i, by omega, by omega, by go_num, by rw [HE.out], HS.out, HT.out⟩
          case measure => simp [intOf]; omega
      · have HF : Hid (fstV s.data.toList = (0, 0)) := fst_none (by rw [htk, comb_over i acc _ (by rw [HL.out]; omega)]; rfl)
        clear htk hacc
        go_wp2
        go_ret2
        exact ⟨by rw [HF.out]; rfl, rfl⟩

end Go.Proofs.Ytmchnnnpabpelaa
