/-
  hedgerowref01.number: the contract, by a walk. Conditions: the text is not empty; its length.
-/
import Derived.Test.YtmmphgapginmjaaGreatDoorValRefLink
import Derived.Test.YtmmphgapginmjaaGreatDoorValNum
import Derived.Deep.DeepCutAuto
namespace Go.Proofs.YtmmphgapginmjaaGreatDoor
open Go.RowKit

/-- What the first digits tell, as 64 bits have it. -/
def numS (n : Int) (x : UInt8) : Int := n * 10 + x.toNat - 48
def numF (l : List UInt8) : Int := l.foldl numS 0
theorem numF_snoc (l : List UInt8) (x : UInt8) : numF (l ++ [x]) = numF l * 10 + x.toNat - 48 := by unfold numF; rw [List.foldl_append]; rfl
theorem numF_bound (k : Nat) : ∀ l : List UInt8, l.length = k → (numF l).natAbs + 100 ≤ 10 ^ (k + 2) := by
  induction k with
  | zero => intro l h; rw [List.length_eq_zero_iff.1 h]; decide
  | succ k ih =>
    intro l h
    have hne : l ≠ [] := by intro e; subst e; simp at h
    obtain ⟨m, x, rfl⟩ : ∃ m x, l = m ++ [x] := ⟨l.dropLast, l.getLast hne, (List.dropLast_concat_getLast hne).symm⟩
    have hm := ih m (by simpa using h)
    rw [numF_snoc]
    have hx : x.toNat < 256 := x.toNat_lt
    have hp : 10 ^ (k + 1 + 2) = 10 ^ (k + 2) * 10 := by rw [show k + 1 + 2 = (k + 2) + 1 by omega, Nat.pow_succ]
    rw [hp]
    generalize 10 ^ (k + 2) = P at *
    omega
theorem numF_small (l : List UInt8) (h : l.length ≤ 15) : -100000000000000000 ≤ numF l ∧ numF l ≤ 100000000000000000 := by
  have h1 := numF_bound l.length l rfl
  have h2 : 10 ^ (l.length + 2) ≤ 10 ^ 17 := Nat.pow_le_pow_right (by omega) (by omega)
  have h3 : 10 ^ 17 = 100000000000000000 := by decide
  omega
/-- What the reference takes a text's digits for. -/
def numR (l : List UInt8) : Int := if l.headD 0 = 45 then -(numF ((l.drop 1).take 15)) else numF (l.take 15)

set_option maxHeartbeats 2000000 in
theorem refnum_any (s : ByteArray) (w : World) (h0 : 0 < s.size) (hs : s.size ≤ 1000000) : Calls Tryz.prog 49 #[.string s] w (SameV w (.int .i64 (numR s.data.toList))) := by
  have h0' : (0 : Int) < (s.size : Int) := by omega
  have hh : s[0]'h0 = s.data.toList.headD 0 := by
    obtain ⟨⟨l⟩⟩ := s
    cases l with
    | nil => simp [ByteArray.size] at h0
    | cons a l => rfl
  by_cases hc : s[0]'h0 = 45
  · have HR : Hid (numR s.data.toList = -(numF ((s.extract 1 s.size).data.toList.take 15))) := Lib.hid (by
      have hdr : (s.extract 1 s.size).data.toList = s.data.toList.drop 1 := by
        rw [ByteArray.data_extract, Array.toList_extract, List.extract_eq_take_drop, List.take_of_length_le (by rw [List.length_drop, Array.length_toList]; exact Nat.le_refl _)]
      unfold numR
      rw [← hh, if_pos hc, hdr])
    have hul : (s.extract 1 s.size).size ≤ 1000000 := by rw [ByteArray.size_extract]; omega
    have hc' : (((s[0]'h0).toNat : Int) == 45) = true := by rw [hc]; rfl
    clear hh hc
    go_enter Tryz.func49, Tryz.ntmps49
    go_wp2
    clear hc' h0'
    generalize s.extract 1 s.size = u at *
    go_loopw [3, 5] (fun n i wr => ∃ k : Nat, k ≤ u.size ∧ k ≤ 15 ∧ i = .int .i64 k ∧ n = .int .i64 (numF (u.data.toList.take k)) ∧ w = wr) (fun _ i _ => u.size - (intOf i).toNat)
    case atStart => exact ⟨0, by omega, by omega, rfl, rfl, rfl⟩
    case round =>
      obtain ⟨k, hk, hk15, rfl, rfl, rfl⟩ := hrel
      have hb := numF_small (u.data.toList.take k) (by rw [List.length_take]; omega)
      by_cases hlt : k < u.size ∧ k < 15
      · obtain ⟨hlt, hl15⟩ := hlt
        have hsn : Hid (numF (u.data.toList.take (k + 1)) = numF (u.data.toList.take k) * 10 + (u[k]'hlt).toNat - 48) := Lib.hid (by
          have hl : k < u.data.toList.length := by rw [Array.length_toList]; exact hlt
          rw [List.take_succ_eq_append_getElem hl, numF_snoc]; rfl)
        have hx : (u[k]'hlt).toNat < 256 := (u[k]'hlt).toNat_lt
        generalize numF (u.data.toList.take k) = a at *
        have g1 : (k : Int) < (u.size : Int) := by omega
        have g2 : (k : Int) < 15 := by omega
        have e1 : wrap64 (a * 10) = a * 10 := IntWalk.wrap64_in _ ⟨by omega, by omega⟩
        have e2 : wrap64 (a * 10 + ((u[k]'hlt).toNat : Int)) = a * 10 + ((u[k]'hlt).toNat : Int) := IntWalk.wrap64_in _ ⟨by omega, by omega⟩
        have e3 : wrap64 (a * 10 + ((u[k]'hlt).toNat : Int) - 48) = a * 10 + ((u[k]'hlt).toNat : Int) - 48 := IntWalk.wrap64_in _ ⟨by omega, by omega⟩
        go_wp2
        refine ⟨⟨k + 1, by omega, by omega, by go_num, by rw [hsn.out], by first | trivial | rfl⟩, by simp [intOf]; omega⟩
      · have hall : u.data.toList.take k = u.data.toList.take 15 := by
          by_cases h15 : k = 15
          · rw [h15]
          · have hl : u.data.toList.length = u.size := by rw [Array.length_toList]; rfl
            rw [List.take_of_length_le (by omega), List.take_of_length_le (by omega)]
        rw [hall] at hb ⊢
        have HV : Hid (numR s.data.toList = -(numF (u.data.toList.take 15))) := HR
        generalize numF (u.data.toList.take 15) = a at *
        have g12 : ((k : Int) < (u.size : Int) → ¬ (k : Int) < 15) := by omega
        have e1 : wrap64 (-a) = -a := IntWalk.wrap64_in _ ⟨by omega, by omega⟩
        have e2 : wrap64 a = a := IntWalk.wrap64_in _ ⟨by omega, by omega⟩
        clear hall hb hlt HR
        by_cases g1 : (k : Int) < (u.size : Int)
        · have g2 := g12 g1
          clear g12
          go_wp2
          go_ret
          exact ⟨by rw [HV.out]; rfl, rfl⟩
        · clear g12
          go_wp2
          go_ret
          exact ⟨by rw [HV.out]; rfl, rfl⟩
  · have HR : Hid (numR s.data.toList = numF (s.data.toList.take 15)) := Lib.hid (by
      unfold numR
      rw [← hh, if_neg hc])
    have hc' : (((s[0]'h0).toNat : Int) == 45) = false := by
      rw [beq_eq_false_iff_ne]; intro e; exact hc (UInt8.toNat_inj.1 (by show (s[0]'h0).toNat = 45; omega))
    clear hh hc
    go_enter Tryz.func49, Tryz.ntmps49
    go_wp2
    clear hc' h0'
    go_loopw [3, 5] (fun n i wr => ∃ k : Nat, k ≤ s.size ∧ k ≤ 15 ∧ i = .int .i64 k ∧ n = .int .i64 (numF (s.data.toList.take k)) ∧ w = wr) (fun _ i _ => s.size - (intOf i).toNat)
    case atStart => exact ⟨0, by omega, by omega, rfl, rfl, rfl⟩
    case round =>
      obtain ⟨k, hk, hk15, rfl, rfl, rfl⟩ := hrel
      have hb := numF_small (s.data.toList.take k) (by rw [List.length_take]; omega)
      by_cases hlt : k < s.size ∧ k < 15
      · obtain ⟨hlt, hl15⟩ := hlt
        have hsn : Hid (numF (s.data.toList.take (k + 1)) = numF (s.data.toList.take k) * 10 + (s[k]'hlt).toNat - 48) := Lib.hid (by
          have hl : k < s.data.toList.length := by rw [Array.length_toList]; exact hlt
          rw [List.take_succ_eq_append_getElem hl, numF_snoc]; rfl)
        have hx : (s[k]'hlt).toNat < 256 := (s[k]'hlt).toNat_lt
        generalize numF (s.data.toList.take k) = a at *
        have g1 : (k : Int) < (s.size : Int) := by omega
        have g2 : (k : Int) < 15 := by omega
        have e1 : wrap64 (a * 10) = a * 10 := IntWalk.wrap64_in _ ⟨by omega, by omega⟩
        have e2 : wrap64 (a * 10 + ((s[k]'hlt).toNat : Int)) = a * 10 + ((s[k]'hlt).toNat : Int) := IntWalk.wrap64_in _ ⟨by omega, by omega⟩
        have e3 : wrap64 (a * 10 + ((s[k]'hlt).toNat : Int) - 48) = a * 10 + ((s[k]'hlt).toNat : Int) - 48 := IntWalk.wrap64_in _ ⟨by omega, by omega⟩
        go_wp2
        refine ⟨⟨k + 1, by omega, by omega, by go_num, by rw [hsn.out], by first | trivial | rfl⟩, by simp [intOf]; omega⟩
      · have hall : s.data.toList.take k = s.data.toList.take 15 := by
          by_cases h15 : k = 15
          · rw [h15]
          · have hl : s.data.toList.length = s.size := by rw [Array.length_toList]; rfl
            rw [List.take_of_length_le (by omega), List.take_of_length_le (by omega)]
        rw [hall] at hb ⊢
        have HV : Hid (numR s.data.toList = numF (s.data.toList.take 15)) := HR
        generalize numF (s.data.toList.take 15) = a at *
        have g12 : ((k : Int) < (s.size : Int) → ¬ (k : Int) < 15) := by omega
        have e1 : wrap64 (-a) = -a := IntWalk.wrap64_in _ ⟨by omega, by omega⟩
        have e2 : wrap64 a = a := IntWalk.wrap64_in _ ⟨by omega, by omega⟩
        clear hall hb hlt HR
        by_cases g1 : (k : Int) < (s.size : Int)
        · have g2 := g12 g1
          clear g12
          go_wp2
          go_ret
          exact ⟨by rw [HV.out]; rfl, rfl⟩
        · clear g12
          go_wp2
          go_ret
          exact ⟨by rw [HV.out]; rfl, rfl⟩

end Go.Proofs.YtmmphgapginmjaaGreatDoor
