/-
  hedgerowref01.plain, hedgerowref01.Name: the contracts, by walks. Conditions: the text's length.
-/
import Derived.Test.YtmmphgapginmjaaGreatDoorValName
namespace Go.Proofs.YtmmphgapginmjaaGreatDoor
open Go.RowKit

theorem get_at (s : ByteArray) (i : Nat) (h : i < s.size) : s.data.toList.getD i 0 = s[i]'h := (sign_at s i h).2

set_option maxHeartbeats 2000000 in
theorem refplain_any (s : ByteArray) (w : World) (hs : s.size ≤ 9223372036854775806) : Calls Tryz.prog 50 #[.string s] w (SameV w (.bool (plainB s.data.toList))) := by
  have hlen : s.data.toList.length = s.size := by rw [Array.length_toList]; rfl
  have hN : plainB s.data.toList = (decide (s.size ≤ 64) && (List.range s.size).all (plnAt s.data.toList)) := by unfold plainB; rw [hlen]
  have HN := Lib.hid hN
  clear hN hlen
  go_enter Tryz.func50, Tryz.ntmps50
  go_wp2
  go_loopw [3] (fun x wr => ∃ i : Nat, x = .int .i64 i ∧ wr = w ∧ i ≤ s.size ∧ ∀ j, j < i → plnAt s.data.toList j = true) (fun x _ => s.size - (intOf x).toNat)
  case atStart => exact ⟨0, rfl, rfl, Nat.zero_le _, fun j hj => by omega⟩
  case round =>
    obtain ⟨i, rfl, rfl, hi, hall⟩ := hrel
    have HA := Lib.hid hall
    clear hall
    by_cases hp : i < s.size
    · have g1 : (i : Int) < (s.size : Int) := by omega
      have g0 : (0 : Int) ≤ (i : Int) := by omega
      obtain ⟨c, hc⟩ : ∃ c : Int, ((s[i]'hp).toNat : Int) = c := ⟨_, rfl⟩
      have hR : plnAt s.data.toList i = plnR c := by unfold plnAt; rw [get_at s i hp, hc]
      have HR := Lib.hid hR
      clear hR
      by_cases h1 : c < 32
      · have HF : Hid (plainB s.data.toList = false) := Lib.hid (by rw [HN.out, all_range_false hp (by rw [HR.out]; simp [plnR]; omega), Bool.and_false])
        go_wp2
        go_ret
        exact ⟨by rw [HF.out]; rfl, rfl⟩
      by_cases h2 : 126 < c
      · have HF : Hid (plainB s.data.toList = false) := Lib.hid (by rw [HN.out, all_range_false hp (by rw [HR.out]; simp [plnR]; omega), Bool.and_false])
        go_wp2
        go_ret
        exact ⟨by rw [HF.out]; rfl, rfl⟩
      · have hk : plnAt s.data.toList i = true := by rw [HR.out]; simp [plnR]; omega
        have H2 : Hid (∀ j, j < i + 1 → plnAt s.data.toList j = true) := Lib.hid (by
          intro j hj
          rcases Nat.lt_or_ge j i with hlt | hge
          · exact HA.out j hlt
          · rw [show j = i from by omega]; exact hk)
        have hwr : wrap64 ((i : Int) + 1) = ((i + 1 : Nat) : Int) := by rw [IntWalk.wrap64_in _ ⟨by omega, by omega⟩]; omega
        clear hk
        go_wp2
        go_roundw
        case rel => exact ⟨i + 1, by first | rfl | (rw [hwr]), by first | trivial | rfl, by omega, H2.out⟩
        case measure => simp [intOf]; omega
    · have g1 : ¬ (i : Int) < (s.size : Int) := by omega
      have HF : Hid (plainB s.data.toList = decide (s.size ≤ 64)) := Lib.hid (by rw [HN.out, all_range_true (fun j hj => HA.out j (by omega)), Bool.and_true])
      go_wp2
      go_ret
      exact ⟨by rw [HF.out]; simp; omega, rfl⟩

set_option maxHeartbeats 4000000 in
theorem refname_any (s : ByteArray) (w : World) (hs : s.size ≤ 9223372036854775806) : Calls Tryz.prog 31 #[.string s] w (SameV w (.bool (nameB s.data.toList))) := by
  have hlen : s.data.toList.length = s.size := by rw [Array.length_toList]; rfl
  have hN : nameB s.data.toList = (decide (0 < s.size) && decide (s.size ≤ 16) && (List.range s.size).all (okAt s.data.toList)) := by unfold nameB; rw [hlen]
  have HN := Lib.hid hN
  clear hN hlen
  go_enter Tryz.func31, Tryz.ntmps31
  go_wp2
  go_loopw [3] (fun x wr => ∃ i : Nat, x = .int .i64 i ∧ wr = w ∧ i ≤ s.size ∧ ∀ j, j < i → okAt s.data.toList j = true) (fun x _ => s.size - (intOf x).toNat)
  case atStart => exact ⟨0, rfl, rfl, Nat.zero_le _, fun j hj => by omega⟩
  case round =>
    obtain ⟨i, rfl, rfl, hi, hall⟩ := hrel
    have HA := Lib.hid hall
    clear hall
    by_cases hp : i < s.size
    · have g1 : (i : Int) < (s.size : Int) := by omega
      have g0 : (0 : Int) ≤ (i : Int) := by omega
      obtain ⟨c, hc⟩ : ∃ c : Int, ((s[i]'hp).toNat : Int) = c := ⟨_, rfl⟩
      have HR : Hid (okAt s.data.toList i = okR c i) := Lib.hid (by unfold okAt; rw [get_at s i hp, hc])
      have HX : Hid (okR c i = true → ∀ j, j < i + 1 → okAt s.data.toList j = true) := Lib.hid (by
        intro hk j hj
        rcases Nat.lt_or_ge j i with hlt | hge
        · exact HA.out j hlt
        · rw [show j = i from by omega, HR.out]; exact hk)
      have HF : Hid (okR c i = false → nameB s.data.toList = false) := Lib.hid (by
        intro hk
        rw [HN.out, all_range_false hp (by rw [HR.out]; exact hk), Bool.and_false])
      have hwr : wrap64 ((i : Int) + 1) = ((i + 1 : Nat) : Int) := by rw [IntWalk.wrap64_in _ ⟨by omega, by omega⟩]; omega
      have hz : ((i : Int) == 0) = decide (i = 0) := by by_cases h : i = 0 <;> simp [h]
      go_wp2
      all_goals first
        | (go_ret
           have hk : okR c i = false := by simp_all [okR, lettB, digI] <;> omega
           exact ⟨by rw [HF.out hk]; rfl, rfl⟩)
        | (go_roundw
           case rel =>
             have hk : okR c i = true := by simp_all [okR, lettB, digI] <;> omega
             exact ⟨i + 1, by first | rfl | (rw [hwr]), by first | trivial | rfl, by omega, HX.out hk⟩
           case measure => simp [intOf]; omega)
    · have g1 : ¬ (i : Int) < (s.size : Int) := by omega
      have HF : Hid (nameB s.data.toList = (decide (0 < s.size) && decide (s.size ≤ 16))) := Lib.hid (by rw [HN.out, all_range_true (fun j hj => HA.out j (by omega)), Bool.and_true])
      by_cases h0 : s.size = 0
      · have k1 : ¬ (1 : Int) ≤ (s.size : Int) := by omega
        have HG : Hid (nameB s.data.toList = false) := Lib.hid (by rw [HF.out, h0]; rfl)
        clear h0
        go_wp2
        go_ret
        exact ⟨by rw [HG.out]; rfl, rfl⟩
      · have k1 : (1 : Int) ≤ (s.size : Int) := by omega
        have HG : Hid (nameB s.data.toList = decide ((s.size : Int) ≤ 16)) := Lib.hid (by rw [HF.out]; by_cases h : s.size ≤ 16 <;> simp [h] <;> omega)
        clear h0
        go_wp2
        go_ret
        exact ⟨by rw [HG.out]; rfl, rfl⟩

end Go.Proofs.YtmmphgapginmjaaGreatDoor
