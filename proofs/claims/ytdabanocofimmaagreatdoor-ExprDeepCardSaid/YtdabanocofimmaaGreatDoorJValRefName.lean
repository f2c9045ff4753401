/-
  hedgerowref01.plain, hedgerowref01.Name: the contracts, by walks. hedgerowref01.Link: the contract, by a walk. Conditions: lengths.
-/
import Derived.Test.YtdabanocofimmaaGreatDoorJWords
import Derived.Test.YtdabanocofimmaaGreatDoorJValSplit
import Derived.Test.YtdabanocofimmaaGreatDoorJValOf
import Derived.Deep.DeepCutAuto
namespace Go.Proofs.YtdabanocofimmaaGreatDoor
open Go.RowKit

theorem get_at (s : ByteArray) (i : Nat) (h : i < s.size) : s.data.toList.getD i 0 = s[i]'h := (sign_at s i h).2

set_option maxHeartbeats 2000000 in
theorem refplain_any (s : ByteArray) (w : World) (hs : s.size ≤ 9223372036854775806) : Calls Tryz.prog 76 #[.string s] w (SameV w (.bool (plainB s.data.toList))) := by
  have hlen : s.data.toList.length = s.size := by rw [Array.length_toList]; rfl
  have hN : plainB s.data.toList = (decide (s.size ≤ 64) && (List.range s.size).all (plnAt s.data.toList)) := by unfold plainB; rw [hlen]
  have HN := Lib.hid hN
  clear hN hlen
  go_enter Tryz.func76, Tryz.ntmps76
  go_wp2
  go_loopw [3] (fun x wr => ∃ i : Nat, x = .int .i64 i ∧ wr = w ∧ i ≤ s.size ∧ ∀ j, j < i → plnAt s.data.toList j = true) (fun x _ => s.size - (intOf x).toNat)
  case atStart => exact ⟨0, rfl, rfl, Nat.zero_le _, fun j hj => by omega⟩
  case round =>
    obtain ⟨i, rfl, rfl, hi, hall⟩ := hrel
    have HA := Lib.hid hall
    clear hall
    by_cases hp : i < s.size
    · have g1 : (i : Int) < (s.size : Int) := by omega
      have g0 : (0 : Int) ≤ (i : Int) := by omega
      obtain ⟨c, hc⟩ : ∃ c : Int, ((s[i]'hp).toNat : Int) = c := ⟨_, rfl⟩
      have hR : plnAt s.data.toList i = plnR c := by unfold plnAt; rw [get_at s i hp, hc]
      have HR := Lib.hid hR
      clear hR
      by_cases h1 : c < 32
      · have HF : Hid (plainB s.data.toList = false) := Lib.hid (by rw [HN.out, all_range_false hp (by rw [HR.out]; simp [plnR]; omega), Bool.and_false])
        go_wp2
        go_ret
        exact ⟨by rw [HF.out]; rfl, rfl⟩
      by_cases h2 : 126 < c
      · have HF : Hid (plainB s.data.toList = false) := Lib.hid (by rw [HN.out, all_range_false hp (by rw [HR.out]; simp [plnR]; omega), Bool.and_false])
        go_wp2
        go_ret
        exact ⟨by rw [HF.out]; rfl, rfl⟩
      · have hk : plnAt s.data.toList i = true := by rw [HR.out]; simp [plnR]; omega
        have H2 : Hid (∀ j, j < i + 1 → plnAt s.data.toList j = true) := Lib.hid (by
          intro j hj
          rcases Nat.lt_or_ge j i with hlt | hge
          · exact HA.out j hlt
          · rw [show j = i from by omega]; exact hk)
        have hwr : wrap64 ((i : Int) + 1) = ((i + 1 : Nat) : Int) := by rw [IntWalk.wrap64_in _ ⟨by omega, by omega⟩]; omega
        clear hk
        go_wp2
        go_roundw
        case rel => exact ⟨i + 1, by first | rfl | (rw [hwr]), by first | trivial | rfl, by omega, H2.out⟩
        case measure => simp [intOf]; omega
    · have g1 : ¬ (i : Int) < (s.size : Int) := by omega
      have HF : Hid (plainB s.data.toList = decide (s.size ≤ 64)) := Lib.hid (by rw [HN.out, all_range_true (fun j hj => HA.out j (by omega)), Bool.and_true])
      go_wp2
      go_ret
      exact ⟨by rw [HF.out]; simp; omega, rfl⟩

set_option maxHeartbeats 4000000 in
theorem refname_any (s : ByteArray) (w : World) (hs : s.size ≤ 9223372036854775806) : Calls Tryz.prog 71 #[.string s] w (SameV w (.bool (nameB s.data.toList))) := by
  have hlen : s.data.toList.length = s.size := by rw [Array.length_toList]; rfl
  have hN : nameB s.data.toList = (decide (0 < s.size) && decide (s.size ≤ 16) && (List.range s.size).all (okAt s.data.toList)) := by unfold nameB; rw [hlen]
  have HN := Lib.hid hN
  clear hN hlen
  go_enter Tryz.func71, Tryz.ntmps71
  go_wp2
  go_loopw [3] (fun x wr => ∃ i : Nat, x = .int .i64 i ∧ wr = w ∧ i ≤ s.size ∧ ∀ j, j < i → okAt s.data.toList j = true) (fun x _ => s.size - (intOf x).toNat)
  case atStart => exact ⟨0, rfl, rfl, Nat.zero_le _, fun j hj => by omega⟩
  case round =>
    obtain ⟨i, rfl, rfl, hi, hall⟩ := hrel
    have HA := Lib.hid hall
    clear hall
    by_cases hp : i < s.size
    · have g1 : (i : Int) < (s.size : Int) := by omega
      have g0 : (0 : Int) ≤ (i : Int) := by omega
      obtain ⟨c, hc⟩ : ∃ c : Int, ((s[i]'hp).toNat : Int) = c := ⟨_, rfl⟩
      have HR : Hid (okAt s.data.toList i = okR c i) := Lib.hid (by unfold okAt; rw [get_at s i hp, hc])
      have HX : Hid (okR c i = true → ∀ j, j < i + 1 → okAt s.data.toList j = true) := Lib.hid (by
        intro hk j hj
        rcases Nat.lt_or_ge j i with hlt | hge
        · exact HA.out j hlt
        · rw [show j = i from by omega, HR.out]; exact hk)
      have HF : Hid (okR c i = false → nameB s.data.toList = false) := Lib.hid (by
        intro hk
        rw [HN.out, all_range_false hp (by rw [HR.out]; exact hk), Bool.and_false])
      have hwr : wrap64 ((i : Int) + 1) = ((i + 1 : Nat) : Int) := by rw [IntWalk.wrap64_in _ ⟨by omega, by omega⟩]; omega
      have hz : ((i : Int) == 0) = decide (i = 0) := by by_cases h : i = 0 <;> simp [h]
      go_wp2
      all_goals first
        | (go_ret
           have hk : okR c i = false := by simp_all [okR, lettB, digI] <;> omega
           exact ⟨by rw [HF.out hk]; rfl, rfl⟩)
        | (go_roundw
           case rel =>
             have hk : okR c i = true := by simp_all [okR, lettB, digI] <;> omega
             exact ⟨i + 1, by first | rfl | (rw [hwr]), by first | trivial | rfl, by omega, HX.out hk⟩
           case measure => simp [intOf]; omega)
    · have g1 : ¬ (i : Int) < (s.size : Int) := by omega
      have HF : Hid (nameB s.data.toList = (decide (0 < s.size) && decide (s.size ≤ 16))) := Lib.hid (by rw [HN.out, all_range_true (fun j hj => HA.out j (by omega)), Bool.and_true])
      by_cases h0 : s.size = 0
      · have k1 : ¬ (1 : Int) ≤ (s.size : Int) := by omega
        have HG : Hid (nameB s.data.toList = false) := Lib.hid (by rw [HF.out, h0]; rfl)
        clear h0
        go_wp2
        go_ret
        exact ⟨by rw [HG.out]; rfl, rfl⟩
      · have k1 : (1 : Int) ≤ (s.size : Int) := by omega
        have HG : Hid (nameB s.data.toList = decide ((s.size : Int) ≤ 16)) := Lib.hid (by rw [HF.out]; by_cases h : s.size ≤ 16 <;> simp [h] <;> omega)
        clear h0
        go_wp2
        go_ret
        exact ⟨by rw [HG.out]; rfl, rfl⟩

end Go.Proofs.YtdabanocofimmaaGreatDoor

namespace Go.Proofs.YtdabanocofimmaaGreatDoor
open Go.RowKit

theorem size_mk' (l : List UInt8) : (ByteArray.mk l.toArray).size = l.length := by simp [ByteArray.size]

theorem refname_l (l : List UInt8) (w : World) (h : (ByteArray.mk l.toArray).size ≤ 9223372036854775806) : Calls Tryz.prog 71 #[.string ⟨l.toArray⟩] w (SameV w (.bool (nameB l))) := refname_any ⟨l.toArray⟩ w h

set_option maxHeartbeats 4000000 in
theorem reflink_any (s : ByteArray) (w : World) (hs : s.size ≤ 1000000) : Calls Tryz.prog 77 #[.string s] w (Gives w (nmV s.data.toList)) := by
  have hlen : s.data.toList.length = s.size := by rw [Array.length_toList]; rfl
  have hVF : nmB s.data.toList = false → Hid (.tuple #[lkV [] [] [], .bool false] = nmV s.data.toList) := fun h => Lib.hid (by unfold nmV; rw [h]; rfl)
  by_cases h60 : 60 < s.size
  · have HF := hVF (by
      cases hq : nmB s.data.toList with
      | false => rfl
      | true => have := nmB_len _ hq; omega)
    clear hVF hlen
    go_enter Tryz.func77, Tryz.ntmps77
    go_wp2
    refine bodyPost_ret (ret_cell rfl _ _ _ _ _ _ (.bool false) rfl (Blk.new w _ _) Tryz.underlying96 rfl (by kernel_rfl) rfl) rfl ?_
    exact ⟨by rw [← HF.out]; rfl, alloc_below _ _⟩
  · have hsp := fun W => split_any 62 s W hs
    have HSP := Lib.hid hsp
    obtain ⟨n, hn⟩ : ∃ n, n = (spR 62 s.data.toList).length := ⟨_, rfl⟩
    have hn2 : (spl 62 s.data.toList).1.length + 1 = n := by rw [hn, ← spl_parts]; simp
    have HN2 := Lib.hid hn2
    have hn9 : n ≤ 1000001 := by
      have := spl_len 62 s.data.toList
      omega
    have HN := Lib.hid hn
    have hn1 : 0 < n := by omega
    clear hsp hn2 hn hlen
    go_enter Tryz.func77, Tryz.ntmps77
    go_wp2_with fail
    refine (HSP.out _).mono ?_
    rintro e w1 ⟨v, rfl, ho1, hb1⟩
    rw [spl_parts, HN2.out] at ho1
    have k1 := In1.of hb1
    have HB := Lib.hid k1.below
    obtain ⟨g, c, hv⟩ : ∃ g c, v = .slice (some ⟨g, 0, none⟩) n c := by
      rcases ho1.2 with ⟨_, h⟩ | ⟨g, cap, cur, h, _⟩
      · omega
      · exact ⟨g, cap, h⟩
    subst hv
    obtain ⟨c0, c1, c2, f0, f1, f2, hlt⟩ := k1.three
    have K1 := Lib.hid k1
    clear k1 hb1
    by_cases h3 : n = 3
    · subst h3
      obtain ⟨p, q, r, hp⟩ : ∃ p q r, spR 62 s.data.toList = [p, q, r] := by
        have hne := HN.out
        match hs : spR 62 s.data.toList, hne with
        | [p, q, r], _ => exact ⟨p, q, r, rfl⟩
      rw [hp] at ho1
      obtain ⟨e1, e2, e3⟩ := three_parts _ _ _ _ hp
      have HV : Hid (nmV s.data.toList = .tuple #[if (nameB p && nameB q && nameB r) then lkV p r q else lkV [] [] [], .bool (nameB p && nameB q && nameB r)]) := Lib.hid (by unfold nmV nmB; rw [e1, e2, e3])
      have l0 : w1.cell? ⟨g, 0, none⟩ = some (.string ⟨p.toArray⟩) := ho1.cellAt 0 (by omega)
      have l1 : w1.cell? ⟨g, 1, none⟩ = some (.string ⟨q.toArray⟩) := ho1.cellAt 1 (by omega)
      have l2 : w1.cell? ⟨g, 2, none⟩ = some (.string ⟨r.toArray⟩) := ho1.cellAt 2 (by omega)
      have hln : p.length ≤ 1000000 ∧ q.length ≤ 1000000 ∧ r.length ≤ 1000000 := by
        obtain ⟨a1, a2⟩ := cut_len s.data.toList [62]
        obtain ⟨a3, a4⟩ := cut_len (Lib.cut s.data.toList [62]).2.1 [62]
        have hl : s.data.toList.length = s.size := by rw [Array.length_toList]; rfl
        unfold nmA at e1; unfold nmK at e2; unfold nmT at e3
        rw [← e1, ← e2, ← e3]; omega
      have HP : Hid ((ByteArray.mk p.toArray).size ≤ 9223372036854775806) := Lib.hid (by rw [size_mk']; omega)
      have HQ : Hid ((ByteArray.mk q.toArray).size ≤ 9223372036854775806) := Lib.hid (by rw [size_mk']; omega)
      have HR : Hid ((ByteArray.mk r.toArray).size ≤ 9223372036854775806) := Lib.hid (by rw [size_mk']; omega)
      clear hVF HSP HN HN2 ho1 hp e1 e2 e3 hln hn1 hn9
      go_wp2_with fail
      refine (refname_l _ _ HP.out).mono ?_
      rintro e w2 ⟨rfl, rfl⟩
      cases q1 : nameB p with
      | false =>
        have Q1 := Lib.hid q1
        clear q1
        have HF : Hid (nmV s.data.toList = .tuple #[lkV [] [] [], .bool false]) := Lib.hid (by rw [HV.out, Q1.out]; rfl)
        go_wp2
        (try simp only [Exit.inBlock, Exit.then])
        refine bodyPost_ret (ret_cell rfl _ _ _ _ _ _ (.bool false) rfl (set3_blk K1.out _ _ _) Tryz.underlying96 rfl (by kernel_rfl) rfl) rfl ?_
        exact ⟨by rw [HF.out]; rfl, set3_below HB.out _ _ _⟩
      | true =>
        have Q1 := Lib.hid q1
        clear q1
        go_wp2_with fail
        refine (refname_l _ _ HQ.out).mono ?_
        rintro e w2 ⟨rfl, rfl⟩
        cases q2 : nameB q with
        | false =>
          have Q2 := Lib.hid q2
          clear q2
          have HF : Hid (nmV s.data.toList = .tuple #[lkV [] [] [], .bool false]) := Lib.hid (by rw [HV.out, Q1.out, Q2.out]; rfl)
          go_wp2
          (try simp only [Exit.inBlock, Exit.then])
          refine bodyPost_ret (ret_cell rfl _ _ _ _ _ _ (.bool false) rfl (set3_blk K1.out _ _ _) Tryz.underlying96 rfl (by kernel_rfl) rfl) rfl ?_
          exact ⟨by rw [HF.out]; rfl, set3_below HB.out _ _ _⟩
        | true =>
          have Q2 := Lib.hid q2
          clear q2
          go_wp2_with fail
          refine (refname_l _ _ HR.out).mono ?_
          rintro e w2 ⟨rfl, rfl⟩
          cases q3 : nameB r with
          | false =>
            have Q3 := Lib.hid q3
            clear q3
            have HF : Hid (nmV s.data.toList = .tuple #[lkV [] [] [], .bool false]) := Lib.hid (by rw [HV.out, Q1.out, Q2.out, Q3.out]; rfl)
            go_wp2
            (try simp only [Exit.inBlock, Exit.then])
            refine bodyPost_ret (ret_cell rfl _ _ _ _ _ _ (.bool false) rfl (set3_blk K1.out _ _ _) Tryz.underlying96 rfl (by kernel_rfl) rfl) rfl ?_
            exact ⟨by rw [HF.out]; rfl, set3_below HB.out _ _ _⟩
          | true =>
            have Q3 := Lib.hid q3
            clear q3
            have HF : Hid (nmV s.data.toList = .tuple #[lkV p r q, .bool true]) := Lib.hid (by rw [HV.out, Q1.out, Q2.out, Q3.out]; rfl)
            go_wp2
            go_region
            all_goals go_wp2
            all_goals (try simp only [Exit.inBlock, Exit.then])
            all_goals refine bodyPost_ret (ret_cell rfl _ _ _ _ _ _ (.bool true) rfl (set3_blk (K1.out.drew' 1) _ _ _) Tryz.underlying96 rfl (by kernel_rfl) rfl) rfl ?_
            all_goals exact ⟨by rw [HF.out]; rfl, set3_below HB.out.drew _ _ _⟩
    · have HF := hVF (not_three _ (by rw [← HN.out]; exact h3))
      have h3' : ((n : Int) != 3) = true := by simp; omega
      clear hVF HSP HN HN2 h3 ho1
      go_wp2
      refine bodyPost_ret (ret_cell rfl _ _ _ _ _ _ (.bool false) rfl (set3_blk K1.out _ _ _) Tryz.underlying96 rfl (by kernel_rfl) rfl) rfl ?_
      exact ⟨by rw [← HF.out]; rfl, set3_below HB.out _ _ _⟩

end Go.Proofs.YtdabanocofimmaaGreatDoor
