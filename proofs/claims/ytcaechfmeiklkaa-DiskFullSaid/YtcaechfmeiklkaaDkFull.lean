/-
  hedgerowlaw10.DiskFull: the walk: for all sizes the call returns true, and nothing that was there has turned. Conditions: none.
-/
import Derived.Test.YtcaechfmeiklkaaDkFixed
namespace Go.Proofs.Ytcaechfmeiklkaa
open Go.RowKit

theorem zeros_bs (n : Nat) : (madeCells #[Value.int .u8 0] n).toList = bs (List.replicate n 0) := by
  rw [toList_madeCells_one]
  simp [bs, bv]

set_option maxRecDepth 100000 in
set_option maxHeartbeats 2000000 in
theorem full_walk (f m : Nat) (w : World) (hf : f < 65536) (hm : m < 65536) :
    Calls Try.prog 4 #[.int .u16 f, .int .u16 m] w (Law w) := by
  obtain ⟨i0, hi, hz0, hz1, hz2⟩ := info_parts infoB
  have hfx := dfixed_any w
  have HFX := Lib.hid hfx; clear hfx
  go_enter Try.func4, Try.ntmps4
  go_wp2_with fail
  refine HFX.out.mono ?_
  rintro e w1 ⟨rfl, hb1⟩
  have HB1 := Lib.hid hb1
  clear hb1
  go_wp2_with fail
  refine (dnew_any w1).mono ?_
  rintro e w2 ⟨rfl, hd2, hb2⟩
  have D2 := Lib.hid ((Dkn.new w1 hd2 rfl hb2).mono HB1.out)
  generalize w1.heap.size = g at *
  clear hd2 hb2
  obtain ⟨n, hn⟩ : ∃ n, n = 1048576 - f % 2000 := ⟨_, rfl⟩
  have hni : (1048576 : Int) - (f : Int) % 2000 = (n : Int) := by omega
  have hn1 : n ≤ 1048576 := by omega
  have hn2 : 1046576 < n := by omega
  have HN := Lib.hid hn
  clear hn
  go_wp2_with (at_make; refine wpList_make_full _ rfl _ _ 26 rfl 0 5 i0 (.int .u8 0) 1 Try.underlying26 hi hz0 hz1 _ _ _ _ n rfl rfl (by omega) (by omega) (by rw [hz2]; omega) (by unfold maxLen; omega) (Nat.zero_le _) ?_)
  intro w3 hown hgrow
  rw [zeros_bs] at hown
  have hl1 : (List.replicate n (0 : UInt8)).length = n := List.length_replicate
  have hs3 : Sl bv w3 (.slice (some ⟨w2.heap.size, 0, none⟩) n n) (List.replicate n 0) := Sl.of_own hown
  have D3 := Lib.hid (D2.out.below ((Below.refl _ _).grown hgrow (Nat.le_refl _) (fun k hk => by cases hk)))
  have HS3 := Lib.hid hs3
  clear hown hgrow hs3
  go_wp2_with fail
  refine (dwrite_any g _ _ [] _ 0 w3 D3.out.dk HS3.out (by rw [hl1]; simp; omega)).mono ?_
  rintro e w4 ⟨rfl, ht⟩
  obtain ⟨v4, d4, _⟩ := D3.out.turns ht
  rw [List.nil_append] at d4
  have D4 := Lib.hid d4
  clear ht d4 HS3
  obtain ⟨k, hk⟩ : ∃ k, k = m % 4000 := ⟨_, rfl⟩
  have hki : (m : Int) % 4000 = (k : Int) := by omega
  have hk1 : k < 4000 := by omega
  have HK := Lib.hid hk
  clear hk
  go_wp2_with (at_make; refine wpList_make_full _ rfl _ _ 26 rfl 0 5 i0 (.int .u8 0) 1 Try.underlying26 hi hz0 hz1 _ _ _ _ k rfl rfl (by omega) (by omega) (by rw [hz2]; omega) (by unfold maxLen; omega) (Nat.zero_le _) ?_)
  intro w5 hown hgrow
  rw [zeros_bs] at hown
  have hl2 : (List.replicate k (0 : UInt8)).length = k := List.length_replicate
  have hs5 : Sl bv w5 (.slice (some ⟨w4.heap.size, 0, none⟩) k k) (List.replicate k 0) := Sl.of_own hown
  have D5 := Lib.hid (D4.out.below ((Below.refl _ _).grown hgrow (Nat.le_refl _) (fun k hk => by cases hk)))
  have HS5 := Lib.hid hs5
  clear hown hgrow hs5
  by_cases hfit : n + k ≤ 1048576
  · go_wp2_with fail
    refine (dwrite_any g v4 _ _ _ 0 w5 D5.out.dk HS5.out (by rw [hl1, hl2]; omega)).mono ?_
    rintro e w6 ⟨rfl, ht⟩
    obtain ⟨v6, d6, _⟩ := D5.out.turns ht
    have hl6 : (List.replicate n (0 : UInt8) ++ List.replicate k 0).length = n + k := by rw [List.length_append, hl1, hl2]
    obtain ⟨L, hL⟩ : ∃ L, L = List.replicate n (0 : UInt8) ++ List.replicate k 0 := ⟨_, rfl⟩
    rw [← hL] at d6 hl6
    have D6 := Lib.hid d6
    clear ht d6 HS5 hL hl1 hl2
    go_wp2_with fail
    refine (dbytes_any g v6 _ _ w6 D6.out.dk).mono ?_
    rintro e w7 ⟨v7, rfl, ho7, hb7⟩
    rw [hl6] at ho7
    have D7 := Lib.hid (D6.out.below hb7)
    obtain ⟨A7, c7, rfl⟩ := own_form ho7
    clear ho7 hb7
    go_wp2_with (at_make; refine wpList_make_full _ rfl _ _ 26 rfl 0 5 i0 (.int .u8 0) 1 Try.underlying26 hi hz0 hz1 _ _ _ _ 1048577 rfl rfl (by omega) (by omega) (by rw [hz2]; omega) (by unfold maxLen; omega) (Nat.zero_le _) ?_)
    intro w8 hown hgrow
    rw [zeros_bs] at hown
    have hs8 : Sl bv w8 (.slice (some ⟨w7.heap.size, 0, none⟩) 1048577 1048577) (List.replicate 1048577 0) := Sl.of_own hown
    have D8 := Lib.hid (D7.out.below ((Below.refl _ _).grown hgrow (Nat.le_refl _) (fun k hk => by cases hk)))
    have HS8 := Lib.hid hs8
    clear hown hgrow hs8
    go_wp2_with fail
    refine (dreset_full g _ _ w8 HS8.out (by rw [List.length_replicate]; omega)).mono ?_
    rintro e w' ⟨rfl, rfl⟩
    clear HS8
    have hz : ((n : Int) + (k : Int) == (n : Int)) = decide (k = 0) := by
      by_cases h : k = 0
      · subst h; simp
      · simp only [h, decide_false, beq_eq_false_iff_ne]; omega
    have hz2 : ((k : Int) == 0) = decide (k = 0) := by
      by_cases h : k = 0
      · subst h; rfl
      · simp only [h, decide_false, beq_eq_false_iff_ne]; omega
    go_wp2_with fail
    refine (dbytes_any g v6 _ _ w8 D8.out.dk).mono ?_
    rintro e w9 ⟨v9, rfl, ho9, hb9⟩
    rw [hl6] at ho9
    have D9 := Lib.hid (D8.out.below hb9)
    obtain ⟨A9, c9, rfl⟩ := own_form ho9
    clear ho9 hb9
    go_wp2
    go_ret
    exact ⟨rfl, D9.out.base⟩
  · have hfull : 1048576 < (List.replicate n (0 : UInt8)).length + (List.replicate k (0 : UInt8)).length := by rw [hl1, hl2]; omega
    go_wp2_with fail
    refine (dwrite_full g v4 _ _ _ 0 w5 D5.out.dk HS5.out hfull (by rw [hl2]; omega)).mono ?_
    rintro e w' ⟨rfl, rfl⟩
    clear HS5 hfull
    go_wp2_with fail
    refine (dbytes_any g v4 _ _ w5 D5.out.dk).mono ?_
    rintro e w7 ⟨v7, rfl, ho7, hb7⟩
    rw [hl1] at ho7
    have D7 := Lib.hid (D5.out.below hb7)
    obtain ⟨A7, c7, rfl⟩ := own_form ho7
    clear ho7 hb7
    go_wp2_with (at_make; refine wpList_make_full _ rfl _ _ 26 rfl 0 5 i0 (.int .u8 0) 1 Try.underlying26 hi hz0 hz1 _ _ _ _ 1048577 rfl rfl (by omega) (by omega) (by rw [hz2]; omega) (by unfold maxLen; omega) (Nat.zero_le _) ?_)
    intro w8 hown hgrow
    rw [zeros_bs] at hown
    have hs8 : Sl bv w8 (.slice (some ⟨w7.heap.size, 0, none⟩) 1048577 1048577) (List.replicate 1048577 0) := Sl.of_own hown
    have D8 := Lib.hid (D7.out.below ((Below.refl _ _).grown hgrow (Nat.le_refl _) (fun k hk => by cases hk)))
    have HS8 := Lib.hid hs8
    clear hown hgrow hs8
    go_wp2_with fail
    refine (dreset_full g _ _ w8 HS8.out (by rw [List.length_replicate]; omega)).mono ?_
    rintro e w' ⟨rfl, rfl⟩
    clear HS8
    go_wp2_with fail
    refine (dbytes_any g v4 _ _ w8 D8.out.dk).mono ?_
    rintro e w9 ⟨v9, rfl, ho9, hb9⟩
    rw [hl1] at ho9
    have D9 := Lib.hid (D8.out.below hb9)
    obtain ⟨A9, c9, rfl⟩ := own_form ho9
    clear ho9 hb9
    go_wp2
    go_ret
    exact ⟨rfl, D9.out.base⟩

end Go.Proofs.Ytcaechfmeiklkaa
