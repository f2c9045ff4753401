/-
  hedgerowlaw04.FrameReads: the walk: for all bytes and numbers the call returns true, and nothing that was there has turned. Conditions: none.
-/
import Derived.Test.YtoihfcojnbegcaaFrFixed
namespace Go.Proofs.Ytoihfcojnbegcaa
open Go.RowKit

theorem allN_len (f : Nat) : ∀ b : List UInt8, (allN f b).1.length ≤ b.length := by
  induction f with
  | zero => intro b; simp [allN]
  | succ f ih =>
    intro b
    rw [allN]
    by_cases h0 : b = []
    · rw [if_pos h0]; simp
    · rw [if_neg h0]
      by_cases he : (takeF b).2.2 = 0
      · rw [if_neg (by simp [he])]
        have hs := takeF_size b he
        have := ih (b.drop (takeF b).2.1)
        rw [List.length_drop] at this
        simp only [List.length_cons]
        omega
      · rw [if_pos he]; simp
theorem allF_len (b : List UInt8) : (allF b).1.length ≤ b.length := allN_len _ b
theorem size_cases (n : Int) : (n < 0 ∧ sizeF n = 0) ∨ (0 ≤ n ∧ 1048576 < n ∧ sizeF n = 0) ∨ (0 ≤ n ∧ n ≤ 1048576 ∧ sizeF n = n + 8) := by
  unfold sizeF
  by_cases h1 : n < 0
  · exact .inl ⟨h1, if_pos (.inl h1)⟩
  · by_cases h2 : 1048576 < n
    · exact .inr (.inl ⟨by omega, h2, if_pos (.inr h2)⟩)
    · exact .inr (.inr ⟨by omega, by omega, if_neg (by omega)⟩)

set_option maxRecDepth 100000 in
set_option maxHeartbeats 8000000 in
theorem freads_walk (va : Value) (b : List UInt8) (n : Int) (w : World) (ha : Sl bv w va b) (hla : b.length ≤ 140737488355328) :
    Calls Try.prog 6 #[va, .int .i64 n] w (Law w) := by
  have hfx := ffixed_any w
  have HFX := Lib.hid hfx; clear hfx
  have HA := Lib.hid ha
  obtain ⟨A1, c1, rfl⟩ := ha.form
  clear ha
  by_cases h1 : 400 < b.length
  · go_enter Try.func6, Try.ntmps6
    go_wp2_with fail
    refine HFX.out.mono ?_
    rintro e w1 ⟨rfl, hb1⟩
    go_wp2
    go_ret
    exact ⟨rfl, hb1⟩
  go_enter Try.func6, Try.ntmps6
  go_wp2_with fail
  refine HFX.out.mono ?_
  rintro e w1 ⟨rfl, hb1⟩
  have HB1 := Lib.hid hb1
  have HK1 := Lib.hid (Below.refl w1.heap.size w1)
  clear hb1
  go_wp2_with fail
  refine (ftake_any _ b w1 (HA.out.below HB1.out) (by omega)).mono ?_
  rintro e w2 ⟨v2, rfl, ho2, hb2⟩
  have HB2 := Lib.hid (HB1.out.trans (hb2.mono HB1.out.size))
  have HS2 := Lib.hid (Sl.of_own ho2)
  obtain ⟨A2, c2, rfl⟩ := (Sl.of_own ho2).form
  clear ho2 hb2
  go_wp2_with fail
  refine (rtake_any _ b w2 (HA.out.below HB2.out) (by omega)).mono ?_
  rintro e w3 ⟨A3, n3, c3, rfl, hpart, hb3⟩
  have HB3 := Lib.hid (HB2.out.trans (hb3.mono HB2.out.size))
  have HS3 := Lib.hid (HS2.out.below hb3)
  have HP3 := Lib.hid (hpart w HA.out)
  clear hpart hb3
  go_wp2_with fail
  refine (fall_any _ b w3 (HA.out.below HB3.out) (by omega)).mono ?_
  rintro e w4 ⟨v4, rfl, hr4, hb4⟩
  have HB4 := Lib.hid (HB3.out.trans (hb4.mono HB3.out.size))
  have HS4 := Lib.hid (HS3.out.below hb4)
  have HR4 := Lib.hid hr4
  obtain ⟨A4, c4, rfl⟩ := hr4.form
  clear hr4 hb4
  go_wp2_with fail
  refine (rall_any _ b w4 (HA.out.below HB4.out) (by omega)).mono ?_
  rintro e w5 ⟨v5, rfl, hr5, hb5⟩
  have HB5 := Lib.hid (HB4.out.trans (hb5.mono HB4.out.size))
  have HS5 := Lib.hid (HS4.out.below hb5)
  have HR5 := Lib.hid (HR4.out.below hb5)
  have HQ5 := Lib.hid hr5
  obtain ⟨A5, c5, rfl⟩ := hr5.form
  clear hr5 hb5
  go_wp2_with fail
  refine (whole_any _ b w5 (HA.out.below HB5.out) (by omega)).mono ?_
  rintro e w6 ⟨v6, rfl, hs6, hb6⟩
  have HB6 := Lib.hid (HB5.out.trans (hb6.mono HB5.out.size))
  have HR6 := Lib.hid (HR5.out.below hb6)
  have HQ6 := Lib.hid (HQ5.out.below hb6)
  have q1 := run_string_sl (P := Try.prog) w6 22 9 5 Try.underlying22 Try.underlying5 Try.underlying9 _ _ (HS5.out.below hb6)
  have q2 := run_string_sl (P := Try.prog) w6 22 9 5 Try.underlying22 Try.underlying5 Try.underlying9 _ _ (HP3.out.below HB6.out)
  clear hb6
  have HS6 := Lib.hid hs6
  obtain ⟨A6, c6, rfl⟩ := hs6.form
  have HSAME : ∀ W, Below w6.heap.size w6 W → Calls Try.prog 24 #[.slice A4 (allF b).1.length c4, .slice A5 (allF b).1.length c5] W fun e w' => e = .returned (.bool true) ∧ Below W.heap.size W w' := fun W hW => by
    have hlen : (allF b).1.length ≤ 1000000 := by have := allF_len b; omega
    have := same_any _ _ (allF b).1 (allF b).1 W (HR6.out.below hW) (HQ6.out.below hW) hlen hlen
    rwa [(sameB_true _ _).2 rfl] at this
  have HSM := Lib.hid HSAME
  clear HSAME hs6
  generalize (allF b).2.1 = x at *
  generalize (allF b).2.2 = y at *
  have hsn := size_any n
  have HSN := Lib.hid hsn
  clear hsn
  by_cases he : (takeF b).2.2 = 0
  · have hs := takeF_size b he
    by_cases hlt : (takeF b).2.1 < b.length
    · have hw : wholeF b = ([], 2) := by unfold wholeF; rw [if_neg (by simp [he]), if_pos hlt]
      rw [hw] at HS6 ⊢
      rw [he]
      clear hw he
      generalize (takeF b).2.1 = m at *
      generalize (takeF b).1 = P at *
      rcases size_cases n with ⟨hn, hz⟩ | ⟨hn, hn2, hz⟩ | ⟨hn, hn2, hz⟩
      all_goals
        have HZ := Lib.hid hz
        clear hz
        go_wp2_with fail
        refine (HSM.out w6 (Below.refl _ _)).mono ?_
        rintro e w7 ⟨rfl, hb7⟩
        have HB7 := Lib.hid (HB6.out.trans (hb7.mono HB6.out.size))
        clear hb7
        go_wp2_with fail
        refine (HSN.out w7).mono ?_
        rintro e w' ⟨rfl, rfl⟩
        rw [HZ.out]
        go_wp2
        go_ret
        exact ⟨rfl, HB7.out⟩
    · have hw : wholeF b = ((takeF b).1, 0) := by unfold wholeF; rw [if_neg (by simp [he]), if_neg hlt]
      rw [hw] at HS6 ⊢
      rw [he]
      clear hw he
      generalize (takeF b).2.1 = m at *
      generalize (takeF b).1 = P at *
      rcases size_cases n with ⟨hn, hz⟩ | ⟨hn, hn2, hz⟩ | ⟨hn, hn2, hz⟩
      all_goals
        have HZ := Lib.hid hz
        clear hz
        go_wp2_with fail
        refine (HSM.out w6 (Below.refl _ _)).mono ?_
        rintro e w7 ⟨rfl, hb7⟩
        have HB7 := Lib.hid (HB6.out.trans (hb7.mono HB6.out.size))
        have q3 := run_string_sl (P := Try.prog) w7 22 9 5 Try.underlying22 Try.underlying5 Try.underlying9 _ _ (HS6.out.below hb7); have q4 := run_string_sl (P := Try.prog) w7 22 9 5 Try.underlying22 Try.underlying5 Try.underlying9 _ _ (HP3.out.below HB7.out)
        clear hb7
        go_wp2_with fail
        refine (HSN.out w7).mono ?_
        rintro e w' ⟨rfl, rfl⟩
        rw [HZ.out]
        go_wp2
        go_ret
        exact ⟨rfl, HB7.out⟩
  · have hw : wholeF b = ([], (takeF b).2.2) := by unfold wholeF; rw [if_pos he]
    obtain ⟨hp, hm⟩ := takeF_err b he
    have he1 : (((takeF b).2.2 : Int) == 0) = false := by rw [beq_eq_false_iff_ne]; omega
    have he3 : (((takeF b).2.2 : Int) != 0) = true := by rw [bne, he1]; rfl
    rw [hw] at HS6 ⊢
    rw [hm]
    clear hw he hp hm
    generalize (takeF b).2.1 = m at *
    generalize (takeF b).1 = P at *
    generalize (takeF b).2.2 = E at *
    rcases size_cases n with ⟨hn, hz⟩ | ⟨hn, hn2, hz⟩ | ⟨hn, hn2, hz⟩
    all_goals
      have HZ := Lib.hid hz
      clear hz
      go_wp2_with fail
      refine (HSM.out w6 (Below.refl _ _)).mono ?_
      rintro e w7 ⟨rfl, hb7⟩
      have HB7 := Lib.hid (HB6.out.trans (hb7.mono HB6.out.size))
      clear hb7
      go_wp2_with fail
      refine (HSN.out w7).mono ?_
      rintro e w' ⟨rfl, rfl⟩
      rw [HZ.out]
      go_wp2
      go_ret
      exact ⟨rfl, HB7.out⟩

end Go.Proofs.Ytoihfcojnbegcaa
