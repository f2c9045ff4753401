/-
  hedgerowlaw04.FrameBehind: the walk: for all bytes the call returns true, and nothing that was there has turned. Conditions: none.
-/
import Derived.Test.YtoihfcojnbegcaaFrFixed
namespace Go.Proofs.Ytoihfcojnbegcaa
open Go.RowKit

theorem whole_frame (p t : List UInt8) (h : p.length ≤ 1048576) : wholeF (frameB p ++ t) = if t = [] then (p, 0) else ([], 2) := by
  have ht := takeF_frame p t h
  unfold wholeF
  rw [ht, if_neg (by simp), List.length_append, frameB_length]
  by_cases h0 : t = []
  · subst h0; rw [if_neg (by simp), if_pos rfl]
  · have := List.length_pos_iff.2 h0
    rw [if_pos (by dsimp only; omega), if_neg h0]

set_option maxRecDepth 100000 in
set_option maxHeartbeats 4000000 in
theorem behind_walk (va vb : Value) (p t : List UInt8) (w : World) (ha : Sl bv w va p) (hb : Sl bv w vb t) (hla : p.length ≤ 140737488355328) (hlb : t.length ≤ 140737488355328) :
    Calls Try.prog 9 #[va, vb] w (Law w) := by
  have hfx := ffixed_any w
  have HFX := Lib.hid hfx; clear hfx
  have HA := Lib.hid ha
  have HB := Lib.hid hb
  obtain ⟨A1, c1, rfl⟩ := ha.form
  obtain ⟨A2, c2, rfl⟩ := hb.form
  clear ha hb
  by_cases h1 : 500 < p.length + t.length
  · go_enter Try.func9, Try.ntmps9
    go_wp2_with fail
    refine HFX.out.mono ?_
    rintro e w1 ⟨rfl, hb1⟩
    go_wp2
    go_ret
    exact ⟨rfl, hb1⟩
  have htf := takeF_frame p t (by omega)
  have hwf := whole_frame p t (by omega)
  have hsz : sizeF (p.length : Int) = (p.length : Int) + 8 := by unfold sizeF; rw [if_neg (by omega)]
  obtain ⟨F, hF⟩ : ∃ F, F = frameB p ++ t := ⟨_, rfl⟩
  have hFl : F.length = p.length + 8 + t.length := by rw [hF, List.length_append, frameB_length]
  rw [← hF] at htf hwf
  have HTF := Lib.hid htf
  have HWF := Lib.hid hwf
  have HSZ := Lib.hid hsz
  have HF := Lib.hid hF
  have HFL := Lib.hid hFl
  clear htf hwf hsz hF hFl
  go_enter Try.func9, Try.ntmps9
  go_wp2_with fail
  refine HFX.out.mono ?_
  rintro e w1 ⟨rfl, hb1⟩
  have HB1 := Lib.hid hb1
  clear hb1
  go_wp2_with fail
  refine (fput_any _ _ [] p w1 (Sl.nil_ _ _) (HA.out.below HB1.out) (by omega) (by decide)).mono ?_
  rintro e w2 ⟨v2, rfl, ho2, hb2⟩
  obtain ⟨v3, w3, hr3, ho3, hb3⟩ := append_more w1 w2 v2 ([] ++ frameB p) ho2 hb2 _ t ((HB.out.below HB1.out).below hb2) (by rw [List.nil_append, frameB_length]; omega)
  rw [List.nil_append, ← HF.out] at ho3
  obtain ⟨A4, c4, rfl⟩ := (Sl.of_own ho2).form
  have HR3 := Lib.hid hr3
  have HS3 := Lib.hid (Sl.of_own ho3)
  have HB3 := Lib.hid (HB1.out.trans (hb3.mono HB1.out.size))
  obtain ⟨A3, c3, rfl⟩ := (Sl.of_own ho3).form
  clear hr3 ho3 hb3 ho2 hb2
  go_wp2_with (at_builtin; refine Lib.wpList_append_run (o := ⟨some 22, _, _, _, _, _⟩) _ rfl _ _ _ _ rfl _ _ rfl rfl _ _ HR3.out ?_)
  refine (ftake_any _ F w3 HS3.out (by rw [HFL.out]; omega)).mono ?_
  rintro e w4 ⟨v4, rfl, ho4, hb4⟩
  rw [HTF.out] at ho4 ⊢
  have HS4 := Lib.hid (Sl.of_own ho4)
  have HB4 := Lib.hid (HB3.out.trans (hb4.mono HB3.out.size))
  have HK4 := Lib.hid hb4
  obtain ⟨A5, c5, rfl⟩ := (Sl.of_own ho4).form
  clear ho4 hb4
  go_wp2_with fail
  refine (whole_any _ F w4 (HS3.out.below HK4.out) (by rw [HFL.out]; omega)).mono ?_
  rintro e w5 ⟨v5, rfl, hs5, hb5⟩
  have HB5 := Lib.hid (HB4.out.trans (hb5.mono HB4.out.size))
  have q1 := run_string_sl (P := Try.prog) w5 22 9 5 Try.underlying22 Try.underlying5 Try.underlying9 _ _ (HS4.out.below hb5)
  have q2 := run_string_sl (P := Try.prog) w5 22 9 5 Try.underlying22 Try.underlying5 Try.underlying9 _ _ (HA.out.below HB5.out)
  by_cases h0 : t = []
  · subst h0
    rw [if_pos rfl] at HWF
    rw [HWF.out] at hs5 ⊢
    have q3 := run_string_sl (P := Try.prog) w5 22 9 5 Try.underlying22 Try.underlying5 Try.underlying9 _ _ hs5
    obtain ⟨A6, c6, rfl⟩ := hs5.form
    clear hs5 hb5
    go_wp2_with fail
    refine (size_any p.length w5).mono ?_
    rintro e w' ⟨rfl, rfl⟩
    rw [HSZ.out]
    go_wp2
    go_ret
    exact ⟨rfl, HB5.out⟩
  · have hpos := List.length_pos_iff.2 h0
    rw [if_neg h0] at HWF
    rw [HWF.out] at hs5 ⊢
    obtain ⟨A6, c6, rfl⟩ := hs5.form
    clear hs5 hb5 h0
    have hl0 : ((t.length : Int) == 0) = false := by rw [beq_eq_false_iff_ne]; omega
    go_wp2_with fail
    refine (size_any p.length w5).mono ?_
    rintro e w' ⟨rfl, rfl⟩
    rw [HSZ.out]
    go_wp2
    go_ret
    exact ⟨rfl, HB5.out⟩

end Go.Proofs.Ytoihfcojnbegcaa
