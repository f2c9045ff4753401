/-
  The fixed facts at the head of layer 4's statements: the call answers true, and turns nothing that was there. Conditions: none.
-/
import Derived.Test.YtoihfcojnbegcaaFrSame
import Derived.Lib.SlBytesConst
namespace Go.Proofs.Ytoihfcojnbegcaa
open Go.RowKit

def fixF : List UInt8 := [] ++ frameB [104, 105] ++ frameB []
theorem fixF_len : fixF.length = 18 := by decide +kernel
theorem fixF_all : allF fixF = ([[104, 105], []], 18, 0) := by decide +kernel
theorem fixF_take : takeF (fixF.take 3) = ([], 0, 2) := by decide +kernel
theorem fixF_whole : wholeF fixF = ([], 2) := by decide +kernel
theorem fixF_ten : wholeF (fixF.take 10) = ([104, 105], 0) := by decide +kernel
theorem size_zero : sizeF 0 = 8 := by decide

set_option maxRecDepth 100000 in
set_option maxHeartbeats 4000000 in
theorem ffixed_any (w : World) : Calls Try.prog 18 #[] w (Law w) := by
  have kc := fun (w : World) (C : Array Value) (n c : Nat) => Lib.run_convert_bytes_const (P := Try.prog) w 22 5 C n c Try.underlying22 Try.underlying5
  go_enter Try.func18, Try.ntmps18
  go_wp2_with fail
  refine (fput_any _ _ [] [104, 105] _ (Sl.nil_ _ _) (sl_laid_m _ _ _ _ _ 2 rfl rfl) (by decide) (by decide)).mono ?_
  rintro e w1 ⟨v1, rfl, ho1, hb1⟩
  have HB1 := Lib.hid (((Below.refl w.heap.size w).alloc (Nat.le_refl _) _).trans (hb1.mono (by simp)))
  have HS1 := Lib.hid (Sl.of_own ho1)
  clear hb1 ho1
  obtain ⟨A1, c1, rfl⟩ := HS1.out.form
  go_wp2_with fail
  refine (fput_any _ _ _ [] _ HS1.out (Sl.nil_ _ _) (by decide) (by decide)).mono ?_
  rintro e w2 ⟨v2, rfl, ho2, hb2⟩
  have HB2 := Lib.hid (HB1.out.trans (hb2.mono HB1.out.size))
  have hs2 : Sl bv w2 v2 fixF := Sl.of_own ho2
  have HS2 := Lib.hid hs2
  clear hb2 ho2
  obtain ⟨A2, c2, rfl, hc2, hx2⟩ := hs2.at_
  obtain ⟨b2, o2, rfl, _, _⟩ := hx2 0 (by rw [fixF_len]; omega)
  clear hx2 hs2
  have hs3 := HS2.out.hi_at 3 (by rw [fixF_len]; omega)
  have hs10 := HS2.out.hi_at 10 (by rw [fixF_len]; omega)
  have HS3 := Lib.hid hs3
  have HS10 := Lib.hid hs10
  clear hs3 hs10
  have hs2' := HS2.out
  rw [fixF_len] at hc2 hs2' ⊢
  have HS2' := Lib.hid hs2'
  clear hs2'
  go_wp2_with fail
  refine (fall_any _ fixF w2 HS2'.out (by rw [fixF_len]; omega)).mono ?_
  rintro e w3 ⟨v3, rfl, hr3, hb3⟩
  rw [fixF_all] at hr3 ⊢
  have HB3 := Lib.hid (HB2.out.trans (hb3.mono HB2.out.size))
  have HK3 := Lib.hid hb3
  have HR3 := Lib.hid hr3
  clear hb3 hr3
  go_wp2_with fail
  refine (ftake_any _ (fixF.take 3) w3 (HS3.out.below HK3.out) (by simp [fixF_len])).mono ?_
  rintro e w4 ⟨v4, rfl, ho4, hb4⟩
  rw [fixF_take] at ho4 ⊢
  have HB4 := Lib.hid (HB3.out.trans (hb4.mono HB3.out.size))
  have HK4 := Lib.hid (HK3.out.trans (hb4.mono HK3.out.size))
  have HR4 := Lib.hid (HR3.out.below hb4)
  obtain ⟨A4, c4, rfl⟩ := (Sl.of_own ho4).form
  clear hb4 ho4
  go_wp2_with fail
  refine (whole_any _ fixF w4 (HS2'.out.below HK4.out) (by rw [fixF_len]; omega)).mono ?_
  rintro e w5 ⟨v5, rfl, hs5, hb5⟩
  rw [fixF_whole] at hs5 ⊢
  have HB5 := Lib.hid (HB4.out.trans (hb5.mono HB4.out.size))
  have HK5 := Lib.hid (HK4.out.trans (hb5.mono HK4.out.size))
  have HR5 := Lib.hid (HR4.out.below hb5)
  obtain ⟨A5, c5, rfl⟩ := hs5.form
  clear hb5 hs5
  go_wp2_with fail
  refine (whole_any _ (fixF.take 10) w5 (HS10.out.below HK5.out) (by simp [fixF_len])).mono ?_
  rintro e w6 ⟨v6, rfl, hs6, hb6⟩
  rw [fixF_ten] at hs6 ⊢
  have HB6 := Lib.hid (HB5.out.trans (hb6.mono HB5.out.size))
  have hr6 := HR5.out.below hb6
  have q6 := run_string_sl (P := Try.prog) w6 22 9 5 Try.underlying22 Try.underlying5 Try.underlying9 v6 _ hs6
  obtain ⟨A6, c6, rfl⟩ := hs6.form
  have q6' : (convert 22 9 (.slice A6 2 c6)).run Try.prog w6 = .ok (.string ⟨#[104, 105]⟩) w6 := q6
  obtain ⟨A3, c3, rfl, _, hx3⟩ := hr6.at_
  obtain ⟨b3, o3, rfl, _, B3, n3, d3, hcell3, hsl3⟩ := hx3 0 (by decide)
  have q3 := run_string_sl (P := Try.prog) w6 22 9 5 Try.underlying22 Try.underlying5 Try.underlying9 _ _ hsl3
  rw [Nat.add_zero] at hcell3
  have q3' : (convert 22 9 (.slice B3 n3 d3)).run Try.prog w6 = .ok (.string ⟨#[104, 105]⟩) w6 := q3
  clear q3 q6 hb6 hs6 hx3 hsl3 hr6
  go_wp2_with fail
  refine (size_any 0 w6).mono ?_
  rintro e w7 ⟨rfl, rfl⟩
  rw [size_zero]
  go_wp2
  go_ret
  exact ⟨rfl, HB6.out⟩

end Go.Proofs.Ytoihfcojnbegcaa
