/-
  The fixed facts at the head of layer 3's statements: the call answers true, and turns nothing that was there. Conditions: none.
-/
import Derived.Test.YtoihfcojnbegcaaCrcOf
import Derived.Test.YtoihfcojnbegcaaStrs
import Derived.Lib.SlBytesConst
namespace Go.Proofs.Ytoihfcojnbegcaa
open Go.RowKit

theorem uv_123 : uv (crcOf [49, 50, 51, 52, 53, 54, 55, 56, 57]) = .int .u32 3421780262 := by
  have : crcOf [49, 50, 51, 52, 53, 54, 55, 56, 57] = 3421780262#32 := by decide +kernel
  rw [this]; rfl
theorem uv_none : uv (crcOf []) = .int .u32 0 := by
  have : crcOf [] = 0#32 := by decide +kernel
  rw [this]; rfl
theorem uv_zero : uv 0#32 = .int .u32 0 := rfl
theorem le_fix : leB 16909060#32 = [4, 3, 2, 1] := by decide +kernel

set_option maxRecDepth 100000 in
set_option maxHeartbeats 2000000 in
theorem cfixed_any (w : World) : Calls Try.prog 10 #[] w (Law w) := by
  have kc := fun (w : World) (C : Array Value) (n c : Nat) => Lib.run_convert_bytes_const (P := Try.prog) w 22 5 C n c Try.underlying22 Try.underlying5
  go_enter Try.func10, Try.ntmps10
  go_wp2_with fail
  refine (of_any _ [49, 50, 51, 52, 53, 54, 55, 56, 57] _ (sl_laid_m _ _ _ _ _ 9 rfl rfl) (by decide)).mono ?_
  rintro e w1 ⟨he, hb1⟩
  rw [uv_123] at he
  subst he
  have hb := ((Below.refl w.heap.size w).alloc (Nat.le_refl _) _).trans (hb1.mono (by simp))
  clear hb1
  go_wp2_with fail
  refine (of_any _ [] _ (Sl.nil_ _ _) (by decide)).mono ?_
  rintro e w2 ⟨he, hb2⟩
  rw [uv_none] at he
  subst he
  have hb' := hb.trans (hb2.mono hb.size)
  clear hb hb2
  go_wp2_with fail
  refine (bytes_any 16909060#32 _).mono ?_
  rintro e w3 ⟨v3, rfl, hs3, hb3⟩
  rw [le_fix] at hs3
  have r3 := run_string_sl (P := Try.prog) w3 22 9 5 Try.underlying22 Try.underlying5 Try.underlying9 v3 _ hs3
  have hb := hb'.trans (hb3.mono hb'.size)
  clear hb' hb3 hs3
  go_wp2_with fail
  refine (add_nil _ _).mono ?_
  rintro e w4 ⟨rfl, rfl⟩
  go_wp2_with fail
  refine (value_nil _).mono ?_
  rintro e w5 ⟨he, rfl⟩
  rw [uv_zero] at he
  subst he
  go_wp2
  go_ret
  exact ⟨rfl, hb⟩

end Go.Proofs.Ytoihfcojnbegcaa
