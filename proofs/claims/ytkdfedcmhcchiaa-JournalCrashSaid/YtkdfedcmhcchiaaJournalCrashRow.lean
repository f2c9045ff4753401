/-
  hedgerowlaw11.JournalCrash answers true for all arguments, and leaves all memory as it was. Conditions: none.
-/
import Derived.Test.YtkdfedcmhcchiaaJnCrash
import Derived.Test.YtkdfedcmhcchiaaArgsJ
import Derived.Test.YtkdfedcmhcchiaaArgsFive
import Derived.Carry
namespace Go.Proofs.Ytkdfedcmhcchiaa
open Go.ChangeShapes Go.WideShapes Go.ChangeAt Go.RowKit
open Go.ChangeMaps (open_string)

set_option maxRecDepth 100000 in
theorem jcrash_lifted (os : Os) (started : os.Started) (H : Type) (enc : TypeId × Value → H) :
    ReturnsInHanded {} Try.checked os 3 .any (Rows.journalCrashSpec.pre6 enc Try.prog Try.f3 Rows.journalCrashRow.domain false) (Rows.journalCrashSpec.post enc Try.prog Try.f3 false true false false) := by
  refine returnsInHanded_of_change_sized (C := Try.checked) Try.own started (by kernel_rfl) Try.func3
    (ChangeSpec.witness6 (enc := enc) (C := Try.checked) false ⟨#[], #[.slice none 0 0, .int .u8 0, .int .u16 0, .int .u16 0, .int .u8 0], []⟩ 8 (by kernel_rfl) (by kernel_rfl) (by kernel_rfl) (by kernel_rfl)) ?_
  intro W base args ds gs before hval0 hW _ hsz0 _
  have hsz : (DataW.weightsEach Try.prog (Try.f3.params.toList ++ Rows.journalCrashSpec.plain.varTypes Try.prog) (ds ++ gs)).all (· ≤ reachBytes) = true := hsz0
  clear hsz0
  have hval : ∀ (j : Nat) t v, Try.f3.params[j]? = some t → args[j]? = some v → Value.okWide Try.prog W .any base t v := hval0
  have hW' := hW
  obtain ⟨p, q, hA0, hV, rfl, _, _⟩ := hW
  have hA : DataW.TrodAll enc Try.prog W 0 (fun _ => true) true Try.f3.params.toList args.toList ds p := hA0
  rw [Try.params3] at hA hval hsz
  obtain ⟨v0, v1, v2, v3, v4, d0, d1, d2, d3, d4, p0, p1, p2, p3, p4, rfl, rfl, rfl, h0, h1, h2, h3, h4⟩ := trodAll_five hA
  obtain ⟨rfl, rfl⟩ := trodVars_none hV
  clear hA0 hval0
  obtain ⟨a0, ha0, hr0⟩ := recs_in hsz (j := 0) rfl rfl (hval 0 22 v0 rfl rfl) h0
  obtain ⟨z1, rfl, rfl, rfl, hz1⟩ := open_int Try.underlying5 (hval 1 5 v1 rfl rfl) h1
  have hb1 := bounds_u8 hz1
  obtain ⟨a1, rfl⟩ := Int.eq_ofNat_of_zero_le hb1.1
  obtain ⟨z2, rfl, rfl, rfl, hz2⟩ := open_int Try.underlying23 (hval 2 23 v2 rfl rfl) h2
  have hb2 := bounds_u16 hz2
  obtain ⟨a2, rfl⟩ := Int.eq_ofNat_of_zero_le hb2.1
  obtain ⟨z3, rfl, rfl, rfl, hz3⟩ := open_int Try.underlying23 (hval 3 23 v3 rfl rfl) h3
  have hb3 := bounds_u16 hz3
  obtain ⟨a3, rfl⟩ := Int.eq_ofNat_of_zero_le hb3.1
  obtain ⟨z4, rfl, rfl, rfl, hz4⟩ := open_int Try.underlying5 (hval 4 5 v4 rfl rfl) h4
  have hb4 := bounds_u8 hz4
  obtain ⟨a4, rfl⟩ := Int.eq_ofNat_of_zero_le hb4.1
  have hv4 : Value.int .u8 ((a4 : Nat) : Int) = bv (UInt8.ofNat a4) := by unfold bv; congr 1; simp; omega
  have hw := jcrash_walk v0 a0 a1 a2 a3 (UInt8.ofNat a4) W ha0 hr0 (by omega) (by omega) (by omega)
  rw [← hv4] at hw
  refine hw.mono fun e W' ⟨he, hb⟩ => ?_
  subst he
  exact ⟨_, rfl, law_post Try.laidOut hW' rfl (of_decide_eq_true (by kernel_rfl)) (by kernel_rfl) Try.underlying4 rfl rfl rfl hb⟩

theorem jcrash_holds : Rows.JournalCrashSaid :=
  OpenClaim.holds_of_wide 3 Try.f3 rfl rfl rfl rfl rfl rfl rfl ⟨rfl, rfl, rfl, rfl, rfl⟩ rfl rfl rfl rfl rfl (by kernel_rfl) Try.func3 (by kernel_rfl)
    (of_decide_eq_true (by kernel_rfl)) (by unfold Func.isWrapper; first | (rw [if_pos (by decide +kernel)]; kernel_rfl) | (rw [if_neg (by decide +kernel)]; exact ⟨rfl, rfl⟩))
    (fun os started H enc _ => jcrash_lifted os started H enc)

end Go.Proofs.Ytkdfedcmhcchiaa
