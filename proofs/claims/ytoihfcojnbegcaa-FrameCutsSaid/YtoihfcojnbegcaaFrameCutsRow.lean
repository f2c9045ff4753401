/-
  hedgerowlaw04.FrameCuts answers true for all arguments, and leaves all memory as it was. Conditions: none.
-/
import Derived.Test.YtoihfcojnbegcaaFrCuts
import Derived.Test.YtoihfcojnbegcaaArgsR
import Derived.Carry
namespace Go.Proofs.Ytoihfcojnbegcaa
open Go.ChangeShapes Go.WideShapes Go.ChangeAt Go.RowKit
open Go.ChangeMaps (open_string)

set_option maxRecDepth 100000 in
theorem fcuts_lifted (os : Os) (started : os.Started) (H : Type) (enc : TypeId × Value → H) :
    ReturnsInHanded {} Try.checked os 8 .any (Rows.frameCutsSpec.pre6 enc Try.prog Try.f8 Rows.frameCutsRow.domain false) (Rows.frameCutsSpec.post enc Try.prog Try.f8 false true false false) := by
  refine returnsInHanded_of_change_sized (C := Try.checked) Try.own started (by kernel_rfl) Try.func8
    (ChangeSpec.witness6 (enc := enc) (C := Try.checked) false ⟨#[], #[.slice none 0 0, .int .u16 0, .int .u16 0, .int .u8 0], []⟩ 8 (by kernel_rfl) (by kernel_rfl) (by kernel_rfl) (by kernel_rfl)) ?_
  intro W base args ds gs before hval0 hW _ hsz0 _
  have hsz : (DataW.weightsEach Try.prog (Try.f8.params.toList ++ Rows.frameCutsSpec.plain.varTypes Try.prog) (ds ++ gs)).all (· ≤ reachBytes) = true := hsz0
  clear hsz0
  have hval : ∀ (j : Nat) t v, Try.f8.params[j]? = some t → args[j]? = some v → Value.okWide Try.prog W .any base t v := hval0
  have hW' := hW
  obtain ⟨p, q, hA0, hV, rfl, _, _⟩ := hW
  have hA : DataW.TrodAll enc Try.prog W 0 (fun _ => true) true Try.f8.params.toList args.toList ds p := hA0
  rw [Try.params8] at hA hval hsz
  obtain ⟨v0, v1, v2, v3, d0, d1, d2, d3, p0, p1, p2, p3, rfl, rfl, rfl, h0, h1, h2, h3⟩ := trodAll_four hA
  obtain ⟨rfl, rfl⟩ := trodVars_none hV
  clear hA0 hval0
  have hlt0 : ∀ x ∈ p0, x.block < W.heap.size := fun x hx => by simpa using hW'.lt x (by simp [hx])
  obtain ⟨a0, ha0, hr0⟩ := sl_rows hsz (j := 0) rfl rfl (hval 0 39 v0 rfl rfl) h0 hlt0
  obtain ⟨z1, rfl, rfl, rfl, hz1⟩ := open_int Try.underlying32 (hval 1 32 v1 rfl rfl) h1
  have hb1 := bounds_u16 hz1
  obtain ⟨a1, rfl⟩ := Int.eq_ofNat_of_zero_le hb1.1
  obtain ⟨z2, rfl, rfl, rfl, hz2⟩ := open_int Try.underlying32 (hval 2 32 v2 rfl rfl) h2
  have hb2 := bounds_u16 hz2
  obtain ⟨a2, rfl⟩ := Int.eq_ofNat_of_zero_le hb2.1
  obtain ⟨z3, rfl, rfl, rfl, hz3⟩ := open_int Try.underlying5 (hval 3 5 v3 rfl rfl) h3
  have hb3 := bounds_u8 hz3
  obtain ⟨a3, rfl⟩ := Int.eq_ofNat_of_zero_le hb3.1
  have hw := fcuts_walk v0 a0 a1 a2 (UInt8.ofNat a3) W ha0 hr0 (by omega) (by omega)
  rw [show (((UInt8.ofNat a3).toNat : Nat) : Int) = (a3 : Int) by simp; omega] at hw
  refine hw.mono fun e W' ⟨he, hb⟩ => ?_
  subst he
  exact ⟨_, rfl, law_post Try.laidOut hW' rfl (of_decide_eq_true (by kernel_rfl)) (by kernel_rfl) Try.underlying4 rfl rfl rfl hb⟩

theorem fcuts_holds : Rows.FrameCutsSaid :=
  OpenClaim.holds_of_wide 8 Try.f8 rfl rfl rfl rfl rfl rfl rfl ⟨rfl, rfl, rfl, rfl, rfl⟩ rfl rfl rfl rfl rfl (by kernel_rfl) Try.func8 (by kernel_rfl)
    (of_decide_eq_true (by kernel_rfl)) (by unfold Func.isWrapper; first | (rw [if_pos (by decide +kernel)]; kernel_rfl) | (rw [if_neg (by decide +kernel)]; exact ⟨rfl, rfl⟩))
    (fun os started H enc _ => fcuts_lifted os started H enc)

end Go.Proofs.Ytoihfcojnbegcaa
