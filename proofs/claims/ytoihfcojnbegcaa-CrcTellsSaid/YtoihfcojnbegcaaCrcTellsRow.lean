/-
  hedgerowlaw03.CrcTells answers true for all arguments, and leaves all memory as it was. Conditions: none.
-/
import Derived.Test.YtoihfcojnbegcaaCrcTells
import Derived.Test.YtoihfcojnbegcaaArgsB
namespace Go.Proofs.Ytoihfcojnbegcaa
open Go.ChangeShapes Go.WideShapes Go.ChangeAt Go.RowKit
open Go.ChangeMaps (open_string)

set_option maxRecDepth 100000 in
theorem tells_lifted (os : Os) (started : os.Started) (H : Type) (enc : TypeId × Value → H) :
    ReturnsInHanded {} Try.checked os 3 .any (Rows.crcTellsSpec.pre6 enc Try.prog Try.f3 Rows.crcTellsRow.domain false) (Rows.crcTellsSpec.post enc Try.prog Try.f3 false true false false) := by
  refine returnsInHanded_of_change_sized (C := Try.checked) Try.own started (by kernel_rfl) Try.func3
    (ChangeSpec.witness6 (enc := enc) (C := Try.checked) false ⟨#[], #[.slice none 0 0, .slice none 0 0, .int .u32 0], []⟩ 8 (by kernel_rfl) (by kernel_rfl) (by kernel_rfl) (by kernel_rfl)) ?_
  intro W base args ds gs before hval0 hW _ hsz0 _
  have hsz : (DataW.weightsEach Try.prog (Try.f3.params.toList ++ Rows.crcTellsSpec.plain.varTypes Try.prog) (ds ++ gs)).all (· ≤ reachBytes) = true := hsz0
  clear hsz0
  have hval : ∀ (j : Nat) t v, Try.f3.params[j]? = some t → args[j]? = some v → Value.okWide Try.prog W .any base t v := hval0
  have hW' := hW
  obtain ⟨p, q, hA0, hV, rfl, _, _⟩ := hW
  have hA : DataW.TrodAll enc Try.prog W 0 (fun _ => true) true Try.f3.params.toList args.toList ds p := hA0
  rw [Try.params3] at hA hval hsz
  obtain ⟨v0, v1, v2, d0, d1, d2, p0, p1, p2, rfl, rfl, rfl, h0, h1, h2⟩ := trodAll_three hA
  obtain ⟨rfl, rfl⟩ := trodVars_none hV
  clear hA0 hval0
  have hlt0 : ∀ x ∈ p0, x.block < W.heap.size := fun x hx => by simpa using hW'.lt x (by simp [hx])
  obtain ⟨a0, ha0, hd0⟩ := sl_bytes Try.underlying22 Try.underlying5 cellsU (hval 0 22 v0 rfl rfl) h0 hlt0
  have hr0 := sl_reach hsz (j := 0) rfl rfl hd0
  have hlt1 : ∀ x ∈ p1, x.block < W.heap.size := fun x hx => by simpa using hW'.lt x (by simp [hx])
  obtain ⟨a1, ha1, hd1⟩ := sl_bytes Try.underlying22 Try.underlying5 cellsU (hval 1 22 v1 rfl rfl) h1 hlt1
  have hr1 := sl_reach hsz (j := 1) rfl rfl hd1
  obtain ⟨z2, rfl, rfl, rfl, hz2⟩ := open_int Try.underlying23 (hval 2 23 v2 rfl rfl) h2
  have hb2 := bounds_u32 hz2
  obtain ⟨a2, rfl⟩ := Int.eq_ofNat_of_zero_le hb2.1
  have hu2 : Value.int .u32 (a2 : Int) = uv (BitVec.ofNat 32 a2) := by unfold uv; rw [BitVec.toNat_ofNat, Nat.mod_eq_of_lt (by omega)]
  have hw := tells_walk v0 v1 a0 a1 (BitVec.ofNat 32 a2) W ha0 ha1 hr0 hr1
  rw [← hu2] at hw
  refine hw.mono fun e W' ⟨he, hb⟩ => ?_
  subst he
  exact ⟨_, rfl, law_post Try.laidOut hW' rfl (of_decide_eq_true (by kernel_rfl)) (by kernel_rfl) Try.underlying4 rfl rfl rfl hb⟩

theorem tells_holds : Rows.CrcTellsSaid :=
  OpenClaim.holds_of_wide 3 Try.f3 rfl rfl rfl rfl rfl rfl rfl ⟨rfl, rfl, rfl, rfl, rfl⟩ rfl rfl rfl rfl rfl (by kernel_rfl) Try.func3 (by kernel_rfl)
    (of_decide_eq_true (by kernel_rfl)) (by unfold Func.isWrapper; first | (rw [if_pos (by decide +kernel)]; kernel_rfl) | (rw [if_neg (by decide +kernel)]; exact ⟨rfl, rfl⟩))
    (fun os started H enc _ => tells_lifted os started H enc)

end Go.Proofs.Ytoihfcojnbegcaa
