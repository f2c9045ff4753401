/-
  hedgerowlaw12.SnapCuts answers true for all arguments, and leaves all memory as it was. Conditions: none.
-/
import Derived.Test.YthmjaodiofkogaaSnCutsW
import Derived.Test.YthmjaodiofkogaaArgsSn
import Derived.Test.YthmjaodiofkogaaArgsB
namespace Go.Proofs.Ythmjaodiofkogaa
open Go.ChangeShapes Go.WideShapes Go.ChangeAt Go.RowKit
open Go.ChangeMaps (open_string)

set_option maxRecDepth 100000 in
theorem scuts_lifted (os : Os) (started : os.Started) (H : Type) (enc : TypeId × Value → H) :
    ReturnsInHanded {} Try.checked os 3 .any (Rows.snapCutsSpec.pre6 enc Try.prog Try.f3 Rows.snapCutsRow.domain false) (Rows.snapCutsSpec.post enc Try.prog Try.f3 false true false false) := by
  refine returnsInHanded_of_change_shaped (C := Try.checked) Try.own started (by kernel_rfl) Try.func3
    (ChangeSpec.witness6 (enc := enc) (C := Try.checked) false ⟨#[], #[.agg #[.int .i64 0, .int .i64 0, .int .i64 0, .int .i64 0, .int .i64 0, .int .i64 0, .int .i64 0, .int .i64 0, .int .i64 0, .int .i64 0, .int .i64 0, .int .i64 0, .int .i64 0, .int .i64 0, .int .i64 0, .int .i64 0, .slice none 0 0, .slice none 0 0], .int .u16 0, .slice none 0 0], []⟩ 8 (by kernel_rfl) (by kernel_rfl) (by kernel_rfl) (by kernel_rfl)) ?_
  intro W base args ds gs before hval0 hW _ hsz0 hsh _
  have hsz : (DataW.weightsEach Try.prog (Try.f3.params.toList ++ Rows.snapCutsSpec.plain.varTypes Try.prog) (ds ++ gs)).all (· ≤ reachBytes) = true := hsz0
  clear hsz0
  have hval : ∀ (j : Nat) t v, Try.f3.params[j]? = some t → args[j]? = some v → Value.okWide Try.prog W .any base t v := hval0
  have hW' := hW
  obtain ⟨p, q, hA0, hV, rfl, _, _⟩ := hW
  have hA : DataW.TrodAll enc Try.prog W 0 (fun _ => true) true Try.f3.params.toList args.toList ds p := hA0
  rw [Try.params3] at hA hval hsz
  obtain ⟨v0, v1, v2, d0, d1, d2, p0, p1, p2, rfl, rfl, rfl, h0, h1, h2⟩ := trodAll_three hA
  obtain ⟨rfl, rfl⟩ := trodVars_none hV
  clear hA0 hval0
  have hlt2 : ∀ x ∈ p2, x.block < W.heap.size := fun x hx => by simpa using hW'.lt x (by simp [hx])
  obtain ⟨a2, ha2, hd2⟩ := sl_bytes Try.underlying29 Try.underlying5 cellsU (hval 2 29 v2 rfl rfl) h2 hlt2
  have hr2 := sl_reach hsz (j := 2) rfl rfl hd2
  obtain ⟨f0, I0, a0, A0, B0, N0, c0, M0, d0', rfl, hi0, hN0, hx0, he0, hM0, hF0, hc0, hce0⟩ := snap_in hsz (j := 0) rfl rfl (hval 0 27 v0 rfl rfl) h0
  obtain ⟨z1, rfl, rfl, rfl, hz1⟩ := open_int Try.underlying28 (hval 1 28 v1 rfl rfl) h1
  have hb1 := bounds_u16 hz1
  obtain ⟨a1, rfl⟩ := Int.eq_ofNat_of_zero_le hb1.1
  have hw := scuts_walk f0 I0 a0 A0 B0 N0 c0 M0 d0' a1 v2 a2 W hi0 hN0 hx0 he0 hM0 hF0 hc0 hce0 (by omega) ha2 hr2 (cut_of hsh)
  refine hw.mono fun e W' ⟨he, hb⟩ => ?_
  subst he
  exact ⟨_, rfl, law_post Try.laidOut hW' rfl (of_decide_eq_true (by kernel_rfl)) (by kernel_rfl) Try.underlying4 rfl rfl rfl hb⟩

theorem scuts_holds : Rows.SnapCutsSaid :=
  OpenClaim.holds_of_wide 3 Try.f3 rfl rfl rfl rfl rfl rfl rfl ⟨rfl, rfl, rfl, rfl, rfl⟩ rfl rfl rfl rfl rfl (by kernel_rfl) Try.func3 (by kernel_rfl)
    (of_decide_eq_true (by kernel_rfl)) (by unfold Func.isWrapper; first | (rw [if_pos (by decide +kernel)]; kernel_rfl) | (rw [if_neg (by decide +kernel)]; exact ⟨rfl, rfl⟩))
    (fun os started H enc _ => scuts_lifted os started H enc)

end Go.Proofs.Ythmjaodiofkogaa
