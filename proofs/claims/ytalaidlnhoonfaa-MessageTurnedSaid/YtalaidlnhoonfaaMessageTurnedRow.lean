/-
  hedgerowlaw14.MessageTurned answers true for all arguments, and leaves all memory as it was. Conditions: none.
-/
import Derived.Test.YtalaidlnhoonfaaMgTurnW
import Derived.Test.YtalaidlnhoonfaaArgsM
import Derived.Test.YtalaidlnhoonfaaArgsFive
namespace Go.Proofs.Ytalaidlnhoonfaa
open Go.ChangeShapes Go.WideShapes Go.ChangeAt Go.RowKit
open Go.ChangeMaps (open_string)

set_option maxRecDepth 100000 in
theorem turned14_lifted (os : Os) (started : os.Started) (H : Type) (enc : TypeId × Value → H) :
    ReturnsInHanded {} Try.checked os 5 .any (Rows.messageTurnedSpec.pre6 enc Try.prog Try.f5 Rows.messageTurnedRow.domain false) (Rows.messageTurnedSpec.post enc Try.prog Try.f5 false true false false) := by
  refine returnsInHanded_of_change_shaped (C := Try.checked) Try.own started (by kernel_rfl) Try.func5
    (ChangeSpec.witness6 (enc := enc) (C := Try.checked) false ⟨#[], #[.agg #[.int .i64 0, .int .i64 0, .int .i64 0, .int .i64 0, .int .i64 0, .int .i64 0, .int .i64 0, .int .i64 0, .int .i64 0, .int .i64 0, .int .i64 0, .int .i64 0, .int .i64 0, .int .i64 0, .int .i64 0, .int .i64 0, .int .i64 0, .int .i64 0, .int .i64 0, .slice none 0 0], .int .u16 0, .int .u8 0, .int .u16 0, .slice none 0 0], []⟩ 8 (by kernel_rfl) (by kernel_rfl) (by kernel_rfl) (by kernel_rfl)) ?_
  intro W base args ds gs before hval0 hW _ hsz0 hsh _
  have hsz : (DataW.weightsEach Try.prog (Try.f5.params.toList ++ Rows.messageTurnedSpec.plain.varTypes Try.prog) (ds ++ gs)).all (· ≤ reachBytes) = true := hsz0
  clear hsz0
  have hval : ∀ (j : Nat) t v, Try.f5.params[j]? = some t → args[j]? = some v → Value.okWide Try.prog W .any base t v := hval0
  have hW' := hW
  obtain ⟨p, q, hA0, hV, rfl, _, _⟩ := hW
  have hA : DataW.TrodAll enc Try.prog W 0 (fun _ => true) true Try.f5.params.toList args.toList ds p := hA0
  rw [Try.params5] at hA hval hsz
  obtain ⟨v0, v1, v2, v3, v4, d0, d1, d2, d3, d4, p0, p1, p2, p3, p4, rfl, rfl, rfl, h0, h1, h2, h3, h4⟩ := trodAll_five hA
  obtain ⟨rfl, rfl⟩ := trodVars_none hV
  clear hA0 hval0
  have hlt4 : ∀ x ∈ p4, x.block < W.heap.size := fun x hx => by simpa using hW'.lt x (by simp [hx])
  obtain ⟨a4, ha4, hd4⟩ := sl_bytes Try.underlying29 Try.underlying5 cellsU (hval 4 29 v4 rfl rfl) h4 hlt4
  have hr4 := sl_reach hsz (j := 4) rfl rfl hd4
  obtain ⟨m0, a0, A0, N0, c0, rfl, ha0, hn0, hN0, hc0, hf0, he0⟩ := msg_in hsz (j := 0) rfl rfl (hval 0 26 v0 rfl rfl) h0
  obtain ⟨z1, rfl, rfl, rfl, hz1⟩ := open_int Try.underlying39 (hval 1 39 v1 rfl rfl) h1
  have hb1 := bounds_u16 hz1
  obtain ⟨a1, rfl⟩ := Int.eq_ofNat_of_zero_le hb1.1
  obtain ⟨z2, rfl, rfl, rfl, hz2⟩ := open_int Try.underlying5 (hval 2 5 v2 rfl rfl) h2
  have hb2 := bounds_u8 hz2
  obtain ⟨a2, rfl⟩ := Int.eq_ofNat_of_zero_le hb2.1
  obtain ⟨z3, rfl, rfl, rfl, hz3⟩ := open_int Try.underlying39 (hval 3 39 v3 rfl rfl) h3
  have hb3 := bounds_u16 hz3
  obtain ⟨a3, rfl⟩ := Int.eq_ofNat_of_zero_le hb3.1
  have hw := turned14_walk m0 a0 A0 N0 c0 a1 a3 (UInt8.ofNat a2) v4 a4 W ha0 hn0 hN0 hf0 hc0 he0 (by omega) (by omega) ha4 hr4 (cut_of hsh)
  have ex2 : ((UInt8.ofNat a2).toNat : Int) = (a2 : Int) := by simp; omega
  rw [ex2] at hw
  refine hw.mono fun e W' ⟨he, hb⟩ => ?_
  subst he
  exact ⟨_, rfl, law_post Try.laidOut hW' rfl (of_decide_eq_true (by kernel_rfl)) (by kernel_rfl) Try.underlying4 rfl rfl rfl hb⟩

theorem turned14_holds : Rows.MessageTurnedSaid :=
  OpenClaim.holds_of_wide 5 Try.f5 rfl rfl rfl rfl rfl rfl rfl ⟨rfl, rfl, rfl, rfl, rfl⟩ rfl rfl rfl rfl rfl (by kernel_rfl) Try.func5 (by kernel_rfl)
    (of_decide_eq_true (by kernel_rfl)) (by unfold Func.isWrapper; first | (rw [if_pos (by decide +kernel)]; kernel_rfl) | (rw [if_neg (by decide +kernel)]; exact ⟨rfl, rfl⟩))
    (fun os started H enc _ => turned14_lifted os started H enc)

end Go.Proofs.Ytalaidlnhoonfaa
