/-
  hedgerowlaw02.NumSizes: the walk: for every a and b the call returns true, and nothing that was there has turned. Conditions: none.
-/
import Derived.Test.YtibipkbnncadlaaNumFixed
import Derived.Deep.RegionWith
import Derived.Deep.DeepCutAuto
namespace Go.Proofs.Ytibipkbnncadlaa
open Go.RowKit

def Law (w : World) (e : Ending) (w' : World) : Prop := e = .returned (.bool true) ∧ Below w.heap.size w w'

theorem sizes_facts (a b : Int) (h0 : 0 ≤ a) (h1 : a ≤ b) (h2 : b < 4611686018427387904) (X Y : ByteArray) (hX : X.data.toList = putB a) (hY : Y.data.toList = putB b) :
    X.size ≤ Y.size ∧ Y.size ≤ 9 ∧ 1 ≤ X.size ∧ ((Y.extract 0 X.size).data.toList = X.data.toList ↔ a = b) := by
  have ea : putB a = enc a.toNat := by unfold putB; rw [if_neg (by omega)]
  have eb : putB b = enc b.toNat := by unfold putB; rw [if_neg (by omega)]
  have lx : X.size = (enc a.toNat).length := by rw [← str_len, hX, ea]
  have ly : Y.size = (enc b.toNat).length := by rw [← str_len, hY, eb]
  rw [lx, ly]
  refine ⟨enc_mono _ _ (by omega), enc_length_9 _ (by omega), List.length_pos_iff.2 (enc_ne _), ?_⟩
  rw [ext_take, hX, hY, ea, eb]
  constructor
  · intro h
    have := enc_prefix a.toNat b.toNat ((enc b.toNat).drop (enc a.toNat).length) [] (by
      conv => lhs; lhs; rw [← h]
      rw [List.take_append_drop, List.append_nil])
    omega
  · rintro rfl; exact List.take_length

set_option maxHeartbeats 2000000 in
theorem sizes_walk (a b : Int) (w : World) : Calls Try.prog 5 #[.int .i64 a, .int .i64 b] w (Law w) := by
  have hfx := fixed_any w
  have HFX := Lib.hid hfx; clear hfx
  by_cases h1 : a < 0
  · go_enter Try.func5, Try.ntmps5
    go_wp2_with fail
    refine HFX.out.mono ?_
    rintro e w1 ⟨rfl, hb1⟩
    go_wp2
    go_ret
    exact ⟨rfl, hb1⟩
  · by_cases h2 : b < a
    · go_enter Try.func5, Try.ntmps5
      go_wp2_with fail
      refine HFX.out.mono ?_
      rintro e w1 ⟨rfl, hb1⟩
      go_wp2
      go_ret
      exact ⟨rfl, hb1⟩
    · by_cases h3 : 4611686018427387904 ≤ b
      · go_enter Try.func5, Try.ntmps5
        go_wp2_with fail
        refine HFX.out.mono ?_
        rintro e w1 ⟨rfl, hb1⟩
        go_wp2
        go_ret
        exact ⟨rfl, hb1⟩
      · go_enter Try.func5, Try.ntmps5
        go_wp2_with fail
        refine HFX.out.mono ?_
        rintro e w1 ⟨rfl, hb1⟩
        go_upto_region 5 with fail
        go_cut [5, 6] (fun x y wx => ∃ X Y : ByteArray, x = .string X ∧ y = .string Y ∧ X.data.toList = putB a ∧ Y.data.toList = putB b ∧ Below w1.heap.size w1 wx)
        case first =>
          go_region_with (first
            | (go_at_call_of 8 (Value.int IntKind.i64 a); refine (put_any _ [] a _ (Sl.nil_ bv _) (by simp)).mono ?_; rintro e w2 ⟨v2, rfl, ho2, hb2⟩; have s2 := Sl.of_own ho2; have r2 := run_string_sl (P := Try.prog) w2 22 9 5 Try.underlying22 Try.underlying5 Try.underlying9 v2 _ s2)
            | (go_at_call_of 8 (Value.int IntKind.i64 b); refine (put_any _ [] b _ (Sl.nil_ bv _) (by simp)).mono ?_; rintro e w3 ⟨v3, rfl, ho3, hb3⟩; have r3 := run_string_sl (P := Try.prog) w3 22 9 5 Try.underlying22 Try.underlying5 Try.underlying9 v3 _ (Sl.of_own ho3); have r4 := run_string_sl (P := Try.prog) w3 22 9 5 Try.underlying22 Try.underlying5 Try.underlying9 v2 _ (s2.below hb3)))
          all_goals (go_wp2_with fail; go_meet; exact ⟨_, _, rfl, rfl, rfl, rfl, ((Below.refl _ _).drew.trans hb2).trans (hb3.mono hb2.size)⟩)
        case rest =>
          obtain ⟨X, Y, rfl, rfl, hX, hY, hb2⟩ := hcut
          obtain ⟨f1, f2, f3, f4⟩ := sizes_facts a b (by omega) (by omega) (by omega) X Y hX hY
          have HE := Lib.hid f4
          clear f4 hX hY
          have hb := hb1.trans (hb2.mono hb1.size)
          clear hb1 hb2
          go_wp2
          go_ret
          have e : (((Y.extract 0 X.size).toList == X.toList) == (a == b)) = true := by
            rw [Lib.toList_data, Lib.toList_data, beq_iff_eq, Bool.eq_iff_iff, beq_iff_eq, beq_iff_eq]; exact HE.out
          exact ⟨congrArg (fun x => Ending.returned (Value.bool x)) e, hb⟩

end Go.Proofs.Ytibipkbnncadlaa
