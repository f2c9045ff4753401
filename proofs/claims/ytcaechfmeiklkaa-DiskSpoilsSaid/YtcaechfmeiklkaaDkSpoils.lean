/-
  hedgerowlaw10.DiskSpoils: the walk: for all bytes, places and bits the call returns true, and nothing that was there has turned. Conditions: none.
-/
import Derived.Test.YtcaechfmeiklkaaDkReg
namespace Go.Proofs.Ytcaechfmeiklkaa
open Go.RowKit

theorem turnB_get (b : List UInt8) (at_ : Int) (y : UInt8) (k : Nat) (hk : k < b.length) : (turnB b 0 b.length at_ y)[k]? = some (if (k : Int) = at_ then b[k] ^^^ y else b[k]) := by
  unfold turnB
  by_cases h : 0 ≤ at_ ∧ at_ < b.length
  · obtain ⟨j, rfl⟩ := Int.eq_ofNat_of_zero_le h.1
    rw [if_pos h, Int.toNat_natCast, Nat.zero_add, List.getElem?_set]
    by_cases hj : j = k
    · subst hj
      simp [List.getD, hk]
    · rw [if_neg hj, if_neg (by omega), List.getElem?_eq_getElem hk]
  · rw [if_neg h, if_neg (by omega), List.getElem?_eq_getElem hk]
theorem turnB_twice (b : List UInt8) (at_ : Int) (y : UInt8) : turnB (turnB b 0 b.length at_ y) 0 b.length at_ y = b := by
  unfold turnB
  by_cases h : 0 ≤ at_ ∧ at_ < b.length
  · obtain ⟨j, rfl⟩ := Int.eq_ofNat_of_zero_le h.1
    have hj : j < b.length := by omega
    simp only [h, and_self, if_true, Int.toNat_natCast, Nat.zero_add]
    apply List.ext_getElem?
    intro i
    by_cases hi : i = j
    · subst hi
      simp [List.getD, hj, UInt8.xor_assoc, UInt8.xor_self]
    · simp [List.getElem?_set, Ne.symm hi]
  · simp only [h, if_false]

set_option maxRecDepth 100000 in
set_option maxHeartbeats 2000000 in
theorem spoils_walk (va : Value) (b : List UInt8) (at_ : Int) (y : UInt8) (w : World) (ha : Sl bv w va b) (hla : b.length ≤ 140737488355328) :
    Calls Try.prog 6 #[va, .int .i64 at_, bv y] w (Law w) := by
  have hfx := dfixed_any w
  have HFX := Lib.hid hfx; clear hfx
  have HA := Lib.hid ha
  obtain ⟨A1, c1, rfl, hlc1, hx1⟩ := ha.at_
  have HX1 := Lib.hid hx1
  clear ha hx1
  unfold bv
  by_cases h1 : 500 < b.length
  · go_enter Try.func6, Try.ntmps6
    go_wp2_with fail
    refine HFX.out.mono ?_
    rintro e w1 ⟨rfl, hb1⟩
    go_wp2
    go_ret
    exact ⟨rfl, hb1⟩
  · go_enter Try.func6, Try.ntmps6
    go_wp2_with fail
    refine HFX.out.mono ?_
    rintro e w1 ⟨rfl, hb1⟩
    have HB1 := Lib.hid hb1
    clear hb1
    go_wp2_with fail
    refine (dnew_any w1).mono ?_
    rintro e w2 ⟨rfl, hd2, hb2⟩
    have D2 := Lib.hid ((Dkn.new w1 hd2 rfl hb2).mono HB1.out)
    generalize w1.heap.size = g at *
    clear hd2 hb2
    go_wp2_with fail
    refine (dreset_any g _ _ [] b 0 _ D2.out.dk (HA.out.below D2.out.base) (by omega)).mono ?_
    rintro e w3 ⟨rfl, ht⟩
    obtain ⟨v3, d3, _⟩ := D2.out.turns ht
    have D3 := Lib.hid d3
    clear ht d3
    go_wp2_with fail
    refine (dspoil_any g v3 _ _ at_ y w3 D3.out.dk).mono ?_
    rintro e w4 ⟨rfl, hd4, hm4⟩
    obtain ⟨L, hL⟩ : ∃ L, L = turnB b 0 b.length at_ y := ⟨_, rfl⟩
    have hLl : L.length = b.length := by rw [hL, turnB_len]
    have hLg : ∀ k (hk : k < b.length), L[k]? = some (if (k : Int) = at_ then b[k] ^^^ y else b[k]) := by subst hL; exact turnB_get b at_ y
    have hLt : turnB L 0 L.length at_ y = b := by rw [hLl, hL, turnB_twice]
    rw [← hL] at hd4
    have D4 := Lib.hid (D3.out.turn hd4 hm4)
    have HLG := Lib.hid hLg
    have HLT := Lib.hid hLt
    clear hd4 hm4 hL hLg hLt
    go_wp2_with fail
    refine (dbytes_any g v3 _ _ w4 D4.out.dk).mono ?_
    rintro e w5 ⟨v5, rfl, ho5, hb5⟩
    have D5 := Lib.hid (D4.out.below hb5)
    obtain ⟨A5, c5, rfl, hlc5, hx5⟩ := (own_sl ho5).at_
    have HX5 := Lib.hid hx5
    clear ho5 hb5 hx5
    rw [hLl] at hlc5 ⊢
    go_wp2
    go_loopw [27] (fun i wr => ∃ k q : Nat, k ≤ b.length ∧ i = .int .i64 k ∧ wr = w5.drewN q) (fun i _ => b.length - (intOf i).toNat)
    case atStart => exact ⟨0, 0, Nat.zero_le _, rfl, rfl⟩
    case round =>
      obtain ⟨k, q, hk, rfl, rfl⟩ := hrel
      by_cases hlt : k < b.length
      · obtain ⟨b1, o1, rfl, hbl1, hcell1⟩ := HX1.out k hlt
        obtain ⟨b5, o5, rfl, hbl5, hcell5⟩ := HX5.out k (by omega)
        have e1 := hcell1 k b[k] (List.getElem?_eq_getElem hlt)
        have e5 := hcell5 k _ (HLG.out k hlt)
        have e1' := (D5.out.base.cell (p := ⟨b1, o1 + k, none⟩) hbl1).trans e1
        clear hcell1 hcell5 e1
        by_cases hat : (k : Int) = at_
        · rw [if_pos hat] at e5
          subst hat
          have ex := u8x b[k] y
          unfold bv at e1' e5
          generalize (b[k] ^^^ y).toNat = z at *
          generalize b[k].toNat = x at *
          have n1 : ((k : Int) == (k : Int)) = true := beq_self_eq_true _
          have n2 : ((k : Int) != (k : Int)) = false := by rw [bne, n1]; rfl
          have n3 : ((z : Int) == (z : Int)) = true := beq_self_eq_true _
          have n4 : ((z : Int) != (z : Int)) = false := by rw [bne, n3]; rfl
          cases hq : ((z : Int) != (x : Int))
          all_goals
            go_wp2_with fail
            go_quiet (fail)
            go_wp2
            go_roundw
            case rel => exact ⟨k + 1, _, by omega, by go_num, rfl⟩
            case measure => simp [intOf]; omega
        · rw [if_neg hat] at e5
          have n1 : ((k : Int) == at_) = false := by rw [beq_eq_false_iff_ne]; exact hat
          have n2 : ((k : Int) != at_) = true := by rw [bne, n1]; rfl
          unfold bv at e1' e5
          generalize b[k].toNat = x at *
          have n3 : ((x : Int) == (x : Int)) = true := beq_self_eq_true _
          have n4 : ((x : Int) != (x : Int)) = false := by rw [bne, n3]; rfl
          go_wp2_with fail
          go_quiet (fail)
          go_wp2
          go_roundw
          case rel => exact ⟨k + 1, _, by omega, by go_num, rfl⟩
          case measure => simp [intOf]; omega
      · have hkk : k = b.length := by omega
        subst hkk
        have D6 : Hid (Dkn w (w5.drewN q) g v3 L b.length) := Lib.hid (D5.out.below ⟨rfl, rfl, rfl, Nat.le_refl _, fun _ _ => rfl⟩)
        generalize w5.drewN q = w6 at *
        go_wp2_with fail
        refine (dspoil_any g v3 _ _ at_ y w6 D6.out.dk).mono ?_
        rintro e w7 ⟨rfl, hd7, hm7⟩
        rw [HLT.out] at hd7
        have D7 := Lib.hid (D6.out.turn hd7 hm7)
        clear hd7 hm7
        go_wp2_with fail
        refine wp_region_any (by kernel_rfl) ?_
        refine wpAny_below (fun i => pOfB (([(some (.slice A5 b.length c5), none), (some (.int .i64 b.length), none), (some (.slice A1 b.length c1), none), (some (.int .i64 b.length), none), (some (.bool true), none), (some (.bool true), none), (some (.pointer (some ⟨g, 0, none⟩)), none), (none, some (b)), (some (.string ⟨(b).toArray⟩), none), (some (.slice A1 b.length c1), none), (some (.string ⟨(b).toArray⟩), none), (some (.bool true), none), (some (.bool true), none), (some (.bool true), none), (some (.pointer (some ⟨g, 0, none⟩)), none), (some (.int .i64 b.length), none), (some (.slice A1 b.length c1), none), (some (.int .i64 b.length), none), (some (.bool true), none), (some (.bool true), none), (some (.bool true), none)] : List (Option Value × Option (List UInt8))).getD i (none, none))) _ w7 (by kernel_rfl) (by kernel_rfl) (by kernel_rfl) (fun i v w w' => pOfB_stable _ i v w w') ?_ ?_
        · refine ⟨?_, ?_, ?_, ?_, ?_, ?_, ?_, ?_, ?_, ?_, ?_, ?_, ?_, ?_, ?_, ?_, ?_, ?_, ?_, ?_, ?_, trivial⟩
          · intro a W hI hun haft hi
            have e8 : a.eval (.tmp 8) = .slice A5 b.length c5 := hun 8 (by kernel_rfl)
            exact b_same hi hI rfl _ (run_move_op rfl e8) rfl
          · intro a W hI hun haft hi
            have f0 : a.eval (.tmp 67) = .slice A5 b.length c5 := haft ⟨0, .data⟩ (by simp) rfl _ _ rfl rfl
            exact b_same hi hI rfl _ (run_len_op Try.underlying26 rfl f0) rfl
          · intro a W hI hun haft hi
            have e0 : a.eval (.tmp 0) = .slice A1 b.length c1 := hun 0 (by kernel_rfl)
            exact b_same hi hI rfl _ (run_move_op rfl e0) rfl
          · intro a W hI hun haft hi
            have f2 : a.eval (.tmp 69) = .slice A1 b.length c1 := haft ⟨2, .data⟩ (by simp) rfl _ _ rfl rfl
            exact b_same hi hI rfl _ (run_len_op Try.underlying26 rfl f2) rfl
          · intro a W hI hun haft hi
            have f1 : a.eval (.tmp 68) = .int .i64 b.length := haft ⟨1, .data⟩ (by simp) rfl _ _ rfl rfl
            have f3 : a.eval (.tmp 70) = .int .i64 b.length := haft ⟨3, .data⟩ (by simp) rfl _ _ rfl rfl
            exact b_same hi hI rfl (.bool true) (run_bin_op rfl f1 f3 (by go_simp) (run_eqi (beq_self_eq_true _) _)) rfl
          · intro a W hI hun haft hi
            have f4 : a.eval (.tmp 71) = .bool true := haft ⟨4, .data⟩ (by simp) rfl _ _ rfl rfl
            exact b_same hi hI rfl _ (run_move_op rfl f4) rfl
          · intro a W hI hun haft hi
            have fg : a.eval (.tmp 72) = .bool true := haft ⟨5, .guard⟩ (by simp) rfl _ _ rfl rfl
            have e7 : a.eval (.tmp 7) = .pointer (some ⟨g, 0, none⟩) := hun 7 (by kernel_rfl)
            exact b_same hi hI (guard_ok rfl rfl rfl fg) _ (run_move_op rfl e7) rfl
          · intro a W hI hun haft hi
            have fg : a.eval (.tmp 72) = .bool true := haft ⟨5, .guard⟩ (by simp) rfl _ _ rfl rfl
            have f6 : a.eval (.tmp 73) = .pointer (some ⟨g, 0, none⟩) := haft ⟨6, .data⟩ (by simp) rfl _ _ rfl rfl
            refine b_call hi hI (guard_ok rfl rfl rfl fg) _ _ (run_call_op (args := #[.pointer (some ⟨g, 0, none⟩)]) rfl (by simp [f6]) (by kernel_rfl)) ?_
            exact (dbytes_any g v3 b b.length W (D7.out.below hI).dk).mono fun e' w' H => by
              obtain ⟨v', he, ho, hb⟩ := H
              exact ⟨v', he, Sl.of_own ho, hb⟩
          · intro a W hI hun haft hi
            have fg : a.eval (.tmp 72) = .bool true := haft ⟨5, .guard⟩ (by simp) rfl _ _ rfl rfl
            have f7 : Sl bv W (a.eval (.tmp 74)) (b) := haft ⟨7, .data⟩ (by simp) rfl _ _ rfl rfl
            exact b_same hi hI (guard_ok rfl rfl rfl fg) _ (run_convert_op rfl rfl (bytes_str W _ _ f7)) rfl
          · intro a W hI hun haft hi
            have fg : a.eval (.tmp 72) = .bool true := haft ⟨5, .guard⟩ (by simp) rfl _ _ rfl rfl
            have e0 : a.eval (.tmp 0) = .slice A1 b.length c1 := hun 0 (by kernel_rfl)
            exact b_same hi hI (guard_ok rfl rfl rfl fg) _ (run_move_op rfl e0) rfl
          · intro a W hI hun haft hi
            have fg : a.eval (.tmp 72) = .bool true := haft ⟨5, .guard⟩ (by simp) rfl _ _ rfl rfl
            have f9 : a.eval (.tmp 76) = .slice A1 b.length c1 := haft ⟨9, .data⟩ (by simp) rfl _ _ rfl rfl
            exact b_same hi hI (guard_ok rfl rfl rfl fg) _ (run_convert_op rfl f9 (bytes_str W _ _ (Sl.below (HA.out.below D7.out.base) hI))) rfl
          · intro a W hI hun haft hi
            have fg : a.eval (.tmp 72) = .bool true := haft ⟨5, .guard⟩ (by simp) rfl _ _ rfl rfl
            have f8 : a.eval (.tmp 75) = .string ⟨(b).toArray⟩ := haft ⟨8, .data⟩ (by simp) rfl _ _ rfl rfl
            have f10 : a.eval (.tmp 77) = .string ⟨(b).toArray⟩ := haft ⟨10, .data⟩ (by simp) rfl _ _ rfl rfl
            exact b_same hi hI (guard_ok rfl rfl rfl fg) (.bool true) (run_bin_op rfl f8 f10 (by go_simp) (run_eqs _ _)) rfl
          · intro a W hI hun haft hi
            have f5 : a.eval (.tmp 72) = .bool true := haft ⟨5, .data⟩ (by simp) rfl _ _ rfl rfl
            have f11 : a.eval (.tmp 78) = .bool true := haft ⟨11, .data⟩ (by simp) rfl _ _ rfl rfl
            exact b_same hi hI rfl _ (run_pick_op (b := true) rfl f5 f11 rfl) rfl
          · intro a W hI hun haft hi
            have f12 : a.eval (.tmp 79) = .bool true := haft ⟨12, .data⟩ (by simp) rfl _ _ rfl rfl
            exact b_same hi hI rfl _ (run_move_op rfl f12) rfl
          · intro a W hI hun haft hi
            have fg : a.eval (.tmp 80) = .bool true := haft ⟨13, .guard⟩ (by simp) rfl _ _ rfl rfl
            have e7 : a.eval (.tmp 7) = .pointer (some ⟨g, 0, none⟩) := hun 7 (by kernel_rfl)
            exact b_same hi hI (guard_ok rfl rfl rfl fg) _ (run_move_op rfl e7) rfl
          · intro a W hI hun haft hi
            have fg : a.eval (.tmp 80) = .bool true := haft ⟨13, .guard⟩ (by simp) rfl _ _ rfl rfl
            have f14 : a.eval (.tmp 81) = .pointer (some ⟨g, 0, none⟩) := haft ⟨14, .data⟩ (by simp) rfl _ _ rfl rfl
            refine b_call hi hI (guard_ok rfl rfl rfl fg) _ _ (run_call_op (args := #[.pointer (some ⟨g, 0, none⟩)]) rfl (by simp [f14]) (by kernel_rfl)) ?_
            exact (dsynced_step g v3 b b.length W (D7.out.below hI).dk).mono fun e' w' H => ⟨_, H.1, rfl, H.2⟩
          · intro a W hI hun haft hi
            have fg : a.eval (.tmp 80) = .bool true := haft ⟨13, .guard⟩ (by simp) rfl _ _ rfl rfl
            have e0 : a.eval (.tmp 0) = .slice A1 b.length c1 := hun 0 (by kernel_rfl)
            exact b_same hi hI (guard_ok rfl rfl rfl fg) _ (run_move_op rfl e0) rfl
          · intro a W hI hun haft hi
            have fg : a.eval (.tmp 80) = .bool true := haft ⟨13, .guard⟩ (by simp) rfl _ _ rfl rfl
            have f16 : a.eval (.tmp 83) = .slice A1 b.length c1 := haft ⟨16, .data⟩ (by simp) rfl _ _ rfl rfl
            exact b_same hi hI (guard_ok rfl rfl rfl fg) _ (run_len_op Try.underlying26 rfl f16) rfl
          · intro a W hI hun haft hi
            have fg : a.eval (.tmp 80) = .bool true := haft ⟨13, .guard⟩ (by simp) rfl _ _ rfl rfl
            have f15 : a.eval (.tmp 82) = .int .i64 b.length := haft ⟨15, .data⟩ (by simp) rfl _ _ rfl rfl
            have f17 : a.eval (.tmp 84) = .int .i64 b.length := haft ⟨17, .data⟩ (by simp) rfl _ _ rfl rfl
            exact b_same hi hI (guard_ok rfl rfl rfl fg) (.bool true) (run_bin_op rfl f15 f17 (by go_simp) (run_eqi (beq_self_eq_true _) _)) rfl
          · intro a W hI hun haft hi
            have f13 : a.eval (.tmp 80) = .bool true := haft ⟨13, .data⟩ (by simp) rfl _ _ rfl rfl
            have f18 : a.eval (.tmp 85) = .bool true := haft ⟨18, .data⟩ (by simp) rfl _ _ rfl rfl
            exact b_same hi hI rfl _ (run_pick_op (b := true) rfl f13 f18 rfl) rfl
          · intro a W hI hun haft hi
            have f19 : a.eval (.tmp 86) = .bool true := haft ⟨19, .data⟩ (by simp) rfl _ _ rfl rfl
            exact b_same hi hI rfl _ (run_assign_op rfl f19) rfl
        · intro vals W hI hp
          have hl20 : vals 20 = .bool true := hp 20 (by decide)
          have HI := Lib.hid hI
          clear hp hI
          simp only [layN, List.size_toArray, List.length_cons, List.length_nil, List.range, List.range.loop, if_true, List.getElem?_toArray, List.getElem?_cons_zero, List.getElem?_cons_succ, Act.put, List.setIfInBounds_toArray, List.set_cons_zero, List.set_cons_succ, Nat.zero_add, Nat.reduceAdd, hl20]
          clear hl20
          go_wp2
          go_ret
          exact ⟨rfl, (D7.out.below HI.out).base⟩
end Go.Proofs.Ytcaechfmeiklkaa
