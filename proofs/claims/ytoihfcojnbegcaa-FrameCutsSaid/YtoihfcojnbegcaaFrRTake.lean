/-
  The reference's Take: the contract, by a walk. Conditions: a bound on the length.
-/
import Derived.Test.YtoihfcojnbegcaaFrTake
namespace Go.Proofs.Ytoihfcojnbegcaa
open Go.RowKit

/-- What the reference's Take hands back: a part of what came in. -/
def RTook (w : World) (v : Value) (b : List UInt8) (t : List UInt8 × Nat × Nat) (e : Ending) (w' : World) : Prop := ∃ A n c, e = .returned (.tuple #[.slice A n c, .int .i64 t.2.1, .int .i64 t.2.2]) ∧ (∀ w0, Sl bv w0 v b → Sl bv w0 (.slice A n c) t.1) ∧ Below w.heap.size w w'
theorem take_drop8r (b : List UInt8) (n : Nat) : (b.take (n + 8)).drop (n + 4) = (b.drop (n + 4)).take 4 := by
  rw [Nat.add_comm n 4, take_drop8, Nat.add_comm n 4]

set_option maxHeartbeats 4000000 in
theorem rtake_any (v : Value) (b : List UInt8) (w : World) (h : Sl bv w v b) (hlen : b.length ≤ 140737400000000) : Calls Try.prog 20 #[v] w (RTook w v b (takeF b)) := by
  have HS := Lib.hid h
  obtain ⟨A, c, rfl, hlc, hcell⟩ := h.at_
  by_cases h4 : b.length < 4
  · have ht : takeF b = ([], 0, 2) := by unfold takeF; rw [if_pos h4]
    rw [ht]
    clear hcell h ht
    go_enter Try.func20, Try.ntmps20
    go_wp2
    go_ret3
    exact ⟨none, 0, 0, rfl, fun _ _ => Sl.nil_ _ _, Below.refl _ _⟩
  · obtain ⟨b0, o, rfl, hb0, hc⟩ := hcell 0 (by omega)
    obtain ⟨x, y, z, t, hb, ht⟩ := three b h4
    have hc0 := hc 0 x (by rw [hb]; rfl)
    have hc1 := hc 1 y (by rw [hb]; rfl)
    have hc2 := hc 2 z (by rw [hb]; rfl)
    have hn : lenB b = x.toNat + 256 * y.toNat + 65536 * z.toNat := by rw [hb]; rfl
    have hx := x.toNat_lt
    have hy := y.toNat_lt
    have hz := z.toNat_lt
    unfold bv at hc0 hc1 hc2
    rw [Nat.add_zero] at hc0
    have HN := Lib.hid hn
    clear hn hc hcell h hb
    generalize x.toNat = x at *
    generalize y.toNat = y at *
    generalize z.toNat = z at *
    have s1 : IntKind.i64.wrap (256 * (y : Int)) = 256 * (y : Int) := IntWalk.i64_in _ (by omega)
    have s2 : IntKind.i64.wrap ((x : Int) + 256 * (y : Int)) = (x : Int) + 256 * (y : Int) := IntWalk.i64_in _ (by omega)
    have s3 : IntKind.i64.wrap (65536 * (z : Int)) = 65536 * (z : Int) := IntWalk.i64_in _ (by omega)
    have s4 : IntKind.i64.wrap ((x : Int) + 256 * (y : Int) + 65536 * (z : Int)) = (x : Int) + 256 * (y : Int) + 65536 * (z : Int) := IntWalk.i64_in _ (by omega)
    go_enter Try.func20, Try.ntmps20
    go_upto_region 3 with fail
    go_cut [5] (fun n wx => n = .int .i64 (lenB b) ∧ ∃ k, wx = w.drewN k)
    case first =>
      go_quiet (fail)
      go_wp2_with fail
      go_meet
      exact ⟨by rw [HN.out]; go_num, _, rfl⟩
    case rest =>
      clear s1 s2 s3 s4
      obtain ⟨rfl, nq, rfl⟩ := hcut
      have hnl := lenB_lt b
      have HT : Hid (takeF b = if headB (lenB b) ≠ b.take 4 then ([], 0, 7) else if 1048576 < lenB b then ([], 0, 3) else if b.length < lenB b + 8 then ([], 0, 2) else if leB (crcOf ((b.drop 4).take (lenB b))) ≠ (b.drop (lenB b + 4)).take 4 then ([], 0, 7) else ((b.drop 4).take (lenB b), lenB b + 8, 0)) := Lib.hid (by unfold takeF; rw [if_neg h4])
      have hp4 := HS.out.hi_at 4 (by omega)
      have HP := Lib.hid hp4
      clear hp4 hc0 hc1 hc2 HN
      generalize hN : lenB b = N at *
      clear hN
      go_upto_region 4 with fail
      go_cut [31] (fun q wx => q = .bool (!eqB (headB N) (b.take 4)) ∧ Below w.heap.size w wx)
      case first =>
        have r4 := run_string_sl (P := Try.prog) (w.drewN (nq + 1)) 22 9 5 Try.underlying22 Try.underlying5 Try.underlying9 _ _ (HP.out : Sl bv (w.drewN (nq + 1)) _ _)
        go_region_with (first
          | (go_at_call 32; refine (rhead_any N _ hnl).mono ?_; rintro e w2 ⟨v2, rfl, ho2, hb2⟩; have r2 := run_string_sl (P := Try.prog) w2 22 9 5 Try.underlying22 Try.underlying5 Try.underlying9 v2 _ (Sl.of_own ho2); have r4' := run_string_sl (P := Try.prog) w2 22 9 5 Try.underlying22 Try.underlying5 Try.underlying9 _ _ (Sl.below (w := w.drewN (nq + 1)) HP.out hb2); have HB2 := Lib.hid hb2; clear ho2 hb2))
        all_goals go_wp2_with fail
        all_goals go_meet
        all_goals exact ⟨by simp [eqB], (below_drewN w (nq + 1)).trans HB2.out⟩
      case rest =>
        obtain ⟨rfl, hb2⟩ := hcut
        cases he : eqB (headB N) (b.take 4)
        · have ht : takeF b = ([], 0, 7) := by rw [HT.out, if_pos ((eqB_false _ _).1 he)]
          have HT2 := Lib.hid ht
          clear ht
          go_wp2
          go_ret3
          rw [HT2.out]
          exact ⟨none, 0, 0, rfl, fun _ _ => Sl.nil_ _ _, hb2⟩
        · have he2 := (eqB_true _ _).1 he
          have HE := Lib.hid he2
          clear he2 he
          by_cases hbig : 1048576 < N
          · have ht : takeF b = ([], 0, 3) := by rw [HT.out, if_neg (by simp [HE.out]), if_pos hbig]
            have HT2 := Lib.hid ht
            clear ht
            go_wp2
            go_ret3
            rw [HT2.out]
            exact ⟨none, 0, 0, rfl, fun _ _ => Sl.nil_ _ _, hb2⟩
          · by_cases hshort : b.length < N + 8
            · have ht : takeF b = ([], 0, 2) := by rw [HT.out, if_neg (by simp [HE.out]), if_neg hbig, if_pos hshort]
              have HT2 := Lib.hid ht
              clear ht
              go_wp2
              go_ret3
              rw [HT2.out]
              exact ⟨none, 0, 0, rfl, fun _ _ => Sl.nil_ _ _, hb2⟩
            · have hc9 := HS.out.len.2
              have hpa := HS.out.part_at 4 (N + 4) (by omega) (by omega) (by omega)
              have hpb := HS.out.part_at (N + 4) (N + 8) (by omega) (by omega) (by omega)
              rw [show N + 4 - 4 = N by omega, Nat.add_comm N 4, take_drop4] at hpa
              rw [take_drop8r, show N + 8 - (N + 4) = 4 by omega] at hpb
              have HPA := Lib.hid (hpa.below hb2)
              have HPB := Lib.hid (hpb.below hb2)
              clear hpa hpb
              obtain ⟨p, hp⟩ : ∃ p, p = (b.drop 4).take N := ⟨_, rfl⟩
              have hpl : p.length ≤ 1048576 := by rw [hp, List.length_take]; omega
              have HPP := Lib.hid hp
              have HBW := Lib.hid hb2
              clear hp hb2
              have e1 : ¬ c = 4 := by omega
              have e2 : ¬ c = N + 4 := by omega
              go_upto_region 10 with fail
              have r5 := run_string_sl (P := Try.prog) wc.drew 22 9 5 Try.underlying22 Try.underlying5 Try.underlying9 _ _ (HPB.out : Sl bv wc.drew _ _)
              have hpa2 : Sl bv wc.drew (.slice (some ⟨b0, o + 4, none⟩) N (c - 4)) p := by rw [HPP.out]; exact HPA.out
              have hof := rof_any _ p wc.drew hpa2 (by omega)
              have HOF := Lib.hid hof
              have HPA2 := Lib.hid hpa2
              clear hof hpa2
              go_cut [53] (fun q wx => q = .bool (!eqB (leB (crcOf p)) ((b.drop (N + 4)).take 4)) ∧ Below w.heap.size w wx)
              case first =>
                have q1 : (0 : Int) ≤ (N : Int) + 4 := by omega
                have q2 : (0 : Int) ≤ (N : Int) + 8 := by omega
                have q3 : (4 : Int) ≤ (N : Int) + 4 := by omega
                have q4 : (N : Int) + 4 ≤ (N : Int) + 8 := by omega
                have q5 : (N : Int) + 4 ≤ (c : Int) := by omega
                have q6 : (N : Int) + 8 ≤ (c : Int) := by omega
                have q7 : 4 ≤ N + 4 := by omega
                have q8 : N + 4 ≤ c := by omega
                have q9 : N + 8 ≤ c := by omega
                have q10 : N + 4 ≤ N + 8 := by omega
                have t1 : IntKind.i64.wrap ((N : Int) + 4) = (N : Int) + 4 := IntWalk.i64_in _ (by omega)
                have t2 : IntKind.i64.wrap ((N : Int) + 8) = (N : Int) + 8 := IntWalk.i64_in _ (by omega)
                have t3 : ((N : Int) + 4).toNat = N + 4 := by omega
                have t4 : ((N : Int) + 8).toNat = N + 8 := by omega
                go_region_with (first
                  | (go_at_call 13; refine HOF.out.mono ?_; rintro e w' ⟨he, rfl⟩; subst he)
                  | (go_at_call 17; refine (rbytes_any (crcOf p) _).mono ?_; rintro e w4 ⟨v4, rfl, hs4, hb4⟩; have r6 := run_string_sl (P := Try.prog) w4 22 9 5 Try.underlying22 Try.underlying5 Try.underlying9 v4 _ hs4; have r7 := run_string_sl (P := Try.prog) w4 22 9 5 Try.underlying22 Try.underlying5 Try.underlying9 _ _ (Sl.below (w := wc.drew) HPB.out hb4); have HB4 := Lib.hid hb4; clear hs4 hb4))
                all_goals go_wp2_with fail
                all_goals go_meet
                all_goals exact ⟨by simp [eqB], HBW.out.trans (((Below.refl _ _).drew.trans HB4.out).mono HBW.out.size)⟩
              case rest =>
                clear r5
                obtain ⟨rfl, hb5⟩ := hcut
                cases hq : eqB (leB (crcOf p)) ((b.drop (N + 4)).take 4)
                · have ht : takeF b = ([], 0, 7) := by
                    rw [HT.out, if_neg (by simp [HE.out]), if_neg hbig, if_neg hshort, ← HPP.out, if_pos ((eqB_false _ _).1 hq)]
                  have HT2 := Lib.hid ht
                  clear ht hq
                  go_wp2
                  go_ret3
                  rw [HT2.out]
                  exact ⟨none, 0, 0, rfl, fun _ _ => Sl.nil_ _ _, hb5⟩
                · have ht : takeF b = (p, N + 8, 0) := by
                    have := (eqB_true _ _).1 hq
                    rw [HT.out, if_neg (by simp [HE.out]), if_neg hbig, if_neg hshort, ← HPP.out, if_neg (by simp [this])]
                  have HT2 := Lib.hid ht
                  clear ht hq
                  go_wp2
                  go_ret3
                  rw [HT2.out]
                  refine ⟨_, _, _, rfl, fun w0 h0 => ?_, hb5⟩
                  have h9 := h0.part_at 4 (N + 4) (by omega) (by omega) (by omega)
                  rw [show N + 4 - 4 = N by omega, Nat.add_comm N 4, take_drop4, ← HPP.out] at h9
                  exact h9

end Go.Proofs.Ytoihfcojnbegcaa
