/-
  hedgerowlaw11.JournalCrash: the walk: for all records and all crashes the call returns true, and nothing that was there has turned. Conditions: none.
-/
import Derived.Test.YtkdfedcmhcchiaaJnReg
import Derived.Test.YtkdfedcmhcchiaaJnSpoilt
import Derived.Test.YtkdfedcmhcchiaaJnTwice
namespace Go.Proofs.Ytkdfedcmhcchiaa
open Go.RowKit

/-- What a crash leaves, as bytes of which one is turned, cut. -/
theorem crash_form (F : List UInt8) (s : Nat) (keep at_ : Nat) (y : UInt8) (hs : s ≤ F.length) :
    ∃ x j, crashB F s (keep : Int) (at_ : Int) y = (if x = 0 then F else tb F j x).take (s + leftB F s (keep : Int)) ∧ (x ≠ 0 → s ≤ j ∧ j < s + leftB F s (keep : Int)) := by
  have hk := leftB_le F s (keep : Int)
  generalize hkk : leftB F s (keep : Int) = k at *
  by_cases hy : y = 0
  · subst hy
    refine ⟨0, 0, ?_, fun h => absurd rfl h⟩
    unfold crashB
    rw [turnB_zero, hkk, if_pos rfl]
  · by_cases h : at_ < k
    · refine ⟨y, s + at_, ?_, fun _ => ⟨by omega, by omega⟩⟩
      have hlt : s + at_ < F.length := by omega
      unfold crashB turnB
      rw [hkk, if_pos ⟨by omega, by omega⟩, if_neg hy, tb_set F (s + at_) hlt y, Int.toNat_natCast, List.getD_eq_getElem?_getD, List.getElem?_eq_getElem hlt]
      rfl
    · refine ⟨0, 0, ?_, fun h => absurd rfl h⟩
      unfold crashB turnB
      rw [hkk, if_neg (by omega), if_pos rfl]

set_option maxRecDepth 100000 in
set_option maxHeartbeats 2000000 in
theorem jcrash_walk (vl : Value) (l : List (UInt8 × List UInt8)) (z kp at_ : Nat) (y : UInt8) (w : World) (hr : RecsAt w vl l) (hll : l.length ≤ 4611686018427387903) (hz : z < 256) (hkp : kp < 65536) (hat : at_ < 65536) :
    Calls Try.prog 3 #[vl, .int .u8 z, .int .u16 kp, .int .u16 at_, bv y] w (Law w) := by
  have HFX := Lib.hid (jfixed_any w)
  have HR := Lib.hid hr
  obtain ⟨A, c, rfl⟩ := hr.form
  clear hr
  unfold bv
  go_enter Try.func3, Try.ntmps3
  go_wp2_with fail
  refine HFX.out.mono ?_
  rintro e w1 ⟨rfl, hb1⟩
  have HB1 := Lib.hid hb1
  have HR1 := Lib.hid (HR.out.below hb1)
  clear hb1
  go_wp2_with fail
  refine (few_any _ l w1 HR1.out hll).mono ?_
  rintro e w2 ⟨rfl, hb2⟩
  have HB2 := Lib.hid (HB1.out.trans (hb2.mono HB1.out.size))
  have HR2 := Lib.hid (HR1.out.below hb2)
  clear hb2 HR1
  by_cases hfew : fewJ l = true
  · rw [hfew]
    obtain ⟨g1, g2, g3, g4⟩ := fewJ_spec l hfew
    obtain ⟨n, hn⟩ : ∃ n, n = z % (l.length + 1) := ⟨_, rfl⟩
    have hnl : n ≤ l.length := by rw [hn]; have := Nat.mod_lt z (show 0 < l.length + 1 by omega); omega
    have hni : (z : Int).tmod ((l.length : Int) + 1) = (n : Int) := by rw [hn]; rfl
    have hl1 : ((l.length : Int) + 1 == 0) = false := by rw [beq_eq_false_iff_ne]; omega
    have HNL := Lib.hid hnl
    clear hn hfew
    go_wp2_with fail
    refine (laid_any _ l n w2 HR2.out (by omega) HNL.out).mono ?_
    rintro e w3 ⟨g, v3, u3, rfl, hd3, ho3⟩
    have D3 := Lib.hid (hd3.mono HB2.out)
    have HG4 := Lib.hid (show ∀ p ∈ l.map payJ, p.length ≤ 1048576 from fun p hp => Nat.le_trans (g4 p hp) (by decide))
    have HSL := Lib.hid (show sizeJ l ≤ 3000 from g3)
    have HO3 := Lib.hid ho3
    obtain ⟨Au, cu, rfl⟩ := own_form ho3
    obtain ⟨s, hs⟩ : ∃ s, s = endL (l.map payJ) n := ⟨_, rfl⟩
    rw [← hs] at D3
    have hsF : s ≤ (framesB (l.map payJ)).length := by rw [hs]; exact endL_le _ _
    obtain ⟨K, hK⟩ : ∃ K, K = kp % 600 := ⟨_, rfl⟩
    obtain ⟨T, hT⟩ : ∃ T, T = at_ % 600 := ⟨_, rfl⟩
    have hKi : (kp : Int) % 600 = (K : Int) := by omega
    have hTi : (at_ : Int) % 600 = (T : Int) := by omega
    obtain ⟨x, j, hcf, hxj⟩ := crash_form (framesB (l.map payJ)) s K T y hsF
    have hkl := leftB_le (framesB (l.map payJ)) s (K : Int)
    obtain ⟨q, hq1, hq2, hq3, hq4, hq5⟩ := crash_read l HG4.out (s + leftB (framesB (l.map payJ)) s (K : Int)) j x (by show _ ≤ (framesB (l.map payJ)).length; omega) s (by omega) hxj
    rw [← hcf] at hq2 hq5
    have hBl : (crashB (framesB (l.map payJ)) s (K : Int) (T : Int) y).length ≤ 1000000 := by
      rw [crashB_len _ _ _ _ _ hsF]
      have := HSL.out
      have h2 : (framesB (l.map payJ)).length = sizeJ l := rfl
      omega
    have hnq : n ≤ q := hq3 n HNL.out (by rw [hs]; exact Nat.le_refl _)
    have hszq : sizeJ (l.take q) = endL (l.map payJ) q := by unfold sizeJ endL; rw [List.map_take]
    have hsq : s ≤ sizeJ (l.take q) := by rw [hszq, hs]; exact endL_mono _ hnq
    obtain ⟨B, hB⟩ : ∃ B, B = crashB (framesB (l.map payJ)) s (K : Int) (T : Int) y := ⟨_, rfl⟩
    rw [← hB] at hq2 hq5 hBl
    have HBB := Lib.hid hB
    have HQ2 := Lib.hid hq2
    have HQ5 := Lib.hid hq5
    have HBL := Lib.hid hBl
    have HZQ := Lib.hid hszq
    have HSQ := Lib.hid hsq
    have hqt : (l.take q).length = q := by rw [List.length_take]; omega
    have HQT := Lib.hid hqt
    have heq3 : endL (l.map payJ) q ≤ 3000 := by rw [← hszq]; exact Nat.le_trans (sizeJ_le l q) g3
    clear hd3 ho3 hs hsF hK hT hcf hxj hkl hq2 hq3 hq4 hq5 hB hBl hszq hsq hqt g2 g4
    go_wp2_with fail
    refine (dcrash_any g v3 _ s (K : Int) (T : Int) y w3 D3.out.dk).mono ?_
    rintro e w4 ⟨rfl, v4, hd4, hm4⟩
    rw [← HBB.out] at hd4
    have D4 := Lib.hid (D3.out.turn hd4 hm4)
    have O4 := Lib.hid (hm4.ints D3.out.dk HO3.out)
    clear hd4 hm4 HO3 D3
    have hrec := jrecover_any g v4 B s w4 D4.out.dk HBL.out (by rw [HQ2.out]; exact HSQ.out)
    rw [HQ2.out] at hrec
    have HREC := Lib.hid hrec
    clear hrec
    go_wp2_with fail
    refine HREC.out.mono ?_
    rintro e w5 ⟨v5, rfl, hr5, u5, hd5, hm5, -⟩
    rw [HZQ.out, HQ5.out] at hd5
    have D5 := Lib.hid (D4.out.turn hd5 hm5)
    have O5 := Lib.hid (hm5.ints D4.out.dk O4.out)
    have G5 := Lib.hid hr5.at
    have L5 := Lib.hid (HR.out.below D5.out.base)
    obtain ⟨A5, c5, hv5⟩ := hr5.at.form
    rw [HQT.out] at hv5
    subst hv5
    clear hr5 hd5 hm5 HREC D4 O4
    have hce : (endCs l (l.length + 1))[q]? = some (.int .i64 (endL (l.map payJ) q : Nat)) := by
      unfold endCs
      rw [List.getElem?_map, List.getElem?_range (by omega), Option.map_some]
    have hu : ∃ b, Au = some ⟨b, 0, none⟩ ∧ b < w5.heap.size ∧ w5.cell? ⟨b, q, none⟩ = some (.int .i64 (endL (l.map payJ) q : Nat)) := by
      rcases O5.out.2 with ⟨_, h⟩ | ⟨b, cap, cur, hv, _, hbb, hnc, _⟩
      · omega
      · injection hv with e1 e2 e3
        subst e1 e3
        refine ⟨b, rfl, (Array.getElem?_eq_some_iff.1 hbb).1, ?_⟩
        rw [O5.out.cellAt q (by omega)]
        exact hce
    obtain ⟨bu, rfl, hbu, hcu⟩ := hu
    have hlenq : (framesB ((l.take q).map payJ)).length = endL (l.map payJ) q := HZQ.out
    obtain ⟨EQ, hEQ⟩ : ∃ EQ, EQ = endL (l.map payJ) q := ⟨_, rfl⟩
    obtain ⟨FQ, hFQ⟩ : ∃ FQ, FQ = framesB ((l.take q).map payJ) := ⟨_, rfl⟩
    rw [← hEQ] at hcu hlenq D5
    rw [← hFQ] at D5 hlenq
    have HCU := Lib.hid hcu
    have HBU := Lib.hid hbu
    have HLQ := Lib.hid hlenq
    have hnq2 : decide ((q : Int) < (n : Int)) = false := by rw [decide_eq_false_iff_not]; omega
    have hql2 : decide ((l.length : Int) < (q : Int)) = false := by rw [decide_eq_false_iff_not]; omega
    clear hce hcu hbu hlenq hEQ hFQ heq3
    go_wp2_with fail
    refine wp_region_any (by kernel_rfl) ?_
    refine wpAny_below (fun i => pOfB (([(some (.int .i64 0), none), (some (.bool false), none), (some (.bool false), none), (some (.slice A5 q c5), none), (some (.int .i64 q), none), (some (.int .i64 n), none), (some (.bool false), none), (some (.bool false), none), (some (.bool false), none), (some (.slice A5 q c5), none), (some (.int .i64 q), none), (some (.slice A l.length c), none), (some (.int .i64 l.length), none), (some (.bool false), none), (some (.bool false), none), (some (.bool false), none), (some (.pointer (some ⟨g, 0, none⟩)), none), (none, some (FQ)), (some (.int .i64 ((FQ).length : Int)), none), (some (.slice (some ⟨bu, 0, none⟩) (l.length + 1) cu), none), (some (.slice A5 q c5), none), (some (.int .i64 q), none), (some (.pointer (some ⟨bu, q, none⟩)), none), (some (.int .i64 EQ), none), (some (.bool false), none), (some (.bool false), none)] : List (Option Value × Option (List UInt8))).getD i (none, none))) _ w5 (by kernel_rfl) (by kernel_rfl) (by kernel_rfl) (fun i v w w' => pOfB_stable _ i v w w') ?_ ?_
    · refine ⟨?_, ?_, ?_, ?_, ?_, ?_, ?_, ?_, ?_, ?_, ?_, ?_, ?_, ?_, ?_, ?_, ?_, ?_, ?_, ?_, ?_, ?_, ?_, ?_, ?_, ?_, trivial⟩
      · intro a W hI hun haft hi
        have e15 : a.eval (.tmp 15) = .int .i64 0 := hun 15 (by kernel_rfl)
        exact b_same hi hI rfl _ (run_move_op rfl e15) rfl
      · intro a W hI hun haft hi
        have f0 : a.eval (.tmp 49) = .int .i64 0 := haft ⟨0, .data⟩ (by simp) rfl _ _ rfl rfl
        exact b_same hi hI rfl (.bool false) (run_bin_op rfl f0 rfl (by go_simp) (run_nee rfl _)) rfl
      · intro a W hI hun haft hi
        have f1 : a.eval (.tmp 50) = .bool false := haft ⟨1, .data⟩ (by simp) rfl _ _ rfl rfl
        exact b_same hi hI rfl _ (run_move_op rfl f1) rfl
      · intro a W hI hun haft hi
        have fg : a.eval (.tmp 51) = .bool false := haft ⟨2, .guard⟩ (by simp) rfl _ _ rfl rfl
        have e14 : a.eval (.tmp 14) = .slice A5 q c5 := hun 14 (by kernel_rfl)
        exact b_same hi hI (guard_ok rfl rfl rfl fg) _ (run_move_op rfl e14) rfl
      · intro a W hI hun haft hi
        have fg : a.eval (.tmp 51) = .bool false := haft ⟨2, .guard⟩ (by simp) rfl _ _ rfl rfl
        have f3 : a.eval (.tmp 52) = .slice A5 q c5 := haft ⟨3, .data⟩ (by simp) rfl _ _ rfl rfl
        exact b_same hi hI (guard_ok rfl rfl rfl fg) _ (run_len_op Try.underlying22 rfl f3) rfl
      · intro a W hI hun haft hi
        have fg : a.eval (.tmp 51) = .bool false := haft ⟨2, .guard⟩ (by simp) rfl _ _ rfl rfl
        have e11 : a.eval (.tmp 11) = .int .i64 n := hun 11 (by kernel_rfl)
        exact b_same hi hI (guard_ok rfl rfl rfl fg) _ (run_move_op rfl e11) rfl
      · intro a W hI hun haft hi
        have fg : a.eval (.tmp 51) = .bool false := haft ⟨2, .guard⟩ (by simp) rfl _ _ rfl rfl
        have f4 : a.eval (.tmp 53) = .int .i64 q := haft ⟨4, .data⟩ (by simp) rfl _ _ rfl rfl
        have f5 : a.eval (.tmp 54) = .int .i64 n := haft ⟨5, .data⟩ (by simp) rfl _ _ rfl rfl
        exact b_same hi hI (guard_ok rfl rfl rfl fg) (.bool false) (run_bin_op rfl f4 f5 (by go_simp) (run_lti hnq2 _)) rfl
      · intro a W hI hun haft hi
        have f2 : a.eval (.tmp 51) = .bool false := haft ⟨2, .data⟩ (by simp) rfl _ _ rfl rfl
        have f6 : a.eval (.tmp 55) = .bool false := haft ⟨6, .data⟩ (by simp) rfl _ _ rfl rfl
        exact b_same hi hI rfl _ (run_pick_op (b := false) rfl f2 rfl f6) rfl
      · intro a W hI hun haft hi
        have f7 : a.eval (.tmp 56) = .bool false := haft ⟨7, .data⟩ (by simp) rfl _ _ rfl rfl
        exact b_same hi hI rfl _ (run_move_op rfl f7) rfl
      · intro a W hI hun haft hi
        have fg : a.eval (.tmp 57) = .bool false := haft ⟨8, .guard⟩ (by simp) rfl _ _ rfl rfl
        have e14 : a.eval (.tmp 14) = .slice A5 q c5 := hun 14 (by kernel_rfl)
        exact b_same hi hI (guard_ok rfl rfl rfl fg) _ (run_move_op rfl e14) rfl
      · intro a W hI hun haft hi
        have fg : a.eval (.tmp 57) = .bool false := haft ⟨8, .guard⟩ (by simp) rfl _ _ rfl rfl
        have f9 : a.eval (.tmp 58) = .slice A5 q c5 := haft ⟨9, .data⟩ (by simp) rfl _ _ rfl rfl
        exact b_same hi hI (guard_ok rfl rfl rfl fg) _ (run_len_op Try.underlying22 rfl f9) rfl
      · intro a W hI hun haft hi
        have fg : a.eval (.tmp 57) = .bool false := haft ⟨8, .guard⟩ (by simp) rfl _ _ rfl rfl
        have e0 : a.eval (.tmp 0) = .slice A l.length c := hun 0 (by kernel_rfl)
        exact b_same hi hI (guard_ok rfl rfl rfl fg) _ (run_move_op rfl e0) rfl
      · intro a W hI hun haft hi
        have fg : a.eval (.tmp 57) = .bool false := haft ⟨8, .guard⟩ (by simp) rfl _ _ rfl rfl
        have f11 : a.eval (.tmp 60) = .slice A l.length c := haft ⟨11, .data⟩ (by simp) rfl _ _ rfl rfl
        exact b_same hi hI (guard_ok rfl rfl rfl fg) _ (run_len_op Try.underlying22 rfl f11) rfl
      · intro a W hI hun haft hi
        have fg : a.eval (.tmp 57) = .bool false := haft ⟨8, .guard⟩ (by simp) rfl _ _ rfl rfl
        have f10 : a.eval (.tmp 59) = .int .i64 q := haft ⟨10, .data⟩ (by simp) rfl _ _ rfl rfl
        have f12 : a.eval (.tmp 61) = .int .i64 l.length := haft ⟨12, .data⟩ (by simp) rfl _ _ rfl rfl
        exact b_same hi hI (guard_ok rfl rfl rfl fg) (.bool false) (run_bin_op rfl f10 f12 (by go_simp) (run_gti hql2 _)) rfl
      · intro a W hI hun haft hi
        have f8 : a.eval (.tmp 57) = .bool false := haft ⟨8, .data⟩ (by simp) rfl _ _ rfl rfl
        have f13 : a.eval (.tmp 62) = .bool false := haft ⟨13, .data⟩ (by simp) rfl _ _ rfl rfl
        exact b_same hi hI rfl _ (run_pick_op (b := false) rfl f8 rfl f13) rfl
      · intro a W hI hun haft hi
        have f14 : a.eval (.tmp 63) = .bool false := haft ⟨14, .data⟩ (by simp) rfl _ _ rfl rfl
        exact b_same hi hI rfl _ (run_move_op rfl f14) rfl
      · intro a W hI hun haft hi
        have fg : a.eval (.tmp 64) = .bool false := haft ⟨15, .guard⟩ (by simp) rfl _ _ rfl rfl
        have e12 : a.eval (.tmp 12) = .pointer (some ⟨g, 0, none⟩) := hun 12 (by kernel_rfl)
        exact b_same hi hI (guard_ok rfl rfl rfl fg) _ (run_move_op rfl e12) rfl
      · intro a W hI hun haft hi
        have fg : a.eval (.tmp 64) = .bool false := haft ⟨15, .guard⟩ (by simp) rfl _ _ rfl rfl
        have f16 : a.eval (.tmp 65) = .pointer (some ⟨g, 0, none⟩) := haft ⟨16, .data⟩ (by simp) rfl _ _ rfl rfl
        refine b_call hi hI (guard_ok rfl rfl rfl fg) _ _ (run_call_op (args := #[.pointer (some ⟨g, 0, none⟩)]) rfl (by simp [f16]) (by kernel_rfl)) ?_
        exact (dbytes_any g u5 FQ EQ W (D5.out.below hI).dk).mono fun e' w' H => by
          obtain ⟨v', he, ho, hb⟩ := H
          exact ⟨v', he, Sl.of_own ho, hb⟩
      · intro a W hI hun haft hi
        have fg : a.eval (.tmp 64) = .bool false := haft ⟨15, .guard⟩ (by simp) rfl _ _ rfl rfl
        have f17 : Sl bv W (a.eval (.tmp 66)) (FQ) := haft ⟨17, .data⟩ (by simp) rfl _ _ rfl rfl
        obtain ⟨Aq, cq, hq⟩ := Sl.form f17
        exact b_same hi hI (guard_ok rfl rfl rfl fg) _ (run_len_op Try.underlying34 rfl hq) rfl
      · intro a W hI hun haft hi
        have fg : a.eval (.tmp 64) = .bool false := haft ⟨15, .guard⟩ (by simp) rfl _ _ rfl rfl
        have e13 : a.eval (.tmp 13) = .slice (some ⟨bu, 0, none⟩) (l.length + 1) cu := hun 13 (by kernel_rfl)
        exact b_same hi hI (guard_ok rfl rfl rfl fg) _ (run_move_op rfl e13) rfl
      · intro a W hI hun haft hi
        have fg : a.eval (.tmp 64) = .bool false := haft ⟨15, .guard⟩ (by simp) rfl _ _ rfl rfl
        have e14 : a.eval (.tmp 14) = .slice A5 q c5 := hun 14 (by kernel_rfl)
        exact b_same hi hI (guard_ok rfl rfl rfl fg) _ (run_move_op rfl e14) rfl
      · intro a W hI hun haft hi
        have fg : a.eval (.tmp 64) = .bool false := haft ⟨15, .guard⟩ (by simp) rfl _ _ rfl rfl
        have f20 : a.eval (.tmp 69) = .slice A5 q c5 := haft ⟨20, .data⟩ (by simp) rfl _ _ rfl rfl
        exact b_same hi hI (guard_ok rfl rfl rfl fg) _ (run_len_op Try.underlying22 rfl f20) rfl
      · intro a W hI hun haft hi
        have fg : a.eval (.tmp 64) = .bool false := haft ⟨15, .guard⟩ (by simp) rfl _ _ rfl rfl
        have f19 : a.eval (.tmp 68) = .slice (some ⟨bu, 0, none⟩) (l.length + 1) cu := haft ⟨19, .data⟩ (by simp) rfl _ _ rfl rfl
        have f21 : a.eval (.tmp 70) = .int .i64 q := haft ⟨21, .data⟩ (by simp) rfl _ _ rfl rfl
        exact b_same hi hI (guard_ok rfl rfl rfl fg) _ (run_indexAddr_op rfl f19 f21 (idx_at bu q l.length cu hq1 _)) rfl
      · intro a W hI hun haft hi
        have fg : a.eval (.tmp 64) = .bool false := haft ⟨15, .guard⟩ (by simp) rfl _ _ rfl rfl
        have f22 : a.eval (.tmp 71) = .pointer (some ⟨bu, q, none⟩) := haft ⟨22, .data⟩ (by simp) rfl _ _ rfl rfl
        exact b_same hi hI (guard_ok rfl rfl rfl fg) _ (run_loadint_op rfl f22 Try.underlying3 ((Below.cell hI HBU.out).trans HCU.out)) rfl
      · intro a W hI hun haft hi
        have fg : a.eval (.tmp 64) = .bool false := haft ⟨15, .guard⟩ (by simp) rfl _ _ rfl rfl
        have f18 : a.eval (.tmp 67) = .int .i64 ((FQ).length : Int) := haft ⟨18, .data⟩ (by simp) rfl _ _ rfl rfl
        have f23 : a.eval (.tmp 72) = .int .i64 EQ := haft ⟨23, .data⟩ (by simp) rfl _ _ rfl rfl
        exact b_same hi hI (guard_ok rfl rfl rfl fg) (.bool false) (run_bin_op rfl f18 f23 (by go_simp) (run_nei (by rw [HLQ.out]; simp) _)) rfl
      · intro a W hI hun haft hi
        have f15 : a.eval (.tmp 64) = .bool false := haft ⟨15, .data⟩ (by simp) rfl _ _ rfl rfl
        have f24 : a.eval (.tmp 73) = .bool false := haft ⟨24, .data⟩ (by simp) rfl _ _ rfl rfl
        exact b_same hi hI rfl _ (run_pick_op (b := false) rfl f15 rfl f24) rfl
    · intro vals W hI hp
      have hl25 : vals 25 = .bool false := hp 25 (by decide)
      have HI := Lib.hid hI
      clear hp hI
      simp only [layN, List.size_toArray, List.length_cons, List.length_nil, List.range, List.range.loop, if_true, List.getElem?_toArray, List.getElem?_cons_zero, List.getElem?_cons_succ, Act.put, List.setIfInBounds_toArray, List.set_cons_zero, List.set_cons_succ, Nat.zero_add, Nat.reduceAdd, hl25]
      clear hl25
      have D6 := Lib.hid (D5.out.below HI.out)
      have G6 := Lib.hid (G5.out.below HI.out)
      have L6 := Lib.hid (L5.out.below HI.out)
      clear HI D5 G5 L5 O5 HCU HBU HLQ hnq2 hql2
      generalize W = w6 at *
      obtain ⟨A', c', hv, _, hxg⟩ := G6.out.at_
      rw [HQT.out] at hv
      injection hv with e1 e2 e3
      subst e1 e3
      obtain ⟨A', c', hv, _, hxl⟩ := L6.out.at_
      injection hv with e1 e2 e3
      subst e1 e3
      have HXG := Lib.hid hxg
      have HXL := Lib.hid hxl
      clear hxg hxl G6 L6 e2
      go_wp2_with fail
      go_loopw [77] (fun i wr => ∃ k : Nat, k ≤ q ∧ i = .int .i64 k ∧ Below w6.heap.size w6 wr) (fun i _ => q - (intOf i).toNat)
      case atStart => exact ⟨0, Nat.zero_le _, rfl, Below.refl _ _⟩
      case round =>
        obtain ⟨k, hk, rfl, hbw⟩ := hrel
        have HBW := Lib.hid hbw
        by_cases hlt : k < q
        · obtain ⟨b1, o1, rfl, hbl1, B1, n1, d1, hr1, hs1, -⟩ := HXG.out k (by rw [HQT.out]; exact hlt)
          obtain ⟨b2, o2, rfl, hbl2, B2, n2, d2, hr2, hs2, -⟩ := HXL.out k (by omega)
          simp only [List.getElem_take] at hr1 hs1
          obtain ⟨kk, dd, hkd⟩ : ∃ kk dd, l[k]'(by omega) = (kk, dd) := ⟨_, _, rfl⟩
          rw [hkd] at hr1 hs1 hr2 hs2
          simp only at hr1 hs1 hr2 hs2
          have hbA : Below w6.heap.size w6 (wr.alloc (.cells #[bv kk, .slice B1 n1 d1] 37)) := hbw.alloc hbw.size _
          have hNB := Blk.new wr 37 #[bv kk, .slice B1 n1 d1]
          have k10 := (hbw.cell (p := ⟨b1, o1 + k * 2 + 0, none⟩) hbl1).trans (hr1 0 _ rfl)
          have k11 := (hbw.cell (p := ⟨b1, o1 + k * 2 + 1, none⟩) hbl1).trans (hr1 1 _ rfl)
          have k20 := (hbA.cell (p := ⟨b2, o2 + k * 2 + 0, none⟩) hbl2).trans (hr2 0 _ rfl)
          have k21 := (hbA.cell (p := ⟨b2, o2 + k * 2 + 1, none⟩) hbl2).trans (hr2 1 _ rfl)
          rw [Nat.add_zero] at k10 k20
          have q1 := fun m => bytes_str ((wr.alloc (.cells #[bv kk, .slice B1 n1 d1] 37)).drewN m) _ _ ((hs1.below hbA).drewN m)
          have q2 := fun m => bytes_str ((wr.alloc (.cells #[bv kk, .slice B1 n1 d1] 37)).drewN m) _ _ ((hs2.below hbA).drewN m)
          have HLT := Lib.hid hlt
          obtain ⟨X, hX⟩ : ∃ X : ByteArray, X = ⟨dd.toArray⟩ := ⟨_, rfl⟩
          rw [← hX] at q1 q2
          clear hX hr1 hr2 hs1 hs2 hbw hkd
          unfold bv at k10 k20 k21 hbA hNB q1 q2
          generalize kk.toNat = x at *
          have HBA := Lib.hid hbA
          have HNB := Lib.hid hNB
          have Q1 := Lib.hid q1
          have Q2 := Lib.hid q2
          have K20 := Lib.hid k20
          have K21 := Lib.hid k21
          clear hbA hNB q1 q2 k20 k21
          go_upto_region 14 with fail
          generalize wr.alloc (.cells #[.int .u8 (x : Int), .slice B1 n1 d1] 37) = W7 at *
          generalize wr.heap.size = gk at *
          have e0 := HNB.out.cell 0
          have e1 := HNB.out.cell 1
          simp at e0 e1
          have q1 := Q1.out
          have q2 := Q2.out
          have k20 := K20.out
          have k21 := K21.out
          have hkl : k < l.length := by omega
          have hkl2 : (k : Int) < (l.length : Int) := by omega
          have n3 : ((x : Int) == (x : Int)) = true := beq_self_eq_true _
          have n4 : ((x : Int) != (x : Int)) = false := by rw [bne, n3]; rfl
          have n5 : (X.toList != X.toList) = false := by simp
          go_quiet (fail)
          go_wp2
          go_roundw
          case rel => exact ⟨k + 1, HLT.out, by go_num, below_drewN' HBA.out _⟩
          case measure => have := HLT.out; simp [intOf]; omega
        · have hkk : k = q := by omega
          subst hkk
          go_wp2
          go_ret
          exact ⟨rfl, D6.out.base.trans (HBW.out.mono D6.out.size)⟩
  · have hfew' : fewJ l = false := by simpa using hfew
    rw [hfew']
    go_wp2
    go_ret
    exact ⟨rfl, HB2.out⟩

end Go.Proofs.Ytkdfedcmhcchiaa
