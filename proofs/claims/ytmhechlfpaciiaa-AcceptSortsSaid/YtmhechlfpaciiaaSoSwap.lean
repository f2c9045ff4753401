/-
  slices.swapRangeCmpFunc, rotateCmpFunc at events: the contracts, by walks (written by genso.py). Conditions: lengths.
-/
import Derived.Test.YtmhechlfpaciiaaSoE
namespace Go.Proofs.Ytmhechlfpaciiaa
open Go.RowKit Go.MapKept Go.Sort

set_option maxRecDepth 100000 in
set_option maxHeartbeats 4000000 in
theorem swapRange_any (a b n N B g cap : Nat) (d0 : Array Ev) (fv : Value) (w : World) (h : OwnK encE B 39 27 w (.slice (some ⟨g, 0, none⟩) N cap) d0.toList) (hN : d0.size = N) (hN2 : N ≤ 100000) (hab : a + n ≤ b) (hb : b + n ≤ N) :
    Calls Try.prog 145 #[.slice (some ⟨g, 0, none⟩) N cap, .int .i64 (a : Nat), .int .i64 (b : Nat), .int .i64 (n : Nat), fv] w fun e w' => e = .returned (.tuple #[]) ∧ ∃ d, RowE w B g cap N d w' ∧ So.SwapR a b n d0 d := by
  have H := Lib.hid (RowE.of h hN)
  have HN := Lib.hid hN
  have HOm0 := Lib.hid (show N ≤ 100000 ∧ a + n ≤ b ∧ b + n ≤ N from ⟨hN2, hab, hb⟩)
  clear h hN hN2 hab hb
  go_enter Try.func145, Try.ntmps145
  go_wp2_with fail
  go_loopw [10] (fun v10 wr => ∃ (i : Nat) (d : Array Ev), v10 = .int .i64 (i : Nat) ∧ i ≤ n ∧ RowE w B g cap N d wr ∧ So.SwapR a b i d0 d) (fun v10 _ => n - (intOf v10).toNat)
  case atStart => exact ⟨0, d0, rfl, Nat.zero_le _, H.out, So.SwapR.start _ _ _⟩
  case round =>
    obtain ⟨i, d, rfl, hi, hrow, hsw⟩ := hrel
    have HT := Lib.hid hrow
    have HSw := Lib.hid hsw
    clear hrow hsw
    by_cases hlt : i < n
    case neg =>
      have hin : n = i := by omega
      subst hin
      clear hi hlt
      go_wp2
      go_end0
      exact ⟨rfl, d, HT.out, HSw.out⟩
    have HOm := Lib.hid (show N ≤ 100000 ∧ a + n ≤ b ∧ b + n ≤ N ∧ i < n from ⟨HOm0.out.1, HOm0.out.2.1, HOm0.out.2.2, hlt⟩)
    have HK1 := Lib.hid (show a + i < N by have := HOm.out; omega)
    have HK2 := Lib.hid (show b + i < N by have := HOm.out; omega)
    obtain ⟨x, hx⟩ : ∃ x, d[a + i]! = x := ⟨_, rfl⟩
    obtain ⟨y, hy⟩ : ∃ y, d[b + i]! = y := ⟨_, rfl⟩
    have HXY := Lib.hid (And.intro hx hy)
    clear hx hy hi
    go_upto_region 3 with fail
    clear hlt
    refine wp_region_any (by kernel_rfl) ?_
    refine wpAny_swap (fun iq uq => uq = ([(.slice (some ⟨g, 0, none⟩) N cap : Value), .int .i64 ((a : Nat) : Int), .int .i64 ((i : Nat) : Int), .int .i64 ((a + i : Nat) : Int), .slice (some ⟨g, 0, none⟩) N cap, .int .i64 ((b : Nat) : Int), .int .i64 ((i : Nat) : Int), .int .i64 ((b + i : Nat) : Int), .slice (some ⟨g, 0, none⟩) N cap, .int .i64 ((b : Nat) : Int), .int .i64 ((i : Nat) : Int), .int .i64 ((b + i : Nat) : Int), .pointer (some ⟨g, (b + i) * 27, none⟩), evV y, .slice (some ⟨g, 0, none⟩) N cap, .int .i64 ((a : Nat) : Int), .int .i64 ((i : Nat) : Int), .int .i64 ((a + i : Nat) : Int), .pointer (some ⟨g, (a + i) * 27, none⟩), evV x, .pointer (some ⟨g, (a + i) * 27, none⟩), undef, .pointer (some ⟨g, (b + i) * 27, none⟩), undef] : List Value).getD iq undef) _ wr 21 23 _ _ (RowE w B g cap N d) (RowE w B g cap N (d.setIfInBounds (a + i) y)) (RowE w B g cap N (Go.Sort.swp d (a + i) (b + i))) (by kernel_rfl) (by decide) rfl rfl rfl rfl (by kernel_rfl) (by kernel_rfl) (by kernel_rfl) (by kernel_rfl) (HT.out.below (Below.refl _ _).drew) ?_ ?_ ?_ ?_
    · refine ⟨?_, ?_, ?_, ?_, ?_, ?_, ?_, ?_, ?_, ?_, ?_, ?_, ?_, ?_, ?_, ?_, ?_, ?_, ?_, ?_, ?_, ?_, ?_, ?_, trivial⟩
      · intro _ _ ac W hun haft hO hi
        have e0 : ac.eval (.tmp 0) = .slice (some ⟨g, 0, none⟩) N cap := hun 0 (by kernel_rfl)
        exact wpOp_val hi rfl (.slice (some ⟨g, 0, none⟩) N cap) _ (run_move_op rfl e0) ⟨_, rfl, rfl, rfl⟩
      · intro _ _ ac W hun haft hO hi
        have e1 : ac.eval (.tmp 1) = .int .i64 ((a : Nat) : Int) := hun 1 (by kernel_rfl)
        exact wpOp_val hi rfl (.int .i64 ((a : Nat) : Int)) _ (run_move_op rfl e1) ⟨_, rfl, rfl, rfl⟩
      · intro _ _ ac W hun haft hO hi
        have e10 : ac.eval (.tmp 10) = .int .i64 ((i : Nat) : Int) := hun 10 (by kernel_rfl)
        exact wpOp_val hi rfl (.int .i64 ((i : Nat) : Int)) _ (run_move_op rfl e10) ⟨_, rfl, rfl, rfl⟩
      · intro _ _ ac W hun haft hO hi
        have f1 : ac.eval (.tmp 17) = .int .i64 ((a : Nat) : Int) := haft ⟨1, .data⟩ (by simp) rfl _ _ rfl rfl
        have f2 : ac.eval (.tmp 18) = .int .i64 ((i : Nat) : Int) := haft ⟨2, .data⟩ (by simp) rfl _ _ rfl rfl
        exact wpOp_val hi rfl (.int .i64 ((a + i : Nat) : Int)) _ (run_bin_op rfl f1 f2 (guardI _ _ _ _ _ _ _) (add_n (a) (i) (by have := HOm.out; omega) W)) ⟨_, rfl, rfl, rfl⟩
      · intro _ _ ac W hun haft hO hi
        have e0 : ac.eval (.tmp 0) = .slice (some ⟨g, 0, none⟩) N cap := hun 0 (by kernel_rfl)
        exact wpOp_val hi rfl (.slice (some ⟨g, 0, none⟩) N cap) _ (run_move_op rfl e0) ⟨_, rfl, rfl, rfl⟩
      · intro _ _ ac W hun haft hO hi
        have e2 : ac.eval (.tmp 2) = .int .i64 ((b : Nat) : Int) := hun 2 (by kernel_rfl)
        exact wpOp_val hi rfl (.int .i64 ((b : Nat) : Int)) _ (run_move_op rfl e2) ⟨_, rfl, rfl, rfl⟩
      · intro _ _ ac W hun haft hO hi
        have e10 : ac.eval (.tmp 10) = .int .i64 ((i : Nat) : Int) := hun 10 (by kernel_rfl)
        exact wpOp_val hi rfl (.int .i64 ((i : Nat) : Int)) _ (run_move_op rfl e10) ⟨_, rfl, rfl, rfl⟩
      · intro _ _ ac W hun haft hO hi
        have f5 : ac.eval (.tmp 21) = .int .i64 ((b : Nat) : Int) := haft ⟨5, .data⟩ (by simp) rfl _ _ rfl rfl
        have f6 : ac.eval (.tmp 22) = .int .i64 ((i : Nat) : Int) := haft ⟨6, .data⟩ (by simp) rfl _ _ rfl rfl
        exact wpOp_val hi rfl (.int .i64 ((b + i : Nat) : Int)) _ (run_bin_op rfl f5 f6 (guardI _ _ _ _ _ _ _) (add_n (b) (i) (by have := HOm.out; omega) W)) ⟨_, rfl, rfl, rfl⟩
      · intro _ _ ac W hun haft hO hi
        have e0 : ac.eval (.tmp 0) = .slice (some ⟨g, 0, none⟩) N cap := hun 0 (by kernel_rfl)
        exact wpOp_val hi rfl (.slice (some ⟨g, 0, none⟩) N cap) _ (run_move_op rfl e0) ⟨_, rfl, rfl, rfl⟩
      · intro _ _ ac W hun haft hO hi
        have e2 : ac.eval (.tmp 2) = .int .i64 ((b : Nat) : Int) := hun 2 (by kernel_rfl)
        exact wpOp_val hi rfl (.int .i64 ((b : Nat) : Int)) _ (run_move_op rfl e2) ⟨_, rfl, rfl, rfl⟩
      · intro _ _ ac W hun haft hO hi
        have e10 : ac.eval (.tmp 10) = .int .i64 ((i : Nat) : Int) := hun 10 (by kernel_rfl)
        exact wpOp_val hi rfl (.int .i64 ((i : Nat) : Int)) _ (run_move_op rfl e10) ⟨_, rfl, rfl, rfl⟩
      · intro _ _ ac W hun haft hO hi
        have f9 : ac.eval (.tmp 25) = .int .i64 ((b : Nat) : Int) := haft ⟨9, .data⟩ (by simp) rfl _ _ rfl rfl
        have f10 : ac.eval (.tmp 26) = .int .i64 ((i : Nat) : Int) := haft ⟨10, .data⟩ (by simp) rfl _ _ rfl rfl
        exact wpOp_val hi rfl (.int .i64 ((b + i : Nat) : Int)) _ (run_bin_op rfl f9 f10 (guardI _ _ _ _ _ _ _) (add_n (b) (i) (by have := HOm.out; omega) W)) ⟨_, rfl, rfl, rfl⟩
      · intro _ _ ac W hun haft hO hi
        have f8 : ac.eval (.tmp 24) = .slice (some ⟨g, 0, none⟩) N cap := haft ⟨8, .data⟩ (by simp) rfl _ _ rfl rfl
        have f11 : ac.eval (.tmp 27) = .int .i64 ((b + i : Nat) : Int) := haft ⟨11, .data⟩ (by simp) rfl _ _ rfl rfl
        exact wpOp_val hi rfl (.pointer (some ⟨g, (b + i) * 27, none⟩)) _ (run_indexAddr_op rfl f8 f11 (at_EN g cap N (b + i) (by have := HOm.out; omega) W)) ⟨_, rfl, rfl, rfl⟩
      · intro _ _ ac W hun haft hO hi
        have f12 : ac.eval (.tmp 28) = .pointer (some ⟨g, (b + i) * 27, none⟩) := haft ⟨12, .data⟩ (by simp) rfl _ _ rfl rfl
        exact wpOp_val hi rfl (evV y) _ (run_loadmid_op rfl f12 (HXY.out.2 ▸ (hO (by kernel_rfl)).range (b + i) HK2.out) Try.underlying39 rfl (sizeE y)) ⟨_, rfl, rfl, rfl⟩
      · intro _ _ ac W hun haft hO hi
        have e0 : ac.eval (.tmp 0) = .slice (some ⟨g, 0, none⟩) N cap := hun 0 (by kernel_rfl)
        exact wpOp_val hi rfl (.slice (some ⟨g, 0, none⟩) N cap) _ (run_move_op rfl e0) ⟨_, rfl, rfl, rfl⟩
      · intro _ _ ac W hun haft hO hi
        have e1 : ac.eval (.tmp 1) = .int .i64 ((a : Nat) : Int) := hun 1 (by kernel_rfl)
        exact wpOp_val hi rfl (.int .i64 ((a : Nat) : Int)) _ (run_move_op rfl e1) ⟨_, rfl, rfl, rfl⟩
      · intro _ _ ac W hun haft hO hi
        have e10 : ac.eval (.tmp 10) = .int .i64 ((i : Nat) : Int) := hun 10 (by kernel_rfl)
        exact wpOp_val hi rfl (.int .i64 ((i : Nat) : Int)) _ (run_move_op rfl e10) ⟨_, rfl, rfl, rfl⟩
      · intro _ _ ac W hun haft hO hi
        have f15 : ac.eval (.tmp 31) = .int .i64 ((a : Nat) : Int) := haft ⟨15, .data⟩ (by simp) rfl _ _ rfl rfl
        have f16 : ac.eval (.tmp 32) = .int .i64 ((i : Nat) : Int) := haft ⟨16, .data⟩ (by simp) rfl _ _ rfl rfl
        exact wpOp_val hi rfl (.int .i64 ((a + i : Nat) : Int)) _ (run_bin_op rfl f15 f16 (guardI _ _ _ _ _ _ _) (add_n (a) (i) (by have := HOm.out; omega) W)) ⟨_, rfl, rfl, rfl⟩
      · intro _ _ ac W hun haft hO hi
        have f14 : ac.eval (.tmp 30) = .slice (some ⟨g, 0, none⟩) N cap := haft ⟨14, .data⟩ (by simp) rfl _ _ rfl rfl
        have f17 : ac.eval (.tmp 33) = .int .i64 ((a + i : Nat) : Int) := haft ⟨17, .data⟩ (by simp) rfl _ _ rfl rfl
        exact wpOp_val hi rfl (.pointer (some ⟨g, (a + i) * 27, none⟩)) _ (run_indexAddr_op rfl f14 f17 (at_EN g cap N (a + i) (by have := HOm.out; omega) W)) ⟨_, rfl, rfl, rfl⟩
      · intro _ _ ac W hun haft hO hi
        have f18 : ac.eval (.tmp 34) = .pointer (some ⟨g, (a + i) * 27, none⟩) := haft ⟨18, .data⟩ (by simp) rfl _ _ rfl rfl
        exact wpOp_val hi rfl (evV x) _ (run_loadmid_op rfl f18 (HXY.out.1 ▸ (hO (by kernel_rfl)).range (a + i) HK1.out) Try.underlying39 rfl (sizeE x)) ⟨_, rfl, rfl, rfl⟩
      · intro _ _ ac W hun haft hO hi
        have f0 : ac.eval (.tmp 16) = .slice (some ⟨g, 0, none⟩) N cap := haft ⟨0, .data⟩ (by simp) rfl _ _ rfl rfl
        have f3 : ac.eval (.tmp 19) = .int .i64 ((a + i : Nat) : Int) := haft ⟨3, .data⟩ (by simp) rfl _ _ rfl rfl
        exact wpOp_val hi rfl (.pointer (some ⟨g, (a + i) * 27, none⟩)) _ (run_indexAddr_op rfl f0 f3 (at_EN g cap N (a + i) (by have := HOm.out; omega) W)) ⟨_, rfl, rfl, rfl⟩
      · intro h1 h2; exact absurd rfl h1
      · intro _ _ ac W hun haft hO hi
        have f4 : ac.eval (.tmp 20) = .slice (some ⟨g, 0, none⟩) N cap := haft ⟨4, .data⟩ (by simp) rfl _ _ rfl rfl
        have f7 : ac.eval (.tmp 23) = .int .i64 ((b + i : Nat) : Int) := haft ⟨7, .data⟩ (by simp) rfl _ _ rfl rfl
        exact wpOp_val hi rfl (.pointer (some ⟨g, (b + i) * 27, none⟩)) _ (run_indexAddr_op rfl f4 f7 (at_EN g cap N (b + i) (by have := HOm.out; omega) W)) ⟨_, rfl, rfl, rfl⟩
      · intro h1 h2; exact absurd rfl h2
    · intro ac W hO haft
      have f20 : ac.eval (.tmp 36) = .pointer (some ⟨g, (a + i) * 27, none⟩) := haft ⟨20, .data⟩ (by simp) rfl _ _ rfl rfl
      have f13 : ac.eval (.tmp 29) = evV y := haft ⟨13, .data⟩ (by simp) rfl _ _ rfl rfl
      obtain ⟨q1, q2⟩ := hO.set (a + i) HK1.out y
      exact l_skip rfl rfl _ (run_storemid_op rfl f20 f13 q1 (sizeE y) (evC_one y)) ⟨rfl, q2⟩
    · intro ac W hO haft
      have f22 : ac.eval (.tmp 37) = .pointer (some ⟨g, (b + i) * 27, none⟩) := haft ⟨22, .data⟩ (by simp) rfl _ _ rfl rfl
      have f19 : ac.eval (.tmp 35) = evV x := haft ⟨19, .data⟩ (by simp) rfl _ _ rfl rfl
      obtain ⟨q1, q2⟩ := hO.set (b + i) HK2.out x
      exact l_skip rfl rfl _ (run_storemid_op rfl f22 f19 q1 (sizeE x) (evC_one x)) ⟨rfl, (by have e := HXY.out; exact (by rw [← e.1, ← e.2]; rfl : Go.Sort.swp d (a + i) (b + i) = (d.setIfInBounds (a + i) y).setIfInBounds (b + i) x)) ▸ q2⟩
    · intro vals W hF hp
      have HF := Lib.hid hF
      clear hp hF
      simp only [layN, List.size_toArray, List.length_cons, List.length_nil, List.range, List.range.loop, if_true, List.getElem?_toArray, List.getElem?_cons_zero, List.getElem?_cons_succ, Act.put, List.setIfInBounds_toArray, List.set_cons_zero, List.set_cons_succ, Nat.zero_add, Nat.reduceAdd]
      have HStep := Lib.hid (HSw.out.step (by have := HOm.out; omega) (by have := HOm.out; have := HN.out; omega))
      have hw := IntWalk.i64_in ((i : Int) + 1) (by have := HOm.out; omega)
      have hjm : ¬ 9223372036854775807 < i + 1 := by have := HOm.out; omega
      have hlt : i < n := HOm.out.2.2.2
      go_wp2
      go_roundw
      case rel => exact ⟨i + 1, _, by go_num, hlt, HF.out, HStep.out⟩
      case measure => simp [intOf] <;> omega

set_option maxRecDepth 100000 in
set_option maxHeartbeats 4000000 in
theorem rotate_any (a m b N B g cap : Nat) (d0 : Array Ev) (fv : Value) (w : World) (h : OwnK encE B 39 27 w (.slice (some ⟨g, 0, none⟩) N cap) d0.toList) (hN : d0.size = N) (hN2 : N ≤ 100000) (ham : a < m) (hmb : m < b) (hb : b ≤ N) :
    Calls Try.prog 132 #[.slice (some ⟨g, 0, none⟩) N cap, .int .i64 (a : Nat), .int .i64 (m : Nat), .int .i64 (b : Nat), fv] w fun e w' => e = .returned (.tuple #[]) ∧ ∃ d, RowE w B g cap N d w' ∧ So.RotD a m b d0 d := by
  have H := Lib.hid (RowE.of h hN)
  have HN := Lib.hid hN
  have HOm := Lib.hid (show N ≤ 100000 ∧ a < m ∧ m < b ∧ b ≤ N from ⟨hN2, ham, hmb, hb⟩)
  clear h hN hN2 ham hmb hb
  go_enter Try.func132, Try.ntmps132
  go_wp2_with (first
    | (refine wpList_val (o := ⟨some 14, _, _, _, _, _⟩) rfl (.int .i64 ((m - a : Nat) : Int)) _ (run_bin_op rfl rfl rfl (guardI _ _ _ _ _ _ _) (sub_n m a (by have := HOm.out; omega) (by have := HOm.out; omega) _)) ?_)
    | (refine wpList_val (o := ⟨some 17, _, _, _, _, _⟩) rfl (.int .i64 ((b - m : Nat) : Int)) _ (run_bin_op rfl rfl rfl (guardI _ _ _ _ _ _ _) (sub_n b m (by have := HOm.out; omega) (by have := HOm.out; omega) _)) ?_)
    | fail)
  go_loopw [10, 11] (fun v10 v11 wr => ∃ (i j : Nat) (d : Array Ev), v10 = .int .i64 (i : Nat) ∧ v11 = .int .i64 (j : Nat) ∧ RowE w B g cap N d wr ∧ So.Turning a m b i j d0 d) (fun v10 v11 _ => (intOf v10).toNat + (intOf v11).toNat)
  case atStart => exact ⟨m - a, b - m, d0, rfl, rfl, H.out, So.Turning.start d0 HOm.out.2.1 HOm.out.2.2.1⟩
  case round =>
    obtain ⟨i, j, d, rfl, rfl, hrow, htu⟩ := hrel
    obtain ⟨wo, rfl⟩ : ∃ wo, wo = wr := ⟨_, rfl⟩
    have HT := Lib.hid hrow
    have HTu := Lib.hid htu
    have HO2 := Lib.hid (show N ≤ 100000 ∧ a + i ≤ m ∧ m + j ≤ b ∧ b ≤ N ∧ 0 < i ∧ 0 < j from ⟨HOm.out.1, htu.lo, htu.hi, HOm.out.2.2.2, htu.ini, htu.inj⟩)
    clear hrow htu
    by_cases hij : i = j
    · subst hij
      have hne : (((i : Nat) : Int) != ((i : Nat) : Int)) = false := by simp
      go_wp2_with (first
        | (refine wpList_val (o := ⟨some 53, _, _, _, _, _⟩) rfl (.int .i64 ((m - i : Nat) : Int)) _ (run_bin_op rfl rfl rfl (guardI _ _ _ _ _ _ _) (sub_n m i (by have := HO2.out; omega) (by have := HO2.out; omega) _)) ?_)
        | fail)
      refine (swapRange_any (m - i) m i N B g cap d _ wo HT.out.1 HT.out.2.1 HO2.out.1 (by have := HO2.out; omega) (by have := HO2.out; omega)).mono ?_
      rintro e w2 ⟨rfl, d2, hr2, hs2⟩
      have HR2 := Lib.hid (HT.out.then hr2)
      have HEnd := Lib.hid (HTu.out.end_ hs2 (by rw [HN.out]; exact HOm.out.2.2.2))
      clear hr2 hs2 hne
      go_wp2
      go_end0
      exact ⟨rfl, d2, HR2.out, HEnd.out⟩
    · have hne : (((i : Nat) : Int) != ((j : Nat) : Int)) = true := by simp; omega
      by_cases hlt : j < i
      · have hd : decide (((j : Nat) : Int) < ((i : Nat) : Int)) = true := decide_eq_true (by omega)
        have HLt := Lib.hid hlt
        clear hlt hij
        go_wp2_with (first
          | (refine wpList_val (o := ⟨some 27, _, _, _, _, _⟩) rfl (.int .i64 ((m - i : Nat) : Int)) _ (run_bin_op rfl rfl rfl (guardI _ _ _ _ _ _ _) (sub_n m i (by have := HO2.out; omega) (by have := HO2.out; omega) _)) ?_)
          | fail)
        refine (swapRange_any (m - i) m j N B g cap d _ wo HT.out.1 HT.out.2.1 HO2.out.1 (by have := HO2.out; have := HLt.out; omega) (by have := HO2.out; omega)).mono ?_
        rintro e w2 ⟨rfl, d2, hr2, hs2⟩
        have HR2 := Lib.hid (HT.out.then hr2)
        have HMore := Lib.hid (HTu.out.more HLt.out hs2 (by rw [HN.out]; exact HOm.out.2.2.2))
        clear hr2 hs2 hne hd
        go_wp2_with (first
          | (refine wpList_val (o := ⟨some 34, _, _, _, _, _⟩) rfl (.int .i64 ((i - j : Nat) : Int)) _ (run_bin_op rfl rfl rfl (guardI _ _ _ _ _ _ _) (sub_n i j (by have := HLt.out; omega) (by have := HO2.out; omega) _)) ?_)
          | fail)
        go_roundw
        case rel => exact ⟨i - j, j, d2, rfl, rfl, HR2.out, HMore.out⟩
        case measure => have := HLt.out; have := HO2.out; simp [intOf] <;> omega
      · have hd : decide (((j : Nat) : Int) < ((i : Nat) : Int)) = false := decide_eq_false (by omega)
        have HLt := Lib.hid (show i < j by omega)
        have hmj := IntWalk.i64_in ((m : Int) + j) (by have := HO2.out; omega)
        clear hij
        go_wp2_with (first
          | (refine wpList_val (o := ⟨some 38, _, _, _, _, _⟩) rfl (.int .i64 ((m - i : Nat) : Int)) _ (run_bin_op rfl rfl rfl (guardI _ _ _ _ _ _ _) (sub_n m i (by have := HO2.out; omega) (by have := HO2.out; omega) _)) ?_)
          | (refine wpList_val (o := ⟨some 41, _, _, _, _, _⟩) rfl (.int .i64 ((m + j : Nat) : Int)) _ (run_bin_op rfl rfl rfl (guardI _ _ _ _ _ _ _) (add_n m j (by have := HO2.out; omega) _)) ?_)
          | (refine wpList_val (o := ⟨some 43, _, _, _, _, _⟩) rfl (.int .i64 ((m + j - i : Nat) : Int)) _ (run_bin_op rfl rfl rfl (guardI _ _ _ _ _ _ _) (sub_n (m + j) i (by have := HO2.out; omega) (by have := HO2.out; omega) _)) ?_)
          | fail)
        refine (swapRange_any (m - i) (m + j - i) i N B g cap d _ wo HT.out.1 HT.out.2.1 HO2.out.1 (by have := HO2.out; have := HLt.out; omega) (by have := HO2.out; have := HLt.out; omega)).mono ?_
        rintro e w2 ⟨rfl, d2, hr2, hs2⟩
        have HR2 := Lib.hid (HT.out.then hr2)
        have HLess := Lib.hid (HTu.out.less HLt.out hs2 (by rw [HN.out]; exact HOm.out.2.2.2))
        clear hr2 hs2 hne hd hmj hlt
        go_wp2_with (first
          | (refine wpList_val (o := ⟨some 49, _, _, _, _, _⟩) rfl (.int .i64 ((j - i : Nat) : Int)) _ (run_bin_op rfl rfl rfl (guardI _ _ _ _ _ _ _) (sub_n j i (by have := HLt.out; omega) (by have := HO2.out; omega) _)) ?_)
          | fail)
        go_roundw
        case rel => exact ⟨i, j - i, d2, rfl, rfl, HR2.out, HLess.out⟩
        case measure => have := HLt.out; have := HO2.out; simp [intOf] <;> omega

end Go.Proofs.Ytmhechlfpaciiaa
