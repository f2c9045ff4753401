/-
  slices.symMergeCmpFunc at events, where the first row is of one element: the contract, by a walk (written by genso.py). Conditions: lengths.
-/
import Derived.Test.YtmhechlfpaciiaaSoSwap
import Derived.Test.YtmhechlfpaciiaaSoIns
namespace Go.Proofs.Ytmhechlfpaciiaa
open Go.RowKit Go.MapKept Go.Sort

theorem toU_n (k : Nat) (h : k ≤ 1000000) (w : World) : (convert 3 129 (.int .i64 ((k : Nat) : Int))).run Try.prog w = .ok (.int .u64 ((k : Nat) : Int)) w := by
  have hi := IntWalk.u64_in (k : Int) (by omega)
  go_simp
theorem shr_n (k : Nat) (h : k ≤ 1000000) (w : World) : (binOp .shr 129 (.int .u64 ((k : Nat) : Int)) (.int .u64 1)).run Try.prog w = .ok (.int .u64 ((k / 2 : Nat) : Int)) w := by
  have hi := IntWalk.u64_in ((k / 2 : Nat) : Int) (by omega)
  go_simp
theorem shr_h (k h : Nat) (e : k / 2 = h) (hk : k ≤ 1000000) (w : World) : (binOp .shr 129 (.int .u64 ((k : Nat) : Int)) (.int .u64 1)).run Try.prog w = .ok (.int .u64 ((h : Nat) : Int)) w := by
  subst e; exact shr_n k hk w
theorem ofU_n (k : Nat) (h : k ≤ 1000000) (w : World) : (convert 129 3 (.int .u64 ((k : Nat) : Int))).run Try.prog w = .ok (.int .i64 ((k : Nat) : Int)) w := by
  have hi := IntWalk.i64_in (k : Int) (by omega)
  go_simp
theorem guardU (x y : Operand) (a b : Int) (w : World) (t : TypeId) : (eqGuard .shr t x y (.int .u64 a) (.int .u64 b)).run Try.prog w = .ok () w := by
  unfold eqGuard; simp [Sem.run_pure]
theorem ltOf_is {x y : Ev} {l : Bool} (h : decide (cfP x y < 0) = l) : ltOf cfP x y = l := h
/-- What merging asks, and tells. -/
def Merges (B g cap N a m b : Nat) (d0 : Array Ev) (w : World) : Prop :=
  Calls Try.prog 101 #[.slice (some ⟨g, 0, none⟩) N cap, .int .i64 (a : Nat), .int .i64 (m : Nat), .int .i64 (b : Nat), .func (.func 64) #[] #[]] w fun e w' => e = .returned (.tuple #[]) ∧ ∃ d, RowE w B g cap N d w' ∧ PermIn a b d0 d ∧ SortedIn (ltOf cfP) a b d

set_option maxRecDepth 100000 in
set_option maxHeartbeats 8000000 in
theorem merge_one (a m b N B g cap : Nat) (d0 : Array Ev) (w : World) (h : OwnK encE B 39 27 w (.slice (some ⟨g, 0, none⟩) N cap) d0.toList) (hN : d0.size = N) (hN2 : N ≤ 100000) (ham : a < m) (hmb : m < b) (hb : b ≤ N) (hX : SortedIn (ltOf cfP) a m d0) (hY : SortedIn (ltOf cfP) m b d0) (h1 : m = a + 1) :
    Merges B g cap N a m b d0 w := by
  unfold Merges
  have H := Lib.hid (RowE.of h hN)
  have HN := Lib.hid hN
  have HO0 := Lib.hid (show N ≤ 100000 ∧ a < m ∧ m < b ∧ b ≤ N from ⟨hN2, ham, hmb, hb⟩)
  have HX := Lib.hid hX
  have HY := Lib.hid hY
  have H1 := Lib.hid h1
  have he : (((m : Nat) : Int) - ((a : Nat) : Int) == 1) = true := by rw [h1]; simp; omega
  clear h hN hN2 ham hmb hb hX hY h1
  go_enter Try.func101, Try.ntmps101
  have he2 : (((m - a : Nat) : Int) == 1) = true := by have := H1.out; subst this; simp
  go_wp2_with (first
      | (refine wpList_val (o := ⟨some 27, _, _, _, _, _⟩) rfl (.int .i64 ((m - a : Nat) : Int)) _ (run_bin_op rfl rfl rfl (guardI _ _ _ _ _ _ _) (sub_n (m) (a) (by have := HO0.out; omega) (by have := HO0.out; omega) _)) ?_)
      | fail)
  clear he he2
  go_loopw [10, 11] (fun v10 v11 wr => ∃ (i j : Nat), v10 = .int .i64 (i : Nat) ∧ v11 = .int .i64 (j : Nat) ∧ m ≤ i ∧ i ≤ j ∧ j ≤ b ∧ RowE w B g cap N d0 wr ∧ (∀ p, m ≤ p → p < i → ltOf cfP d0[p]! d0[a]! = true) ∧ ∀ p, j ≤ p → p < b → ltOf cfP d0[p]! d0[a]! = false) (fun v10 v11 _ => (intOf v11).toNat - (intOf v10).toNat)
  case atStart => exact ⟨m, b, rfl, rfl, Nat.le_refl _, by have := HO0.out; omega, Nat.le_refl _, H.out, fun p h1 h2 => by omega, fun p h1 h2 => by omega⟩
  case round =>
    obtain ⟨i, j, rfl, rfl, hi, hij, hjb, hrow, hlo, hhi⟩ := hrel
    obtain ⟨wo, rfl⟩ : ∃ wo, wo = wr := ⟨_, rfl⟩
    have HT := Lib.hid hrow
    have HLo := Lib.hid hlo
    have HHi := Lib.hid hhi
    clear hrow hlo hhi
    by_cases hlt : i < j
    case pos =>
      have hd : i < j := by omega
      obtain ⟨h, hh⟩ : ∃ h, (i + j) / 2 = h := ⟨_, rfl⟩
      have HH := Lib.hid hh
      clear hh
      have HOm1 := Lib.hid (show N ≤ 100000 ∧ a < m ∧ m < b ∧ b ≤ N ∧ m ≤ i ∧ i < j ∧ j ≤ b from ⟨HO0.out.1, HO0.out.2.1, HO0.out.2.2.1, HO0.out.2.2.2, hi, hlt, hjb⟩)
      clear hi hij hjb hlt
      go_upto_region 5 with (first
          | (refine wpList_val (o := ⟨some 36, _, _, _, _, _⟩) rfl (.int .i64 ((i + j : Nat) : Int)) _ (run_bin_op rfl rfl rfl (guardI _ _ _ _ _ _ _) (add_n (i) (j) (by have := HOm1.out; omega) _)) ?_)
          | (refine wpList_val (o := ⟨some 37, _, _, _, _, _⟩) rfl (.int .u64 ((i + j : Nat) : Int)) _ (run_convert_op rfl rfl (toU_n (i + j) (by have := HOm1.out; omega) _)) ?_)
          | (refine wpList_val (o := ⟨some 38, _, _, _, _, _⟩) rfl (.int .u64 ((h : Nat) : Int)) _ (run_bin_op rfl rfl rfl (guardU _ _ _ _ _ _) (shr_h (i + j) h HH.out (by have := HOm1.out; omega) _)) ?_)
          | (refine wpList_val (o := ⟨some 39, _, _, _, _, _⟩) rfl (.int .i64 ((h : Nat) : Int)) _ (run_convert_op rfl rfl (ofU_n h (by have := HH.out; have := HOm1.out; omega) _)) ?_)
          | fail)
      clear hd
      have HOm := Lib.hid (show N ≤ 100000 ∧ a < m ∧ m < b ∧ b ≤ N ∧ m ≤ i ∧ i ≤ h ∧ h < j ∧ j ≤ b from by have := HOm1.out; have := HH.out; omega)
      obtain ⟨x, hx⟩ : ∃ x, d0[h]! = x := ⟨_, rfl⟩
      obtain ⟨y, hy⟩ : ∃ y, d0[a]! = y := ⟨_, rfl⟩
      have HXY := Lib.hid (And.intro hx hy)
      obtain ⟨l10, hl10⟩ : ∃ q, decide (cfP x y < 0) = q := ⟨_, rfl⟩
      have HL := Lib.hid hl10
      clear hx hy hl10
      refine wp_region_any (by kernel_rfl) ?_
      refine wpAny_below (fun iq uq _ => uq = ([(.func (.func 64) #[] #[] : Value), .slice (some ⟨g, 0, none⟩) N cap, .int .i64 ((h : Nat) : Int), .pointer (some ⟨g, (h) * 27, none⟩), evV x, .slice (some ⟨g, 0, none⟩) N cap, .int .i64 ((a : Nat) : Int), .pointer (some ⟨g, (a) * 27, none⟩), evV y, .int .i64 (cfP x y), .bool l10] : List Value).getD iq undef) _ wo (by kernel_rfl) (by kernel_rfl) (by kernel_rfl) (fun i v w w' _ h => h) ?_ ?_
      · refine ⟨?_, ?_, ?_, ?_, ?_, ?_, ?_, ?_, ?_, ?_, ?_, trivial⟩
        · intro ac W hI hun haft hi
          have e4 : ac.eval (.tmp 4) = .func (.func 64) #[] #[] := hun 4 (by kernel_rfl)
          exact b_same hi hI rfl _ (run_move_op rfl e4) rfl
        · intro ac W hI hun haft hi
          have e0 : ac.eval (.tmp 0) = .slice (some ⟨g, 0, none⟩) N cap := hun 0 (by kernel_rfl)
          exact b_same hi hI rfl _ (run_move_op rfl e0) rfl
        · intro ac W hI hun haft hi
          have e12 : ac.eval (.tmp 12) = .int .i64 ((h : Nat) : Int) := hun 12 (by kernel_rfl)
          exact b_same hi hI rfl _ (run_move_op rfl e12) rfl
        · intro ac W hI hun haft hi
          have f1 : ac.eval (.tmp 41) = .slice (some ⟨g, 0, none⟩) N cap := haft ⟨1, .data⟩ (by simp) rfl _ _ rfl rfl
          have f2 : ac.eval (.tmp 42) = .int .i64 ((h : Nat) : Int) := haft ⟨2, .data⟩ (by simp) rfl _ _ rfl rfl
          exact b_same hi hI rfl _ (run_indexAddr_op rfl f1 f2 (at_EN g cap N (h) (by have := HOm.out; omega) W)) rfl
        · intro ac W hI hun haft hi
          have f3 : ac.eval (.tmp 43) = .pointer (some ⟨g, (h) * 27, none⟩) := haft ⟨3, .data⟩ (by simp) rfl _ _ rfl rfl
          exact b_same hi hI rfl _ (run_loadmid_op rfl f3 (HXY.out.1 ▸ (HT.out.below hI).range (h) (by have := HOm.out; omega)) Try.underlying39 rfl (sizeE x)) rfl
        · intro ac W hI hun haft hi
          have e0 : ac.eval (.tmp 0) = .slice (some ⟨g, 0, none⟩) N cap := hun 0 (by kernel_rfl)
          exact b_same hi hI rfl _ (run_move_op rfl e0) rfl
        · intro ac W hI hun haft hi
          have e1 : ac.eval (.tmp 1) = .int .i64 ((a : Nat) : Int) := hun 1 (by kernel_rfl)
          exact b_same hi hI rfl _ (run_move_op rfl e1) rfl
        · intro ac W hI hun haft hi
          have f5 : ac.eval (.tmp 45) = .slice (some ⟨g, 0, none⟩) N cap := haft ⟨5, .data⟩ (by simp) rfl _ _ rfl rfl
          have f6 : ac.eval (.tmp 46) = .int .i64 ((a : Nat) : Int) := haft ⟨6, .data⟩ (by simp) rfl _ _ rfl rfl
          exact b_same hi hI rfl _ (run_indexAddr_op rfl f5 f6 (at_EN g cap N (a) (by have := HOm.out; omega) W)) rfl
        · intro ac W hI hun haft hi
          have f7 : ac.eval (.tmp 47) = .pointer (some ⟨g, (a) * 27, none⟩) := haft ⟨7, .data⟩ (by simp) rfl _ _ rfl rfl
          exact b_same hi hI rfl _ (run_loadmid_op rfl f7 (HXY.out.2 ▸ (HT.out.below hI).range (a) (by have := HOm.out; omega)) Try.underlying39 rfl (sizeE y)) rfl
        · intro ac W hI hun haft hi
          have f0 : ac.eval (.tmp 40) = .func (.func 64) #[] #[] := haft ⟨0, .data⟩ (by simp) rfl _ _ rfl rfl
          have f4 : ac.eval (.tmp 44) = evV x := haft ⟨4, .data⟩ (by simp) rfl _ _ rfl rfl
          have f8 : ac.eval (.tmp 48) = evV y := haft ⟨8, .data⟩ (by simp) rfl _ _ rfl rfl
          refine b_call hi hI rfl _ _ (run_dyncall_op (args := #[evV x, evV y]) rfl f0 (by simp [f4, f8]) (by kernel_rfl)) ?_
          exact (byPast_any x y W).mono fun e w' H => ⟨_, H.1, rfl, H.2⟩
        · intro ac W hI hun haft hi
          have f9 : ac.eval (.tmp 49) = .int .i64 (cfP x y) := haft ⟨9, .data⟩ (by simp) rfl _ _ rfl rfl
          exact b_same hi hI rfl _ (run_bin_op rfl f9 rfl (guardI _ _ _ _ _ _ _) (lt_isS _ _ _ HL.out W)) rfl
      · intro vals W hI hp
        have hl10 : vals 10 = .bool l10 := hp 10 (by decide)
        have HT2 := Lib.hid (HT.out.below hI)
        clear hp hI
        simp only [layN, List.size_toArray, List.length_cons, List.length_nil, List.range, List.range.loop, if_true, List.getElem?_toArray, List.getElem?_cons_zero, List.getElem?_cons_succ, Act.put, List.setIfInBounds_toArray, List.set_cons_zero, List.set_cons_succ, Nat.zero_add, Nat.reduceAdd, hl10]
        clear hl10
        have HLt := Lib.hid (show ltOf cfP d0[h]! d0[a]! = l10 by have e := HXY.out; rw [e.1, e.2]; exact HL.out)
        cases l10
        case true =>
          go_wp2_with (first
              | (refine wpList_val (o := ⟨some 52, _, _, _, _, _⟩) rfl (.int .i64 ((h + 1 : Nat) : Int)) _ (run_bin_op rfl rfl rfl (guardI _ _ _ _ _ _ _) (add_n (h) (1) (by have := HOm.out; omega) _)) ?_)
              | fail)
          go_roundw
          case rel => exact ⟨h + 1, j, rfl, rfl, by have := HOm.out; omega, by have := HOm.out; omega, by have := HOm.out; omega, HT2.out, fun p h1 h2 => So.up_less cfP_ok.swo HY.out (by have := HOm.out; omega) HLt.out h1 (by omega), HHi.out⟩
          case measure => have := HOm.out; simp [intOf] <;> omega
        case false =>
          go_wp2_with fail
          go_roundw
          case rel => exact ⟨i, h, rfl, rfl, by have := HOm.out; omega, by have := HOm.out; omega, by have := HOm.out; omega, HT2.out, HLo.out, fun p h1 h2 => So.down_not cfP_ok.swo HY.out (by have := HOm.out; omega) HLt.out h1 h2⟩
          case measure => have := HOm.out; simp [intOf] <;> omega
    have hjj : j = i := by omega
    subst hjj
    have hd : ¬ j < j := by omega
    have HOi := Lib.hid (show N ≤ 100000 ∧ m = a + 1 ∧ m < b ∧ b ≤ N ∧ m ≤ j ∧ j ≤ b from ⟨HO0.out.1, H1.out, HO0.out.2.2.1, HO0.out.2.2.2, hi, hjb⟩)
    clear hi hij hjb hlt
    go_wp2_with fail
    clear hd
    go_loopw [13] (fun v13 wr => ∃ (k : Nat) (d : Array Ev), v13 = .int .i64 (k : Nat) ∧ k ≤ j - 1 ∧ RowE w B g cap N d wr ∧ So.GoesR a k b d0 d) (fun v13 _ => j - (intOf v13).toNat)
    case atStart => exact ⟨a, d0, rfl, by have := HOi.out; omega, HT.out, So.GoesR.start _ _ _⟩
    case round =>
      obtain ⟨k, d, rfl, hk, hrow, hgo⟩ := hrel
      obtain ⟨wi, rfl⟩ : ∃ wi, wi = wr := ⟨_, rfl⟩
      have HT5 := Lib.hid hrow
      have HGo := Lib.hid hgo
      clear hrow hgo
      by_cases hlt : k < j - 1
      case neg =>
        have hkj : k = j - 1 := by omega
        have HSo := Lib.hid (HGo.out.perm)
        have HSo2 := Lib.hid (So.GoesR.sorted cfP_ok.swo (a := a) (i := j) (b := b) (by have := HOi.out; omega) HOi.out.2.2.2.2.2 (by rw [← hkj]; exact HGo.out) (by rw [← HOi.out.2.1]; exact HY.out) (fun p h1 h2 => HLo.out p (by have := HOi.out; omega) h2) HHi.out)
        have hd : ¬ k < j - 1 := by omega
        clear hk hlt hkj
        go_wp2_with (first
            | (refine wpList_val (o := ⟨some 57, _, _, _, _, _⟩) rfl (.int .i64 ((j - 1 : Nat) : Int)) _ (run_bin_op rfl rfl rfl (guardI _ _ _ _ _ _ _) (sub_n (j) (1) (by have := HOi.out; omega) (by have := HOi.out; omega) _)) ?_)
            | fail)
        refine bodyPost_ret (results_none rfl _ _ _) rfl ?_
        exact ⟨rfl, d, HT5.out, HSo.out, HSo2.out⟩
      have hd : k < j - 1 := by omega
      have HOm := Lib.hid (show N ≤ 100000 ∧ k + 1 < j ∧ j ≤ b ∧ b ≤ N from ⟨HOi.out.1, by omega, HOi.out.2.2.2.2.2, HOi.out.2.2.2.1⟩)
      have HK1 := Lib.hid (show k < N by have := HOm.out; omega)
      have HK2 := Lib.hid (show k + 1 < N by have := HOm.out; omega)
      clear HT
      have HT := Lib.hid HT5.out
      have HStep := Lib.hid (HGo.out.step (by have := HOm.out; omega) (by rw [HN.out]; exact HOm.out.2.2.2))
      obtain ⟨x, hx⟩ : ∃ x, d[k]! = x := ⟨_, rfl⟩
      obtain ⟨y, hy⟩ : ∃ y, d[k + 1]! = y := ⟨_, rfl⟩
      have HXY := Lib.hid (And.intro hx hy)
      clear hx hy hk hlt
      go_upto_region 11 with (first
          | (refine wpList_val (o := ⟨some 57, _, _, _, _, _⟩) rfl (.int .i64 ((j - 1 : Nat) : Int)) _ (run_bin_op rfl rfl rfl (guardI _ _ _ _ _ _ _) (sub_n (j) (1) (by have := HOi.out; omega) (by have := HOi.out; omega) _)) ?_)
          | fail)
      clear hd
      refine wp_region_any (by kernel_rfl) ?_
      refine wpAny_swap (fun iq uq => uq = ([(.slice (some ⟨g, 0, none⟩) N cap : Value), .int .i64 ((k : Nat) : Int), .slice (some ⟨g, 0, none⟩) N cap, .int .i64 ((k : Nat) : Int), .int .i64 ((k + 1 : Nat) : Int), .slice (some ⟨g, 0, none⟩) N cap, .int .i64 ((k : Nat) : Int), .int .i64 ((k + 1 : Nat) : Int), .pointer (some ⟨g, (k + 1) * 27, none⟩), evV y, .slice (some ⟨g, 0, none⟩) N cap, .int .i64 ((k : Nat) : Int), .pointer (some ⟨g, (k) * 27, none⟩), evV x, .pointer (some ⟨g, (k) * 27, none⟩), undef, .pointer (some ⟨g, (k + 1) * 27, none⟩), undef] : List Value).getD iq undef) _ wi 15 17 _ _ (RowE w B g cap N d) (RowE w B g cap N (d.setIfInBounds (k) y)) (RowE w B g cap N (Go.Sort.swp d (k) (k + 1))) (by kernel_rfl) (by decide) rfl rfl rfl rfl (by kernel_rfl) (by kernel_rfl) (by kernel_rfl) (by kernel_rfl) (HT.out.below (Below.refl _ _).drew) ?_ ?_ ?_ ?_
      · refine ⟨?_, ?_, ?_, ?_, ?_, ?_, ?_, ?_, ?_, ?_, ?_, ?_, ?_, ?_, ?_, ?_, ?_, ?_, trivial⟩
        · intro _ _ ac W hun haft hO hi
          have e0 : ac.eval (.tmp 0) = .slice (some ⟨g, 0, none⟩) N cap := hun 0 (by kernel_rfl)
          exact wpOp_val hi rfl (.slice (some ⟨g, 0, none⟩) N cap) _ (run_move_op rfl e0) ⟨_, rfl, rfl, rfl⟩
        · intro _ _ ac W hun haft hO hi
          have e13 : ac.eval (.tmp 13) = .int .i64 ((k : Nat) : Int) := hun 13 (by kernel_rfl)
          exact wpOp_val hi rfl (.int .i64 ((k : Nat) : Int)) _ (run_move_op rfl e13) ⟨_, rfl, rfl, rfl⟩
        · intro _ _ ac W hun haft hO hi
          have e0 : ac.eval (.tmp 0) = .slice (some ⟨g, 0, none⟩) N cap := hun 0 (by kernel_rfl)
          exact wpOp_val hi rfl (.slice (some ⟨g, 0, none⟩) N cap) _ (run_move_op rfl e0) ⟨_, rfl, rfl, rfl⟩
        · intro _ _ ac W hun haft hO hi
          have e13 : ac.eval (.tmp 13) = .int .i64 ((k : Nat) : Int) := hun 13 (by kernel_rfl)
          exact wpOp_val hi rfl (.int .i64 ((k : Nat) : Int)) _ (run_move_op rfl e13) ⟨_, rfl, rfl, rfl⟩
        · intro _ _ ac W hun haft hO hi
          have f3 : ac.eval (.tmp 64) = .int .i64 ((k : Nat) : Int) := haft ⟨3, .data⟩ (by simp) rfl _ _ rfl rfl
          exact wpOp_val hi rfl (.int .i64 ((k + 1 : Nat) : Int)) _ (run_bin_op rfl f3 rfl (guardI _ _ _ _ _ _ _) (add_n (k) (1) (by have := HOm.out; omega) W)) ⟨_, rfl, rfl, rfl⟩
        · intro _ _ ac W hun haft hO hi
          have e0 : ac.eval (.tmp 0) = .slice (some ⟨g, 0, none⟩) N cap := hun 0 (by kernel_rfl)
          exact wpOp_val hi rfl (.slice (some ⟨g, 0, none⟩) N cap) _ (run_move_op rfl e0) ⟨_, rfl, rfl, rfl⟩
        · intro _ _ ac W hun haft hO hi
          have e13 : ac.eval (.tmp 13) = .int .i64 ((k : Nat) : Int) := hun 13 (by kernel_rfl)
          exact wpOp_val hi rfl (.int .i64 ((k : Nat) : Int)) _ (run_move_op rfl e13) ⟨_, rfl, rfl, rfl⟩
        · intro _ _ ac W hun haft hO hi
          have f6 : ac.eval (.tmp 67) = .int .i64 ((k : Nat) : Int) := haft ⟨6, .data⟩ (by simp) rfl _ _ rfl rfl
          exact wpOp_val hi rfl (.int .i64 ((k + 1 : Nat) : Int)) _ (run_bin_op rfl f6 rfl (guardI _ _ _ _ _ _ _) (add_n (k) (1) (by have := HOm.out; omega) W)) ⟨_, rfl, rfl, rfl⟩
        · intro _ _ ac W hun haft hO hi
          have f5 : ac.eval (.tmp 66) = .slice (some ⟨g, 0, none⟩) N cap := haft ⟨5, .data⟩ (by simp) rfl _ _ rfl rfl
          have f7 : ac.eval (.tmp 68) = .int .i64 ((k + 1 : Nat) : Int) := haft ⟨7, .data⟩ (by simp) rfl _ _ rfl rfl
          exact wpOp_val hi rfl (.pointer (some ⟨g, (k + 1) * 27, none⟩)) _ (run_indexAddr_op rfl f5 f7 (at_EN g cap N (k + 1) (by have := HOm.out; omega) W)) ⟨_, rfl, rfl, rfl⟩
        · intro _ _ ac W hun haft hO hi
          have f8 : ac.eval (.tmp 69) = .pointer (some ⟨g, (k + 1) * 27, none⟩) := haft ⟨8, .data⟩ (by simp) rfl _ _ rfl rfl
          exact wpOp_val hi rfl (evV y) _ (run_loadmid_op rfl f8 (HXY.out.2 ▸ (hO (by kernel_rfl)).range (k + 1) HK2.out) Try.underlying39 rfl (sizeE y)) ⟨_, rfl, rfl, rfl⟩
        · intro _ _ ac W hun haft hO hi
          have e0 : ac.eval (.tmp 0) = .slice (some ⟨g, 0, none⟩) N cap := hun 0 (by kernel_rfl)
          exact wpOp_val hi rfl (.slice (some ⟨g, 0, none⟩) N cap) _ (run_move_op rfl e0) ⟨_, rfl, rfl, rfl⟩
        · intro _ _ ac W hun haft hO hi
          have e13 : ac.eval (.tmp 13) = .int .i64 ((k : Nat) : Int) := hun 13 (by kernel_rfl)
          exact wpOp_val hi rfl (.int .i64 ((k : Nat) : Int)) _ (run_move_op rfl e13) ⟨_, rfl, rfl, rfl⟩
        · intro _ _ ac W hun haft hO hi
          have f10 : ac.eval (.tmp 71) = .slice (some ⟨g, 0, none⟩) N cap := haft ⟨10, .data⟩ (by simp) rfl _ _ rfl rfl
          have f11 : ac.eval (.tmp 72) = .int .i64 ((k : Nat) : Int) := haft ⟨11, .data⟩ (by simp) rfl _ _ rfl rfl
          exact wpOp_val hi rfl (.pointer (some ⟨g, (k) * 27, none⟩)) _ (run_indexAddr_op rfl f10 f11 (at_EN g cap N (k) (by have := HOm.out; omega) W)) ⟨_, rfl, rfl, rfl⟩
        · intro _ _ ac W hun haft hO hi
          have f12 : ac.eval (.tmp 73) = .pointer (some ⟨g, (k) * 27, none⟩) := haft ⟨12, .data⟩ (by simp) rfl _ _ rfl rfl
          exact wpOp_val hi rfl (evV x) _ (run_loadmid_op rfl f12 (HXY.out.1 ▸ (hO (by kernel_rfl)).range (k) HK1.out) Try.underlying39 rfl (sizeE x)) ⟨_, rfl, rfl, rfl⟩
        · intro _ _ ac W hun haft hO hi
          have f0 : ac.eval (.tmp 61) = .slice (some ⟨g, 0, none⟩) N cap := haft ⟨0, .data⟩ (by simp) rfl _ _ rfl rfl
          have f1 : ac.eval (.tmp 62) = .int .i64 ((k : Nat) : Int) := haft ⟨1, .data⟩ (by simp) rfl _ _ rfl rfl
          exact wpOp_val hi rfl (.pointer (some ⟨g, (k) * 27, none⟩)) _ (run_indexAddr_op rfl f0 f1 (at_EN g cap N (k) (by have := HOm.out; omega) W)) ⟨_, rfl, rfl, rfl⟩
        · intro h1 h2; exact absurd rfl h1
        · intro _ _ ac W hun haft hO hi
          have f2 : ac.eval (.tmp 63) = .slice (some ⟨g, 0, none⟩) N cap := haft ⟨2, .data⟩ (by simp) rfl _ _ rfl rfl
          have f4 : ac.eval (.tmp 65) = .int .i64 ((k + 1 : Nat) : Int) := haft ⟨4, .data⟩ (by simp) rfl _ _ rfl rfl
          exact wpOp_val hi rfl (.pointer (some ⟨g, (k + 1) * 27, none⟩)) _ (run_indexAddr_op rfl f2 f4 (at_EN g cap N (k + 1) (by have := HOm.out; omega) W)) ⟨_, rfl, rfl, rfl⟩
        · intro h1 h2; exact absurd rfl h2
      · intro ac W hO haft
        have f14 : ac.eval (.tmp 75) = .pointer (some ⟨g, (k) * 27, none⟩) := haft ⟨14, .data⟩ (by simp) rfl _ _ rfl rfl
        have f9 : ac.eval (.tmp 70) = evV y := haft ⟨9, .data⟩ (by simp) rfl _ _ rfl rfl
        obtain ⟨q1, q2⟩ := hO.set (k) HK1.out y
        exact l_skip rfl rfl _ (run_storemid_op rfl f14 f9 q1 (sizeE y) (evC_one y)) ⟨rfl, q2⟩
      · intro ac W hO haft
        have f16 : ac.eval (.tmp 76) = .pointer (some ⟨g, (k + 1) * 27, none⟩) := haft ⟨16, .data⟩ (by simp) rfl _ _ rfl rfl
        have f13 : ac.eval (.tmp 74) = evV x := haft ⟨13, .data⟩ (by simp) rfl _ _ rfl rfl
        obtain ⟨q1, q2⟩ := hO.set (k + 1) HK2.out x
        exact l_skip rfl rfl _ (run_storemid_op rfl f16 f13 q1 (sizeE x) (evC_one x)) ⟨rfl, (by have e := HXY.out; exact (by rw [← e.1, ← e.2]; rfl : Go.Sort.swp d (k) (k + 1) = (d.setIfInBounds (k) y).setIfInBounds (k + 1) x)) ▸ q2⟩
      · intro vals W hF hp
        have HF := Lib.hid hF
        clear hp hF
        simp only [layN, List.size_toArray, List.length_cons, List.length_nil, List.range, List.range.loop, if_true, List.getElem?_toArray, List.getElem?_cons_zero, List.getElem?_cons_succ, Act.put, List.setIfInBounds_toArray, List.set_cons_zero, List.set_cons_succ, Nat.zero_add, Nat.reduceAdd]
        go_wp2_with (first
            | (refine wpList_val (o := ⟨some 60, _, _, _, _, _⟩) rfl (.int .i64 ((k + 1 : Nat) : Int)) _ (run_bin_op rfl rfl rfl (guardI _ _ _ _ _ _ _) (add_n (k) (1) (by have := HOm.out; omega) _)) ?_)
            | fail)
        go_roundw
        case rel => exact ⟨k + 1, _, rfl, by have := HOm.out; omega, HF.out, HStep.out⟩
        case measure => have := HOm.out; simp [intOf] <;> omega

end Go.Proofs.Ytmhechlfpaciiaa
