/-
  slices.insertionSortCmpFunc at events, of any length: the contract, by a walk (written by genso.py). Conditions: lengths.
-/
import Derived.Test.YtmhechlfpaciiaaSoE
namespace Go.Proofs.Ytmhechlfpaciiaa
open Go.RowKit Go.MapKept Go.Sort

theorem cfP_ok : CmpOk cfP := by
  have := (ciOk.map fun x : Ev => sumN x.p 16).lex ((ciOk.map fun x : Ev => x.r).lex (ciOk.map fun x : Ev => x.c))
  have e : cfP = fun x y => if Lib.compareInt (sumN x.p 16) (sumN y.p 16) = 0 then if Lib.compareInt x.r y.r = 0 then Lib.compareInt x.c y.c else Lib.compareInt x.r y.r else Lib.compareInt (sumN x.p 16) (sumN y.p 16) := by
    funext x y
    unfold cfP
    rw [orI, orI, orI_one]
  rw [e]; exact this

set_option maxRecDepth 100000 in
set_option maxHeartbeats 4000000 in
theorem insertion_any (a b N B g cap : Nat) (d0 : Array Ev) (w : World) (h : OwnK encE B 39 27 w (.slice (some ⟨g, 0, none⟩) N cap) d0.toList) (hN : d0.size = N) (hN2 : N ≤ 100000) (hab : a ≤ b) (hb : b ≤ N) :
    Calls Try.prog 100 #[.slice (some ⟨g, 0, none⟩) N cap, .int .i64 (a : Nat), .int .i64 (b : Nat), .func (.func 64) #[] #[]] w fun e w' => e = .returned (.tuple #[]) ∧ ∃ d, RowE w B g cap N d w' ∧ PermIn a b d0 d ∧ SortedIn (ltOf cfP) a b d := by
  have H := Lib.hid (RowE.of h hN)
  have HN := Lib.hid hN
  have HO0 := Lib.hid (show N ≤ 100000 ∧ a ≤ b ∧ b ≤ N from ⟨hN2, hab, hb⟩)
  clear h hN hN2 hab hb
  go_enter Try.func100, Try.ntmps100
  go_wp2_with (first
    | (refine wpList_val (o := ⟨some 11, _, _, _, _, _⟩) rfl (.int .i64 ((a + 1 : Nat) : Int)) _ (run_bin_op rfl rfl rfl (guardI _ _ _ _ _ _ _) (add_n a 1 (by have := HO0.out; omega) _)) ?_)
    | fail)
  go_loopw [8] (fun v8 wr => ∃ (i : Nat) (d : Array Ev), v8 = .int .i64 (i : Nat) ∧ a + 1 ≤ i ∧ (i ≤ b ∨ i = a + 1) ∧ RowE w B g cap N d wr ∧ PermIn a b d0 d ∧ SortedIn (ltOf cfP) a i d) (fun v8 _ => b - (intOf v8).toNat)
  case atStart => exact ⟨a + 1, d0, rfl, Nat.le_refl _, .inr rfl, H.out, permIn_refl d0 a b, fun i j h1 h2 h3 => by omega⟩
  case round =>
    obtain ⟨i, d, rfl, hi, hi2, hrow, hpm, hso⟩ := hrel
    obtain ⟨wo, rfl⟩ : ∃ wo, wo = wr := ⟨_, rfl⟩
    have HT0 := Lib.hid hrow
    have HPm0 := Lib.hid hpm
    have HSo := Lib.hid hso
    clear hrow hpm hso
    by_cases hlt : i < b
    case neg =>
      have HS2 := Lib.hid (show SortedIn (ltOf cfP) a b d from fun p q h1 h2 h3 => HSo.out p q h1 h2 (by omega))
      clear hi hi2
      go_wp2
      go_end0
      exact ⟨rfl, d, HT0.out, HPm0.out, HS2.out⟩
    have HOi := Lib.hid (show N ≤ 100000 ∧ a + 1 ≤ i ∧ i < b ∧ b ≤ N from ⟨HO0.out.1, hi, hlt, HO0.out.2.2⟩)
    clear hi hi2
    go_wp2_with fail
    clear hlt
    go_loopw [9] (fun v9 wr => ∃ (k : Nat) (d : Array Ev), v9 = .int .i64 (k : Nat) ∧ a ≤ k ∧ k ≤ i ∧ RowE w B g cap N d wr ∧ PermIn a b d0 d ∧ Go.Sort.Ins (ltOf cfP) a k i d) (fun v9 _ => (intOf v9).toNat)
    case atStart => exact ⟨i, d, rfl, by have := HOi.out; omega, Nat.le_refl _, HT0.out, HPm0.out, ⟨fun p q h1 h2 h3 _ h5 => HSo.out p q h1 h2 (by omega), fun q h1 h2 => by omega⟩⟩
    case round =>
      obtain ⟨k, d, rfl, hk, hki, hrow, hpm, hins⟩ := hrel
      obtain ⟨wi, rfl⟩ : ∃ wi, wi = wr := ⟨_, rfl⟩
      have HT := Lib.hid hrow
      have HPm := Lib.hid hpm
      have HIns := Lib.hid hins
      have HOm := Lib.hid (show N ≤ 100000 ∧ a ≤ k ∧ k ≤ i ∧ i < b ∧ b ≤ N from ⟨HOi.out.1, hk, hki, HOi.out.2.2⟩)
      clear hrow hpm hins hk hki
      obtain ⟨x, hx⟩ : ∃ x, d[k]! = x := ⟨_, rfl⟩
      obtain ⟨y, hy⟩ : ∃ y, d[k - 1]! = y := ⟨_, rfl⟩
      have HXY := Lib.hid (And.intro hx hy)
      obtain ⟨q3, hq3⟩ : ∃ q, decide (((a : Nat) : Int) < ((k : Nat) : Int)) = q := ⟨_, rfl⟩
      obtain ⟨l15, hl15⟩ : ∃ q, decide (cfP x y < 0) = q := ⟨_, rfl⟩
      obtain ⟨g16, hg16⟩ : ∃ q, q = (q3 && l15) := ⟨_, rfl⟩
      have HQ3 := Lib.hid hq3
      have HQ0 := Lib.hid (show q3 = true → a < k from fun h => by rw [← hq3, decide_eq_true_eq] at h; omega)
      have HQ1 := Lib.hid (show a < k → q3 = true from fun h => by rw [← hq3, decide_eq_true_eq]; omega)
      have HL15 := Lib.hid hl15
      have HG16 := Lib.hid hg16
      clear hx hy hq3 hl15 hg16
      go_upto_region 4 with fail
      refine wp_region_any (by kernel_rfl) ?_
      refine wpAny_below (fun iq uq _ => uq = ([(.int .i64 ((k : Nat) : Int) : Value), .int .i64 ((a : Nat) : Int), .bool q3, .bool q3, vB (q3) (.func (.func 64) #[] #[]), vB (q3) (.slice (some ⟨g, 0, none⟩) N cap), vB (q3) (.int .i64 ((k : Nat) : Int)), vB (q3) (.pointer (some ⟨g, (k) * 27, none⟩)), vB (q3) (evV x), vB (q3) (.slice (some ⟨g, 0, none⟩) N cap), vB (q3) (.int .i64 ((k : Nat) : Int)), vB (q3) (.int .i64 ((k - 1 : Nat) : Int)), vB (q3) (.pointer (some ⟨g, (k - 1) * 27, none⟩)), vB (q3) (evV y), vB (q3) (.int .i64 (cfP x y)), vB (q3) (.bool l15), .bool g16] : List Value).getD iq undef) _ wi (by kernel_rfl) (by kernel_rfl) (by kernel_rfl) (fun i v w w' _ h => h) ?_ ?_
      · refine ⟨?_, ?_, ?_, ?_, ?_, ?_, ?_, ?_, ?_, ?_, ?_, ?_, ?_, ?_, ?_, ?_, ?_, trivial⟩
        · intro ac W hI hun haft hi
          have e9 : ac.eval (.tmp 9) = .int .i64 ((k : Nat) : Int) := hun 9 (by kernel_rfl)
          exact b_same hi hI rfl _ (run_move_op rfl e9) rfl
        · intro ac W hI hun haft hi
          have e1 : ac.eval (.tmp 1) = .int .i64 ((a : Nat) : Int) := hun 1 (by kernel_rfl)
          exact b_same hi hI rfl _ (run_move_op rfl e1) rfl
        · intro ac W hI hun haft hi
          have f0 : ac.eval (.tmp 18) = .int .i64 ((k : Nat) : Int) := haft ⟨0, .data⟩ (by simp) rfl _ _ rfl rfl
          have f1 : ac.eval (.tmp 19) = .int .i64 ((a : Nat) : Int) := haft ⟨1, .data⟩ (by simp) rfl _ _ rfl rfl
          exact b_same hi hI rfl _ (run_bin_op rfl f0 f1 (guardI _ _ _ _ _ _ _) (gt_isS _ _ _ HQ3.out W)) rfl
        · intro ac W hI hun haft hi
          have f2 : ac.eval (.tmp 20) = .bool q3 := haft ⟨2, .data⟩ (by simp) rfl _ _ rfl rfl
          exact b_same hi hI rfl _ (run_move_op rfl f2) rfl
        · intro ac W hI hun haft hi
          have fg : ac.eval (.tmp 21) = .bool q3 := haft ⟨3, .guard⟩ (by simp) rfl _ _ rfl rfl
          have e3 : ac.eval (.tmp 3) = .func (.func 64) #[] #[] := hun 3 (by kernel_rfl)
          cases q3
          case false => exact b_skip hi hI (guard_no rfl rfl rfl (.inl fg)) rfl
          case true =>
            exact b_same hi hI (guard_ok rfl rfl rfl fg) _ (run_move_op rfl e3) rfl
        · intro ac W hI hun haft hi
          have fg : ac.eval (.tmp 21) = .bool q3 := haft ⟨3, .guard⟩ (by simp) rfl _ _ rfl rfl
          have e0 : ac.eval (.tmp 0) = .slice (some ⟨g, 0, none⟩) N cap := hun 0 (by kernel_rfl)
          cases q3
          case false => exact b_skip hi hI (guard_no rfl rfl rfl (.inl fg)) rfl
          case true =>
            exact b_same hi hI (guard_ok rfl rfl rfl fg) _ (run_move_op rfl e0) rfl
        · intro ac W hI hun haft hi
          have fg : ac.eval (.tmp 21) = .bool q3 := haft ⟨3, .guard⟩ (by simp) rfl _ _ rfl rfl
          have e9 : ac.eval (.tmp 9) = .int .i64 ((k : Nat) : Int) := hun 9 (by kernel_rfl)
          cases q3
          case false => exact b_skip hi hI (guard_no rfl rfl rfl (.inl fg)) rfl
          case true =>
            exact b_same hi hI (guard_ok rfl rfl rfl fg) _ (run_move_op rfl e9) rfl
        · intro ac W hI hun haft hi
          have fg : ac.eval (.tmp 21) = .bool q3 := haft ⟨3, .guard⟩ (by simp) rfl _ _ rfl rfl
          have f5 : ac.eval (.tmp 23) = vB (q3) (.slice (some ⟨g, 0, none⟩) N cap) := haft ⟨5, .data⟩ (by simp) rfl _ _ rfl rfl
          have f6 : ac.eval (.tmp 24) = vB (q3) (.int .i64 ((k : Nat) : Int)) := haft ⟨6, .data⟩ (by simp) rfl _ _ rfl rfl
          cases q3
          case false => exact b_skip hi hI (guard_no rfl rfl rfl (.inl fg)) rfl
          case true =>
            exact b_same hi hI (guard_ok rfl rfl rfl fg) _ (run_indexAddr_op rfl f5 f6 (at_EN g cap N (k) (by have := HOm.out; omega) W)) rfl
        · intro ac W hI hun haft hi
          have fg : ac.eval (.tmp 21) = .bool q3 := haft ⟨3, .guard⟩ (by simp) rfl _ _ rfl rfl
          have f7 : ac.eval (.tmp 25) = vB (q3) (.pointer (some ⟨g, (k) * 27, none⟩)) := haft ⟨7, .data⟩ (by simp) rfl _ _ rfl rfl
          cases q3
          case false => exact b_skip hi hI (guard_no rfl rfl rfl (.inl fg)) rfl
          case true =>
            exact b_same hi hI (guard_ok rfl rfl rfl fg) _ (run_loadmid_op rfl f7 (HXY.out.1 ▸ (HT.out.below hI).range (k) (by have := HOm.out; omega)) Try.underlying39 rfl (sizeE x)) rfl
        · intro ac W hI hun haft hi
          have fg : ac.eval (.tmp 21) = .bool q3 := haft ⟨3, .guard⟩ (by simp) rfl _ _ rfl rfl
          have e0 : ac.eval (.tmp 0) = .slice (some ⟨g, 0, none⟩) N cap := hun 0 (by kernel_rfl)
          cases q3
          case false => exact b_skip hi hI (guard_no rfl rfl rfl (.inl fg)) rfl
          case true =>
            exact b_same hi hI (guard_ok rfl rfl rfl fg) _ (run_move_op rfl e0) rfl
        · intro ac W hI hun haft hi
          have fg : ac.eval (.tmp 21) = .bool q3 := haft ⟨3, .guard⟩ (by simp) rfl _ _ rfl rfl
          have e9 : ac.eval (.tmp 9) = .int .i64 ((k : Nat) : Int) := hun 9 (by kernel_rfl)
          cases q3
          case false => exact b_skip hi hI (guard_no rfl rfl rfl (.inl fg)) rfl
          case true =>
            exact b_same hi hI (guard_ok rfl rfl rfl fg) _ (run_move_op rfl e9) rfl
        · intro ac W hI hun haft hi
          have fg : ac.eval (.tmp 21) = .bool q3 := haft ⟨3, .guard⟩ (by simp) rfl _ _ rfl rfl
          have f10 : ac.eval (.tmp 28) = vB (q3) (.int .i64 ((k : Nat) : Int)) := haft ⟨10, .data⟩ (by simp) rfl _ _ rfl rfl
          cases q3
          case false => exact b_skip hi hI (guard_no rfl rfl rfl (.inl fg)) rfl
          case true =>
            exact b_same hi hI (guard_ok rfl rfl rfl fg) _ (run_bin_op rfl f10 rfl (guardI _ _ _ _ _ _ _) (sub_n (k) (1) (by have := HQ0.out rfl; omega) (by have := HOm.out; omega) W)) rfl
        · intro ac W hI hun haft hi
          have fg : ac.eval (.tmp 21) = .bool q3 := haft ⟨3, .guard⟩ (by simp) rfl _ _ rfl rfl
          have f9 : ac.eval (.tmp 27) = vB (q3) (.slice (some ⟨g, 0, none⟩) N cap) := haft ⟨9, .data⟩ (by simp) rfl _ _ rfl rfl
          have f11 : ac.eval (.tmp 29) = vB (q3) (.int .i64 ((k - 1 : Nat) : Int)) := haft ⟨11, .data⟩ (by simp) rfl _ _ rfl rfl
          cases q3
          case false => exact b_skip hi hI (guard_no rfl rfl rfl (.inl fg)) rfl
          case true =>
            exact b_same hi hI (guard_ok rfl rfl rfl fg) _ (run_indexAddr_op rfl f9 f11 (at_EN g cap N (k - 1) (by have := HOm.out; omega) W)) rfl
        · intro ac W hI hun haft hi
          have fg : ac.eval (.tmp 21) = .bool q3 := haft ⟨3, .guard⟩ (by simp) rfl _ _ rfl rfl
          have f12 : ac.eval (.tmp 30) = vB (q3) (.pointer (some ⟨g, (k - 1) * 27, none⟩)) := haft ⟨12, .data⟩ (by simp) rfl _ _ rfl rfl
          cases q3
          case false => exact b_skip hi hI (guard_no rfl rfl rfl (.inl fg)) rfl
          case true =>
            exact b_same hi hI (guard_ok rfl rfl rfl fg) _ (run_loadmid_op rfl f12 (HXY.out.2 ▸ (HT.out.below hI).range (k - 1) (by have := HOm.out; omega)) Try.underlying39 rfl (sizeE y)) rfl
        · intro ac W hI hun haft hi
          have fg : ac.eval (.tmp 21) = .bool q3 := haft ⟨3, .guard⟩ (by simp) rfl _ _ rfl rfl
          have f4 : ac.eval (.tmp 22) = vB (q3) (.func (.func 64) #[] #[]) := haft ⟨4, .data⟩ (by simp) rfl _ _ rfl rfl
          have f8 : ac.eval (.tmp 26) = vB (q3) (evV x) := haft ⟨8, .data⟩ (by simp) rfl _ _ rfl rfl
          have f13 : ac.eval (.tmp 31) = vB (q3) (evV y) := haft ⟨13, .data⟩ (by simp) rfl _ _ rfl rfl
          cases q3
          case false => exact b_skip hi hI (guard_no rfl rfl rfl (.inl fg)) rfl
          case true =>
            refine b_call hi hI (guard_ok rfl rfl rfl fg) _ _ (run_dyncall_op (args := #[evV x, evV y]) rfl f4 (by simp [f8, f13, vB]) (by kernel_rfl)) ?_
            exact (byPast_any x y W).mono fun e w' H => ⟨_, H.1, rfl, H.2⟩
        · intro ac W hI hun haft hi
          have fg : ac.eval (.tmp 21) = .bool q3 := haft ⟨3, .guard⟩ (by simp) rfl _ _ rfl rfl
          have f14 : ac.eval (.tmp 32) = vB (q3) (.int .i64 (cfP x y)) := haft ⟨14, .data⟩ (by simp) rfl _ _ rfl rfl
          cases q3
          case false => exact b_skip hi hI (guard_no rfl rfl rfl (.inl fg)) rfl
          case true =>
            exact b_same hi hI (guard_ok rfl rfl rfl fg) _ (run_bin_op rfl f14 rfl (guardI _ _ _ _ _ _ _) (lt_isS _ _ _ HL15.out W)) rfl
        · intro ac W hI hun haft hi
          have f3 : ac.eval (.tmp 21) = .bool q3 := haft ⟨3, .data⟩ (by simp) rfl _ _ rfl rfl
          have f15 : ac.eval (.tmp 33) = vB (q3) (.bool l15) := haft ⟨15, .data⟩ (by simp) rfl _ _ rfl rfl
          cases q3
          case true => exact b_same hi hI rfl _ (run_pick_op (b := true) rfl f3 f15 rfl) (by show _ = Value.bool g16; rw [HG16.out]; rfl)
          case false => exact b_same hi hI rfl _ (run_pick_op (b := false) rfl f3 f15 rfl) (by show _ = Value.bool g16; rw [HG16.out]; rfl)
      · intro vals W hI hp
        have hl16 : vals 16 = .bool g16 := hp 16 (by decide)
        have HT2 := Lib.hid (HT.out.below hI)
        clear hp hI
        simp only [layN, List.size_toArray, List.length_cons, List.length_nil, List.range, List.range.loop, if_true, List.getElem?_toArray, List.getElem?_cons_zero, List.getElem?_cons_succ, Act.put, List.setIfInBounds_toArray, List.set_cons_zero, List.set_cons_succ, Nat.zero_add, Nat.reduceAdd, hl16]
        clear hl16
        generalize W = W2 at *
        cases g16
        case false =>
          have HStop := Lib.hid (HIns.out.stop cfP_ok.swo (by
            by_cases hak : a < k
            · right
              have h1 := HG16.out.symm
              rw [HQ1.out hak, Bool.true_and] at h1
              unfold ltOf
              have e := HXY.out
              rw [e.1, e.2, HL15.out]; exact h1
            · left; omega))
          have hw := IntWalk.i64_in ((i : Int) + 1) (by have := HOi.out; omega)
          have hjm : ¬ 9223372036854775807 < i + 1 := by have := HOi.out; omega
          go_wp2_with (first
            | (refine wpList_val (o := ⟨some 16, _, _, _, _, _⟩) rfl (.int .i64 ((i + 1 : Nat) : Int)) _ (run_bin_op rfl rfl rfl (guardI _ _ _ _ _ _ _) (add_n i 1 (by have := HOi.out; omega) _)) ?_)
            | fail)
          go_roundw
          case rel => exact ⟨i + 1, d, rfl, by have := HOi.out; omega, .inl (by have := HOi.out; omega), HT2.out, HPm.out, HStop.out⟩
          case measure => have := HOi.out; simp [intOf] <;> omega
        have HAk := Lib.hid (show a < k ∧ l15 = true from by
          have h1 := HG16.out.symm
          rw [Bool.and_eq_true] at h1
          exact ⟨HQ0.out h1.1, h1.2⟩)
        have HK1 := Lib.hid (show k < N by have := HOm.out; omega)
        have HK2 := Lib.hid (show k - 1 < N by have := HOm.out; omega)
        clear HT
        have HT := Lib.hid HT2.out
        have HOm3 := Lib.hid (show N ≤ 100000 ∧ a < k ∧ k ≤ i ∧ i < b ∧ b ≤ N from ⟨HOm.out.1, HAk.out.1, HOm.out.2.2⟩)
        clear HOm
        have HOm := Lib.hid HOm3.out
        have HStep := Lib.hid (show Go.Sort.Ins (ltOf cfP) a (k - 1) i (swp d k (k - 1)) from by
          obtain ⟨k', rfl⟩ : ∃ k', k = k' + 1 := ⟨k - 1, by have := HOm.out; omega⟩
          simp only [Nat.add_sub_cancel] at *
          refine HIns.out.step ?_ (by have := HOm.out; omega) (by have := HOm.out; have := HT.out.2.1; omega)
          unfold ltOf
          have e := HXY.out
          rw [e.1, e.2, HL15.out]; exact HAk.out.2)
        have HPm2 := Lib.hid (permIn_trans _ _ _ a b HPm.out (swp_permIn d a b k (k - 1) (by have := HOm.out; omega) (by have := HOm.out; omega) (by have := HOm.out; omega) (by have := HOm.out; omega) (by have := HOm.out; have := HT.out.2.1; omega)))
        go_upto_region 6 with fail
        refine wp_region_any (by kernel_rfl) ?_
        refine wpAny_swap (fun iq uq => uq = ([(.slice (some ⟨g, 0, none⟩) N cap : Value), .int .i64 ((k : Nat) : Int), .slice (some ⟨g, 0, none⟩) N cap, .int .i64 ((k : Nat) : Int), .int .i64 ((k - 1 : Nat) : Int), .slice (some ⟨g, 0, none⟩) N cap, .int .i64 ((k : Nat) : Int), .int .i64 ((k - 1 : Nat) : Int), .pointer (some ⟨g, (k - 1) * 27, none⟩), evV y, .slice (some ⟨g, 0, none⟩) N cap, .int .i64 ((k : Nat) : Int), .pointer (some ⟨g, (k) * 27, none⟩), evV x, .pointer (some ⟨g, (k) * 27, none⟩), undef, .pointer (some ⟨g, (k - 1) * 27, none⟩), undef] : List Value).getD iq undef) _ W2 15 17 _ _ (RowE w B g cap N d) (RowE w B g cap N (d.setIfInBounds (k) y)) (RowE w B g cap N (Go.Sort.swp d (k) (k - 1))) (by kernel_rfl) (by decide) rfl rfl rfl rfl (by kernel_rfl) (by kernel_rfl) (by kernel_rfl) (by kernel_rfl) (HT.out.below (Below.refl _ _).drew) ?_ ?_ ?_ ?_
        · refine ⟨?_, ?_, ?_, ?_, ?_, ?_, ?_, ?_, ?_, ?_, ?_, ?_, ?_, ?_, ?_, ?_, ?_, ?_, trivial⟩
          · intro _ _ ac W hun haft hO hi
            have e0 : ac.eval (.tmp 0) = .slice (some ⟨g, 0, none⟩) N cap := hun 0 (by kernel_rfl)
            exact wpOp_val hi rfl (.slice (some ⟨g, 0, none⟩) N cap) _ (run_move_op rfl e0) ⟨_, rfl, rfl, rfl⟩
          · intro _ _ ac W hun haft hO hi
            have e9 : ac.eval (.tmp 9) = .int .i64 ((k : Nat) : Int) := hun 9 (by kernel_rfl)
            exact wpOp_val hi rfl (.int .i64 ((k : Nat) : Int)) _ (run_move_op rfl e9) ⟨_, rfl, rfl, rfl⟩
          · intro _ _ ac W hun haft hO hi
            have e0 : ac.eval (.tmp 0) = .slice (some ⟨g, 0, none⟩) N cap := hun 0 (by kernel_rfl)
            exact wpOp_val hi rfl (.slice (some ⟨g, 0, none⟩) N cap) _ (run_move_op rfl e0) ⟨_, rfl, rfl, rfl⟩
          · intro _ _ ac W hun haft hO hi
            have e9 : ac.eval (.tmp 9) = .int .i64 ((k : Nat) : Int) := hun 9 (by kernel_rfl)
            exact wpOp_val hi rfl (.int .i64 ((k : Nat) : Int)) _ (run_move_op rfl e9) ⟨_, rfl, rfl, rfl⟩
          · intro _ _ ac W hun haft hO hi
            have f3 : ac.eval (.tmp 40) = .int .i64 ((k : Nat) : Int) := haft ⟨3, .data⟩ (by simp) rfl _ _ rfl rfl
            exact wpOp_val hi rfl (.int .i64 ((k - 1 : Nat) : Int)) _ (run_bin_op rfl f3 rfl (guardI _ _ _ _ _ _ _) (sub_n (k) (1) (by have := HOm.out; omega) (by have := HOm.out; omega) W)) ⟨_, rfl, rfl, rfl⟩
          · intro _ _ ac W hun haft hO hi
            have e0 : ac.eval (.tmp 0) = .slice (some ⟨g, 0, none⟩) N cap := hun 0 (by kernel_rfl)
            exact wpOp_val hi rfl (.slice (some ⟨g, 0, none⟩) N cap) _ (run_move_op rfl e0) ⟨_, rfl, rfl, rfl⟩
          · intro _ _ ac W hun haft hO hi
            have e9 : ac.eval (.tmp 9) = .int .i64 ((k : Nat) : Int) := hun 9 (by kernel_rfl)
            exact wpOp_val hi rfl (.int .i64 ((k : Nat) : Int)) _ (run_move_op rfl e9) ⟨_, rfl, rfl, rfl⟩
          · intro _ _ ac W hun haft hO hi
            have f6 : ac.eval (.tmp 43) = .int .i64 ((k : Nat) : Int) := haft ⟨6, .data⟩ (by simp) rfl _ _ rfl rfl
            exact wpOp_val hi rfl (.int .i64 ((k - 1 : Nat) : Int)) _ (run_bin_op rfl f6 rfl (guardI _ _ _ _ _ _ _) (sub_n (k) (1) (by have := HOm.out; omega) (by have := HOm.out; omega) W)) ⟨_, rfl, rfl, rfl⟩
          · intro _ _ ac W hun haft hO hi
            have f5 : ac.eval (.tmp 42) = .slice (some ⟨g, 0, none⟩) N cap := haft ⟨5, .data⟩ (by simp) rfl _ _ rfl rfl
            have f7 : ac.eval (.tmp 44) = .int .i64 ((k - 1 : Nat) : Int) := haft ⟨7, .data⟩ (by simp) rfl _ _ rfl rfl
            exact wpOp_val hi rfl (.pointer (some ⟨g, (k - 1) * 27, none⟩)) _ (run_indexAddr_op rfl f5 f7 (at_EN g cap N (k - 1) (by have := HOm.out; omega) W)) ⟨_, rfl, rfl, rfl⟩
          · intro _ _ ac W hun haft hO hi
            have f8 : ac.eval (.tmp 45) = .pointer (some ⟨g, (k - 1) * 27, none⟩) := haft ⟨8, .data⟩ (by simp) rfl _ _ rfl rfl
            exact wpOp_val hi rfl (evV y) _ (run_loadmid_op rfl f8 (HXY.out.2 ▸ (hO (by kernel_rfl)).range (k - 1) HK2.out) Try.underlying39 rfl (sizeE y)) ⟨_, rfl, rfl, rfl⟩
          · intro _ _ ac W hun haft hO hi
            have e0 : ac.eval (.tmp 0) = .slice (some ⟨g, 0, none⟩) N cap := hun 0 (by kernel_rfl)
            exact wpOp_val hi rfl (.slice (some ⟨g, 0, none⟩) N cap) _ (run_move_op rfl e0) ⟨_, rfl, rfl, rfl⟩
          · intro _ _ ac W hun haft hO hi
            have e9 : ac.eval (.tmp 9) = .int .i64 ((k : Nat) : Int) := hun 9 (by kernel_rfl)
            exact wpOp_val hi rfl (.int .i64 ((k : Nat) : Int)) _ (run_move_op rfl e9) ⟨_, rfl, rfl, rfl⟩
          · intro _ _ ac W hun haft hO hi
            have f10 : ac.eval (.tmp 47) = .slice (some ⟨g, 0, none⟩) N cap := haft ⟨10, .data⟩ (by simp) rfl _ _ rfl rfl
            have f11 : ac.eval (.tmp 48) = .int .i64 ((k : Nat) : Int) := haft ⟨11, .data⟩ (by simp) rfl _ _ rfl rfl
            exact wpOp_val hi rfl (.pointer (some ⟨g, (k) * 27, none⟩)) _ (run_indexAddr_op rfl f10 f11 (at_EN g cap N (k) (by have := HOm.out; omega) W)) ⟨_, rfl, rfl, rfl⟩
          · intro _ _ ac W hun haft hO hi
            have f12 : ac.eval (.tmp 49) = .pointer (some ⟨g, (k) * 27, none⟩) := haft ⟨12, .data⟩ (by simp) rfl _ _ rfl rfl
            exact wpOp_val hi rfl (evV x) _ (run_loadmid_op rfl f12 (HXY.out.1 ▸ (hO (by kernel_rfl)).range (k) HK1.out) Try.underlying39 rfl (sizeE x)) ⟨_, rfl, rfl, rfl⟩
          · intro _ _ ac W hun haft hO hi
            have f0 : ac.eval (.tmp 37) = .slice (some ⟨g, 0, none⟩) N cap := haft ⟨0, .data⟩ (by simp) rfl _ _ rfl rfl
            have f1 : ac.eval (.tmp 38) = .int .i64 ((k : Nat) : Int) := haft ⟨1, .data⟩ (by simp) rfl _ _ rfl rfl
            exact wpOp_val hi rfl (.pointer (some ⟨g, (k) * 27, none⟩)) _ (run_indexAddr_op rfl f0 f1 (at_EN g cap N (k) (by have := HOm.out; omega) W)) ⟨_, rfl, rfl, rfl⟩
          · intro h1 h2; exact absurd rfl h1
          · intro _ _ ac W hun haft hO hi
            have f2 : ac.eval (.tmp 39) = .slice (some ⟨g, 0, none⟩) N cap := haft ⟨2, .data⟩ (by simp) rfl _ _ rfl rfl
            have f4 : ac.eval (.tmp 41) = .int .i64 ((k - 1 : Nat) : Int) := haft ⟨4, .data⟩ (by simp) rfl _ _ rfl rfl
            exact wpOp_val hi rfl (.pointer (some ⟨g, (k - 1) * 27, none⟩)) _ (run_indexAddr_op rfl f2 f4 (at_EN g cap N (k - 1) (by have := HOm.out; omega) W)) ⟨_, rfl, rfl, rfl⟩
          · intro h1 h2; exact absurd rfl h2
        · intro ac W hO haft
          have f14 : ac.eval (.tmp 51) = .pointer (some ⟨g, (k) * 27, none⟩) := haft ⟨14, .data⟩ (by simp) rfl _ _ rfl rfl
          have f9 : ac.eval (.tmp 46) = evV y := haft ⟨9, .data⟩ (by simp) rfl _ _ rfl rfl
          obtain ⟨q1, q2⟩ := hO.set (k) HK1.out y
          exact l_skip rfl rfl _ (run_storemid_op rfl f14 f9 q1 (sizeE y) (evC_one y)) ⟨rfl, q2⟩
        · intro ac W hO haft
          have f16 : ac.eval (.tmp 52) = .pointer (some ⟨g, (k - 1) * 27, none⟩) := haft ⟨16, .data⟩ (by simp) rfl _ _ rfl rfl
          have f13 : ac.eval (.tmp 50) = evV x := haft ⟨13, .data⟩ (by simp) rfl _ _ rfl rfl
          obtain ⟨q1, q2⟩ := hO.set (k - 1) HK2.out x
          exact l_skip rfl rfl _ (run_storemid_op rfl f16 f13 q1 (sizeE x) (evC_one x)) ⟨rfl, (by have e := HXY.out; exact (by rw [← e.1, ← e.2]; rfl : Go.Sort.swp d (k) (k - 1) = (d.setIfInBounds (k) y).setIfInBounds (k - 1) x)) ▸ q2⟩
        · intro vals W hF hp
          have HF := Lib.hid hF
          clear hp hF
          simp only [layN, List.size_toArray, List.length_cons, List.length_nil, List.range, List.range.loop, if_true, List.getElem?_toArray, List.getElem?_cons_zero, List.getElem?_cons_succ, Act.put, List.setIfInBounds_toArray, List.set_cons_zero, List.set_cons_succ, Nat.zero_add, Nat.reduceAdd]
          go_wp2_with (first
            | (refine wpList_val (o := ⟨some 36, _, _, _, _, _⟩) rfl (.int .i64 ((k - 1 : Nat) : Int)) _ (run_bin_op rfl rfl rfl (guardI _ _ _ _ _ _ _) (sub_n k 1 (by have := HOm.out; omega) (by have := HOm.out; omega) _)) ?_)
            | fail)
          go_roundw
          case rel => exact ⟨k - 1, _, rfl, by have := HOm.out; omega, by have := HOm.out; omega, HF.out, HPm2.out, HStep.out⟩
          case measure => have := HOm.out; simp [intOf] <;> omega

end Go.Proofs.Ytmhechlfpaciiaa
