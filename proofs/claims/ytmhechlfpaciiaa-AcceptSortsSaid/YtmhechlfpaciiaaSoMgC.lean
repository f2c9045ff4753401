/-
  slices.symMergeCmpFunc at events, in halves: the contract, by a walk (written by genso.py). Conditions: lengths.
-/
import Derived.Test.YtmhechlfpaciiaaSoMgB
import Derived.Deep.CutBlock
namespace Go.Proofs.Ytmhechlfpaciiaa
open Go.RowKit Go.MapKept Go.Sort

theorem sub_h (a b h : Nat) (e : a - b = h) (hb : b ≤ a) (ha : a ≤ 1000000) (w : World) : (binOp .sub 3 (.int .i64 (a : Nat)) (.int .i64 (b : Nat))).run Try.prog w = .ok (.int .i64 ((h : Nat) : Int)) w := by
  subst e; exact sub_n a b hb ha w

set_option maxRecDepth 100000 in
set_option maxHeartbeats 8000000 in
theorem merge_halves (a m b N B g cap : Nat) (d0 : Array Ev) (w : World) (h : OwnK encE B 39 27 w (.slice (some ⟨g, 0, none⟩) N cap) d0.toList) (hN : d0.size = N) (hN2 : N ≤ 100000) (ham : a < m) (hmb : m < b) (hb : b ≤ N) (hX : SortedIn (ltOf cfP) a m d0) (hY : SortedIn (ltOf cfP) m b d0) (h1 : m ≠ a + 1) (h2 : b ≠ m + 1)
    (ih : ∀ (a' m' b' : Nat) (d' : Array Ev) (w' : World), b' - a' < b - a → a' < m' → m' < b' → b' ≤ N → SortedIn (ltOf cfP) a' m' d' → SortedIn (ltOf cfP) m' b' d' → RowE w B g cap N d' w' → Merges B g cap N a' m' b' d' w') :
    Merges B g cap N a m b d0 w := by
  unfold Merges
  have H := Lib.hid (RowE.of h hN)
  have HN := Lib.hid hN
  have HO0 := Lib.hid (show N ≤ 100000 ∧ a < m ∧ m < b ∧ b ≤ N from ⟨hN2, ham, hmb, hb⟩)
  have HX := Lib.hid hX
  have HY := Lib.hid hY
  have IH := Lib.hid ih
  have H12 := Lib.hid (And.intro h1 h2)
  have he2 : (((m - a : Nat) : Int) == 1) = false := by simp; omega
  have he3 : (((b - m : Nat) : Int) == 1) = false := by simp; omega
  clear h hN hN2 ham hmb hb hX hY h1 h2 ih
  obtain ⟨mid, hmid⟩ : ∃ mid, (a + b) / 2 = mid := ⟨_, rfl⟩
  have HMid := Lib.hid hmid
  obtain ⟨lo, hlo⟩ : ∃ lo, (if m > mid then mid + m - b else a) = lo := ⟨_, rfl⟩
  obtain ⟨hi, hhi⟩ : ∃ hi, (if m > mid then mid else m) = hi := ⟨_, rfl⟩
  have HLo := Lib.hid hlo
  have HHi := Lib.hid hhi
  have HOb := Lib.hid (show N ≤ 100000 ∧ a + 1 < m ∧ m + 1 < b ∧ b ≤ N ∧ a < mid ∧ mid < b ∧ a ≤ lo ∧ lo ≤ hi ∧ hi ≤ mid ∧ hi ≤ m ∧ mid + m ≤ b + lo ∧ 2 * mid ≤ a + b ∧ a + b ≤ 2 * mid + 1 from by
    have := HO0.out
    have := H12.out
    split at hlo <;> rename_i hc <;> simp only [hc, if_true, if_false] at hhi <;> omega)
  clear hmid hlo hhi
  go_enter Try.func101, Try.ntmps101
  go_upto_if 140 with (first
      | (refine wpList_val (o := ⟨some 27, _, _, _, _, _⟩) rfl (.int .i64 ((m - a : Nat) : Int)) _ (run_bin_op rfl rfl rfl (guardI _ _ _ _ _ _ _) (sub_n (m) (a) (by have := HO0.out; omega) (by have := HO0.out; omega) _)) ?_)
      | (refine wpList_val (o := ⟨some 79, _, _, _, _, _⟩) rfl (.int .i64 ((b - m : Nat) : Int)) _ (run_bin_op rfl rfl rfl (guardI _ _ _ _ _ _ _) (sub_n (b) (m) (by have := HO0.out; omega) (by have := HO0.out; omega) _)) ?_)
      | (refine wpList_val (o := ⟨some 131, _, _, _, _, _⟩) rfl (.int .i64 ((a + b : Nat) : Int)) _ (run_bin_op rfl rfl rfl (guardI _ _ _ _ _ _ _) (add_n (a) (b) (by have := HO0.out; omega) _)) ?_)
      | (refine wpList_val (o := ⟨some 132, _, _, _, _, _⟩) rfl (.int .u64 ((a + b : Nat) : Int)) _ (run_convert_op rfl rfl (toU_n (a + b) (by have := HO0.out; omega) _)) ?_)
      | (refine wpList_val (o := ⟨some 133, _, _, _, _, _⟩) rfl (.int .u64 ((mid : Nat) : Int)) _ (run_bin_op rfl rfl rfl (guardU _ _ _ _ _ _) (shr_h (a + b) mid HMid.out (by have := HO0.out; omega) _)) ?_)
      | (refine wpList_val (o := ⟨some 134, _, _, _, _, _⟩) rfl (.int .i64 ((mid : Nat) : Int)) _ (run_convert_op rfl rfl (ofU_n mid (by have := HOb.out; omega) _)) ?_)
      | (refine wpList_val (o := ⟨some 137, _, _, _, _, _⟩) rfl (.int .i64 ((mid + m : Nat) : Int)) _ (run_bin_op rfl rfl rfl (guardI _ _ _ _ _ _ _) (add_n mid m (by have := HOb.out; omega) _)) ?_)
      | fail)
  clear he2 he3
  go_cut [20, 21] (fun v20 v21 wx => v20 = .int .i64 (lo : Nat) ∧ v21 = .int .i64 (hi : Nat) ∧ RowE w B g cap N d0 wx)
  case first =>
    as_aux_lemma =>
    by_cases hc : m > mid
    · have hd : mid < m := by omega
      have e1 : mid + m - b = lo := by have := HLo.out; rw [if_pos hc] at this; exact this
      have e2 : mid = hi := by have := HHi.out; rw [if_pos hc] at this; exact this
      have HE := Lib.hid (And.intro e1 e2)
      have HB2 := Lib.hid (show b ≤ mid + m by have := HOb.out; omega)
      clear hc e1 e2
      go_wp2_with (first
          | (refine wpList_val (o := ⟨some 143, _, _, _, _, _⟩) rfl (.int .i64 ((mid + m - b : Nat) : Int)) _ (run_bin_op rfl rfl rfl (guardI _ _ _ _ _ _ _) (sub_n (mid + m) b HB2.out (by have := HOb.out; omega) _)) ?_)
          | fail)
      go_meet
      case rel => exact ⟨by rw [HE.out.1], by rw [HE.out.2], H.out⟩
    · have hd : ¬ mid < m := by omega
      have e1 : a = lo := by have := HLo.out; rw [if_neg hc] at this; exact this
      have e2 : m = hi := by have := HHi.out; rw [if_neg hc] at this; exact this
      have HE := Lib.hid (And.intro e1 e2)
      clear hc e1 e2
      go_wp2_with fail
      go_meet
      case rel => exact ⟨by rw [HE.out.1], by rw [HE.out.2], H.out⟩
  case rest =>
    as_aux_lemma =>
    obtain ⟨rfl, rfl, hrow⟩ := hcut
    have HT0 := Lib.hid hrow
    generalize wc = w1 at *
    clear hrow
    obtain ⟨p, hp⟩ : ∃ p, mid + m - 1 = p := ⟨_, rfl⟩
    have HP := Lib.hid hp
    clear hp
    go_wp2_with (first
        | (refine wpList_val (o := ⟨some 148, _, _, _, _, _⟩) rfl (.int .i64 ((p : Nat) : Int)) _ (run_bin_op rfl rfl rfl (guardI _ _ _ _ _ _ _) (sub_h (mid + m) 1 p HP.out (by have := HOb.out; omega) (by have := HOb.out; omega) _)) ?_)
        | fail)
    go_loopw [20, 21] (fun v20 v21 wr => ∃ (s r : Nat), v20 = .int .i64 (s : Nat) ∧ v21 = .int .i64 (r : Nat) ∧ lo ≤ s ∧ s ≤ r ∧ r ≤ hi ∧ RowE w B g cap N d0 wr ∧ (∀ c, lo ≤ c → c < s → ltOf cfP d0[p - c]! d0[c]! = false) ∧ ∀ c, r ≤ c → c < hi → ltOf cfP d0[p - c]! d0[c]! = true) (fun v20 v21 _ => (intOf v21).toNat - (intOf v20).toNat)
    case atStart => exact ⟨lo, hi, rfl, rfl, Nat.le_refl _, by have := HOb.out; omega, Nat.le_refl _, HT0.out, fun c h1 h2 => by omega, fun c h1 h2 => by omega⟩
    case round =>
      as_aux_lemma =>
      obtain ⟨s, r, rfl, rfl, hs, hsr, hr, hrow, hl, hg⟩ := hrel
      obtain ⟨wo, rfl⟩ : ∃ wo, wo = wr := ⟨_, rfl⟩
      have HT := Lib.hid hrow
      have HL1 := Lib.hid hl
      have HG1 := Lib.hid hg
      clear hrow hl hg HT0
      by_cases hlt : s < r
      case pos =>
        as_aux_lemma =>
        have hd : s < r := by omega
        obtain ⟨h, hh⟩ : ∃ h, (s + r) / 2 = h := ⟨_, rfl⟩
        have HH := Lib.hid hh
        clear hh
        have HOm1 := Lib.hid (show N ≤ 100000 ∧ b ≤ N ∧ lo ≤ s ∧ s < r ∧ r ≤ hi ∧ hi ≤ mid ∧ hi ≤ m ∧ mid + m ≤ b + lo ∧ mid + m = p + 1 ∧ mid < b from by have := HOb.out; have := HP.out; omega)
        clear hs hsr hr hlt
        go_upto_region 35 with (first
            | (refine wpList_val (o := ⟨some 154, _, _, _, _, _⟩) rfl (.int .i64 ((s + r : Nat) : Int)) _ (run_bin_op rfl rfl rfl (guardI _ _ _ _ _ _ _) (add_n (s) (r) (by have := HOm1.out; omega) _)) ?_)
            | (refine wpList_val (o := ⟨some 155, _, _, _, _, _⟩) rfl (.int .u64 ((s + r : Nat) : Int)) _ (run_convert_op rfl rfl (toU_n (s + r) (by have := HOm1.out; omega) _)) ?_)
            | (refine wpList_val (o := ⟨some 156, _, _, _, _, _⟩) rfl (.int .u64 ((h : Nat) : Int)) _ (run_bin_op rfl rfl rfl (guardU _ _ _ _ _ _) (shr_h (s + r) h HH.out (by have := HOm1.out; omega) _)) ?_)
            | (refine wpList_val (o := ⟨some 157, _, _, _, _, _⟩) rfl (.int .i64 ((h : Nat) : Int)) _ (run_convert_op rfl rfl (ofU_n h (by have := HH.out; have := HOm1.out; omega) _)) ?_)
            | fail)
        clear hd
        have HOm := Lib.hid (show N ≤ 100000 ∧ b ≤ N ∧ lo ≤ s ∧ s ≤ h ∧ h < r ∧ r ≤ hi ∧ hi ≤ mid ∧ hi ≤ m ∧ mid + m ≤ b + lo ∧ mid + m = p + 1 ∧ mid < b from by have := HOm1.out; have := HH.out; omega)
        obtain ⟨x, hx⟩ : ∃ x, d0[p - h]! = x := ⟨_, rfl⟩
        obtain ⟨y, hy⟩ : ∃ y, d0[h]! = y := ⟨_, rfl⟩
        have HXY := Lib.hid (And.intro hx hy)
        obtain ⟨l10, hl10⟩ : ∃ q, decide (cfP x y < 0) = q := ⟨_, rfl⟩
        have HL := Lib.hid hl10
        clear hx hy hl10
        refine wp_region_any (by kernel_rfl) ?_
        refine wpAny_below (fun iq uq _ => uq = ([(.func (.func 64) #[] #[] : Value), .slice (some ⟨g, 0, none⟩) N cap, .int .i64 ((p : Nat) : Int), .int .i64 ((h : Nat) : Int), .int .i64 ((p - h : Nat) : Int), .pointer (some ⟨g, (p - h) * 27, none⟩), evV x, .slice (some ⟨g, 0, none⟩) N cap, .int .i64 ((h : Nat) : Int), .pointer (some ⟨g, (h) * 27, none⟩), evV y, .int .i64 (cfP x y), .bool l10, .bool (!l10)] : List Value).getD iq undef) _ wo (by kernel_rfl) (by kernel_rfl) (by kernel_rfl) (fun i v w w' _ h => h) ?_ ?_
        · refine ⟨?_, ?_, ?_, ?_, ?_, ?_, ?_, ?_, ?_, ?_, ?_, ?_, ?_, ?_, trivial⟩
          · intro ac W hI hun haft hi
            have e4 : ac.eval (.tmp 4) = .func (.func 64) #[] #[] := hun 4 (by kernel_rfl)
            exact b_same hi hI rfl _ (run_move_op rfl e4) rfl
          · intro ac W hI hun haft hi
            have e0 : ac.eval (.tmp 0) = .slice (some ⟨g, 0, none⟩) N cap := hun 0 (by kernel_rfl)
            exact b_same hi hI rfl _ (run_move_op rfl e0) rfl
          · intro ac W hI hun haft hi
            have e22 : ac.eval (.tmp 22) = .int .i64 ((p : Nat) : Int) := hun 22 (by kernel_rfl)
            exact b_same hi hI rfl _ (run_move_op rfl e22) rfl
          · intro ac W hI hun haft hi
            have e23 : ac.eval (.tmp 23) = .int .i64 ((h : Nat) : Int) := hun 23 (by kernel_rfl)
            exact b_same hi hI rfl _ (run_move_op rfl e23) rfl
          · intro ac W hI hun haft hi
            have f2 : ac.eval (.tmp 160) = .int .i64 ((p : Nat) : Int) := haft ⟨2, .data⟩ (by simp) rfl _ _ rfl rfl
            have f3 : ac.eval (.tmp 161) = .int .i64 ((h : Nat) : Int) := haft ⟨3, .data⟩ (by simp) rfl _ _ rfl rfl
            exact b_same hi hI rfl _ (run_bin_op rfl f2 f3 (guardI _ _ _ _ _ _ _) (sub_n (p) (h) (by have := HOm.out; omega) (by have := HOm.out; omega) W)) rfl
          · intro ac W hI hun haft hi
            have f1 : ac.eval (.tmp 159) = .slice (some ⟨g, 0, none⟩) N cap := haft ⟨1, .data⟩ (by simp) rfl _ _ rfl rfl
            have f4 : ac.eval (.tmp 162) = .int .i64 ((p - h : Nat) : Int) := haft ⟨4, .data⟩ (by simp) rfl _ _ rfl rfl
            exact b_same hi hI rfl _ (run_indexAddr_op rfl f1 f4 (at_EN g cap N (p - h) (by have := HOm.out; omega) W)) rfl
          · intro ac W hI hun haft hi
            have f5 : ac.eval (.tmp 163) = .pointer (some ⟨g, (p - h) * 27, none⟩) := haft ⟨5, .data⟩ (by simp) rfl _ _ rfl rfl
            exact b_same hi hI rfl _ (run_loadmid_op rfl f5 (HXY.out.1 ▸ (HT.out.below hI).range (p - h) (by have := HOm.out; omega)) Try.underlying39 rfl (sizeE x)) rfl
          · intro ac W hI hun haft hi
            have e0 : ac.eval (.tmp 0) = .slice (some ⟨g, 0, none⟩) N cap := hun 0 (by kernel_rfl)
            exact b_same hi hI rfl _ (run_move_op rfl e0) rfl
          · intro ac W hI hun haft hi
            have e23 : ac.eval (.tmp 23) = .int .i64 ((h : Nat) : Int) := hun 23 (by kernel_rfl)
            exact b_same hi hI rfl _ (run_move_op rfl e23) rfl
          · intro ac W hI hun haft hi
            have f7 : ac.eval (.tmp 165) = .slice (some ⟨g, 0, none⟩) N cap := haft ⟨7, .data⟩ (by simp) rfl _ _ rfl rfl
            have f8 : ac.eval (.tmp 166) = .int .i64 ((h : Nat) : Int) := haft ⟨8, .data⟩ (by simp) rfl _ _ rfl rfl
            exact b_same hi hI rfl _ (run_indexAddr_op rfl f7 f8 (at_EN g cap N (h) (by have := HOm.out; omega) W)) rfl
          · intro ac W hI hun haft hi
            have f9 : ac.eval (.tmp 167) = .pointer (some ⟨g, (h) * 27, none⟩) := haft ⟨9, .data⟩ (by simp) rfl _ _ rfl rfl
            exact b_same hi hI rfl _ (run_loadmid_op rfl f9 (HXY.out.2 ▸ (HT.out.below hI).range (h) (by have := HOm.out; omega)) Try.underlying39 rfl (sizeE y)) rfl
          · intro ac W hI hun haft hi
            have f0 : ac.eval (.tmp 158) = .func (.func 64) #[] #[] := haft ⟨0, .data⟩ (by simp) rfl _ _ rfl rfl
            have f6 : ac.eval (.tmp 164) = evV x := haft ⟨6, .data⟩ (by simp) rfl _ _ rfl rfl
            have f10 : ac.eval (.tmp 168) = evV y := haft ⟨10, .data⟩ (by simp) rfl _ _ rfl rfl
            refine b_call hi hI rfl _ _ (run_dyncall_op (args := #[evV x, evV y]) rfl f0 (by simp [f6, f10]) (by kernel_rfl)) ?_
            exact (byPast_any x y W).mono fun e w' H => ⟨_, H.1, rfl, H.2⟩
          · intro ac W hI hun haft hi
            have f11 : ac.eval (.tmp 169) = .int .i64 (cfP x y) := haft ⟨11, .data⟩ (by simp) rfl _ _ rfl rfl
            exact b_same hi hI rfl _ (run_bin_op rfl f11 rfl (guardI _ _ _ _ _ _ _) (lt_isS _ _ _ HL.out W)) rfl
          · intro ac W hI hun haft hi
            have f12 : ac.eval (.tmp 170) = .bool l10 := haft ⟨12, .data⟩ (by simp) rfl _ _ rfl rfl
            exact b_same hi hI rfl _ (run_not_op rfl f12) rfl
        · intro vals W hI hp
          have hl13 : vals 13 = .bool (!l10) := hp 13 (by decide)
          have HT2 := Lib.hid (HT.out.below hI)
          clear hp hI
          simp only [layN, List.size_toArray, List.length_cons, List.length_nil, List.range, List.range.loop, if_true, List.getElem?_toArray, List.getElem?_cons_zero, List.getElem?_cons_succ, Act.put, List.setIfInBounds_toArray, List.set_cons_zero, List.set_cons_succ, Nat.zero_add, Nat.reduceAdd, hl13]
          clear hl13
          have HLt := Lib.hid (show ltOf cfP d0[mid + m - 1 - h]! d0[h]! = l10 by rw [HP.out]; have e := HXY.out; rw [e.1, e.2]; exact HL.out)
          cases l10
          case false =>
            as_aux_lemma =>
            go_wp2_with (first
                | (refine wpList_val (o := ⟨some 173, _, _, _, _, _⟩) rfl (.int .i64 ((h + 1 : Nat) : Int)) _ (run_bin_op rfl rfl rfl (guardI _ _ _ _ _ _ _) (add_n (h) (1) (by have := HOm.out; omega) _)) ?_)
                | fail)
            go_roundw
            case rel => exact ⟨h + 1, r, rfl, rfl, by have := HOm.out; omega, by have := HOm.out; omega, by have := HOm.out; omega, HT2.out, fun c h1 h2 => by rw [← HP.out]; exact So.cut_up cfP_ok.swo HX.out HY.out HMid.out.symm HO0.out.2.1 HO0.out.2.2.1 (by rw [HHi.out]; have := HOm.out; omega) HLt.out (by rw [HLo.out]; exact h1) (by omega), HG1.out⟩
            case measure => have := HOm.out; simp [intOf] <;> omega
          case true =>
            as_aux_lemma =>
            go_wp2_with fail
            go_roundw
            case rel => exact ⟨s, h, rfl, rfl, by have := HOm.out; omega, by have := HOm.out; omega, by have := HOm.out; omega, HT2.out, HL1.out, fun c h1 h2 => by rw [← HP.out]; exact So.cut_down cfP_ok.swo HX.out HY.out HMid.out.symm HO0.out.2.1 HO0.out.2.2.1 (by rw [HLo.out]; have := HOm.out; omega) HLt.out h1 (by rw [HHi.out]; exact h2)⟩
            case measure => have := HOm.out; simp [intOf] <;> omega
      have hrs : r = s := by omega
      subst hrs
      have hd : ¬ r < r := by omega
      have HCut := Lib.hid (show So.CutAt (ltOf cfP) a m b mid r d0 from ⟨fun c h1 h2 => by rw [HP.out]; exact HL1.out c (by rw [HLo.out] at h1; exact h1) h2, fun c h1 h2 => by rw [HP.out]; exact HG1.out c h1 (by rw [HHi.out] at h2; exact h2)⟩)
      have HS1 := Lib.hid (show (if m > mid then mid + m - b else a) ≤ r by rw [HLo.out]; exact hs)
      have HS2 := Lib.hid (show r ≤ (if m > mid then mid else m) by rw [HHi.out]; exact hr)
      have HBd := Lib.hid (So.cut_bounds HMid.out.symm HO0.out.2.1 HS1.out HS2.out)
      clear hs hsr hr hlt HL1 HG1
      obtain ⟨e, he⟩ : ∃ e, mid + m - r = e := ⟨_, rfl⟩
      have HE := Lib.hid he
      have HOe := Lib.hid (show N ≤ 100000 ∧ a < m ∧ m < b ∧ b ≤ N ∧ a < mid ∧ mid < b ∧ a ≤ r ∧ r ≤ mid ∧ r ≤ m ∧ m ≤ e ∧ mid ≤ e ∧ e ≤ b ∧ mid + m = e + r from by have := HOb.out; have := HBd.out; omega)
      clear he
      go_upto_region 39 with (first
          | (refine wpList_val (o := ⟨some 177, _, _, _, _, _⟩) rfl (.int .i64 ((e : Nat) : Int)) _ (run_bin_op rfl rfl rfl (guardI _ _ _ _ _ _ _) (sub_h (mid + m) r e HE.out (by have := HOe.out; omega) (by have := HOe.out; omega) _)) ?_)
          | fail)
      clear hd
      go_cut [185] (fun x wx => x = .bool (decide (r < m) && decide (m < e)) ∧ RowE w B g cap N d0 wx)
      case first =>
        as_aux_lemma =>
        by_cases c1 : r < m
        · have hd1 : r < m := by omega
          by_cases c2 : m < e
          · have hd2 : m < e := by omega
            have HR := Lib.hid (show (decide (r < m) && decide (m < e)) = true by rw [decide_eq_true c1, decide_eq_true c2]; rfl)
            clear c1 c2
            go_wp2_with fail
            go_meet
            case rel => exact ⟨by rw [HR.out], HT.out⟩
          · have hd2 : ¬ m < e := by omega
            have HR := Lib.hid (show (decide (r < m) && decide (m < e)) = false by rw [decide_eq_true c1, decide_eq_false c2]; rfl)
            clear c1 c2
            go_wp2_with fail
            go_meet
            case rel => exact ⟨by rw [HR.out], HT.out⟩
        · have hd1 : ¬ r < m := by omega
          have HR := Lib.hid (show (decide (r < m) && decide (m < e)) = false by rw [decide_eq_false c1]; rfl)
          clear c1
          go_wp2_with fail
          go_meet
          case rel => exact ⟨by rw [HR.out], HT.out⟩
      case rest =>
        as_aux_lemma =>
        obtain ⟨rfl, hrow⟩ := hcut
        have HTa := Lib.hid hrow
        generalize wc = wa at *
        clear hrow HT
        obtain ⟨q39, hq39⟩ : ∃ q, (decide (r < m) && decide (m < e)) = q := ⟨_, rfl⟩
        have HQ39 := Lib.hid hq39
        rw [hq39]
        clear hq39
        go_upto_if 185 with fail
        go_cut [24] (fun x wx => x = .int .i64 (e : Nat) ∧ ∃ d1, RowE w B g cap N d1 wx ∧ So.RotD r m e d0 d1)
        case first =>
          as_aux_lemma =>
          cases q39
          case true =>
            as_aux_lemma =>
            have HR := Lib.hid (show r < m ∧ m < e by have := HQ39.out; rw [Bool.and_eq_true, decide_eq_true_eq, decide_eq_true_eq] at this; exact this)
            go_wp2_with fail
            refine (rotate_any r m e N B g cap d0 _ wa HTa.out.1 HTa.out.2.1 HOe.out.1 HR.out.1 HR.out.2 (by have := HOe.out; omega)).mono ?_
            rintro e2 w2 ⟨rfl, d1, hr1, hrot⟩
            have HR1 := Lib.hid (HTa.out.then hr1)
            have HRot := Lib.hid hrot
            clear hr1 hrot
            go_wp2
            go_meet
            case rel => exact ⟨rfl, d1, HR1.out, HRot.out⟩
          case false =>
            as_aux_lemma =>
            have HRot := Lib.hid (show So.RotD r m e d0 d0 from So.rot_none d0 (by
              have := HQ39.out
              rw [Bool.and_eq_false_iff, decide_eq_false_iff_not, decide_eq_false_iff_not] at this
              have := HOe.out
              omega) (by have := HOe.out; omega) (by have := HOe.out; omega))
            go_wp2_with fail
            go_meet
            case rel => exact ⟨rfl, d0, HTa.out, HRot.out⟩
        case rest =>
          as_aux_lemma =>
          obtain ⟨rfl, d1, hrow, hrot⟩ := hcut
          have HTb := Lib.hid hrow
          have HRot := Lib.hid hrot
          generalize wc = wb at *
          clear hrow hrot HTa
          have HTu := Lib.hid (So.cut_turned cfP_ok.swo HX.out HY.out HMid.out.symm HO0.out.2.1 HO0.out.2.2.1 HS1.out HS2.out HCut.out (by rw [HE.out]; exact HRot.out))
          rw [HE.out] at HTu
          go_upto_region 41 with fail
          go_cut [199] (fun x wx => x = .bool (decide (a < r) && decide (r < mid)) ∧ RowE w B g cap N d1 wx)
          case first =>
            as_aux_lemma =>
            by_cases c1 : a < r
            · have hd1 : a < r := by omega
              by_cases c2 : r < mid
              · have hd2 : r < mid := by omega
                have HR := Lib.hid (show (decide (a < r) && decide (r < mid)) = true by rw [decide_eq_true c1, decide_eq_true c2]; rfl)
                clear c1 c2
                go_wp2_with fail
                go_meet
                case rel => exact ⟨by rw [HR.out], HTb.out⟩
              · have hd2 : ¬ r < mid := by omega
                have HR := Lib.hid (show (decide (a < r) && decide (r < mid)) = false by rw [decide_eq_true c1, decide_eq_false c2]; rfl)
                clear c1 c2
                go_wp2_with fail
                go_meet
                case rel => exact ⟨by rw [HR.out], HTb.out⟩
            · have hd1 : ¬ a < r := by omega
              have HR := Lib.hid (show (decide (a < r) && decide (r < mid)) = false by rw [decide_eq_false c1]; rfl)
              clear c1
              go_wp2_with fail
              go_meet
              case rel => exact ⟨by rw [HR.out], HTb.out⟩
          case rest =>
            as_aux_lemma =>
            obtain ⟨rfl, hrow⟩ := hcut
            have HTc := Lib.hid hrow
            generalize wc = wc1 at *
            clear hrow HTb
            obtain ⟨q41, hq41⟩ : ∃ q, (decide (a < r) && decide (r < mid)) = q := ⟨_, rfl⟩
            have HQ41 := Lib.hid hq41
            rw [hq41]
            clear hq41
            go_upto_if 199 with fail
            go_cut [24] (fun x wx => x = .int .i64 (e : Nat) ∧ ∃ d2, RowE w B g cap N d2 wx ∧ PermIn a mid d1 d2 ∧ SortedIn (ltOf cfP) a mid d2)
            case first =>
              as_aux_lemma =>
              cases q41
              case true =>
                as_aux_lemma =>
                have HR := Lib.hid (show a < r ∧ r < mid by have := HQ41.out; rw [Bool.and_eq_true, decide_eq_true_eq, decide_eq_true_eq] at this; exact this)
                go_wp2_with fail
                refine Calls.mono (IH.out a r mid d1 wc1 (by have := HOe.out; omega) HR.out.1 HR.out.2 (by have := HOe.out; omega) HTu.out.1 HTu.out.2.1 HTc.out) ?_
                rintro e2 w2 ⟨rfl, d2, hr2, hp2, hs2⟩
                have HR2 := Lib.hid (HTc.out.then hr2)
                have HP2 := Lib.hid (And.intro hp2 hs2)
                clear hr2 hp2 hs2
                go_wp2
                go_meet
                case rel => exact ⟨rfl, d2, HR2.out, HP2.out⟩
              case false =>
                as_aux_lemma =>
                have HSo := Lib.hid (show SortedIn (ltOf cfP) a mid d1 from by
                  have h1 := HQ41.out
                  rw [Bool.and_eq_false_iff, decide_eq_false_iff_not, decide_eq_false_iff_not] at h1
                  have h2 := HOe.out
                  by_cases h3 : a < r
                  · have e1 : r = mid := by omega
                    have := HTu.out.1
                    rwa [e1] at this
                  · have e1 : r = a := by omega
                    have := HTu.out.2.1
                    rwa [e1] at this)
                go_wp2_with fail
                go_meet
                case rel => exact ⟨rfl, d1, HTc.out, permIn_refl d1 a mid, HSo.out⟩
            case rest =>
              as_aux_lemma =>
              obtain ⟨rfl, d2, hrow, hp2, hs2⟩ := hcut
              have HTd := Lib.hid hrow
              have HP2 := Lib.hid hp2
              have HS2s := Lib.hid hs2
              generalize wc = wd at *
              clear hrow hp2 hs2 HTc
              have HS3 := Lib.hid (So.sorted_same HTu.out.2.2.1 fun k h1 h2 => HP2.out.2.1 k (.inr h1))
              have HS4 := Lib.hid (So.sorted_same HTu.out.2.2.2.1 fun k h1 h2 => HP2.out.2.1 k (.inr (by have := HOe.out; omega)))
              have HFin := Lib.hid (fun (d3 : Array Ev) (hp : PermIn mid b d2 d3) (hs : SortedIn (ltOf cfP) mid b d3) => show PermIn a b d0 d3 ∧ SortedIn (ltOf cfP) a b d3 from by
                have hsz := HRot.out.size
                obtain ⟨k1, k2⟩ := So.halves (a := a) (b := b) (mid := mid) (by rw [hsz, HN.out]; have := HOe.out; omega) (by have := HOe.out; omega) (by have := HOe.out; omega) HTu.out.2.2.2.2 HP2.out HS2s.out hp hs
                exact ⟨permIn_trans _ _ _ a b (permIn_mono _ _ r e a b (by have := HOe.out; omega) (by have := HOe.out; omega) (by rw [HN.out]; have := HOe.out; omega) HRot.out.perm) k2, k1⟩)
              by_cases c1 : mid < e
              · have hd1 : mid < e := by omega
                by_cases c2 : e < b
                · have hd2 : e < b := by omega
                  have HR := Lib.hid (And.intro c1 c2)
                  clear c1 c2
                  go_wp2_with fail
                  refine Calls.mono (IH.out mid e b d2 wd (by have := HOe.out; omega) HR.out.1 HR.out.2 (by have := HOe.out; omega) HS3.out HS4.out HTd.out) ?_
                  rintro e2 w2 ⟨rfl, d3, hr3, hp3, hs3⟩
                  have HR3 := Lib.hid (HTd.out.then hr3)
                  have HF := Lib.hid (HFin.out d3 hp3 hs3)
                  clear hr3 hp3 hs3
                  go_wp2
                  go_end0
                  exact ⟨rfl, d3, HR3.out, HF.out⟩
                · have hd2 : ¬ e < b := by omega
                  have HF := Lib.hid (HFin.out d2 (permIn_refl d2 mid b) (by
                    have h2 := HOe.out
                    have e1 : e = b := by omega
                    have := HS3.out
                    rwa [e1] at this))
                  clear c1 c2
                  go_wp2_with fail
                  go_end0
                  exact ⟨rfl, d2, HTd.out, HF.out⟩
              · have hd1 : ¬ mid < e := by omega
                have HF := Lib.hid (HFin.out d2 (permIn_refl d2 mid b) (by
                  have h2 := HOe.out
                  have e1 : e = mid := by omega
                  have := HS4.out
                  rwa [e1] at this))
                clear c1
                go_wp2_with fail
                go_end0
                exact ⟨rfl, d2, HTd.out, HF.out⟩

theorem merge_any : ∀ (n a m b N B g cap : Nat) (d0 : Array Ev) (w : World), b - a ≤ n → RowE w B g cap N d0 w → N ≤ 100000 → a < m → m < b → b ≤ N → SortedIn (ltOf cfP) a m d0 → SortedIn (ltOf cfP) m b d0 → Merges B g cap N a m b d0 w
  | 0, a, m, b, N, B, g, cap, d0, w, hn, _, _, h1, h2, _, _, _ => by omega
  | n + 1, a, m, b, N, B, g, cap, d0, w, hn, hr, hN, h1, h2, h3, hX, hY => by
    by_cases c1 : m = a + 1
    · exact merge_one a m b N B g cap d0 w hr.1 hr.2.1 hN h1 h2 h3 hX hY c1
    · by_cases c2 : b = m + 1
      · exact merge_last a m b N B g cap d0 w hr.1 hr.2.1 hN h1 h2 h3 hX hY c1 c2
      · exact merge_halves a m b N B g cap d0 w hr.1 hr.2.1 hN h1 h2 h3 hX hY c1 c2 fun a' m' b' d' w' q1 q2 q3 q4 q5 q6 q7 => merge_any n a' m' b' N B g cap d' w' (by omega) q7.again hN q2 q3 q4 q5 q6

end Go.Proofs.Ytmhechlfpaciiaa
