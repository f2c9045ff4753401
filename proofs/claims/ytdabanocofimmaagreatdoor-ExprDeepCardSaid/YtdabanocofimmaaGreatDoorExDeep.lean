/-
  hedgerowlaw19.ExprDeep answers true: by walks, one for NOTs and one for brackets. Conditions: the world holds the library's tables (WOk) and what stands between sides.
-/
import Derived.Test.YtdabanocofimmaaGreatDoorJLxRefF
namespace Go.Proofs.YtdabanocofimmaaGreatDoor
open Go.RowKit
set_option linter.unusedSimpArgs false

theorem dp_rem (m d r : Nat) (e : m % d = r) (hd : 0 < d) (hd2 : d < 256) (_hm : m ≤ 255) (w : World) : (binOp .rem 5 (.int .u8 (m : Nat)) (.int .u8 (d : Nat))).run Tryz.prog w = .ok (.int .u8 (r : Nat)) w := by
  have h1 : ((m : Nat) : Int).tmod ((d : Nat) : Int) = (r : Nat) := by rw [← e]; rfl
  have h2 : ((d : Nat) : Int) ≠ 0 := by omega
  have h5 : ¬ d = 0 := by omega
  have h3 : r < d := by rw [← e]; exact Nat.mod_lt _ hd
  have h4 : IntKind.u8.wrap ((r : Nat) : Int) = (r : Nat) := by rw [IntKind.wrap_u8']; omega
  clear e
  go_simp
theorem dp_conv (r : Nat) (h : r ≤ 255) (w : World) : (convert 5 3 (.int .u8 (r : Nat))).run Tryz.prog w = .ok (.int .i64 (r : Nat)) w := by
  have h4 : IntKind.i64.wrap ((r : Nat) : Int) = (r : Nat) := IntWalk.i64_in _ (by omega)
  go_simp
theorem dp_add (a b h : Nat) (e : a + b = h) (hh : h ≤ 1000000) (w : World) : (binOp .add 3 (.int .i64 (a : Nat)) (.int .i64 (b : Nat))).run Tryz.prog w = .ok (.int .i64 (h : Nat)) w := by
  have h4 : IntKind.i64.wrap (((a : Nat) : Int) + ((b : Nat) : Int)) = (h : Nat) := by rw [IntWalk.i64_in _ (by omega)]; omega
  clear e
  go_simp
theorem dp_guard (o : BinOp) (t : TypeId) (x y : Operand) (k k' : IntKind) (a b : Int) (w : World) : (eqGuard o t x y (.int k a) (.int k' b)).run Tryz.prog w = .ok () w := by
  unfold eqGuard
  cases o <;> rfl
theorem dp_safe (k : Nat) (q : Bool) : TkSm (deepT k q) := deepT_safe k q _ (by decide) (by decide) (by decide) (by decide)

set_option maxRecDepth 100000 in
set_option maxHeartbeats 6000000 in
theorem deep_t (m : Nat) (hm : m ≤ 255) (w : World) (hw : WOk w) (hB : BetwIs w) : Calls Tryz.prog 5 #[.int .u8 (m : Nat), .bool true] w (Gives w (.bool true)) := by
  obtain ⟨r, hr⟩ : ∃ r, m % 60 = r := ⟨_, rfl⟩
  have hr3 : r < 60 := by omega
  obtain ⟨k, hn⟩ : ∃ k, 40 + r = k := ⟨_, rfl⟩
  have HMm := Lib.hid (And.intro hm hr)
  have HM := Lib.hid (And.intro hr hr3)
  have HK := Lib.hid (And.intro hn hr3)
  have HF := Lib.hid (xfixed_any w hw hB)
  have HW := Lib.hid (fun W (hb : Below w.heap.size w W) => (show WOk W ∧ BetwIs W from ⟨hw.below hb, hB.same hb.size (hb.block _ hB.1)⟩))
  clear hm hr hn hr3 hw hB
  go_enter Tryz.func5, Tryz.ntmps5
  go_wp2_with fail
  refine HF.out.mono ?_
  rintro _ w1 ⟨rfl, hb1⟩
  have HB1 := Lib.hid hb1
  clear hb1
  go_wp2_with (first
    | (refine wpList_val (o := ⟨some 14, _, _, _, _, _⟩) rfl (.int .u8 (r : Nat)) w1 (run_bin_op rfl rfl rfl (dp_guard _ _ _ _ _ _ _ _ _) (dp_rem m 60 r HMm.out.2 (by omega) (by omega) HMm.out.1 _)) ?_)
    | (refine wpList_val (o := ⟨some 15, _, _, _, _, _⟩) rfl (.int .i64 (r : Nat)) w1 (run_convert_op rfl rfl (dp_conv r (by have := HK.out; omega) _)) ?_)
    | (refine wpList_val (o := ⟨some 16, _, _, _, _, _⟩) rfl (.int .i64 (k : Nat)) w1 (run_bin_op rfl rfl rfl (dp_guard _ _ _ _ _ _ _ _ _) (dp_add 40 r k HK.out.1 (by have := HK.out; omega) _)) ?_)
    | fail)
  go_loopw [6, 18] (fun v6 vj wr => ∃ j : Nat, vj = .int .i64 (j : Nat) ∧ j ≤ k ∧ OwnK encT w.heap.size 43 3 wr v6 (List.replicate j nNOT) ∧ Below w.heap.size w wr) (fun _ vj _ => k - (intOf vj).toNat)
  case atStart => exact ⟨0, rfl, Nat.zero_le _, OwnK.nil_ _ _ _ _ _, HB1.out⟩
  case round =>
    obtain ⟨j, rfl, hj, ho, hb⟩ := hrel
    have HO := Lib.hid ho
    have HB := Lib.hid hb
    clear ho hb
    by_cases hlt : j < k
    · obtain ⟨j1, hj1⟩ : ∃ j1, j + 1 = j1 := ⟨_, rfl⟩
      have HJ := Lib.hid (And.intro hj1 hlt)
      have hw1 : wrap64 ((j : Int) + 1) = (j1 : Int) := by have := HK.out; rw [IntWalk.wrap64_in _ ⟨by omega, by omega⟩]; omega
      have hkn : (j : Int) < (k : Int) := by omega
      obtain ⟨v', w3, hr3, ho3, hb3⟩ := append_one w.heap.size wr _ _ nNOT HO.out (by have := HK.out; simp only [List.length_append, List.length_replicate, List.length_singleton, List.length_cons, List.length_nil]; omega) HB.out.size
      rw [show tkC nNOT = #[.int .i64 2, .int .i64 0, .string ⟨#[78, 79, 84]⟩] from rfl] at hr3
      have HR3 := Lib.hid hr3
      have HO3 := Lib.hid ho3
      have HB3 := Lib.hid (HB.out.trans hb3)
      clear hr3 ho3 hb3 hj hj1 hlt
      go_wp2_with (first
        | (refine wpList_build (o := ⟨some 22, _, _, _, _, _⟩) rfl _ _ rfl rfl ?_)
        | (at_builtin; refine Lib.wpList_append_run (o := ⟨some 24, _, _, _, _, _⟩) _ rfl _ _ _ _ rfl _ _ rfl rfl _ _ HR3.out ?_)
        | fail)
      go_roundw
      case rel =>
        refine ⟨j1, by first | rfl | rw [hw1], by have := HJ.out; omega, ?_, HB3.out⟩
        have h := HO3.out
        rwa [← List.replicate_succ', HJ.out.1] at h
      case measure =>
        have := HJ.out
        (try rw [hw1])
        show k - (intOf (.int .i64 _)).toNat < k - (intOf (.int .i64 _)).toNat
        simp only [intOf, Int.toNat_natCast]
        omega
    · have hkj : j = k := by omega
      subst hkj
      have hkn : ¬ (j : Int) < (j : Int) := by omega
      clear hj hlt
      obtain ⟨v5, w5, hr5, ho5, hb5⟩ := append_one w.heap.size _ _ _ nNULL HO.out (by have := HK.out; simp only [List.length_append, List.length_replicate, List.length_singleton, List.length_cons, List.length_nil]; omega) HB.out.size
      rw [show tkC nNULL = #[.int .i64 2, .int .i64 0, .string ⟨#[78, 85, 76, 76]⟩] from rfl] at hr5
      have HR5 := Lib.hid hr5
      have HO5 := Lib.hid ho5
      have HB5 := Lib.hid (HB.out.trans hb5)
      clear hr5 ho5 hb5 hkn
      go_wp2_with (first
        | (refine wpList_build (o := ⟨some 31, _, _, _, _, _⟩) rfl _ _ rfl rfl ?_)
        | (at_builtin; refine Lib.wpList_append_run (o := ⟨some 33, _, _, _, _, _⟩) _ rfl _ _ _ _ rfl _ _ rfl rfl _ _ HR5.out ?_)
        | fail)
      obtain ⟨L, hL⟩ : ∃ L, deepT j true = L := ⟨_, rfl⟩
      have ho9 := HO5.out
      rw [show List.replicate j nNOT ++ [nNULL] = L from by rw [← hL, deepT_not]] at ho9
      obtain ⟨A9, c9, rfl⟩ := ownk_form ho9
      have HP := Lib.hid (xparse_any (HW.out _ HB5.out).1 (HW.out _ HB5.out).2 (ho9.read encT_len3) ho9.lo (⟨none, 0, rfl, Nat.le_refl _, fun h => absurd rfl h⟩ : SlK encX 8 _ (.slice none 0 0) []) (by rw [← hL]; exact dp_safe j true) (by rw [← hL, deepT_len]; have := HK.out; simp only [List.length_nil, reduceCtorEq, if_false, if_true]; omega))
      obtain ⟨n, hn⟩ : ∃ n, L.length = n := ⟨_, rfl⟩
      rw [hn] at HP ⊢
      have HN := Lib.hid hn
      have HL := Lib.hid hL
      clear ho9 hn hL
      go_wp2_with fail
      refine HP.out.mono ?_
      rintro _ w9 ⟨u, rfl, hp, hb9⟩
      have HB9 := Lib.hid (HB5.out.trans (hb9.mono HB5.out.size))
      unfold ParseR at hp
      rw [← HL.out] at hp
      clear hb9
      by_cases h64 : 64 < j
      · have hd := deep_no r true HM.out.2 (by have := HK.out; omega)
        rw [show r + 40 = j by have := HK.out; omega] at hd
        rw [hd] at hp
        obtain ⟨rfl, _⟩ := hp
        have hgt : (64 : Int) < (j : Int) := by omega
        clear h64 hd
        go_wp2_with fail
        go_ret
        exact ⟨rfl, HB9.out⟩
      · obtain ⟨p, row, hd⟩ := deep_ok r true HM.out.2 (by have := HK.out; omega)
        rw [show r + 40 = j by have := HK.out; omega] at hd
        rw [hd] at hp
        obtain ⟨v, rfl, _, _⟩ := hp
        have hgt : ¬ (64 : Int) < (j : Int) := by omega
        rw [show (((deepT j true).length - ([] : List Lx.Tk).length : Nat) : Int) = (n : Int) by rw [HL.out, HN.out]; rfl]
        clear h64 hd
        go_wp2_with fail
        go_ret
        exact ⟨rfl, HB9.out⟩

set_option maxRecDepth 100000 in
set_option maxHeartbeats 6000000 in
theorem deep_f (m : Nat) (hm : m ≤ 255) (w : World) (hw : WOk w) (hB : BetwIs w) : Calls Tryz.prog 5 #[.int .u8 (m : Nat), .bool false] w (Gives w (.bool true)) := by
  obtain ⟨r, hr⟩ : ∃ r, m % 60 = r := ⟨_, rfl⟩
  have hr3 : r < 60 := by omega
  obtain ⟨k, hn⟩ : ∃ k, 40 + r = k := ⟨_, rfl⟩
  have HMm := Lib.hid (And.intro hm hr)
  have HM := Lib.hid (And.intro hr hr3)
  have HK := Lib.hid (And.intro hn hr3)
  have HF := Lib.hid (xfixed_any w hw hB)
  have HW := Lib.hid (fun W (hb : Below w.heap.size w W) => (show WOk W ∧ BetwIs W from ⟨hw.below hb, hB.same hb.size (hb.block _ hB.1)⟩))
  clear hm hr hn hr3 hw hB
  go_enter Tryz.func5, Tryz.ntmps5
  go_wp2_with fail
  refine HF.out.mono ?_
  rintro _ w1 ⟨rfl, hb1⟩
  have HB1 := Lib.hid hb1
  clear hb1
  go_wp2_with (first
    | (refine wpList_val (o := ⟨some 14, _, _, _, _, _⟩) rfl (.int .u8 (r : Nat)) w1 (run_bin_op rfl rfl rfl (dp_guard _ _ _ _ _ _ _ _ _) (dp_rem m 60 r HMm.out.2 (by omega) (by omega) HMm.out.1 _)) ?_)
    | (refine wpList_val (o := ⟨some 15, _, _, _, _, _⟩) rfl (.int .i64 (r : Nat)) w1 (run_convert_op rfl rfl (dp_conv r (by have := HK.out; omega) _)) ?_)
    | (refine wpList_val (o := ⟨some 16, _, _, _, _, _⟩) rfl (.int .i64 (k : Nat)) w1 (run_bin_op rfl rfl rfl (dp_guard _ _ _ _ _ _ _ _ _) (dp_add 40 r k HK.out.1 (by have := HK.out; omega) _)) ?_)
    | fail)
  go_loopw [6, 18] (fun v6 vj wr => ∃ j : Nat, vj = .int .i64 (j : Nat) ∧ j ≤ k ∧ OwnK encT w.heap.size 43 3 wr v6 (List.replicate j nOP) ∧ Below w.heap.size w wr) (fun _ vj _ => k - (intOf vj).toNat)
  case atStart => exact ⟨0, rfl, Nat.zero_le _, OwnK.nil_ _ _ _ _ _, HB1.out⟩
  case round =>
    obtain ⟨j, rfl, hj, ho, hb⟩ := hrel
    have HO := Lib.hid ho
    have HB := Lib.hid hb
    clear ho hb
    by_cases hlt : j < k
    · obtain ⟨j1, hj1⟩ : ∃ j1, j + 1 = j1 := ⟨_, rfl⟩
      have HJ := Lib.hid (And.intro hj1 hlt)
      have hw1 : wrap64 ((j : Int) + 1) = (j1 : Int) := by have := HK.out; rw [IntWalk.wrap64_in _ ⟨by omega, by omega⟩]; omega
      have hkn : (j : Int) < (k : Int) := by omega
      obtain ⟨v', w3, hr3, ho3, hb3⟩ := append_one w.heap.size wr _ _ nOP HO.out (by have := HK.out; simp only [List.length_append, List.length_replicate, List.length_singleton, List.length_cons, List.length_nil]; omega) HB.out.size
      rw [show tkC nOP = #[.int .i64 5, .int .i64 0, .string ⟨#[40]⟩] from rfl] at hr3
      have HR3 := Lib.hid hr3
      have HO3 := Lib.hid ho3
      have HB3 := Lib.hid (HB.out.trans hb3)
      clear hr3 ho3 hb3 hj hj1 hlt
      go_wp2_with (first
        | (refine wpList_build (o := ⟨some 26, _, _, _, _, _⟩) rfl _ _ rfl rfl ?_)
        | (at_builtin; refine Lib.wpList_append_run (o := ⟨some 28, _, _, _, _, _⟩) _ rfl _ _ _ _ rfl _ _ rfl rfl _ _ HR3.out ?_)
        | fail)
      go_roundw
      case rel =>
        refine ⟨j1, by first | rfl | rw [hw1], by have := HJ.out; omega, ?_, HB3.out⟩
        have h := HO3.out
        rwa [← List.replicate_succ', HJ.out.1] at h
      case measure =>
        have := HJ.out
        (try rw [hw1])
        show k - (intOf (.int .i64 _)).toNat < k - (intOf (.int .i64 _)).toNat
        simp only [intOf, Int.toNat_natCast]
        omega
    · have hkj : j = k := by omega
      subst hkj
      have hkn : ¬ (j : Int) < (j : Int) := by omega
      clear hj hlt
      obtain ⟨v5, w5, hr5, ho5, hb5⟩ := append_one w.heap.size _ _ _ nNULL HO.out (by have := HK.out; simp only [List.length_append, List.length_replicate, List.length_singleton, List.length_cons, List.length_nil]; omega) HB.out.size
      rw [show tkC nNULL = #[.int .i64 2, .int .i64 0, .string ⟨#[78, 85, 76, 76]⟩] from rfl] at hr5
      have HR5 := Lib.hid hr5
      have HO5 := Lib.hid ho5
      have HB5 := Lib.hid (HB.out.trans hb5)
      clear hr5 ho5 hb5 hkn
      go_wp2_with (first
        | (refine wpList_build (o := ⟨some 31, _, _, _, _, _⟩) rfl _ _ rfl rfl ?_)
        | (at_builtin; refine Lib.wpList_append_run (o := ⟨some 33, _, _, _, _, _⟩) _ rfl _ _ _ _ rfl _ _ rfl rfl _ _ HR5.out ?_)
        | fail)
      obtain ⟨k, hjk⟩ : ∃ k, k = j := ⟨_, rfl⟩
      subst hjk
      go_loopw [6, 37] (fun v6 vj wr => ∃ j : Nat, vj = .int .i64 (j : Nat) ∧ j ≤ k ∧ OwnK encT w.heap.size 43 3 wr v6 (List.replicate k nOP ++ [nNULL] ++ List.replicate j nSH) ∧ Below w.heap.size w wr) (fun _ vj _ => k - (intOf vj).toNat)
      case atStart => exact ⟨0, rfl, Nat.zero_le _, by rw [List.replicate_zero, List.append_nil]; exact HO5.out, HB5.out⟩
      case round =>
        obtain ⟨j, rfl, hj, ho, hb⟩ := hrel
        have HO := Lib.hid ho
        have HB := Lib.hid hb
        clear ho hb
        by_cases hlt : j < k
        · obtain ⟨j1, hj1⟩ : ∃ j1, j + 1 = j1 := ⟨_, rfl⟩
          have HJ := Lib.hid (And.intro hj1 hlt)
          have hw1 : wrap64 ((j : Int) + 1) = (j1 : Int) := by have := HK.out; rw [IntWalk.wrap64_in _ ⟨by omega, by omega⟩]; omega
          have hkn : (j : Int) < (k : Int) := by omega
          obtain ⟨v', w3, hr3, ho3, hb3⟩ := append_one w.heap.size wr _ _ nSH HO.out (by have := HK.out; simp only [List.length_append, List.length_replicate, List.length_singleton, List.length_cons, List.length_nil]; omega) HB.out.size
          rw [show tkC nSH = #[.int .i64 5, .int .i64 0, .string ⟨#[41]⟩] from rfl] at hr3
          have HR3 := Lib.hid hr3
          have HO3 := Lib.hid ho3
          have HB3 := Lib.hid (HB.out.trans hb3)
          clear hr3 ho3 hb3 hj hj1 hlt
          go_wp2_with (first
            | (refine wpList_build (o := ⟨some 40, _, _, _, _, _⟩) rfl _ _ rfl rfl ?_)
            | (at_builtin; refine Lib.wpList_append_run (o := ⟨some 42, _, _, _, _, _⟩) _ rfl _ _ _ _ rfl _ _ rfl rfl _ _ HR3.out ?_)
            | fail)
          go_roundw
          case rel =>
            refine ⟨j1, by first | rfl | rw [hw1], by have := HJ.out; omega, ?_, HB3.out⟩
            have h := HO3.out
            rwa [List.append_assoc, ← List.replicate_succ', HJ.out.1] at h
          case measure =>
            have := HJ.out
            (try rw [hw1])
            show k - (intOf (.int .i64 _)).toNat < k - (intOf (.int .i64 _)).toNat
            simp only [intOf, Int.toNat_natCast]
            omega
        · have hkj : j = k := by omega
          subst hkj
          have hkn : ¬ (j : Int) < (j : Int) := by omega
          clear hj hlt
          obtain ⟨L, hL⟩ : ∃ L, deepT j false = L := ⟨_, rfl⟩
          have ho9 := HO.out
          rw [show List.replicate j nOP ++ [nNULL] ++ List.replicate j nSH = L from by rw [← hL, deepT_br]] at ho9
          obtain ⟨A9, c9, rfl⟩ := ownk_form ho9
          have HP := Lib.hid (xparse_any (HW.out _ HB.out).1 (HW.out _ HB.out).2 (ho9.read encT_len3) ho9.lo (⟨none, 0, rfl, Nat.le_refl _, fun h => absurd rfl h⟩ : SlK encX 8 _ (.slice none 0 0) []) (by rw [← hL]; exact dp_safe j false) (by rw [← hL, deepT_len]; have := HK.out; simp only [List.length_nil, reduceCtorEq, if_false, if_true]; omega))
          obtain ⟨n, hn⟩ : ∃ n, L.length = n := ⟨_, rfl⟩
          rw [hn] at HP ⊢
          have HN := Lib.hid hn
          have HL := Lib.hid hL
          clear ho9 hn hL hkn
          go_wp2_with fail
          refine HP.out.mono ?_
          rintro _ w9 ⟨u, rfl, hp, hb9⟩
          have HB9 := Lib.hid (HB.out.trans (hb9.mono HB.out.size))
          unfold ParseR at hp
          rw [← HL.out] at hp
          clear hb9
          by_cases h64 : 64 < j
          · have hd := deep_no r false HM.out.2 (by have := HK.out; omega)
            rw [show r + 40 = j by have := HK.out; omega] at hd
            rw [hd] at hp
            obtain ⟨rfl, _⟩ := hp
            have hgt : (64 : Int) < (j : Int) := by omega
            clear h64 hd
            go_wp2_with fail
            go_ret
            exact ⟨rfl, HB9.out⟩
          · obtain ⟨p, row, hd⟩ := deep_ok r false HM.out.2 (by have := HK.out; omega)
            rw [show r + 40 = j by have := HK.out; omega] at hd
            rw [hd] at hp
            obtain ⟨v, rfl, _, _⟩ := hp
            have hgt : ¬ (64 : Int) < (j : Int) := by omega
            rw [show (((deepT j false).length - ([] : List Lx.Tk).length : Nat) : Int) = (n : Int) by rw [HL.out, HN.out]; rfl]
            clear h64 hd
            go_wp2_with fail
            go_ret
            exact ⟨rfl, HB9.out⟩

theorem exprdeep_walk (m : Nat) (hm : m ≤ 255) (q : Bool) (w : World) (hw : WOk w) (hB : BetwIs w) : Calls Tryz.prog 5 #[.int .u8 (m : Nat), .bool q] w (Gives w (.bool true)) := by
  cases q
  · exact deep_f m hm w hw hB
  · exact deep_t m hm w hw hB

end Go.Proofs.YtdabanocofimmaaGreatDoor
