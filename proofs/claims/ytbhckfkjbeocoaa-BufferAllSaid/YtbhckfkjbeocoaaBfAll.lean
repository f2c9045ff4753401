/-
  BufferAll: true for every input, by a walk (written by genbf2.py). Conditions: none.
-/
import Derived.Test.YtbhckfkjbeocoaaBfFixed
namespace Go.Proofs.Ytbhckfkjbeocoaa
open Go.RowKit

theorem neq_guard (x y : Ev) (w : World) {o p : Operand} : (eqGuard .neq 35 o p (.agg (evC x)) (.agg (evC y))).run Try.prog w = .ok () w := run_eqGuard_agg _ _ _ _ _ _ _ (by kernel_rfl)
theorem run_eqi13 {a b : Nat} (h : a = b) (w : World) : (binOp .eql 3 (.int .i64 a) (.int .i64 b)).run Try.prog w = .ok (.bool true) w := by subst h; go_simp
theorem eqV_top (w : World) : (binOp .eql 27 (.agg (vA topF)) (.agg (vA topF))).run Try.prog w = .ok (.bool true) w := by rw [run_eqV, eqV_self]
theorem knows13_is (f : Nat → Int) (r c : Int) (b : Bool) (h : knowsL f r c = b) (w : World) : Calls Try.prog 7 #[.agg (vA f), .agg #[.int .i64 r, .int .i64 c]] w fun e w' => e = .returned (.bool b) ∧ Below w.heap.size w w' := by
  subst h; exact knows13_any f r c w
theorem take_next {α : Type} {l : List α} {j : Nat} {e : α} (h : l[j]? = some e) : l.take j ++ [e] = l.take (j + 1) := by
  rw [List.take_add_one, h]; rfl
theorem ack_left {k m : Nat} (hk : 2 ≤ k) (hk2 : k ≤ 16) (hm : m < k) (l : List Ev) : lackL (stF k 0 (ackM (m + 1)) 16) l = if m + 1 < k then l else lackL topF l := by
  by_cases h : m + 1 < k
  · rw [stable_part hk hk2 h, lack_zero, if_pos h]
  · have e : m + 1 = k := by omega
    rw [e, stable_all hk hk2, if_neg (by omega)]

set_option maxRecDepth 100000 in
set_option maxHeartbeats 16000000 in
theorem bufall_walk (n : Nat) (l : List Ev) (A : Option Addr) (N c : Nat) (w : World) (hs : SlK encE 27 w (.slice A N c) l) (hN : l.length = N) (hn : n < 256) :
    Calls Try.prog 3 #[.int .u8 n, .slice A N c] w fun x w' => x = .returned (.bool true) ∧ Below w.heap.size w w' := by
  have HZe := Lib.hid (zero_of_info zeroE).1
  have HZv := Lib.hid (zero_of_info zeroV).1
  have HS := Lib.hid hs
  have HN := Lib.hid hN
  clear hs hN
  go_enter Try.func3, Try.ntmps3
  go_wp2_with fail
  refine (fixed13_any w).mono ?_
  rintro x w1 ⟨rfl, hw1⟩
  have HS1 := Lib.hid (HS.out.below hw1)
  have HW1 := Lib.hid hw1
  have HB1 := Lib.hid hw1.size
  clear hw1 HS
  by_cases h60 : 60 < N
  · clear hn
    go_wp2
    go_ret
    exact ⟨rfl, HW1.out⟩
  · go_upto_region 6 with fail
    have hk : (2 + (n : Int) % 14) = ((2 + n % 14 : Nat) : Int) := by omega
    rw [hk]
    clear hk
    obtain ⟨k, hk⟩ : ∃ k, k = 2 + n % 14 := ⟨_, rfl⟩
    rw [← hk]
    have hk2 : 2 ≤ k ∧ k ≤ 15 := by omega
    clear hk hn
    have HK2 := Lib.hid hk2
    obtain ⟨P, hP⟩ : ∃ P, w1.heap.size = P := ⟨_, rfl⟩
    go_wp2_with fail
    refine (bnew_any k 0 w1 (by omega)).mono ?_
    rintro x w2 ⟨rfl, hb2, hw2⟩
    rw [hP] at hb2 hw2 HB1 ⊢
    have HPq := Lib.hid hP
    clear hP hk2
    obtain ⟨q, hq⟩ : ∃ q, w2.heap.size = q := ⟨_, rfl⟩
    have HPl := Lib.hid (show P < q by rw [← hq]; exact hb2.lt)
    obtain ⟨X, hX⟩ : ∃ X, X = w2.alloc (.cells (vA fun _ => 0) 27) := ⟨_, rfl⟩
    have hbX : Below w2.heap.size w2 X := by rw [hX]; exact (Below.refl _ _).alloc (Nat.le_refl _) _
    have HVX := Lib.hid (show VB X q (fun _ => 0) by rw [hX, ← hq]; exact VB.new_ _ rfl)
    have HBX := Lib.hid (hb2.keep hbX)
    have HWX := Lib.hid (show Below P w1 X from hw2.trans (hbX.mono (Nat.le_of_lt hb2.lt)))
    have HX := Lib.hid hX
    clear hb2 hw2 hbX hX
    have hz := HZv.out
    go_upto_region 8 with fail
    clear hz
    rw [← HX.out]
    first | rw [hq] | skip
    clear hq
    go_wp2_with fail
    go_loopw [8, 27] (fun _ i wr => ∃ t : Nat, t ≤ 16 ∧ i = .int .i64 t ∧ VB wr q (partV topF t) ∧ Bf wr P k 0 (fun _ _ => 0) (.slice none 0 0) ∧ Below P w1 wr) (fun _ i _ => 16 - (intOf i).toNat)
    case atStart => exact ⟨0, by omega, by first | rfl | simp, HVX.out.of_eq (fun i _ => by simp [partV]), HBX.out, HWX.out⟩
    case round =>
      obtain ⟨t, ht, rfl, hv, hb, hbl⟩ := hrel
      by_cases hlt : t < 16
      · have c1 := hv.cell_ t hlt
        have f1 := Blk.free hv t
        have HS := Lib.hid ((hv.put t (topF t)).of_eq (partV_succ topF t))
        have HT := Lib.hid (hb.same (w' := wr.setCell ⟨q, t, none⟩ (.int .i64 (topF t))) (Below.heap_setCell _ _ _ _ (by have := HPl.out; show P ≠ q; omega)))
        have HU := Lib.hid (hbl.setCell (p := ⟨q, t, none⟩) (Nat.le_of_lt HPl.out) (.int .i64 (topF t)))
        clear hv hb hbl HVX HBX HWX
        generalize partV topF t t = z at *
        go_wp2
        go_roundw
        case rel => exact ⟨t + 1, by omega, by go_num, HS.out, HT.out, HU.out⟩
        case measure => simp [intOf]; omega
      · have htt : t = 16 := by omega
        subst htt
        obtain ⟨wa, rfl⟩ : ∃ wa, wa = wr := ⟨_, rfl⟩
        have HVa := Lib.hid (hv.of_eq (partV_full topF))
        have HBa := Lib.hid (show Bf wa P k 0 (ackM 1) (.slice none 0 0) by rw [ackM_one]; exact hb)
        have HWa := Lib.hid hbl
        clear hv hb hbl hlt ht HVX HBX HWX HX
        go_wp2_with fail
        go_loopw [9, 35] (fun v9 v35 wr => ∃ j : Nat, v35 = .int .i64 j ∧ j ≤ N ∧ v9 = .int .i64 (((lackL topF (l.take j)).length : Nat) : Int) ∧ (∃ u, Bf wr P k 0 (ackM 1) u ∧ OwnK encE P 35 27 wr u (l.take j)) ∧ VB wr q topF ∧ Below P w1 wr) (fun _ v35 _ => N - (intOf v35).toNat)
        case atStart => exact ⟨0, by first | rfl | simp, Nat.zero_le _, by first | rfl | simp [lackL], ⟨_, HBa.out, OwnK.nil_ _ _ _ _ _⟩, HVa.out, HWa.out⟩
        case round =>
          obtain ⟨j, rfl, hj, rfl, ⟨u, hb, ho⟩, hv, hbw⟩ := hrel
          obtain ⟨wo, rfl⟩ : ∃ wo, wo = wr := ⟨_, rfl⟩
          clear HVa HBa HWa
          by_cases hlt : j < N
          · obtain ⟨e, he⟩ : ∃ e, l[j]? = some e := ⟨l[j]'(by rw [HN.out]; exact hlt), List.getElem?_eq_getElem _⟩
            have hSw : SlK encE 27 wo (.slice A N c) l := HS1.out.below (by rw [HPq.out]; exact hbw)
            obtain ⟨g, o, rfl, hgl, hce⟩ := hSw.ev he
            have HCe := Lib.hid hce
            have HAt := Lib.hid (at_Ev g o c N j hlt wo)
            have HNx := Lib.hid (lack_next (f := topF) he)
            have HTk := Lib.hid (take_next he)
            have HAl := Lib.hid fun c => World.setRow_alloc_new wo (evC ev0) c 35
            have HZz := Lib.hid (show Blk (wo.alloc (.cells (evC ev0) 35)) wo.heap.size 35 (evC ev0) from Blk.new _ _ _)
            obtain ⟨X, hX⟩ : ∃ X, X = wo.alloc (.cells (evC e) 35) := ⟨_, rfl⟩
            have hbX : Below wo.heap.size wo X := by rw [hX]; exact (Below.refl _ _).alloc (Nat.le_refl _) _
            have HEX := Lib.hid (show EB X wo.heap.size e by rw [hX]; exact Blk.new _ _ _)
            have hPw : P ≤ wo.heap.size := Nat.le_of_lt hb.lt
            have HPw := Lib.hid hPw
            have HPlt := Lib.hid hb.lt
            have HXe := Lib.hid hX
            have HbX := Lib.hid (hbw.trans (hbX.mono hPw))
            have HVX := Lib.hid (VB.keep hv hbX)
            have HBX := Lib.hid (hb.keep hbX)
            have HOX := Lib.hid (ho.keep hbX)
            have HLt := Lib.hid (fun g (h : u.ownBlock = some g) => (ho.lt g h).2)
            have HqX := Lib.hid (show q < X.heap.size from Nat.lt_of_lt_of_le (Blk.lt hv) hbX.size)
            have HXs := Lib.hid (show wo.heap.size < X.heap.size from Blk.lt HEX.out)
            have hlj : (l.take j).length ≤ 10000 := by simp; omega
            have HLj := Lib.hid hlj
            obtain ⟨nj, hnj⟩ : ∃ nj, (lackL topF (l.take j)).length = nj := ⟨_, rfl⟩
            have HNj := Lib.hid hnj
            have hnj2 : nj ≤ 60 := by
              have h1 : (lackL topF (l.take j)).length ≤ (l.take j).length := List.length_filter_le _ _
              have h2 : (l.take j).length ≤ j := by simp; omega
              omega
            have HNj2 := Lib.hid hnj2
            rw [hnj]
            clear hX hbX hce hgl he hPw hSw hlj hb ho hv hbw hnj hnj2
            have hz := HZe.out
            go_wp2_with (first
              | (refine wpList_val (o := ⟨some 37, _, _, _, _, _⟩) rfl (.pointer (some ⟨g, o + j * 27, none⟩)) wo (run_indexAddr_op rfl rfl rfl HAt.out) ?_)
              | (refine' wpList_load_midif ?q1 35 (.tmp 37) ?q2 g (o + j * 27) ?q3 (encE e) _ ?q4 Try.underlying35 ?q5 ?q6 ?_; (case q2 => rfl); (case q1 => rfl); (case q3 => rfl); (case q4 => exact HCe.out); (case q5 => rfl); (case q6 => exact (sizeE e)))
              | (refine wpList_store_row (o := ⟨none, _, _, _, _, _⟩) rfl 35 (.tmp 11) (.tmp 38) rfl wo.heap.size (evC e) rfl rfl _ _ HZz.out (sizeE e) rfl (by kernel_rfl) ?_; rw [HAl.out, ← HXe.out])
              | (refine' wpList_load_if ?q1 35 (.tmp 11) ?q2 wo.heap.size ?q3 _ _ _ _ ?q4 Try.underlying35 ?q5 ?q6 ?_; (case q2 => rfl); (case q1 => rfl); (case q3 => rfl); (case q4 => exact HEX.out); (case q5 => rfl); (case q6 => exact (sizeE e)))
              | fail)
            clear hz
            refine (badd_any (f := ackM 1) (l.take j) e P X HBX.out HOX.out (Nat.le_refl _) HLj.out).mono ?_
            rintro x w3 ⟨rfl, u3, hb3, ho3, hm3⟩
            rw [add_zero HK2.out.1 (by have := HK2.out.2; omega), HTk.out] at ho3
            have HB3 := Lib.hid hb3
            have HO3 := Lib.hid ho3
            have HV3 := Lib.hid (show VB w3 q topF from (hm3.block q HqX.out (by have := HPl.out; omega) (own_ne_blk HOX.out HVX.out (by decide))).trans HVX.out)
            have HE3 := Lib.hid (show EB w3 wo.heap.size e from (hm3.block _ HXs.out (by have := HPlt.out; omega) (fun h => by have := HLt.out _ h; omega)).trans HEX.out)
            have HW3 := Lib.hid (HbX.out.trans (hm3.below (Nat.le_refl _) HOX.out HBX.out.lt))
            clear hb3 ho3 hm3
            go_wp2_with (first
              | (refine' wpList_load_if ?q1 27 (.tmp 7) ?q2 q ?q3 _ _ _ _ ?q4 Try.underlying27 ?q5 ?q6 ?_; (case q2 => rfl); (case q1 => rfl); (case q3 => rfl); (case q4 => exact HV3.out); (case q5 => rfl); (case q6 => exact (sizeV _)))
              | (refine' wpList_load_midif ?q1 29 (.tmp 43) ?q2 wo.heap.size 0 ?q3 _ _ ?q4 Try.underlying29 ?q5 ?q6 ?_; (case q2 => rfl); (case q1 => rfl); (case q3 => rfl); (case q4 => exact HE3.out.dot); (case q5 => rfl); (case q6 => exact (by kernel_rfl)))
              | fail)
            have hw := IntWalk.i64_in ((j : Int) + 1) (by omega)
            have HW1' := Lib.hid hw
            clear hw
            cases hkn : knowsL topF e.r e.c
            · refine (knows13_is topF e.r e.c false hkn w3).mono ?_
              rintro x w4 ⟨rfl, hb4⟩
              have hln : (lackL topF (l.take (j + 1))).length = nj + 1 := by
                rw [HNx.out, ← knowsL_top, hkn, if_neg Bool.false_ne_true, List.length_append, HNj.out]; rfl
              have HLn := Lib.hid hln
              have HB4 := Lib.hid (HB3.out.keep hb4)
              have HO4 := Lib.hid (HO3.out.keep hb4)
              have HV4 := Lib.hid (VB.keep HV3.out hb4)
              have HW4 := Lib.hid (HW3.out.trans (hb4.mono (Nat.le_of_lt HB3.out.lt)))
              clear hkn hb4 hln
              have hnj2 := HNj2.out
              go_wp2
              go_roundw
              case rel => exact ⟨_, _, _, _, _, _, _, _, _, _, _, _, _, _, _, _, _, ⟨j + 1, by go_num, by omega, by rw [HLn.out]; go_num, ⟨_, HB4.out, HO4.out⟩, HV4.out, HW4.out⟩, rfl⟩
              case measure => simp [intOf] <;> omega
            · refine (knows13_is topF e.r e.c true hkn w3).mono ?_
              rintro x w4 ⟨rfl, hb4⟩
              have hln : (lackL topF (l.take (j + 1))).length = nj := by
                rw [HNx.out, ← knowsL_top, hkn, if_pos rfl, List.append_nil, HNj.out]
              have HLn := Lib.hid hln
              have HB4 := Lib.hid (HB3.out.keep hb4)
              have HO4 := Lib.hid (HO3.out.keep hb4)
              have HV4 := Lib.hid (VB.keep HV3.out hb4)
              have HW4 := Lib.hid (HW3.out.trans (hb4.mono (Nat.le_of_lt HB3.out.lt)))
              clear hkn hb4 hln
              go_wp2
              go_roundw
              case rel => exact ⟨_, _, _, _, _, _, _, _, _, _, _, _, _, _, _, _, _, ⟨j + 1, by go_num, by omega, by rw [HLn.out], ⟨_, HB4.out, HO4.out⟩, HV4.out, HW4.out⟩, rfl⟩
              case measure => simp [intOf] <;> omega
          · have hjN : N = j := by omega
            subst hjN
            rw [List.take_of_length_le (Nat.le_of_eq HN.out)] at ho ⊢
            obtain ⟨nl, hnl⟩ : ∃ nl, (lackL topF l).length = nl := ⟨_, rfl⟩
            rw [hnl]
            have HNl := Lib.hid hnl
            have HBo := Lib.hid hb
            have HOo := Lib.hid ho
            have HVo := Lib.hid hv
            have HWo := Lib.hid hbw
            clear hb ho hv hbw hnl hlt hj
            go_wp2_with fail
            refine (ball_any l P wo HBo.out HOo.out (by have := HN.out; omega)).mono ?_
            rintro x w4 ⟨u12, rfl, ho12, hb4⟩
            obtain ⟨A12, c12, rfl⟩ := own_form ho12
            rw [HN.out] at ho12 ⊢
            have HB4 := Lib.hid (HBo.out.keep hb4)
            have HO4 := Lib.hid (HOo.out.keep hb4)
            have HV4 := Lib.hid (VB.keep HVo.out hb4)
            have HW4 := Lib.hid (HWo.out.trans (hb4.mono (Nat.le_of_lt HBo.out.lt)))
            have HO12 := Lib.hid ho12
            clear hb4 ho12
            go_wp2_with (first
              | (refine wpList_val (o := ⟨some 53, _, _, _, _, _⟩) rfl (.agg (vA zeF)) w4 (by kernel_rfl) ?_)
              | fail)
            refine (blacks_any l P zeF (N : Int) w4 HB4.out HO4.out (by have := HN.out; omega) (by have := HN.out; omega)).mono ?_
            rintro x w5 ⟨u13, rfl, ho13, hb5⟩
            rw [lack_zero] at ho13
            obtain ⟨A13, c13, rfl⟩ := own_form ho13
            rw [HN.out] at ho13 ⊢
            have S12 := Lib.hid ((HO12.out.keep hb5).read encE_len)
            have S13 := Lib.hid (ho13.read encE_len)
            have HB5 := Lib.hid (HB4.out.keep hb5)
            have HO5 := Lib.hid (HO4.out.keep hb5)
            have HV5 := Lib.hid (VB.keep HV4.out hb5)
            have HW5 := Lib.hid (HW4.out.trans (hb5.mono (Nat.le_of_lt HB4.out.lt)))
            have S1 := Lib.hid (show SlK encE 27 w5 (.slice A N c) l from HS1.out.below (by rw [HPq.out]; exact HW5.out))
            clear hb5 ho13
            go_wp2_with fail
            go_loopw [14, 71] (fun _ v71 wr => ∃ j : Nat, v71 = .int .i64 j ∧ j ≤ N ∧ Below w5.heap.size w5 wr) (fun _ v71 _ => N - (intOf v71).toNat)
            case atStart => exact ⟨0, by first | rfl | simp, Nat.zero_le _, Below.refl _ _⟩
            case round =>
              obtain ⟨j, rfl, hj, hbw⟩ := hrel
              obtain ⟨wp, rfl⟩ : ∃ wp, wp = wr := ⟨_, rfl⟩
              by_cases hlt : j < N
              · obtain ⟨e, he⟩ : ∃ e, l[j]? = some e := ⟨l[j]'(by rw [HN.out]; exact hlt), List.getElem?_eq_getElem _⟩
                obtain ⟨g12, o12, rfl, hg12, hc12⟩ := (S12.out.below hbw).ev he
                obtain ⟨g13, o13, rfl, hg13, hc13⟩ := (S13.out.below hbw).ev he
                obtain ⟨ga, oa, rfl, hga, hca⟩ := (S1.out.below hbw).ev he
                have Hg12 := Lib.hid (show ∀ W : World, Below wp.heap.size wp W → W.rangeAt g12 (o12 + j * 27) (encE e) from fun W hI => rangeAt_same hc12 (hI.block g12 hg12))
                have Hg13 := Lib.hid (show ∀ W : World, Below wp.heap.size wp W → W.rangeAt g13 (o13 + j * 27) (encE e) from fun W hI => rangeAt_same hc13 (hI.block g13 hg13))
                have Hga := Lib.hid (show ∀ W : World, Below wp.heap.size wp W → W.rangeAt ga (oa + j * 27) (encE e) from fun W hI => rangeAt_same hca (hI.block ga hga))
                have HBW := Lib.hid hbw
                have hw := IntWalk.i64_in ((j : Int) + 1) (by omega)
                have HWi := Lib.hid hw
                clear hc12 hc13 hca hg12 hg13 hga hbw he hw
                go_upto_region 27 with fail
                refine wp_region_any (by kernel_rfl) ?_
                refine wpAny_below (fun i uq _ => uq = ([.slice (some ⟨g12, o12, none⟩) N c12, .int .i64 j, .pointer (some ⟨g12, o12 + j * 27, none⟩), .agg (evC e), .slice (some ⟨ga, oa, none⟩) N c, .int .i64 j, .pointer (some ⟨ga, oa + j * 27, none⟩), .agg (evC e), .bool false, .bool false, .slice (some ⟨g13, o13, none⟩) N c13, .int .i64 j, .pointer (some ⟨g13, o13 + j * 27, none⟩), .agg (evC e), .slice (some ⟨ga, oa, none⟩) N c, .int .i64 j, .pointer (some ⟨ga, oa + j * 27, none⟩), .agg (evC e), .bool false, .bool false] : List Value).getD i undef) _ wp (by kernel_rfl) (by kernel_rfl) (by kernel_rfl) (fun i v w w' _ h => h) ?_ ?_
                · refine ⟨?_, ?_, ?_, ?_, ?_, ?_, ?_, ?_, ?_, ?_, ?_, ?_, ?_, ?_, ?_, ?_, ?_, ?_, ?_, ?_, trivial⟩
                  · intro a W hI hun haft hi
                    have e12 : a.eval (.tmp 12) = .slice (some ⟨g12, o12, none⟩) N c12 := hun 12 (by kernel_rfl)
                    exact b_same hi hI rfl _ (run_move_op rfl e12) rfl
                  · intro a W hI hun haft hi
                    have e14 : a.eval (.tmp 14) = .int .i64 j := hun 14 (by kernel_rfl)
                    exact b_same hi hI rfl _ (run_move_op rfl e14) rfl
                  · intro a W hI hun haft hi
                    have f0 : a.eval (.tmp 74) = .slice (some ⟨g12, o12, none⟩) N c12 := haft ⟨0, .data⟩ (by simp) rfl _ _ rfl rfl
                    have f1 : a.eval (.tmp 75) = .int .i64 j := haft ⟨1, .data⟩ (by simp) rfl _ _ rfl rfl
                    exact b_same hi hI rfl _ (run_indexAddr_op rfl f0 f1 (at_Ev g12 o12 c12 N j hlt W)) rfl
                  · intro a W hI hun haft hi
                    have f2 : a.eval (.tmp 76) = .pointer (some ⟨g12, o12 + j * 27, none⟩) := haft ⟨2, .data⟩ (by simp) rfl _ _ rfl rfl
                    exact b_same hi hI rfl _ (run_loadmid_op rfl f2 (Hg12.out W hI) Try.underlying35 rfl (sizeE e)) rfl
                  · intro a W hI hun haft hi
                    have e1 : a.eval (.tmp 1) = .slice (some ⟨ga, oa, none⟩) N c := hun 1 (by kernel_rfl)
                    exact b_same hi hI rfl _ (run_move_op rfl e1) rfl
                  · intro a W hI hun haft hi
                    have e14 : a.eval (.tmp 14) = .int .i64 j := hun 14 (by kernel_rfl)
                    exact b_same hi hI rfl _ (run_move_op rfl e14) rfl
                  · intro a W hI hun haft hi
                    have f4 : a.eval (.tmp 78) = .slice (some ⟨ga, oa, none⟩) N c := haft ⟨4, .data⟩ (by simp) rfl _ _ rfl rfl
                    have f5 : a.eval (.tmp 79) = .int .i64 j := haft ⟨5, .data⟩ (by simp) rfl _ _ rfl rfl
                    exact b_same hi hI rfl _ (run_indexAddr_op rfl f4 f5 (at_Ev ga oa c N j hlt W)) rfl
                  · intro a W hI hun haft hi
                    have f6 : a.eval (.tmp 80) = .pointer (some ⟨ga, oa + j * 27, none⟩) := haft ⟨6, .data⟩ (by simp) rfl _ _ rfl rfl
                    exact b_same hi hI rfl _ (run_loadmid_op rfl f6 (Hga.out W hI) Try.underlying35 rfl (sizeE e)) rfl
                  · intro a W hI hun haft hi
                    have f3 : a.eval (.tmp 77) = .agg (evC e) := haft ⟨3, .data⟩ (by simp) rfl _ _ rfl rfl
                    have f7 : a.eval (.tmp 81) = .agg (evC e) := haft ⟨7, .data⟩ (by simp) rfl _ _ rfl rfl
                    exact b_same hi hI rfl (.bool false) (run_bin_op rfl f3 f7 (neq_guard e e W) (ne_event e W)) rfl
                  · intro a W hI hun haft hi
                    have f8 : a.eval (.tmp 82) = .bool false := haft ⟨8, .data⟩ (by simp) rfl _ _ rfl rfl
                    exact b_same hi hI rfl _ (run_move_op rfl f8) rfl
                  · intro a W hI hun haft hi
                    have fg : a.eval (.tmp 83) = .bool false := haft ⟨9, .guard⟩ (by simp) rfl _ _ rfl rfl
                    have e13 : a.eval (.tmp 13) = .slice (some ⟨g13, o13, none⟩) N c13 := hun 13 (by kernel_rfl)
                    exact b_same hi hI (guard_ok rfl rfl rfl fg) _ (run_move_op rfl e13) rfl
                  · intro a W hI hun haft hi
                    have fg : a.eval (.tmp 83) = .bool false := haft ⟨9, .guard⟩ (by simp) rfl _ _ rfl rfl
                    have e14 : a.eval (.tmp 14) = .int .i64 j := hun 14 (by kernel_rfl)
                    exact b_same hi hI (guard_ok rfl rfl rfl fg) _ (run_move_op rfl e14) rfl
                  · intro a W hI hun haft hi
                    have fg : a.eval (.tmp 83) = .bool false := haft ⟨9, .guard⟩ (by simp) rfl _ _ rfl rfl
                    have f10 : a.eval (.tmp 84) = .slice (some ⟨g13, o13, none⟩) N c13 := haft ⟨10, .data⟩ (by simp) rfl _ _ rfl rfl
                    have f11 : a.eval (.tmp 85) = .int .i64 j := haft ⟨11, .data⟩ (by simp) rfl _ _ rfl rfl
                    exact b_same hi hI (guard_ok rfl rfl rfl fg) _ (run_indexAddr_op rfl f10 f11 (at_Ev g13 o13 c13 N j hlt W)) rfl
                  · intro a W hI hun haft hi
                    have fg : a.eval (.tmp 83) = .bool false := haft ⟨9, .guard⟩ (by simp) rfl _ _ rfl rfl
                    have f12 : a.eval (.tmp 86) = .pointer (some ⟨g13, o13 + j * 27, none⟩) := haft ⟨12, .data⟩ (by simp) rfl _ _ rfl rfl
                    exact b_same hi hI (guard_ok rfl rfl rfl fg) _ (run_loadmid_op rfl f12 (Hg13.out W hI) Try.underlying35 rfl (sizeE e)) rfl
                  · intro a W hI hun haft hi
                    have fg : a.eval (.tmp 83) = .bool false := haft ⟨9, .guard⟩ (by simp) rfl _ _ rfl rfl
                    have e1 : a.eval (.tmp 1) = .slice (some ⟨ga, oa, none⟩) N c := hun 1 (by kernel_rfl)
                    exact b_same hi hI (guard_ok rfl rfl rfl fg) _ (run_move_op rfl e1) rfl
                  · intro a W hI hun haft hi
                    have fg : a.eval (.tmp 83) = .bool false := haft ⟨9, .guard⟩ (by simp) rfl _ _ rfl rfl
                    have e14 : a.eval (.tmp 14) = .int .i64 j := hun 14 (by kernel_rfl)
                    exact b_same hi hI (guard_ok rfl rfl rfl fg) _ (run_move_op rfl e14) rfl
                  · intro a W hI hun haft hi
                    have fg : a.eval (.tmp 83) = .bool false := haft ⟨9, .guard⟩ (by simp) rfl _ _ rfl rfl
                    have f14 : a.eval (.tmp 88) = .slice (some ⟨ga, oa, none⟩) N c := haft ⟨14, .data⟩ (by simp) rfl _ _ rfl rfl
                    have f15 : a.eval (.tmp 89) = .int .i64 j := haft ⟨15, .data⟩ (by simp) rfl _ _ rfl rfl
                    exact b_same hi hI (guard_ok rfl rfl rfl fg) _ (run_indexAddr_op rfl f14 f15 (at_Ev ga oa c N j hlt W)) rfl
                  · intro a W hI hun haft hi
                    have fg : a.eval (.tmp 83) = .bool false := haft ⟨9, .guard⟩ (by simp) rfl _ _ rfl rfl
                    have f16 : a.eval (.tmp 90) = .pointer (some ⟨ga, oa + j * 27, none⟩) := haft ⟨16, .data⟩ (by simp) rfl _ _ rfl rfl
                    exact b_same hi hI (guard_ok rfl rfl rfl fg) _ (run_loadmid_op rfl f16 (Hga.out W hI) Try.underlying35 rfl (sizeE e)) rfl
                  · intro a W hI hun haft hi
                    have fg : a.eval (.tmp 83) = .bool false := haft ⟨9, .guard⟩ (by simp) rfl _ _ rfl rfl
                    have f13 : a.eval (.tmp 87) = .agg (evC e) := haft ⟨13, .data⟩ (by simp) rfl _ _ rfl rfl
                    have f17 : a.eval (.tmp 91) = .agg (evC e) := haft ⟨17, .data⟩ (by simp) rfl _ _ rfl rfl
                    exact b_same hi hI (guard_ok rfl rfl rfl fg) (.bool false) (run_bin_op rfl f13 f17 (neq_guard e e W) (ne_event e W)) rfl
                  · intro a W hI hun haft hi
                    have f9 : a.eval (.tmp 83) = .bool false := haft ⟨9, .data⟩ (by simp) rfl _ _ rfl rfl
                    have f18 : a.eval (.tmp 92) = .bool false := haft ⟨18, .data⟩ (by simp) rfl _ _ rfl rfl
                    exact b_same hi hI rfl _ (run_pick_op (b := false) rfl f9 rfl f18) rfl
                · intro vals W hI hp
                  have hl19 : vals 19 = .bool false := hp 19 (by decide)
                  have HI := Lib.hid hI
                  clear hp hI
                  simp only [layN, List.size_toArray, List.length_cons, List.length_nil, List.range, List.range.loop, if_true, List.getElem?_toArray, List.getElem?_cons_zero, List.getElem?_cons_succ, Act.put, List.setIfInBounds_toArray, List.set_cons_zero, List.set_cons_succ, Nat.zero_add, Nat.reduceAdd, hl19]
                  clear hl19
                  have hw := HWi.out
                  go_wp2
                  go_roundw
                  case rel => first | exact ⟨j + 1, by go_num, by omega, HBW.out.trans (HI.out.mono HBW.out.size)⟩ | exact ⟨_, _, _, _, ⟨j + 1, by go_num, by omega, HBW.out.trans (HI.out.mono HBW.out.size)⟩, rfl⟩
                  case measure => simp [intOf] <;> omega
              · have hjN : N = j := by omega
                subst hjN
                have HB6 := Lib.hid (HB5.out.keep hbw)
                have HO6 := Lib.hid (HO5.out.keep hbw)
                have HV6 := Lib.hid (VB.keep HV5.out hbw)
                have HW6 := Lib.hid (HW5.out.trans (hbw.mono (Nat.le_of_lt HB5.out.lt)))
                clear hbw hlt hj
                go_wp2_with fail
                go_loopw [15] (fun v15 wr => ∃ m : Nat, v15 = .int .i64 m ∧ 1 ≤ m ∧ m ≤ k ∧ (∃ u, Bf wr P k 0 (ackM m) u ∧ OwnK encE P 35 27 wr u (if m < k then l else lackL topF l)) ∧ VB wr q topF ∧ Below P w1 wr) (fun v15 _ => k - (intOf v15).toNat)
                case atStart => exact ⟨1, by first | rfl | simp, Nat.le_refl _, by have := HK2.out; omega, ⟨_, HB6.out, by rw [if_pos (by have := HK2.out; omega)]; exact HO6.out⟩, HV6.out, HW6.out⟩
                case round =>
                  obtain ⟨m, rfl, hm1, hm2, ⟨u, hb, ho⟩, hv, hbw⟩ := hrel
                  obtain ⟨wx, rfl⟩ : ∃ wx, wx = wr := ⟨_, rfl⟩
                  clear HB6 HO6 HV6 HW6
                  by_cases hlt : m < k
                  · rw [if_pos hlt] at ho
                    obtain ⟨Au, cu, rfl⟩ := own_form ho
                    rw [HN.out] at ho hb
                    have HBx := Lib.hid hb
                    have HOx := Lib.hid ho
                    have HVx := Lib.hid hv
                    have HWx := Lib.hid hbw
                    have HPe := Lib.hid (show peerB k 0 (m : Nat) = true by rw [peer_one]; simp; omega)
                    have hk16 : k ≤ 15 := HK2.out.2
                    have hw := IntWalk.i64_in ((m : Int) + 1) (by omega)
                    have HWi := Lib.hid hw
                    have HM16 := Lib.hid (show m < 16 by omega)
                    have HM1 := Lib.hid hm1
                    clear hb ho hv hbw hw
                    go_wp2_with fail
                    refine (blen_any wx HBx.out).mono ?_
                    rintro x w8 ⟨rfl, hb8⟩
                    have HB8 := Lib.hid (HBx.out.keep hb8)
                    have HO8 := Lib.hid (HOx.out.keep hb8)
                    have HV8 := Lib.hid (VB.keep HVx.out hb8)
                    have HW8 := Lib.hid (HWx.out.trans (hb8.mono (Nat.le_of_lt HBx.out.lt)))
                    clear hb8
                    go_wp2_with (first
                      | (refine' wpList_load_if ?q1 27 (.tmp 7) ?q2 q ?q3 _ _ _ _ ?q4 Try.underlying27 ?q5 ?q6 ?_; (case q2 => rfl); (case q1 => rfl); (case q3 => rfl); (case q4 => exact HV8.out); (case q5 => rfl); (case q6 => exact (sizeV _)))
                      | fail)
                    refine (back_any (p := m) l topF P w8 HB8.out HO8.out (Nat.le_refl _) (by have := HN.out; omega) HM16.out HPe.out).mono ?_
                    rintro x w9 ⟨rfl, u9, hb9, ho9, hm9⟩
                    rw [ackM_succ m HM1.out] at hb9 ho9
                    rw [ack_left HK2.out.1 (by omega) hlt] at ho9
                    have HB9 := Lib.hid hb9
                    have HO9 := Lib.hid ho9
                    have HV9 := Lib.hid (show VB w9 q topF from (hm9.block q (Blk.lt HV8.out) (by have := HPl.out; omega) (own_ne_blk HO8.out HV8.out (by decide))).trans HV8.out)
                    have HW9 := Lib.hid (HW8.out.trans (hm9.below (Nat.le_refl _) HO8.out HB8.out.lt))
                    clear hb9 ho9 hm9
                    have hw := HWi.out
                    go_wp2
                    go_roundw
                    case rel => first | exact ⟨m + 1, by go_num, by omega, by omega, ⟨_, HB9.out, HO9.out⟩, HV9.out, HW9.out⟩ | exact ⟨_, _, _, _, ⟨m + 1, by go_num, by omega, by omega, ⟨_, HB9.out, HO9.out⟩, HV9.out, HW9.out⟩, rfl⟩
                    case measure => simp [intOf] <;> omega
                  · have hmk : k = m := by omega
                    subst hmk
                    rw [if_neg (Nat.lt_irrefl _)] at ho
                    obtain ⟨Au, cu, rfl⟩ := own_form ho
                    rw [HNl.out] at ho hb
                    have HBw := Lib.hid hb
                    have HVw := Lib.hid hv
                    have HWx := Lib.hid hbw
                    have HSt := Lib.hid (stable_all HK2.out.1 (by have := HK2.out.2; omega))
                    have hk16 : k ≤ 15 := HK2.out.2
                    clear hb ho hv hbw hlt hm1 hm2
                    go_upto_region 35 with fail
                    refine wp_region_any (by kernel_rfl) ?_
                    refine wpAny_below (fun i uq _ => uq = ([.pointer (some ⟨P, 0, none⟩), .int .i64 nl, .int .i64 nl, .bool true, .bool true, .pointer (some ⟨P, 0, none⟩), .agg (vA topF), .agg (vA topF), .bool true, .bool true, .bool true] : List Value).getD i undef) _ wx (by kernel_rfl) (by kernel_rfl) (by kernel_rfl) (fun i v w w' _ h => h) ?_ ?_
                    · refine ⟨?_, ?_, ?_, ?_, ?_, ?_, ?_, ?_, ?_, ?_, ?_, trivial⟩
                      · intro a W hI hun haft hi
                        have e6 : a.eval (.tmp 6) = .pointer (some ⟨P, 0, none⟩) := hun 6 (by kernel_rfl)
                        exact b_same hi hI rfl _ (run_move_op rfl e6) rfl
                      · intro a W hI hun haft hi
                        have f0 : a.eval (.tmp 112) = .pointer (some ⟨P, 0, none⟩) := haft ⟨0, .data⟩ (by simp) rfl _ _ rfl rfl
                        refine b_call hi hI rfl _ _ (run_call_op (args := #[.pointer (some ⟨P, 0, none⟩)]) rfl (by simp [f0]) (by kernel_rfl)) ?_
                        exact (blen_any W (HBw.out.keep hI)).mono fun e w' H => ⟨_, H.1, rfl, H.2⟩
                      · intro a W hI hun haft hi
                        have e9 : a.eval (.tmp 9) = .int .i64 nl := hun 9 (by kernel_rfl)
                        exact b_same hi hI rfl _ (run_move_op rfl e9) rfl
                      · intro a W hI hun haft hi
                        have f1 : a.eval (.tmp 113) = .int .i64 nl := haft ⟨1, .data⟩ (by simp) rfl _ _ rfl rfl
                        have f2 : a.eval (.tmp 114) = .int .i64 nl := haft ⟨2, .data⟩ (by simp) rfl _ _ rfl rfl
                        exact b_same hi hI rfl (.bool true) (run_bin_op rfl f1 f2 (by kernel_rfl) (run_eqi13 rfl W)) rfl
                      · intro a W hI hun haft hi
                        have f3 : a.eval (.tmp 115) = .bool true := haft ⟨3, .data⟩ (by simp) rfl _ _ rfl rfl
                        exact b_same hi hI rfl _ (run_move_op rfl f3) rfl
                      · intro a W hI hun haft hi
                        have fg : a.eval (.tmp 116) = .bool true := haft ⟨4, .guard⟩ (by simp) rfl _ _ rfl rfl
                        have e6 : a.eval (.tmp 6) = .pointer (some ⟨P, 0, none⟩) := hun 6 (by kernel_rfl)
                        exact b_same hi hI (guard_ok rfl rfl rfl fg) _ (run_move_op rfl e6) rfl
                      · intro a W hI hun haft hi
                        have fg : a.eval (.tmp 116) = .bool true := haft ⟨4, .guard⟩ (by simp) rfl _ _ rfl rfl
                        have f5 : a.eval (.tmp 117) = .pointer (some ⟨P, 0, none⟩) := haft ⟨5, .data⟩ (by simp) rfl _ _ rfl rfl
                        refine b_call hi hI (guard_ok rfl rfl rfl fg) _ _ (run_call_op (args := #[.pointer (some ⟨P, 0, none⟩)]) rfl (by simp [f5]) (by kernel_rfl)) ?_
                        exact (stable_is topF HSt.out W (HBw.out.keep hI)).mono fun e w' H => ⟨_, H.1, rfl, H.2⟩
                      · intro a W hI hun haft hi
                        have fg : a.eval (.tmp 116) = .bool true := haft ⟨4, .guard⟩ (by simp) rfl _ _ rfl rfl
                        have e7 : a.eval (.tmp 7) = .pointer (some ⟨q, 0, none⟩) := hun 7 (by kernel_rfl)
                        exact b_same hi hI (guard_ok rfl rfl rfl fg) _ (run_load_op rfl e7 (VB.keep HVw.out hI) Try.underlying27 rfl (sizeV _)) rfl
                      · intro a W hI hun haft hi
                        have fg : a.eval (.tmp 116) = .bool true := haft ⟨4, .guard⟩ (by simp) rfl _ _ rfl rfl
                        have f6 : a.eval (.tmp 118) = .agg (vA topF) := haft ⟨6, .data⟩ (by simp) rfl _ _ rfl rfl
                        have f7 : a.eval (.tmp 119) = .agg (vA topF) := haft ⟨7, .data⟩ (by simp) rfl _ _ rfl rfl
                        exact b_same hi hI (guard_ok rfl rfl rfl fg) (.bool true) (run_bin_op rfl f6 f7 (by kernel_rfl) (eqV_top W)) rfl
                      · intro a W hI hun haft hi
                        have f4 : a.eval (.tmp 116) = .bool true := haft ⟨4, .data⟩ (by simp) rfl _ _ rfl rfl
                        have f8 : a.eval (.tmp 120) = .bool true := haft ⟨8, .data⟩ (by simp) rfl _ _ rfl rfl
                        exact b_same hi hI rfl _ (run_pick_op (b := true) rfl f4 f8 rfl) rfl
                      · intro a W hI hun haft hi
                        have f9 : a.eval (.tmp 121) = .bool true := haft ⟨9, .data⟩ (by simp) rfl _ _ rfl rfl
                        exact b_same hi hI rfl _ (run_assign_op rfl f9) rfl
                    · intro vals W hI hp
                      have hl10 : vals 10 = .bool true := hp 10 (by decide)
                      have HI := Lib.hid hI
                      clear hp hI
                      simp only [layN, List.size_toArray, List.length_cons, List.length_nil, List.range, List.range.loop, if_true, List.getElem?_toArray, List.getElem?_cons_zero, List.getElem?_cons_succ, Act.put, List.setIfInBounds_toArray, List.set_cons_zero, List.set_cons_succ, Nat.zero_add, Nat.reduceAdd, hl10]
                      clear hl10
                      go_wp2
                      go_ret
                      exact ⟨rfl, HW1.out.trans ((HWx.out.trans (HI.out.mono (Nat.le_of_lt HBw.out.lt))).mono HB1.out)⟩

end Go.Proofs.Ytbhckfkjbeocoaa
