/-
  slices.Equal at two rows of events: the contract, by a walk. Conditions: lengths.
-/
import Derived.Test.YtalaidlnhoonfaaMgEqE
namespace Go.Proofs.Ytalaidlnhoonfaa
open Go.RowKit

theorem ne_true (e f : Ev) (h : eqE e f = false) (w : World) : (binOp .neq 48 (evV e) (evV f)).run Try.prog w = .ok (.bool true) w := by
  have := run_neE w e f; rw [h] at this; exact this
theorem ne_false (e f : Ev) (h : eqE e f = true) (w : World) : (binOp .neq 48 (evV e) (evV f)).run Try.prog w = .ok (.bool false) w := by
  have := run_neE w e f; rw [h] at this; exact this
theorem eqv_is (w : World) (f g : Nat → Int) (b : Bool) (h : eqV f g = b) : (Op.equalIn 10000 23 (.agg (vA f)) (.agg (vA g))).run Try.prog w = .ok b w := by
  have hq := run_equalIn_arr Try.prog w 9998 23 3 f g Try.underlying23 Try.underlying3 sizeI
  rw [h] at hq
  exact hq

set_option maxRecDepth 100000 in
set_option maxHeartbeats 4000000 in
theorem equal_any (l r : List Ev) (A A' : Option Addr) (N N' c c' : Nat) (w : World) (hs : SlK encE 27 w (.slice A N c) l) (hs' : SlK encE 27 w (.slice A' N' c') r) (hN : l.length = N) (hR : r.length = N') (hN2 : N ≤ 10000) :
    Calls Try.prog 32 #[.slice A N c, .slice A' N' c'] w (Gives w (.bool (sameL l r))) := by
  have HS := Lib.hid hs
  have HS' := Lib.hid hs'
  have HN := Lib.hid hN
  have HR := Lib.hid hR
  have HN2 := Lib.hid hN2
  clear hs hs' hN hR hN2
  by_cases hne : N = N'
  · subst hne
    have q7 : ((N : Int) == (N : Int)) = true := beq_self_eq_true _
    have q8 : ((N : Int) != (N : Int)) = false := by rw [bne, q7]; rfl
    go_enter Try.func32, Try.ntmps32
    go_wp2_with fail
    clear q7 q8
    go_loopw [13] (fun v13 wr => ∃ k : Nat, v13 = .int .i64 k ∧ k ≤ N ∧ (∀ i e f, i < k → l[i]? = some e → r[i]? = some f → eqE e f = true) ∧ Below w.heap.size w wr) (fun v13 _ => N - (intOf v13).toNat)
    case atStart => exact ⟨0, rfl, Nat.zero_le _, fun i e f hi => absurd hi (Nat.not_lt_zero _), Below.refl _ _⟩
    case round =>
      obtain ⟨k, rfl, hk, hall, hbw⟩ := hrel
      obtain ⟨wk, rfl⟩ : ∃ wk, wk = wr := ⟨_, rfl⟩
      have HBk := Lib.hid hbw
      have HAll := Lib.hid hall
      clear hall
      by_cases hlt : k < N
      · have hlt := hlt
        obtain ⟨e, he⟩ : ∃ e, l[k]? = some e := ⟨l[k]'(by rw [HN.out]; exact hlt), List.getElem?_eq_getElem _⟩
        obtain ⟨f, hf⟩ : ∃ f, r[k]? = some f := ⟨r[k]'(by rw [HR.out]; exact hlt), List.getElem?_eq_getElem _⟩
        obtain ⟨ga, oa, hAa, hla, hca⟩ := (HS.out.below hbw).ev he
        obtain ⟨gb, ob, hAb, hlb, hcb⟩ := (HS'.out.below hbw).ev hf
        subst hAa hAb
        have HE := Lib.hid he
        have HF := Lib.hid hf
        have HCa := Lib.hid hca
        have HCb := Lib.hid hcb
        have HLa := Lib.hid hla
        have HLb := Lib.hid hlb
        have HLt := Lib.hid hlt
        have HW1 := Lib.hid (IntWalk.i64_in ((k : Int) + 1) (by have := HN2.out; omega))
        have HJ1 := Lib.hid (show ¬ 9223372036854775807 < k + 1 by have := HN2.out; omega)
        clear he hf hca hcb hla hlb hbw
        cases hq : eqE e f
        · have HQ := Lib.hid hq
          clear hq
          go_upto_region 6 with fail
          refine wp_region_any (by kernel_rfl) ?_
          refine wpAny_below (fun i v _ => v = ([.slice (some ⟨ga, oa, none⟩) N c, .int .i64 k, .pointer (some ⟨ga, oa + k * 27, none⟩), evV e, .slice (some ⟨gb, ob, none⟩) N c', .int .i64 k, .pointer (some ⟨gb, ob + k * 27, none⟩), evV f, .bool true] : List Value).getD i undef) _ wk (by kernel_rfl) (by kernel_rfl) (by kernel_rfl) (fun i v w w' _ h => h) ?_ ?_
          · refine ⟨?_, ?_, ?_, ?_, ?_, ?_, ?_, ?_, ?_, trivial⟩
            · intro a W hI hun haft hi
              have e0 : a.eval (.tmp 0) = .slice (some ⟨ga, oa, none⟩) N c := hun 0 (by kernel_rfl)
              exact b_same hi hI rfl _ (run_move_op rfl e0) rfl
            · intro a W hI hun haft hi
              have e5 : a.eval (.tmp 5) = .int .i64 k := hun 5 (by kernel_rfl)
              exact b_same hi hI rfl _ (run_move_op rfl e5) rfl
            · intro a W hI hun haft hi
              have f0 : a.eval (.tmp 16) = .slice (some ⟨ga, oa, none⟩) N c := haft ⟨0, .data⟩ (by simp) rfl _ _ rfl rfl
              have f1 : a.eval (.tmp 17) = .int .i64 k := haft ⟨1, .data⟩ (by simp) rfl _ _ rfl rfl
              exact b_same hi hI rfl _ (run_indexAddr_op rfl f0 f1 (at_Ev ga oa c N k HLt.out _)) rfl
            · intro a W hI hun haft hi
              have f2 : a.eval (.tmp 18) = .pointer (some ⟨ga, oa + k * 27, none⟩) := haft ⟨2, .data⟩ (by simp) rfl _ _ rfl rfl
              exact b_same hi hI rfl _ (run_loadmid_op rfl f2 (rangeAt_same HCa.out (hI.block ga HLa.out)) Try.underlying48 rfl (sizeE e)) rfl
            · intro a W hI hun haft hi
              have e1 : a.eval (.tmp 1) = .slice (some ⟨gb, ob, none⟩) N c' := hun 1 (by kernel_rfl)
              exact b_same hi hI rfl _ (run_move_op rfl e1) rfl
            · intro a W hI hun haft hi
              have e5 : a.eval (.tmp 5) = .int .i64 k := hun 5 (by kernel_rfl)
              exact b_same hi hI rfl _ (run_move_op rfl e5) rfl
            · intro a W hI hun haft hi
              have f4 : a.eval (.tmp 20) = .slice (some ⟨gb, ob, none⟩) N c' := haft ⟨4, .data⟩ (by simp) rfl _ _ rfl rfl
              have f5 : a.eval (.tmp 21) = .int .i64 k := haft ⟨5, .data⟩ (by simp) rfl _ _ rfl rfl
              exact b_same hi hI rfl _ (run_indexAddr_op rfl f4 f5 (at_Ev gb ob c' N k HLt.out _)) rfl
            · intro a W hI hun haft hi
              have f6 : a.eval (.tmp 22) = .pointer (some ⟨gb, ob + k * 27, none⟩) := haft ⟨6, .data⟩ (by simp) rfl _ _ rfl rfl
              exact b_same hi hI rfl _ (run_loadmid_op rfl f6 (rangeAt_same HCb.out (hI.block gb HLb.out)) Try.underlying48 rfl (sizeE f)) rfl
            · intro a W hI hun haft hi
              have f3 : a.eval (.tmp 19) = evV e := haft ⟨3, .data⟩ (by simp) rfl _ _ rfl rfl
              have f7 : a.eval (.tmp 23) = evV f := haft ⟨7, .data⟩ (by simp) rfl _ _ rfl rfl
              exact b_same hi hI rfl (.bool true) (run_bin_op rfl f3 f7 (by kernel_rfl) (ne_true e f HQ.out W)) rfl
          · intro vals W hI hp
            have hl8 : vals 8 = .bool true := hp 8 (by decide)
            have HI := Lib.hid hI
            clear hp hI
            simp only [layN, List.size_toArray, List.length_cons, List.length_nil, List.range, List.range.loop, if_true, List.getElem?_toArray, List.getElem?_cons_zero, List.getElem?_cons_succ, Act.put, List.setIfInBounds_toArray, List.set_cons_zero, List.set_cons_succ, Nat.zero_add, Nat.reduceAdd, hl8]
            clear hl8
            have hjm := HJ1.out
            have hw := HW1.out
            have hlt := HLt.out
            clear HCa HCb HLa HLb
            generalize W = W6 at *
            go_wp2
            go_ret
            exact ⟨by rw [sameL_no HE.out HF.out HQ.out]; rfl, HBk.out.trans (HI.out.mono HBk.out.size)⟩
        · have HQ := Lib.hid hq
          clear hq
          go_upto_region 6 with fail
          refine wp_region_any (by kernel_rfl) ?_
          refine wpAny_below (fun i v _ => v = ([.slice (some ⟨ga, oa, none⟩) N c, .int .i64 k, .pointer (some ⟨ga, oa + k * 27, none⟩), evV e, .slice (some ⟨gb, ob, none⟩) N c', .int .i64 k, .pointer (some ⟨gb, ob + k * 27, none⟩), evV f, .bool false] : List Value).getD i undef) _ wk (by kernel_rfl) (by kernel_rfl) (by kernel_rfl) (fun i v w w' _ h => h) ?_ ?_
          · refine ⟨?_, ?_, ?_, ?_, ?_, ?_, ?_, ?_, ?_, trivial⟩
            · intro a W hI hun haft hi
              have e0 : a.eval (.tmp 0) = .slice (some ⟨ga, oa, none⟩) N c := hun 0 (by kernel_rfl)
              exact b_same hi hI rfl _ (run_move_op rfl e0) rfl
            · intro a W hI hun haft hi
              have e5 : a.eval (.tmp 5) = .int .i64 k := hun 5 (by kernel_rfl)
              exact b_same hi hI rfl _ (run_move_op rfl e5) rfl
            · intro a W hI hun haft hi
              have f0 : a.eval (.tmp 16) = .slice (some ⟨ga, oa, none⟩) N c := haft ⟨0, .data⟩ (by simp) rfl _ _ rfl rfl
              have f1 : a.eval (.tmp 17) = .int .i64 k := haft ⟨1, .data⟩ (by simp) rfl _ _ rfl rfl
              exact b_same hi hI rfl _ (run_indexAddr_op rfl f0 f1 (at_Ev ga oa c N k HLt.out _)) rfl
            · intro a W hI hun haft hi
              have f2 : a.eval (.tmp 18) = .pointer (some ⟨ga, oa + k * 27, none⟩) := haft ⟨2, .data⟩ (by simp) rfl _ _ rfl rfl
              exact b_same hi hI rfl _ (run_loadmid_op rfl f2 (rangeAt_same HCa.out (hI.block ga HLa.out)) Try.underlying48 rfl (sizeE e)) rfl
            · intro a W hI hun haft hi
              have e1 : a.eval (.tmp 1) = .slice (some ⟨gb, ob, none⟩) N c' := hun 1 (by kernel_rfl)
              exact b_same hi hI rfl _ (run_move_op rfl e1) rfl
            · intro a W hI hun haft hi
              have e5 : a.eval (.tmp 5) = .int .i64 k := hun 5 (by kernel_rfl)
              exact b_same hi hI rfl _ (run_move_op rfl e5) rfl
            · intro a W hI hun haft hi
              have f4 : a.eval (.tmp 20) = .slice (some ⟨gb, ob, none⟩) N c' := haft ⟨4, .data⟩ (by simp) rfl _ _ rfl rfl
              have f5 : a.eval (.tmp 21) = .int .i64 k := haft ⟨5, .data⟩ (by simp) rfl _ _ rfl rfl
              exact b_same hi hI rfl _ (run_indexAddr_op rfl f4 f5 (at_Ev gb ob c' N k HLt.out _)) rfl
            · intro a W hI hun haft hi
              have f6 : a.eval (.tmp 22) = .pointer (some ⟨gb, ob + k * 27, none⟩) := haft ⟨6, .data⟩ (by simp) rfl _ _ rfl rfl
              exact b_same hi hI rfl _ (run_loadmid_op rfl f6 (rangeAt_same HCb.out (hI.block gb HLb.out)) Try.underlying48 rfl (sizeE f)) rfl
            · intro a W hI hun haft hi
              have f3 : a.eval (.tmp 19) = evV e := haft ⟨3, .data⟩ (by simp) rfl _ _ rfl rfl
              have f7 : a.eval (.tmp 23) = evV f := haft ⟨7, .data⟩ (by simp) rfl _ _ rfl rfl
              exact b_same hi hI rfl (.bool false) (run_bin_op rfl f3 f7 (by kernel_rfl) (ne_false e f HQ.out W)) rfl
          · intro vals W hI hp
            have hl8 : vals 8 = .bool false := hp 8 (by decide)
            have HI := Lib.hid hI
            clear hp hI
            simp only [layN, List.size_toArray, List.length_cons, List.length_nil, List.range, List.range.loop, if_true, List.getElem?_toArray, List.getElem?_cons_zero, List.getElem?_cons_succ, Act.put, List.setIfInBounds_toArray, List.set_cons_zero, List.set_cons_succ, Nat.zero_add, Nat.reduceAdd, hl8]
            clear hl8
            have hjm := HJ1.out
            have hw := HW1.out
            have hlt := HLt.out
            clear HCa HCb HLa HLb
            generalize W = W6 at *
            go_wp2
            go_roundw
            case rel => exact ⟨k + 1, by go_num, HLt.out, fun i a b hi ha hb => by
              rcases Nat.lt_succ_iff_lt_or_eq.1 hi with h | h
              · exact HAll.out i a b h ha hb
              · rw [h, HE.out] at ha
                rw [h, HF.out] at hb
                rw [← Option.some.inj ha, ← Option.some.inj hb]; exact HQ.out, HBk.out.trans (HI.out.mono HBk.out.size)⟩
            case measure => simp [intOf] <;> omega
      · have hkn : N = k := by omega
        subst hkn
        clear hbw hlt hk
        have HSm := Lib.hid (sameL_yes (HN.out.trans HR.out.symm) fun i e f he hf => HAll.out i e f (by rw [← HN.out]; exact (List.getElem?_eq_some_iff.1 he).1) he hf)
        go_wp2
        go_ret
        exact ⟨by rw [HSm.out]; rfl, HBk.out⟩
  · have q7 : ((N : Int) == (N' : Int)) = false := by rw [beq_eq_false_iff_ne]; omega
    have q8 : ((N : Int) != (N' : Int)) = true := by rw [bne, q7]; rfl
    have HSm := Lib.hid (sameL_len (l := l) (r := r) (by rw [HN.out, HR.out]; exact hne))
    clear hne
    go_enter Try.func32, Try.ntmps32
    go_wp2
    go_ret
    exact ⟨by rw [HSm.out]; rfl, Below.refl _ _⟩

end Go.Proofs.Ytalaidlnhoonfaa
