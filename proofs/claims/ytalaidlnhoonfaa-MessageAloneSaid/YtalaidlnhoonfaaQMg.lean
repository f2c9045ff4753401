/-
  hedgerowref14.Same at messages that are the same: the contract, by a walk. slices.Equal at no events, message.Same at messages without events: the contracts, by walks. Conditions: lengths.
-/
import Derived.Test.YtalaidlnhoonfaaQMf
namespace Go.Proofs.Ytalaidlnhoonfaa
open Go.RowKit

theorem eq_inV (w : World) (f : Nat → Int) : (Op.equalIn 10000 23 (.agg (vA f)) (.agg (vA f))).run Try.prog w = .ok true w := by
  have hq := run_equalIn_arr Try.prog w 9998 23 3 f f Try.underlying23 Try.underlying3 sizeI
  rw [eqV_self] at hq
  exact hq
theorem run_neEv (w : World) (e : Ev) : (binOp .neq 48 (evV e) (evV e)).run Try.prog w = .ok (.bool false) w := by
  have hq := run_equalIn_arr Try.prog w 9997 23 3 e.p e.p Try.underlying23 Try.underlying3 sizeI
  rw [vA_lit, eqV_self] at hq
  unfold evV evC
  go_simp

set_option maxRecDepth 100000 in
set_option maxHeartbeats 4000000 in
theorem refsame_true (m : Mg) (l : List Ev) (A A' : Option Addr) (N c c' : Nat) (w : World) (hs : SlK encE 27 w (.slice A N c) l) (hs' : SlK encE 27 w (.slice A' N c') l) (hN : l.length = N) (hN2 : N ≤ 10000) :
    Calls Try.prog 14 #[mV m (.slice A N c), mV m (.slice A' N c')] w (Gives w (.bool true)) := by
  obtain ⟨p, hp⟩ : ∃ p, w.heap.size = p := ⟨_, rfl⟩
  obtain ⟨X, hX⟩ : ∃ X, X = (w.alloc (.cells (mC m (.slice A N c)) 26)).alloc (.cells (mC m (.slice A' N c')) 26) := ⟨_, rfl⟩
  have hbX : Below w.heap.size w X := by rw [hX]; exact ((Below.refl _ _).alloc (Nat.le_refl _) _).alloc (by simp) _
  have hm1 : MB X p m (.slice A N c) := by rw [hX, ← hp]; exact (MB.new_ w m _).keep ((Below.refl _ _).alloc (Nat.le_refl _) _)
  have hm2 : MB X (p + 1) m (.slice A' N c') := by
    rw [hX, ← hp]
    have := MB.new_ (w.alloc (.cells (mC m (.slice A N c)) 26)) m (.slice A' N c')
    simpa using this
  have HM1 := Lib.hid hm1
  have HM2 := Lib.hid hm2
  have c0 := hm1.at_ 0 (by decide)
  have c1 := hm1.at_ 1 (by decide)
  have c2 := hm1.at_ 2 (by decide)
  have c19 := hm1.ev
  have k0 := hm2.at_ 0 (by decide)
  have k1 := hm2.at_ 1 (by decide)
  have k2 := hm2.at_ 2 (by decide)
  have k19 := hm2.ev
  have HS := Lib.hid (hs.below hbX)
  have HS' := Lib.hid (hs'.below hbX)
  have HX := Lib.hid hX
  have HP := Lib.hid hp
  have HB := Lib.hid hbX
  have HN := Lib.hid hN
  have HN2 := Lib.hid hN2
  rw [show m.p 0 = m.k from rfl] at c0 k0
  rw [show m.p 1 = m.f from rfl] at c1 k1
  rw [show m.p 2 = m.t from rfl] at c2 k2
  obtain ⟨kk, hkk⟩ : ∃ kk, m.k = kk := ⟨_, rfl⟩
  obtain ⟨ff, hff⟩ : ∃ ff, m.f = ff := ⟨_, rfl⟩
  obtain ⟨tt, htt⟩ : ∃ tt, m.t = tt := ⟨_, rfl⟩
  rw [hkk] at c0 k0
  rw [hff] at c1 k1
  rw [htt] at c2 k2
  clear hX hbX hp hs hs' hN hN2 hm1 hm2 hkk hff htt
  unfold mV
  have q1 : (kk == kk) = true := beq_self_eq_true _
  have q2 : (kk != kk) = false := by rw [bne, q1]; rfl
  have q3 : (ff == ff) = true := beq_self_eq_true _
  have q4 : (ff != ff) = false := by rw [bne, q3]; rfl
  have q5 : (tt == tt) = true := beq_self_eq_true _
  have q6 : (tt != tt) = false := by rw [bne, q5]; rfl
  have q7 : ((N : Int) == (N : Int)) = true := beq_self_eq_true _
  have q8 : ((N : Int) != (N : Int)) = false := by rw [bne, q7]; rfl
  have hqv := fun w => eq_inV w m.v
  go_enter Try.func14, Try.ntmps14
  go_upto_region 1 with fail
  try simp only [World.size_alloc]
  rw [← HX.out, HP.out]
  go_wp2_with (first
    | (refine' wpList_load_midif ?q1 23 (.tmp 26) ?q2 p 3 ?q3 _ _ ?q4 Try.underlying23 ?q5 ?q6 ?_; (case q2 => rfl); (case q1 => rfl); (case q3 => rfl); (case q4 => exact HM1.out.vec); (case q5 => rfl); (case q6 => kernel_rfl))
    | (refine' wpList_load_midif ?q1 23 (.tmp 28) ?q2 (p + 1) 3 ?q3 _ _ ?q4 Try.underlying23 ?q5 ?q6 ?_; (case q2 => rfl); (case q1 => rfl); (case q3 => rfl); (case q4 => exact HM2.out.vec); (case q5 => rfl); (case q6 => kernel_rfl))
    | fail)
  clear hqv q1 q2 q3 q4 q5 q6 q7 q8 c0 c1 c2 k0 k1 k2 c19 k19
  go_loopw [44] (fun v44 wr => ∃ k : Nat, v44 = .int .i64 k ∧ k ≤ N ∧ Below X.heap.size X wr) (fun v44 _ => N - (intOf v44).toNat)
  case atStart => exact ⟨0, rfl, Nat.zero_le _, Below.refl _ _⟩
  case round =>
    obtain ⟨k, rfl, hk, hbw⟩ := hrel
    obtain ⟨wk, rfl⟩ : ∃ wk, wk = wr := ⟨_, rfl⟩
    have HBk := Lib.hid hbw
    by_cases hlt : k < N
    · obtain ⟨e, he⟩ : ∃ e, l[k]? = some e := ⟨l[k]'(by rw [HN.out]; exact hlt), List.getElem?_eq_getElem _⟩
      obtain ⟨ga, oa, hAa, hla, hca⟩ := (HS.out.below hbw).ev he
      obtain ⟨gb, ob, hAb, hlb, hcb⟩ := (HS'.out.below hbw).ev he
      subst hAa hAb
      have HCa := Lib.hid hca
      have HCb := Lib.hid hcb
      have HLa := Lib.hid hla
      have HLb := Lib.hid hlb
      have HLt := Lib.hid hlt
      have HMa := Lib.hid (HM1.out.keep hbw)
      have HMb := Lib.hid (HM2.out.keep hbw)
      have HW1 := Lib.hid (IntWalk.i64_in ((k : Int) + 1) (by have := HN2.out; omega))
      have HJ1 := Lib.hid (show ¬ 9223372036854775807 < k + 1 by have := HN2.out; omega)
      clear he hca hcb hla hlb hbw
      go_upto_region 6 with fail
      refine wp_region_any (by kernel_rfl) ?_
      refine wpAny_below (fun i v _ => v = ([.pointer (some ⟨p, 19, none⟩), .slice (some ⟨ga, oa, none⟩) N c, .int .i64 k, .pointer (some ⟨ga, oa + k * 27, none⟩), evV e, .pointer (some ⟨p + 1, 19, none⟩), .slice (some ⟨gb, ob, none⟩) N c', .int .i64 k, .pointer (some ⟨gb, ob + k * 27, none⟩), evV e, .bool false] : List Value).getD i undef) _ wk (by kernel_rfl) (by kernel_rfl) (by kernel_rfl) (fun i v w w' _ h => h) ?_ ?_
      · refine ⟨?_, ?_, ?_, ?_, ?_, ?_, ?_, ?_, ?_, ?_, ?_, trivial⟩
        · intro a W hI hun haft hi
          have e2 : a.eval (.tmp 2) = .pointer (some ⟨p, 0, none⟩) := hun 2 (by kernel_rfl)
          exact b_same hi hI rfl _ (run_fieldAddr_any rfl e2 (at_mg4 _ W)) rfl
        · intro a W hI hun haft hi
          have f0 : a.eval (.tmp 47) = .pointer (some ⟨p, 19, none⟩) := haft ⟨0, .data⟩ (by simp) rfl _ _ rfl rfl
          exact b_same hi hI rfl _ (run_loadsl_op rfl f0 Try.underlying24 (HMa.out.keep hI).ev) rfl
        · intro a W hI hun haft hi
          have e5 : a.eval (.tmp 5) = .int .i64 k := hun 5 (by kernel_rfl)
          exact b_same hi hI rfl _ (run_move_op rfl e5) rfl
        · intro a W hI hun haft hi
          have f1 : a.eval (.tmp 48) = .slice (some ⟨ga, oa, none⟩) N c := haft ⟨1, .data⟩ (by simp) rfl _ _ rfl rfl
          have f2 : a.eval (.tmp 49) = .int .i64 k := haft ⟨2, .data⟩ (by simp) rfl _ _ rfl rfl
          exact b_same hi hI rfl _ (run_indexAddr_op rfl f1 f2 (at_Ev ga oa c N k HLt.out _)) rfl
        · intro a W hI hun haft hi
          have f3 : a.eval (.tmp 50) = .pointer (some ⟨ga, oa + k * 27, none⟩) := haft ⟨3, .data⟩ (by simp) rfl _ _ rfl rfl
          exact b_same hi hI rfl _ (run_loadmid_op rfl f3 (rangeAt_same HCa.out (hI.block ga HLa.out)) Try.underlying48 rfl (sizeE e)) rfl
        · intro a W hI hun haft hi
          have e3 : a.eval (.tmp 3) = .pointer (some ⟨p + 1, 0, none⟩) := hun 3 (by kernel_rfl)
          exact b_same hi hI rfl _ (run_fieldAddr_any rfl e3 (at_mg4 _ W)) rfl
        · intro a W hI hun haft hi
          have f5 : a.eval (.tmp 52) = .pointer (some ⟨p + 1, 19, none⟩) := haft ⟨5, .data⟩ (by simp) rfl _ _ rfl rfl
          exact b_same hi hI rfl _ (run_loadsl_op rfl f5 Try.underlying24 (HMb.out.keep hI).ev) rfl
        · intro a W hI hun haft hi
          have e5 : a.eval (.tmp 5) = .int .i64 k := hun 5 (by kernel_rfl)
          exact b_same hi hI rfl _ (run_move_op rfl e5) rfl
        · intro a W hI hun haft hi
          have f6 : a.eval (.tmp 53) = .slice (some ⟨gb, ob, none⟩) N c' := haft ⟨6, .data⟩ (by simp) rfl _ _ rfl rfl
          have f7 : a.eval (.tmp 54) = .int .i64 k := haft ⟨7, .data⟩ (by simp) rfl _ _ rfl rfl
          exact b_same hi hI rfl _ (run_indexAddr_op rfl f6 f7 (at_Ev gb ob c' N k HLt.out _)) rfl
        · intro a W hI hun haft hi
          have f8 : a.eval (.tmp 55) = .pointer (some ⟨gb, ob + k * 27, none⟩) := haft ⟨8, .data⟩ (by simp) rfl _ _ rfl rfl
          exact b_same hi hI rfl _ (run_loadmid_op rfl f8 (rangeAt_same HCb.out (hI.block gb HLb.out)) Try.underlying48 rfl (sizeE e)) rfl
        · intro a W hI hun haft hi
          have f4 : a.eval (.tmp 51) = evV e := haft ⟨4, .data⟩ (by simp) rfl _ _ rfl rfl
          have f9 : a.eval (.tmp 56) = evV e := haft ⟨9, .data⟩ (by simp) rfl _ _ rfl rfl
          exact b_same hi hI rfl (.bool false) (run_bin_op rfl f4 f9 (by kernel_rfl) (run_neEv W e)) rfl
      · intro vals W hI hp
        have hl10 : vals 10 = .bool false := hp 10 (by decide)
        have HI := Lib.hid hI
        clear hp hI
        simp only [layN, List.size_toArray, List.length_cons, List.length_nil, List.range, List.range.loop, if_true, List.getElem?_toArray, List.getElem?_cons_zero, List.getElem?_cons_succ, Act.put, List.setIfInBounds_toArray, List.set_cons_zero, List.set_cons_succ, Nat.zero_add, Nat.reduceAdd, hl10]
        clear hl10
        have hjm := HJ1.out
        have hw := HW1.out
        have hlt := HLt.out
        clear HCa HCb HLa HLb
        generalize W = W6 at *
        go_wp2
        go_roundw
        case rel => exact ⟨k + 1, by go_num, HLt.out, HBk.out.trans (HI.out.mono HBk.out.size)⟩
        case measure => simp [intOf] <;> omega
    · have hkn : N = k := by omega
      subst hkn
      clear hbw hlt hk
      go_wp2
      go_ret
      exact ⟨rfl, HB.out.trans (HBk.out.mono HB.out.size)⟩

end Go.Proofs.Ytalaidlnhoonfaa

namespace Go.Proofs.Ytalaidlnhoonfaa
open Go.RowKit

set_option maxRecDepth 100000 in
set_option maxHeartbeats 2000000 in
theorem equal_nil (A A' : Option Addr) (c c' : Nat) (w : World) : Calls Try.prog 32 #[.slice A 0 c, .slice A' 0 c'] w (Gives w (.bool true)) := by
  go_enter Try.func32, Try.ntmps32
  go_wp2_with fail
  go_loopw [13] (fun v13 wr => v13 = .int .i64 0 ∧ Below w.heap.size w wr) (fun _ _ => 0)
  case atStart => exact ⟨rfl, Below.refl _ _⟩
  case round =>
    obtain ⟨rfl, hb⟩ := hrel
    have HBo := Lib.hid hb
    clear hb
    go_wp2
    go_ret
    exact ⟨rfl, HBo.out⟩
/-- The message of the law's fixed calls. -/
def mg1 : Mg := ⟨1, 0, 1, fun _ => 0⟩

set_option maxRecDepth 100000 in
set_option maxHeartbeats 2000000 in
theorem msame_one (A A' : Option Addr) (c c' : Nat) (w : World) : Calls Try.prog 16 #[mV mg1 (.slice A 0 c), mV mg1 (.slice A' 0 c')] w (Gives w (.bool true)) := by
  obtain ⟨p, hp⟩ : ∃ p, w.heap.size = p := ⟨_, rfl⟩
  obtain ⟨X, hX⟩ : ∃ X, X = (w.alloc (.cells (mC mg1 (.slice A 0 c)) 26)).alloc (.cells (mC mg1 (.slice A' 0 c')) 26) := ⟨_, rfl⟩
  have hbX : Below w.heap.size w X := by rw [hX]; exact ((Below.refl _ _).alloc (Nat.le_refl _) _).alloc (by simp) _
  have hm1 : MB X p mg1 (.slice A 0 c) := by rw [hX, ← hp]; exact (MB.new_ w mg1 _).keep ((Below.refl _ _).alloc (Nat.le_refl _) _)
  have hm2 : MB X (p + 1) mg1 (.slice A' 0 c') := by
    rw [hX, ← hp]
    have := MB.new_ (w.alloc (.cells (mC mg1 (.slice A 0 c)) 26)) mg1 (.slice A' 0 c')
    simpa using this
  have HM1 := Lib.hid hm1
  have HM2 := Lib.hid hm2
  have c0 : X.cell? ⟨p, 0, none⟩ = some (.int .i64 1) := hm1.at_ 0 (by decide)
  have c1 : X.cell? ⟨p, 1, none⟩ = some (.int .i64 0) := hm1.at_ 1 (by decide)
  have c2 : X.cell? ⟨p, 2, none⟩ = some (.int .i64 1) := hm1.at_ 2 (by decide)
  have c19 := hm1.ev
  have k0 : X.cell? ⟨p + 1, 0, none⟩ = some (.int .i64 1) := hm2.at_ 0 (by decide)
  have k1 : X.cell? ⟨p + 1, 1, none⟩ = some (.int .i64 0) := hm2.at_ 1 (by decide)
  have k2 : X.cell? ⟨p + 1, 2, none⟩ = some (.int .i64 1) := hm2.at_ 2 (by decide)
  have k19 := hm2.ev
  have HX := Lib.hid hX
  have HP := Lib.hid hp
  have HB := Lib.hid hbX
  clear hX hbX hp hm1 hm2
  unfold mV
  have hqv := fun w => eq_inV w mg1.v
  go_enter Try.func16, Try.ntmps16
  go_upto_region 1 with fail
  try simp only [World.size_alloc]
  rw [← HX.out, HP.out]
  go_wp2_with (first
    | (refine' wpList_load_midif ?q1 23 (.tmp 27) ?q2 p 3 ?q3 _ _ ?q4 Try.underlying23 ?q5 ?q6 ?_; (case q2 => rfl); (case q1 => rfl); (case q3 => rfl); (case q4 => exact HM1.out.vec); (case q5 => rfl); (case q6 => kernel_rfl))
    | (refine' wpList_load_midif ?q1 23 (.tmp 29) ?q2 (p + 1) 3 ?q3 _ _ ?q4 Try.underlying23 ?q5 ?q6 ?_; (case q2 => rfl); (case q1 => rfl); (case q3 => rfl); (case q4 => exact HM2.out.vec); (case q5 => rfl); (case q6 => kernel_rfl))
    | fail)
  refine (equal_nil A A' c c' X).mono ?_
  rintro e w1 ⟨rfl, hb⟩
  have HB1 := Lib.hid (HB.out.trans (hb.mono HB.out.size))
  clear hb hqv c0 c1 c2 c19 k0 k1 k2 k19
  go_wp2
  go_ret
  exact ⟨rfl, HB1.out⟩

set_option maxRecDepth 100000 in
set_option maxHeartbeats 2000000 in
theorem msame_none (A A' : Option Addr) (c c' : Nat) (w : World) : Calls Try.prog 16 #[mV mg1 (.slice A 0 c), mV m0 (.slice A' 0 c')] w (Gives w (.bool false)) := by
  obtain ⟨p, hp⟩ : ∃ p, w.heap.size = p := ⟨_, rfl⟩
  obtain ⟨X, hX⟩ : ∃ X, X = (w.alloc (.cells (mC mg1 (.slice A 0 c)) 26)).alloc (.cells (mC m0 (.slice A' 0 c')) 26) := ⟨_, rfl⟩
  have hbX : Below w.heap.size w X := by rw [hX]; exact ((Below.refl _ _).alloc (Nat.le_refl _) _).alloc (by simp) _
  have hm1 : MB X p mg1 (.slice A 0 c) := by rw [hX, ← hp]; exact (MB.new_ w mg1 _).keep ((Below.refl _ _).alloc (Nat.le_refl _) _)
  have hm2 : MB X (p + 1) m0 (.slice A' 0 c') := by
    rw [hX, ← hp]
    have := MB.new_ (w.alloc (.cells (mC mg1 (.slice A 0 c)) 26)) m0 (.slice A' 0 c')
    simpa using this
  have c0 : X.cell? ⟨p, 0, none⟩ = some (.int .i64 1) := hm1.at_ 0 (by decide)
  have c1 : X.cell? ⟨p, 1, none⟩ = some (.int .i64 0) := hm1.at_ 1 (by decide)
  have c2 : X.cell? ⟨p, 2, none⟩ = some (.int .i64 1) := hm1.at_ 2 (by decide)
  have k0 : X.cell? ⟨p + 1, 0, none⟩ = some (.int .i64 0) := hm2.at_ 0 (by decide)
  have k1 : X.cell? ⟨p + 1, 1, none⟩ = some (.int .i64 0) := hm2.at_ 1 (by decide)
  have k2 : X.cell? ⟨p + 1, 2, none⟩ = some (.int .i64 0) := hm2.at_ 2 (by decide)
  have HX := Lib.hid hX
  have HP := Lib.hid hp
  have HB := Lib.hid hbX
  clear hX hbX hp hm1 hm2
  unfold mV
  go_enter Try.func16, Try.ntmps16
  go_upto_region 1 with fail
  try simp only [World.size_alloc]
  rw [← HX.out, HP.out]
  go_wp2
  go_ret
  exact ⟨rfl, HB.out⟩

/-- What the fixed calls answer. -/
theorem bytes_one : Fr.frameB (payB mg1 []) = [20, 0, 0, 177, 1, 0, 1, 0, 0, 0, 0, 0, 0, 0, 0, 0, 0, 0, 0, 0, 0, 0, 0, 0] ++ Fr.leB (Fr.crcOf (payB mg1 [])) := by rfl
theorem right_one : rightM mg1 [] = true := by kernel_rfl
theorem put_zero (k : Nat) (h : 3 ≤ k) : mg1.put k 0 = mg1 := by
  unfold Mg.put
  rw [if_neg (by omega), if_neg (by omega), if_neg (by omega)]
  unfold mg1
  congr 1
  funext j
  split <;> rfl
theorem num_zero (r : List UInt8) : rNum (0 :: r, false) 1048576 = (0, (r, false)) := by rfl
theorem num_zero' (r : List UInt8) : rNum (0 :: r, false) 200 = (0, (r, false)) := by rfl
theorem rdP_one : ∀ j, j ≤ 16 → rdP (payB mg1 [], false) (3 + j) = (mg1, (List.replicate (17 - j) 0, false))
  | 0, _ => by rfl
  | j + 1, h => by
    have h1 := rdP_one j (by omega)
    show ((rdP (payB mg1 [], false) (3 + j)).1.put (3 + j) (rNum (rdP (payB mg1 [], false) (3 + j)).2 1048576).1, (rNum (rdP (payB mg1 [], false) (3 + j)).2 1048576).2) = _
    rw [h1]
    dsimp only
    rw [show 17 - j = (17 - (j + 1)) + 1 by omega, List.replicate_succ, num_zero, put_zero _ (by omega)]
theorem read_one : readM (payB mg1 [], false) = some (mg1, []) := by
  have h := rdP_one 16 (Nat.le_refl _)
  have h1 : (rdP (payB mg1 [], false) 19) = (mg1, ([0], false)) := h
  have hc : cntM (payB mg1 [], false) = 0 := by unfold cntM; rw [h1]; rfl
  have hs : stM (payB mg1 [], false) = ([], false) := by unfold stM; rw [h1]; rfl
  unfold readM
  rw [hc, hs, h1]
  rfl
theorem whole_one : Fr.wholeF (Fr.frameB (payB mg1 [])) = (payB mg1 [], 0) := by
  have h := Fr.takeF_frame (payB mg1 []) [] (by decide)
  rw [List.append_nil] at h
  unfold Fr.wholeF
  rw [h, if_neg (by simp), if_neg (by rw [Fr.frameB_length]; dsimp only; omega)]
theorem msg_one : msgC (bytesM mg1 []) = 0 ∧ msgM (bytesM mg1 []) = (mg1, []) := by
  have h : msgR (payB mg1 []) = some (mg1, []) := by
    unfold msgR
    rw [read_one]
    dsimp only
    rw [if_pos right_one]
  unfold msgC msgM bytesM
  rw [whole_one]
  simp [h]
theorem msg_cut : msgC ((bytesM mg1 []).drop 1) ≠ 0 := by
  have h : Fr.wholeF ((bytesM mg1 []).drop 1) = ([], 7) := by
    unfold bytesM
    rw [bytes_one]
    have h2 : Fr.takeF (([20, 0, 0, 177, 1, 0, 1, 0, 0, 0, 0, 0, 0, 0, 0, 0, 0, 0, 0, 0, 0, 0, 0, 0] ++ Fr.leB (Fr.crcOf (payB mg1 []))).drop 1) = ([], 0, 7) := by
      unfold Fr.takeF
      rw [if_neg (by simp [Fr.leB_length]), if_pos (by decide)]
    unfold Fr.wholeF
    rw [h2]
    rfl
  unfold msgC
  rw [h]
  decide
theorem len_one : (bytesM mg1 []).length = 28 := by unfold bytesM; rw [Fr.frameB_length]; rfl
theorem right_none : rightM m0 [] = false := by kernel_rfl

end Go.Proofs.Ytalaidlnhoonfaa
