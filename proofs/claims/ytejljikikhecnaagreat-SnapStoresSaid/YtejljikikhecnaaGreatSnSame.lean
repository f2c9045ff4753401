/-
  snap.Same at snapshots that are the same: the contract, by walks. Conditions: lengths.
-/
import Derived.Test.YtejljikikhecnaaGreatSnEnc
namespace Go.Proofs.YtejljikikhecnaaGreat
open Go.RowKit Go.MapKept Go.Sort

theorem ne_en (q : Dt × Va) (w : World) : (binOp .neq 63 (.agg (cN q)) (.agg (cN q))).run Tryz.prog w = .ok (.bool false) w := by
  unfold cN; go_simp
theorem ne_evS (e : Ev) (w : World) : (binOp .neq 49 (evV e) (evV e)).run Tryz.prog w = .ok (.bool false) w := by
  have hq := run_equalIn_arr Tryz.prog w 9997 23 3 e.p e.p Tryz.underlying23 Tryz.underlying3 sizeI
  rw [vA_lit, eqV_self] at hq
  unfold evV evC
  go_simp
theorem eq_el (x : El) (w : World) : (binOp .eql 45 (eE x) (eE x)).run Tryz.prog w = .ok (.bool true) w := by
  unfold eE elV; go_simp
theorem eqv_true (f : Nat → Int) (w : World) : (Op.equalIn 10000 23 (.agg (vA f)) (.agg (vA f))).run Tryz.prog w = .ok true w := by
  have hq := run_equalIn_arr Tryz.prog w 9998 23 3 f f Tryz.underlying23 Tryz.underlying3 sizeI
  rw [eqV_self] at hq
  exact hq
set_option maxRecDepth 100000 in
set_option maxHeartbeats 4000000 in
theorem equalN_true (l : List (Dt × Va)) (A A' : Option Addr) (N c c' : Nat) (w : World) (hs : SlK enN 5 w (.slice A N c) l) (hs' : SlK enN 5 w (.slice A' N c') l) (hN : l.length = N) (hN2 : N ≤ 10000) :
    Calls Tryz.prog 77 #[.slice A N c, .slice A' N c'] w (Gives w (.bool true)) := by
  have HS := Lib.hid hs
  have HS' := Lib.hid hs'
  have HN := Lib.hid hN
  have HN2 := Lib.hid hN2
  clear hs hs' hN hN2
  have q7 : ((N : Int) == (N : Int)) = true := beq_self_eq_true _
  have q8 : ((N : Int) != (N : Int)) = false := by rw [bne, q7]; rfl
  go_enter Tryz.func77, Tryz.ntmps77
  go_wp2_with fail
  clear q7 q8
  go_loopw [13] (fun v13 wr => ∃ k : Nat, v13 = .int .i64 k ∧ k ≤ N ∧ Below w.heap.size w wr) (fun v13 _ => N - (intOf v13).toNat)
  case atStart => exact ⟨0, rfl, Nat.zero_le _, Below.refl _ _⟩
  case round =>
    obtain ⟨k, rfl, hk, hbw⟩ := hrel
    obtain ⟨wk, rfl⟩ : ∃ wk, wk = wr := ⟨_, rfl⟩
    have HBk := Lib.hid hbw
    by_cases hlt : k < N
    · obtain ⟨e, he⟩ : ∃ e, l[k]? = some e := ⟨l[k]'(by rw [HN.out]; exact hlt), List.getElem?_eq_getElem _⟩
      obtain ⟨ga, oa, hAa, hla, hca⟩ := (HS.out.below hbw).at_ he
      obtain ⟨gb, ob, hAb, hlb, hcb⟩ := (HS'.out.below hbw).at_ he
      subst hAa hAb
      have HCa := Lib.hid hca
      have HCb := Lib.hid hcb
      have HLa := Lib.hid hla
      have HLb := Lib.hid hlb
      have HLt := Lib.hid hlt
      have HW1 := Lib.hid (IntWalk.i64_in ((k : Int) + 1) (by have := HN2.out; omega))
      have HJ1 := Lib.hid (show ¬ 9223372036854775807 < k + 1 by have := HN2.out; omega)
      clear he hca hcb hla hlb hbw
      go_upto_region 6 with fail
      refine wp_region_any (by kernel_rfl) ?_
      refine wpAny_below (fun i v _ => v = ([.slice (some ⟨ga, oa, none⟩) N c, .int .i64 k, .pointer (some ⟨ga, oa + k * 5, none⟩), .agg (cN e), .slice (some ⟨gb, ob, none⟩) N c', .int .i64 k, .pointer (some ⟨gb, ob + k * 5, none⟩), .agg (cN e), .bool false] : List Value).getD i undef) _ wk (by kernel_rfl) (by kernel_rfl) (by kernel_rfl) (fun i v w w' _ h => h) ?_ ?_
      · refine ⟨?_, ?_, ?_, ?_, ?_, ?_, ?_, ?_, ?_, trivial⟩
        · intro a W hI hun haft hi
          have e0 : a.eval (.tmp 0) = .slice (some ⟨ga, oa, none⟩) N c := hun 0 (by kernel_rfl)
          exact b_same hi hI rfl _ (run_move_op rfl e0) rfl
        · intro a W hI hun haft hi
          have e5 : a.eval (.tmp 5) = .int .i64 k := hun 5 (by kernel_rfl)
          exact b_same hi hI rfl _ (run_move_op rfl e5) rfl
        · intro a W hI hun haft hi
          have f0 : a.eval (.tmp 16) = .slice (some ⟨ga, oa, none⟩) N c := haft ⟨0, .data⟩ (by simp) rfl _ _ rfl rfl
          have f1 : a.eval (.tmp 17) = .int .i64 k := haft ⟨1, .data⟩ (by simp) rfl _ _ rfl rfl
          exact b_same hi hI rfl _ (run_indexAddr_op rfl f0 f1 (at_En ga oa c N k HLt.out _)) rfl
        · intro a W hI hun haft hi
          have f2 : a.eval (.tmp 18) = .pointer (some ⟨ga, oa + k * 5, none⟩) := haft ⟨2, .data⟩ (by simp) rfl _ _ rfl rfl
          exact b_same hi hI rfl _ (run_loadmid_op rfl f2 (rangeAt_same HCa.out (hI.block ga HLa.out)) Tryz.underlying63 rfl (sizeNn e)) rfl
        · intro a W hI hun haft hi
          have e1 : a.eval (.tmp 1) = .slice (some ⟨gb, ob, none⟩) N c' := hun 1 (by kernel_rfl)
          exact b_same hi hI rfl _ (run_move_op rfl e1) rfl
        · intro a W hI hun haft hi
          have e5 : a.eval (.tmp 5) = .int .i64 k := hun 5 (by kernel_rfl)
          exact b_same hi hI rfl _ (run_move_op rfl e5) rfl
        · intro a W hI hun haft hi
          have f4 : a.eval (.tmp 20) = .slice (some ⟨gb, ob, none⟩) N c' := haft ⟨4, .data⟩ (by simp) rfl _ _ rfl rfl
          have f5 : a.eval (.tmp 21) = .int .i64 k := haft ⟨5, .data⟩ (by simp) rfl _ _ rfl rfl
          exact b_same hi hI rfl _ (run_indexAddr_op rfl f4 f5 (at_En gb ob c' N k HLt.out _)) rfl
        · intro a W hI hun haft hi
          have f6 : a.eval (.tmp 22) = .pointer (some ⟨gb, ob + k * 5, none⟩) := haft ⟨6, .data⟩ (by simp) rfl _ _ rfl rfl
          exact b_same hi hI rfl _ (run_loadmid_op rfl f6 (rangeAt_same HCb.out (hI.block gb HLb.out)) Tryz.underlying63 rfl (sizeNn e)) rfl
        · intro a W hI hun haft hi
          have f3 : a.eval (.tmp 19) = .agg (cN e) := haft ⟨3, .data⟩ (by simp) rfl _ _ rfl rfl
          have f7 : a.eval (.tmp 23) = .agg (cN e) := haft ⟨7, .data⟩ (by simp) rfl _ _ rfl rfl
          exact b_same hi hI rfl (.bool false) (run_bin_op rfl f3 f7 (by kernel_rfl) (ne_en e W)) rfl
      · intro vals W hI hp
        have hl8 : vals 8 = .bool false := hp 8 (by decide)
        have HI := Lib.hid hI
        clear hp hI
        simp only [layN, List.size_toArray, List.length_cons, List.length_nil, List.range, List.range.loop, if_true, List.getElem?_toArray, List.getElem?_cons_zero, List.getElem?_cons_succ, Act.put, List.setIfInBounds_toArray, List.set_cons_zero, List.set_cons_succ, Nat.zero_add, Nat.reduceAdd, hl8]
        clear hl8
        have hjm := HJ1.out
        have hw := HW1.out
        have hlt := HLt.out
        clear HCa HCb HLa HLb
        generalize W = W6 at *
        go_wp2
        go_roundw
        case rel => exact ⟨k + 1, by go_num, HLt.out, HBk.out.trans (HI.out.mono HBk.out.size)⟩
        case measure => simp [intOf] <;> omega
    · have hkn : N = k := by omega
      subst hkn
      clear hbw hlt hk
      go_wp2
      go_ret
      exact ⟨rfl, HBk.out⟩

set_option maxRecDepth 100000 in
set_option maxHeartbeats 4000000 in
theorem equalE_true (l : List (Ev)) (A A' : Option Addr) (N c c' : Nat) (w : World) (hs : SlK encE 27 w (.slice A N c) l) (hs' : SlK encE 27 w (.slice A' N c') l) (hN : l.length = N) (hN2 : N ≤ 10000) :
    Calls Tryz.prog 47 #[.slice A N c, .slice A' N c'] w (Gives w (.bool true)) := by
  have HS := Lib.hid hs
  have HS' := Lib.hid hs'
  have HN := Lib.hid hN
  have HN2 := Lib.hid hN2
  clear hs hs' hN hN2
  have q7 : ((N : Int) == (N : Int)) = true := beq_self_eq_true _
  have q8 : ((N : Int) != (N : Int)) = false := by rw [bne, q7]; rfl
  go_enter Tryz.func47, Tryz.ntmps47
  go_wp2_with fail
  clear q7 q8
  go_loopw [13] (fun v13 wr => ∃ k : Nat, v13 = .int .i64 k ∧ k ≤ N ∧ Below w.heap.size w wr) (fun v13 _ => N - (intOf v13).toNat)
  case atStart => exact ⟨0, rfl, Nat.zero_le _, Below.refl _ _⟩
  case round =>
    obtain ⟨k, rfl, hk, hbw⟩ := hrel
    obtain ⟨wk, rfl⟩ : ∃ wk, wk = wr := ⟨_, rfl⟩
    have HBk := Lib.hid hbw
    by_cases hlt : k < N
    · obtain ⟨e, he⟩ : ∃ e, l[k]? = some e := ⟨l[k]'(by rw [HN.out]; exact hlt), List.getElem?_eq_getElem _⟩
      obtain ⟨ga, oa, hAa, hla, hca⟩ := (HS.out.below hbw).at_ he
      obtain ⟨gb, ob, hAb, hlb, hcb⟩ := (HS'.out.below hbw).at_ he
      subst hAa hAb
      have HCa := Lib.hid hca
      have HCb := Lib.hid hcb
      have HLa := Lib.hid hla
      have HLb := Lib.hid hlb
      have HLt := Lib.hid hlt
      have HW1 := Lib.hid (IntWalk.i64_in ((k : Int) + 1) (by have := HN2.out; omega))
      have HJ1 := Lib.hid (show ¬ 9223372036854775807 < k + 1 by have := HN2.out; omega)
      clear he hca hcb hla hlb hbw
      go_upto_region 6 with fail
      refine wp_region_any (by kernel_rfl) ?_
      refine wpAny_below (fun i v _ => v = ([.slice (some ⟨ga, oa, none⟩) N c, .int .i64 k, .pointer (some ⟨ga, oa + k * 27, none⟩), evV e, .slice (some ⟨gb, ob, none⟩) N c', .int .i64 k, .pointer (some ⟨gb, ob + k * 27, none⟩), evV e, .bool false] : List Value).getD i undef) _ wk (by kernel_rfl) (by kernel_rfl) (by kernel_rfl) (fun i v w w' _ h => h) ?_ ?_
      · refine ⟨?_, ?_, ?_, ?_, ?_, ?_, ?_, ?_, ?_, trivial⟩
        · intro a W hI hun haft hi
          have e0 : a.eval (.tmp 0) = .slice (some ⟨ga, oa, none⟩) N c := hun 0 (by kernel_rfl)
          exact b_same hi hI rfl _ (run_move_op rfl e0) rfl
        · intro a W hI hun haft hi
          have e5 : a.eval (.tmp 5) = .int .i64 k := hun 5 (by kernel_rfl)
          exact b_same hi hI rfl _ (run_move_op rfl e5) rfl
        · intro a W hI hun haft hi
          have f0 : a.eval (.tmp 16) = .slice (some ⟨ga, oa, none⟩) N c := haft ⟨0, .data⟩ (by simp) rfl _ _ rfl rfl
          have f1 : a.eval (.tmp 17) = .int .i64 k := haft ⟨1, .data⟩ (by simp) rfl _ _ rfl rfl
          exact b_same hi hI rfl _ (run_indexAddr_op rfl f0 f1 (at_Ev ga oa c N k HLt.out _)) rfl
        · intro a W hI hun haft hi
          have f2 : a.eval (.tmp 18) = .pointer (some ⟨ga, oa + k * 27, none⟩) := haft ⟨2, .data⟩ (by simp) rfl _ _ rfl rfl
          exact b_same hi hI rfl _ (run_loadmid_op rfl f2 (rangeAt_same HCa.out (hI.block ga HLa.out)) Tryz.underlying49 rfl (sizeE e)) rfl
        · intro a W hI hun haft hi
          have e1 : a.eval (.tmp 1) = .slice (some ⟨gb, ob, none⟩) N c' := hun 1 (by kernel_rfl)
          exact b_same hi hI rfl _ (run_move_op rfl e1) rfl
        · intro a W hI hun haft hi
          have e5 : a.eval (.tmp 5) = .int .i64 k := hun 5 (by kernel_rfl)
          exact b_same hi hI rfl _ (run_move_op rfl e5) rfl
        · intro a W hI hun haft hi
          have f4 : a.eval (.tmp 20) = .slice (some ⟨gb, ob, none⟩) N c' := haft ⟨4, .data⟩ (by simp) rfl _ _ rfl rfl
          have f5 : a.eval (.tmp 21) = .int .i64 k := haft ⟨5, .data⟩ (by simp) rfl _ _ rfl rfl
          exact b_same hi hI rfl _ (run_indexAddr_op rfl f4 f5 (at_Ev gb ob c' N k HLt.out _)) rfl
        · intro a W hI hun haft hi
          have f6 : a.eval (.tmp 22) = .pointer (some ⟨gb, ob + k * 27, none⟩) := haft ⟨6, .data⟩ (by simp) rfl _ _ rfl rfl
          exact b_same hi hI rfl _ (run_loadmid_op rfl f6 (rangeAt_same HCb.out (hI.block gb HLb.out)) Tryz.underlying49 rfl (sizeE e)) rfl
        · intro a W hI hun haft hi
          have f3 : a.eval (.tmp 19) = evV e := haft ⟨3, .data⟩ (by simp) rfl _ _ rfl rfl
          have f7 : a.eval (.tmp 23) = evV e := haft ⟨7, .data⟩ (by simp) rfl _ _ rfl rfl
          exact b_same hi hI rfl (.bool false) (run_bin_op rfl f3 f7 (by kernel_rfl) (ne_evS e W)) rfl
      · intro vals W hI hp
        have hl8 : vals 8 = .bool false := hp 8 (by decide)
        have HI := Lib.hid hI
        clear hp hI
        simp only [layN, List.size_toArray, List.length_cons, List.length_nil, List.range, List.range.loop, if_true, List.getElem?_toArray, List.getElem?_cons_zero, List.getElem?_cons_succ, Act.put, List.setIfInBounds_toArray, List.set_cons_zero, List.set_cons_succ, Nat.zero_add, Nat.reduceAdd, hl8]
        clear hl8
        have hjm := HJ1.out
        have hw := HW1.out
        have hlt := HLt.out
        clear HCa HCb HLa HLb
        generalize W = W6 at *
        go_wp2
        go_roundw
        case rel => exact ⟨k + 1, by go_num, HLt.out, HBk.out.trans (HI.out.mono HBk.out.size)⟩
        case measure => simp [intOf] <;> omega
    · have hkn : N = k := by omega
      subst hkn
      clear hbw hlt hk
      go_wp2
      go_ret
      exact ⟨rfl, HBk.out⟩

set_option maxRecDepth 100000 in
set_option maxHeartbeats 4000000 in
theorem sameItem_true (x : El) (l : List (Dt × Va)) (A A' : Option Addr) (N c c' : Nat) (w : World) (hs : SlK enN 5 w (.slice A N c) l) (hs' : SlK enN 5 w (.slice A' N c') l) (hN : l.length = N) (hN2 : N ≤ 10000) :
    Calls Tryz.prog 46 #[.agg (cI (x, .slice A N c)), .agg (cI (x, .slice A' N c'))] w (Gives w (.bool true)) := by
  obtain ⟨p, hp⟩ : ∃ p, w.heap.size = p := ⟨_, rfl⟩
  obtain ⟨X, hX⟩ : ∃ X, X = (w.alloc (.cells (cI (x, .slice A N c)) 61)).alloc (.cells (cI (x, .slice A' N c')) 61) := ⟨_, rfl⟩
  have hbX : Below w.heap.size w X := by rw [hX]; exact ((Below.refl _ _).alloc (Nat.le_refl _) _).alloc (by simp) _
  have hm1 : Blk X p 61 (cI (x, .slice A N c)) := by rw [hX, ← hp]; exact (Blk.new w _ _).alloc _
  have hm2 : Blk X (p + 1) 61 (cI (x, .slice A' N c')) := by
    rw [hX, ← hp]
    have := Blk.new (w.alloc (.cells (cI (x, .slice A N c)) 61)) 61 (cI (x, .slice A' N c'))
    simpa using this
  have HM1 := Lib.hid hm1
  have HM2 := Lib.hid hm2
  have c5 : X.cell? ⟨p, 5, none⟩ = some (.slice A N c) := (Blk.cell hm1 5).trans rfl
  have k5 : X.cell? ⟨p + 1, 5, none⟩ = some (.slice A' N c') := (Blk.cell hm2 5).trans rfl
  have HEq := Lib.hid (equalN_true l A A' N c c' X (hs.below hbX) (hs'.below hbX) hN hN2)
  have HX := Lib.hid hX
  have HP := Lib.hid hp
  have HB := Lib.hid hbX
  have heq := fun w => eq_el x w
  unfold eE elV at heq
  clear hX hbX hp hs hs' hN hN2 hm1 hm2
  go_enter Tryz.func46, Tryz.ntmps46
  go_upto_region 1 with fail
  try simp only [World.size_alloc]
  rw [← HX.out, HP.out]
  go_wp2_with (first
    | (refine' wpList_load_midif ?q1 45 (.tmp 5) ?q2 p 0 ?q3 (enL x) _ ?q4 Tryz.underlying45 ?q5 ?q6 ?_; (case q2 => rfl); (case q1 => rfl); (case q3 => rfl); (case q4 => exact World.rangeAt_of_block (C := cI (x, .slice A N c)) HM1.out 0 5); (case q5 => rfl); (case q6 => kernel_rfl))
    | (refine' wpList_load_midif ?q1 45 (.tmp 7) ?q2 (p + 1) 0 ?q3 (enL x) _ ?q4 Tryz.underlying45 ?q5 ?q6 ?_; (case q2 => rfl); (case q1 => rfl); (case q3 => rfl); (case q4 => exact World.rangeAt_of_block (C := cI (x, .slice A' N c')) HM2.out 0 5); (case q5 => rfl); (case q6 => kernel_rfl))
    | (refine wpList_val (o := ⟨some 9, _, _, _, _, _⟩) rfl (.bool true) X (run_bin_op rfl rfl rfl (by kernel_rfl) (eq_el x X)) ?_)
    | fail)
  refine HEq.out.mono ?_
  rintro e w1 ⟨rfl, hb⟩
  have HB1 := Lib.hid (HB.out.trans (hb.mono HB.out.size))
  clear hb c5 k5
  go_wp2
  go_ret
  exact ⟨rfl, HB1.out⟩

set_option maxRecDepth 100000 in
set_option maxHeartbeats 6000000 in
theorem equalFunc_true (I : List (El × List (Dt × Va))) (A A' : Option Addr) (N c c' : Nat) (w : World) (hs : ItsIs w (.slice A N c) I) (hs' : ItsIs w (.slice A' N c') I) (hN : I.length = N) (hN2 : N ≤ 10000) (hI : ∀ q ∈ I, q.2.length ≤ 10000) :
    Calls Tryz.prog 45 #[.slice A N c, .slice A' N c', .func (.func 46) #[] #[]] w (Gives w (.bool true)) := by
  have HS := Lib.hid hs
  have HS' := Lib.hid hs'
  have HN := Lib.hid hN
  have HN2 := Lib.hid hN2
  have HI := Lib.hid hI
  have HZe := Lib.hid (zero_of_info zeroI).1
  clear hs hs' hN hN2 hI
  have q7 : ((N : Int) == (N : Int)) = true := beq_self_eq_true _
  have q8 : ((N : Int) != (N : Int)) = false := by rw [bne, q7]; rfl
  go_enter Tryz.func45, Tryz.ntmps45
  go_wp2_with fail
  clear q7 q8
  go_loopw [17] (fun v17 wr => ∃ k : Nat, v17 = .int .i64 k ∧ k ≤ N ∧ Below w.heap.size w wr) (fun v17 _ => N - (intOf v17).toNat)
  case atStart => exact ⟨0, rfl, Nat.zero_le _, Below.refl _ _⟩
  case round =>
    obtain ⟨k, rfl, hk, hbw⟩ := hrel
    obtain ⟨wi, rfl⟩ : ∃ wi, wi = wr := ⟨_, rfl⟩
    have HBk := Lib.hid hbw
    by_cases hlt : k < N
    case neg =>
      have hkn : N = k := by omega
      subst hkn
      clear hbw hlt hk
      go_wp2
      go_ret
      exact ⟨rfl, HBk.out⟩
    obtain ⟨q, hq⟩ : ∃ q, I[k]? = some q := ⟨I[k]'(by rw [HN.out]; exact hlt), List.getElem?_eq_getElem _⟩
    have HqL := Lib.hid (HI.out q (List.mem_of_getElem? hq))
    obtain ⟨x, l⟩ := q
    dsimp only at HqL
    obtain ⟨A2, c2, ga, oa, hAa, hla, hca, hsa⟩ := (HS.out.below hbw).at_ hq
    obtain ⟨A3, c3, gb, ob, hAb, hlb, hcb, hsb⟩ := (HS'.out.below hbw).at_ hq
    dsimp only at hca hcb hsa hsb
    subst hAa hAb
    obtain ⟨n2, hn2⟩ : ∃ n2, l.length = n2 := ⟨_, rfl⟩
    rw [hn2] at hca hcb hsa hsb HqL
    have HNq := Lib.hid hn2
    have HCa := Lib.hid hca
    have HLt := Lib.hid hlt
    have HAt := Lib.hid (at_It ga oa c N k hlt wi)
    have HAl := Lib.hid fun c => World.setRow_alloc_new wi (cI zI) c 61
    have HZz := Lib.hid (show Blk (wi.alloc (.cells (cI zI) 61)) wi.heap.size 61 (cI zI) from Blk.new _ _ _)
    obtain ⟨Y, hY⟩ : ∃ Y, Y = wi.alloc (.cells (cI (x, .slice A2 n2 c2)) 61) := ⟨_, rfl⟩
    have hbY : Below wi.heap.size wi Y := by rw [hY]; exact (Below.refl _ _).alloc (Nat.le_refl _) _
    have HBY := Lib.hid (show Blk Y wi.heap.size 61 (cI (x, .slice A2 n2 c2)) by rw [hY]; exact Blk.new _ _ _)
    have HYe := Lib.hid hY
    have HCb := Lib.hid (rangeAt_same hcb (hbY.block gb hlb))
    have HSa := Lib.hid (hsa.below hbY)
    have HSb := Lib.hid (hsb.below hbY)
    have HbY := Lib.hid (show Below w.heap.size w Y from hbw.trans (hbY.mono hbw.size))
    have HW1 := Lib.hid (IntWalk.i64_in ((k : Int) + 1) (by have := HN2.out; omega))
    have HJ1 := Lib.hid (show ¬ 9223372036854775807 < k + 1 by have := HN2.out; omega)
    clear hq hca hcb hla hlb hsa hsb hbw hY hbY hn2
    have hz := HZe.out
    go_upto_region 6 with (first
      | (refine wpList_val (o := ⟨some 20, _, _, _, _, _⟩) rfl (.pointer (some ⟨ga, oa + k * 6, none⟩)) wi (run_indexAddr_op rfl rfl rfl HAt.out) ?_)
      | (refine' wpList_load_midif ?q1 61 (.tmp 20) ?q2 ga (oa + k * 6) ?q3 (enI (x, .slice A2 n2 c2)) _ ?q4 Tryz.underlying61 ?q5 ?q6 ?_; (case q2 => rfl); (case q1 => rfl); (case q3 => rfl); (case q4 => exact HCa.out); (case q5 => rfl); (case q6 => exact (sizeIi (x, .slice A2 n2 c2))))
      | (refine wpList_store_row (o := ⟨none, _, _, _, _, _⟩) rfl 61 (.tmp 8) (.tmp 21) rfl wi.heap.size (cI (x, .slice A2 n2 c2)) rfl rfl _ _ HZz.out (sizeIi _) rfl (by simp [cI, Value.oneCell']) ?_; rw [HAl.out, ← HYe.out])
      | fail)
    clear HZz HAl HYe HAt HCa
    obtain ⟨b8, hb8⟩ : ∃ b8, wi.heap.size = b8 := ⟨_, rfl⟩
    rw [hb8] at HBY ⊢
    clear hb8
    try simp only [Act.put]
    have HAt := Lib.hid (at_It gb ob c' N k hlt Y)
    have HAl := Lib.hid fun c => World.setRow_alloc_new Y (cI zI) c 61
    have HZz := Lib.hid (show Blk (Y.alloc (.cells (cI zI) 61)) Y.heap.size 61 (cI zI) from Blk.new _ _ _)
    obtain ⟨Z, hZ⟩ : ∃ Z, Z = Y.alloc (.cells (cI (x, .slice A3 n2 c3)) 61) := ⟨_, rfl⟩
    have hbZ : Below Y.heap.size Y Z := by rw [hZ]; exact (Below.refl _ _).alloc (Nat.le_refl _) _
    have HBZ := Lib.hid (show Blk Z Y.heap.size 61 (cI (x, .slice A3 n2 c3)) by rw [hZ]; exact Blk.new _ _ _)
    have HZY := Lib.hid (Blk.below HBY.out hbZ (Blk.lt HBY.out))
    have HZq := Lib.hid hZ
    have HEq := Lib.hid (sameItem_true x l A2 A3 n2 c2 c3 Z (HSa.out.below hbZ) (HSb.out.below hbZ) HNq.out HqL.out)
    have HbZ := Lib.hid (HbY.out.trans (hbZ.mono HbY.out.size))
    clear hZ hbZ HBY HSa HSb HbY
    go_upto_region 7 with (first
      | (refine wpList_val (o := ⟨some 24, _, _, _, _, _⟩) rfl (.pointer (some ⟨gb, ob + k * 6, none⟩)) Y (run_indexAddr_op rfl rfl rfl HAt.out) ?_)
      | (refine' wpList_load_midif ?q1 61 (.tmp 24) ?q2 gb (ob + k * 6) ?q3 (enI (x, .slice A3 n2 c3)) _ ?q4 Tryz.underlying61 ?q5 ?q6 ?_; (case q2 => rfl); (case q1 => rfl); (case q3 => rfl); (case q4 => exact HCb.out); (case q5 => rfl); (case q6 => exact (sizeIi (x, .slice A3 n2 c3))))
      | (refine wpList_store_row (o := ⟨none, _, _, _, _, _⟩) rfl 61 (.tmp 9) (.tmp 25) rfl Y.heap.size (cI (x, .slice A3 n2 c3)) rfl rfl _ _ HZz.out (sizeIi _) rfl (by simp [cI, Value.oneCell']) ?_; rw [HAl.out, ← HZq.out])
      | fail)
    clear hz HZz HAl HZq HAt HCb
    obtain ⟨b9, hb9⟩ : ∃ b9, Y.heap.size = b9 := ⟨_, rfl⟩
    rw [hb9] at HBZ ⊢
    clear hb9
    try simp only [Act.put]
    go_wp2_with (first
      | (refine wpList_load_if rfl 61 (.tmp 8) rfl b8 rfl _ _ _ _ HZY.out Tryz.underlying61 rfl (sizeIi _) ?_)
      | (refine wpList_load_if rfl 61 (.tmp 9) rfl b9 rfl _ _ _ _ HBZ.out Tryz.underlying61 rfl (sizeIi _) ?_)
      | fail)
    refine HEq.out.mono ?_
    rintro e w4 ⟨rfl, hb4⟩
    have HB4 := Lib.hid (HbZ.out.trans (hb4.mono HbZ.out.size))
    have hw := HW1.out
    have hjm := HJ1.out
    clear hb4
    go_wp2
    go_roundw
    case rel => exact ⟨k + 1, by go_num, HLt.out, HB4.out⟩
    case measure => simp [intOf] <;> omega

set_option maxRecDepth 100000 in
set_option maxHeartbeats 4000000 in
theorem ssame_true (f : Nat → Int) (I : List (El × List (Dt × Va))) (E : List Ev) (A A' B B' : Option Addr) (N M c c' d d' : Nat) (w : World) (hs : ItsIs w (.slice A N c) I) (hs' : ItsIs w (.slice A' N c') I) (he : SlK encE 27 w (.slice B M d) E) (he' : SlK encE 27 w (.slice B' M d') E) (hN : I.length = N) (hN2 : N ≤ 10000) (hM : E.length = M) (hM2 : M ≤ 10000) (hI : ∀ q ∈ I, q.2.length ≤ 10000) :
    Calls Tryz.prog 14 #[sV f (.slice A N c) (.slice B M d), sV f (.slice A' N c') (.slice B' M d')] w (Gives w (.bool true)) := by
  obtain ⟨p, hp⟩ : ∃ p, w.heap.size = p := ⟨_, rfl⟩
  obtain ⟨X, hX⟩ : ∃ X, X = (w.alloc (.cells (sC f (.slice A N c) (.slice B M d)) 27)).alloc (.cells (sC f (.slice A' N c') (.slice B' M d')) 27) := ⟨_, rfl⟩
  have hbX : Below w.heap.size w X := by rw [hX]; exact ((Below.refl _ _).alloc (Nat.le_refl _) _).alloc (by simp) _
  have hm1 : SB X p f (.slice A N c) (.slice B M d) := by rw [hX, ← hp]; exact (SB.new_ w f _ _).keep ((Below.refl _ _).alloc (Nat.le_refl _) _)
  have hm2 : SB X (p + 1) f (.slice A' N c') (.slice B' M d') := by
    rw [hX, ← hp]
    have := SB.new_ (w.alloc (.cells (sC f (.slice A N c) (.slice B M d)) 27)) f (.slice A' N c') (.slice B' M d')
    simpa using this
  have HM1 := Lib.hid hm1
  have HM2 := Lib.hid hm2
  have n16 := hm1.its
  have k16 := hm2.its
  have HF := Lib.hid (equalFunc_true I A A' N c c' X (hs.below hbX) (hs'.below hbX) hN hN2 hI)
  have HE := Lib.hid (fun W (hb : Below X.heap.size X W) => equalE_true E B B' M d d' W ((he.below hbX).below hb) ((he'.below hbX).below hb) hM hM2)
  have HX := Lib.hid hX
  have HP := Lib.hid hp
  have HB := Lib.hid hbX
  have hqv := fun w => eqv_true f w
  clear hX hbX hp hs hs' he he' hN hN2 hM hM2 hI hm1 hm2
  unfold sV
  go_enter Tryz.func14, Tryz.ntmps14
  go_upto_region 1 with fail
  try simp only [World.size_alloc]
  rw [← HX.out, HP.out]
  go_wp2_with (first
    | (refine' wpList_load_midif ?q1 23 (.tmp 5) ?q2 p 0 ?q3 _ _ ?q4 Tryz.underlying23 ?q5 ?q6 ?_; (case q2 => rfl); (case q1 => rfl); (case q3 => rfl); (case q4 => exact HM1.out.vec); (case q5 => rfl); (case q6 => kernel_rfl))
    | (refine' wpList_load_midif ?q1 23 (.tmp 7) ?q2 (p + 1) 0 ?q3 _ _ ?q4 Tryz.underlying23 ?q5 ?q6 ?_; (case q2 => rfl); (case q1 => rfl); (case q3 => rfl); (case q4 => exact HM2.out.vec); (case q5 => rfl); (case q6 => kernel_rfl))
    | fail)
  refine HF.out.mono ?_
  rintro e w1 ⟨rfl, hb⟩
  have HB1 := Lib.hid (HB.out.trans (hb.mono HB.out.size))
  have n17 := (HM1.out.keep hb).evs
  have k17 := (HM2.out.keep hb).evs
  have HEq := Lib.hid (HE.out w1 hb)
  clear hb n16 k16 hqv
  go_wp2_with fail
  refine HEq.out.mono ?_
  rintro e w2 ⟨rfl, hb⟩
  have HB2 := Lib.hid (HB1.out.trans (hb.mono HB1.out.size))
  clear hb n17 k17
  go_wp2
  go_ret
  exact ⟨rfl, HB2.out⟩

end Go.Proofs.YtejljikikhecnaaGreat
