/-
  hedgerowref14.Same at any two messages: the contract, by a walk. Conditions: lengths.
-/
import Derived.Test.YtalaidlnhoonfaaMgEqual
namespace Go.Proofs.Ytalaidlnhoonfaa
open Go.RowKit
set_option maxRecDepth 100000 in
set_option maxHeartbeats 8000000 in
theorem refsame_any (m n : Mg) (l r : List Ev) (A A' : Option Addr) (N N' c c' : Nat) (w : World) (hs : SlK encE 27 w (.slice A N c) l) (hs' : SlK encE 27 w (.slice A' N' c') r) (hN : l.length = N) (hR : r.length = N') (hN2 : N ≤ 10000) :
    Calls Try.prog 14 #[mV m (.slice A N c), mV n (.slice A' N' c')] w (Gives w (.bool (sameM m l n r))) := by
  obtain ⟨p, hp⟩ : ∃ p, w.heap.size = p := ⟨_, rfl⟩
  obtain ⟨X, hX⟩ : ∃ X, X = (w.alloc (.cells (mC m (.slice A N c)) 26)).alloc (.cells (mC n (.slice A' N' c')) 26) := ⟨_, rfl⟩
  have hbX : Below w.heap.size w X := by rw [hX]; exact ((Below.refl _ _).alloc (Nat.le_refl _) _).alloc (by simp) _
  have hm1 : MB X p m (.slice A N c) := by rw [hX, ← hp]; exact (MB.new_ w m _).keep ((Below.refl _ _).alloc (Nat.le_refl _) _)
  have hm2 : MB X (p + 1) n (.slice A' N' c') := by
    rw [hX, ← hp]
    have := MB.new_ (w.alloc (.cells (mC m (.slice A N c)) 26)) n (.slice A' N' c')
    simpa using this
  have HM1 := Lib.hid hm1
  have HM2 := Lib.hid hm2
  have c0 := hm1.at_ 0 (by decide)
  have c1 := hm1.at_ 1 (by decide)
  have c2 := hm1.at_ 2 (by decide)
  have c19 := hm1.ev
  have k0 := hm2.at_ 0 (by decide)
  have k1 := hm2.at_ 1 (by decide)
  have k2 := hm2.at_ 2 (by decide)
  have k19 := hm2.ev
  have HS := Lib.hid (hs.below hbX)
  have HS' := Lib.hid (hs'.below hbX)
  have HX := Lib.hid hX
  have HP := Lib.hid hp
  have HB := Lib.hid hbX
  have HN := Lib.hid hN
  have HR := Lib.hid hR
  have HN2 := Lib.hid hN2
  rw [show m.p 0 = m.k from rfl] at c0
  rw [show m.p 1 = m.f from rfl] at c1
  rw [show m.p 2 = m.t from rfl] at c2
  rw [show n.p 0 = n.k from rfl] at k0
  rw [show n.p 1 = n.f from rfl] at k1
  rw [show n.p 2 = n.t from rfl] at k2
  obtain ⟨bb, hbb⟩ : ∃ bb, sameM m l n r = bb := ⟨_, rfl⟩
  rw [hbb]
  have HD : Hid (((m.k == n.k) && (m.f == n.f) && (m.t == n.t) && eqV m.v n.v && sameL l r) = bb) := Lib.hid hbb
  obtain ⟨kk, hkk⟩ : ∃ kk, m.k = kk := ⟨_, rfl⟩
  obtain ⟨ff, hff⟩ : ∃ ff, m.f = ff := ⟨_, rfl⟩
  obtain ⟨tt, htt⟩ : ∃ tt, m.t = tt := ⟨_, rfl⟩
  obtain ⟨kj, hkj⟩ : ∃ kj, n.k = kj := ⟨_, rfl⟩
  obtain ⟨fj, hfj⟩ : ∃ fj, n.f = fj := ⟨_, rfl⟩
  obtain ⟨tj, htj⟩ : ∃ tj, n.t = tj := ⟨_, rfl⟩
  obtain ⟨bv_, hbv⟩ : ∃ b, eqV m.v n.v = b := ⟨_, rfl⟩
  rw [hkk, hff, htt, hkj, hfj, htj, hbv] at HD
  rw [hkk] at c0
  rw [hff] at c1
  rw [htt] at c2
  rw [hkj] at k0
  rw [hfj] at k1
  rw [htj] at k2
  have hqv := fun w => eqv_is w m.v n.v bv_ hbv
  clear hX hbX hp hs hs' hN hR hN2 hm1 hm2 hkk hff htt hkj hfj htj hbb hbv
  unfold mV
  by_cases hkk : kk = kj
  case neg =>
    have q1 : (kk == kj) = false := beq_eq_false_iff_ne.2 hkk
    have q2 : (kk != kj) = true := by rw [bne, q1]; rfl
    have HF : Hid (bb = false) := Lib.hid (by rw [← HD.out, q1]; simp)
    clear hkk
    go_enter Try.func14, Try.ntmps14
    go_upto_region 1 with fail
    try simp only [World.size_alloc]
    rw [← HX.out, HP.out]
    go_wp2_with (first
      | (refine' wpList_load_midif ?q1 23 (.tmp 26) ?q2 p 3 ?q3 _ _ ?q4 Try.underlying23 ?q5 ?q6 ?_; (case q2 => rfl); (case q1 => rfl); (case q3 => rfl); (case q4 => exact HM1.out.vec); (case q5 => rfl); (case q6 => kernel_rfl))
      | (refine' wpList_load_midif ?q1 23 (.tmp 28) ?q2 (p + 1) 3 ?q3 _ _ ?q4 Try.underlying23 ?q5 ?q6 ?_; (case q2 => rfl); (case q1 => rfl); (case q3 => rfl); (case q4 => exact HM2.out.vec); (case q5 => rfl); (case q6 => kernel_rfl))
      | fail)
    all_goals (go_ret; exact ⟨by rw [HF.out]; rfl, HB.out⟩)
  subst hkk
  have qkk : (kk == kk) = true := beq_self_eq_true _
  have qkk' : (kk != kk) = false := by rw [bne, qkk]; rfl
  by_cases hff : ff = fj
  case neg =>
    have q1 : (ff == fj) = false := beq_eq_false_iff_ne.2 hff
    have q2 : (ff != fj) = true := by rw [bne, q1]; rfl
    have HF : Hid (bb = false) := Lib.hid (by rw [← HD.out, q1]; simp)
    clear hff
    go_enter Try.func14, Try.ntmps14
    go_upto_region 1 with fail
    try simp only [World.size_alloc]
    rw [← HX.out, HP.out]
    go_wp2_with (first
      | (refine' wpList_load_midif ?q1 23 (.tmp 26) ?q2 p 3 ?q3 _ _ ?q4 Try.underlying23 ?q5 ?q6 ?_; (case q2 => rfl); (case q1 => rfl); (case q3 => rfl); (case q4 => exact HM1.out.vec); (case q5 => rfl); (case q6 => kernel_rfl))
      | (refine' wpList_load_midif ?q1 23 (.tmp 28) ?q2 (p + 1) 3 ?q3 _ _ ?q4 Try.underlying23 ?q5 ?q6 ?_; (case q2 => rfl); (case q1 => rfl); (case q3 => rfl); (case q4 => exact HM2.out.vec); (case q5 => rfl); (case q6 => kernel_rfl))
      | fail)
    all_goals (go_ret; exact ⟨by rw [HF.out]; rfl, HB.out⟩)
  subst hff
  have qff : (ff == ff) = true := beq_self_eq_true _
  have qff' : (ff != ff) = false := by rw [bne, qff]; rfl
  by_cases htt : tt = tj
  case neg =>
    have q1 : (tt == tj) = false := beq_eq_false_iff_ne.2 htt
    have q2 : (tt != tj) = true := by rw [bne, q1]; rfl
    have HF : Hid (bb = false) := Lib.hid (by rw [← HD.out, q1]; simp)
    clear htt
    go_enter Try.func14, Try.ntmps14
    go_upto_region 1 with fail
    try simp only [World.size_alloc]
    rw [← HX.out, HP.out]
    go_wp2_with (first
      | (refine' wpList_load_midif ?q1 23 (.tmp 26) ?q2 p 3 ?q3 _ _ ?q4 Try.underlying23 ?q5 ?q6 ?_; (case q2 => rfl); (case q1 => rfl); (case q3 => rfl); (case q4 => exact HM1.out.vec); (case q5 => rfl); (case q6 => kernel_rfl))
      | (refine' wpList_load_midif ?q1 23 (.tmp 28) ?q2 (p + 1) 3 ?q3 _ _ ?q4 Try.underlying23 ?q5 ?q6 ?_; (case q2 => rfl); (case q1 => rfl); (case q3 => rfl); (case q4 => exact HM2.out.vec); (case q5 => rfl); (case q6 => kernel_rfl))
      | fail)
    all_goals (go_ret; exact ⟨by rw [HF.out]; rfl, HB.out⟩)
  subst htt
  have qtt : (tt == tt) = true := beq_self_eq_true _
  have qtt' : (tt != tt) = false := by rw [bne, qtt]; rfl
  cases bv_
  case false =>
    have HF : Hid (bb = false) := Lib.hid (by rw [← HD.out]; simp)
    go_enter Try.func14, Try.ntmps14
    go_upto_region 1 with fail
    try simp only [World.size_alloc]
    rw [← HX.out, HP.out]
    go_wp2_with (first
      | (refine' wpList_load_midif ?q1 23 (.tmp 26) ?q2 p 3 ?q3 _ _ ?q4 Try.underlying23 ?q5 ?q6 ?_; (case q2 => rfl); (case q1 => rfl); (case q3 => rfl); (case q4 => exact HM1.out.vec); (case q5 => rfl); (case q6 => kernel_rfl))
      | (refine' wpList_load_midif ?q1 23 (.tmp 28) ?q2 (p + 1) 3 ?q3 _ _ ?q4 Try.underlying23 ?q5 ?q6 ?_; (case q2 => rfl); (case q1 => rfl); (case q3 => rfl); (case q4 => exact HM2.out.vec); (case q5 => rfl); (case q6 => kernel_rfl))
      | fail)
    go_ret
    exact ⟨by rw [HF.out]; rfl, HB.out⟩
  have HD2 : Hid (sameL l r = bb) := Lib.hid (by rw [← HD.out, qkk, qff, qtt]; simp)
  by_cases hne : N = N'
  case neg =>
    have q7 : ((N : Int) == (N' : Int)) = false := by rw [beq_eq_false_iff_ne]; omega
    have q8 : ((N : Int) != (N' : Int)) = true := by rw [bne, q7]; rfl
    have HF : Hid (bb = false) := Lib.hid (by rw [← HD2.out]; exact sameL_len (by rw [HN.out, HR.out]; exact hne))
    clear hne
    go_enter Try.func14, Try.ntmps14
    go_upto_region 1 with fail
    try simp only [World.size_alloc]
    rw [← HX.out, HP.out]
    go_wp2_with (first
      | (refine' wpList_load_midif ?q1 23 (.tmp 26) ?q2 p 3 ?q3 _ _ ?q4 Try.underlying23 ?q5 ?q6 ?_; (case q2 => rfl); (case q1 => rfl); (case q3 => rfl); (case q4 => exact HM1.out.vec); (case q5 => rfl); (case q6 => kernel_rfl))
      | (refine' wpList_load_midif ?q1 23 (.tmp 28) ?q2 (p + 1) 3 ?q3 _ _ ?q4 Try.underlying23 ?q5 ?q6 ?_; (case q2 => rfl); (case q1 => rfl); (case q3 => rfl); (case q4 => exact HM2.out.vec); (case q5 => rfl); (case q6 => kernel_rfl))
      | fail)
    all_goals (go_ret; exact ⟨by rw [HF.out]; rfl, HB.out⟩)
  subst hne
  have q7 : ((N : Int) == (N : Int)) = true := beq_self_eq_true _
  have q8 : ((N : Int) != (N : Int)) = false := by rw [bne, q7]; rfl
  go_enter Try.func14, Try.ntmps14
  go_upto_region 1 with fail
  try simp only [World.size_alloc]
  rw [← HX.out, HP.out]
  go_wp2_with (first
    | (refine' wpList_load_midif ?q1 23 (.tmp 26) ?q2 p 3 ?q3 _ _ ?q4 Try.underlying23 ?q5 ?q6 ?_; (case q2 => rfl); (case q1 => rfl); (case q3 => rfl); (case q4 => exact HM1.out.vec); (case q5 => rfl); (case q6 => kernel_rfl))
    | (refine' wpList_load_midif ?q1 23 (.tmp 28) ?q2 (p + 1) 3 ?q3 _ _ ?q4 Try.underlying23 ?q5 ?q6 ?_; (case q2 => rfl); (case q1 => rfl); (case q3 => rfl); (case q4 => exact HM2.out.vec); (case q5 => rfl); (case q6 => kernel_rfl))
    | fail)
  clear hqv qkk qkk' qff qff' qtt qtt' q7 q8 c0 c1 c2 k0 k1 k2 c19 k19
  go_loopw [44] (fun v44 wr => ∃ k : Nat, v44 = .int .i64 k ∧ k ≤ N ∧ (∀ i e f, i < k → l[i]? = some e → r[i]? = some f → eqE e f = true) ∧ Below X.heap.size X wr) (fun v44 _ => N - (intOf v44).toNat)
  case atStart => exact ⟨0, rfl, Nat.zero_le _, fun i e f hi => absurd hi (Nat.not_lt_zero _), Below.refl _ _⟩
  case round =>
    obtain ⟨k, rfl, hk, hall, hbw⟩ := hrel
    obtain ⟨wk, rfl⟩ : ∃ wk, wk = wr := ⟨_, rfl⟩
    have HBk := Lib.hid hbw
    have HAll := Lib.hid hall
    clear hall
    by_cases hlt : k < N
    · have hlt := hlt
      obtain ⟨e, he⟩ : ∃ e, l[k]? = some e := ⟨l[k]'(by rw [HN.out]; exact hlt), List.getElem?_eq_getElem _⟩
      obtain ⟨f, hf⟩ : ∃ f, r[k]? = some f := ⟨r[k]'(by rw [HR.out]; exact hlt), List.getElem?_eq_getElem _⟩
      obtain ⟨ga, oa, hAa, hla, hca⟩ := (HS.out.below hbw).ev he
      obtain ⟨gb, ob, hAb, hlb, hcb⟩ := (HS'.out.below hbw).ev hf
      subst hAa hAb
      have HE := Lib.hid he
      have HF := Lib.hid hf
      have HCa := Lib.hid hca
      have HCb := Lib.hid hcb
      have HLa := Lib.hid hla
      have HLb := Lib.hid hlb
      have HLt := Lib.hid hlt
      have HMa := Lib.hid (HM1.out.keep hbw)
      have HMb := Lib.hid (HM2.out.keep hbw)
      have HW1 := Lib.hid (IntWalk.i64_in ((k : Int) + 1) (by have := HN2.out; omega))
      have HJ1 := Lib.hid (show ¬ 9223372036854775807 < k + 1 by have := HN2.out; omega)
      clear he hf hca hcb hla hlb hbw
      cases hq : eqE e f
      · have HQ := Lib.hid hq
        clear hq
        go_upto_region 6 with fail
        refine wp_region_any (by kernel_rfl) ?_
        refine wpAny_below (fun i v _ => v = ([.pointer (some ⟨p, 19, none⟩), .slice (some ⟨ga, oa, none⟩) N c, .int .i64 k, .pointer (some ⟨ga, oa + k * 27, none⟩), evV e, .pointer (some ⟨p + 1, 19, none⟩), .slice (some ⟨gb, ob, none⟩) N c', .int .i64 k, .pointer (some ⟨gb, ob + k * 27, none⟩), evV f, .bool true] : List Value).getD i undef) _ wk (by kernel_rfl) (by kernel_rfl) (by kernel_rfl) (fun i v w w' _ h => h) ?_ ?_
        · refine ⟨?_, ?_, ?_, ?_, ?_, ?_, ?_, ?_, ?_, ?_, ?_, trivial⟩
          · intro a W hI hun haft hi
            have e2 : a.eval (.tmp 2) = .pointer (some ⟨p, 0, none⟩) := hun 2 (by kernel_rfl)
            exact b_same hi hI rfl _ (run_fieldAddr_any rfl e2 (at_mg4 _ W)) rfl
          · intro a W hI hun haft hi
            have f0 : a.eval (.tmp 47) = .pointer (some ⟨p, 19, none⟩) := haft ⟨0, .data⟩ (by simp) rfl _ _ rfl rfl
            exact b_same hi hI rfl _ (run_loadsl_op rfl f0 Try.underlying24 (HMa.out.keep hI).ev) rfl
          · intro a W hI hun haft hi
            have e5 : a.eval (.tmp 5) = .int .i64 k := hun 5 (by kernel_rfl)
            exact b_same hi hI rfl _ (run_move_op rfl e5) rfl
          · intro a W hI hun haft hi
            have f1 : a.eval (.tmp 48) = .slice (some ⟨ga, oa, none⟩) N c := haft ⟨1, .data⟩ (by simp) rfl _ _ rfl rfl
            have f2 : a.eval (.tmp 49) = .int .i64 k := haft ⟨2, .data⟩ (by simp) rfl _ _ rfl rfl
            exact b_same hi hI rfl _ (run_indexAddr_op rfl f1 f2 (at_Ev ga oa c N k HLt.out _)) rfl
          · intro a W hI hun haft hi
            have f3 : a.eval (.tmp 50) = .pointer (some ⟨ga, oa + k * 27, none⟩) := haft ⟨3, .data⟩ (by simp) rfl _ _ rfl rfl
            exact b_same hi hI rfl _ (run_loadmid_op rfl f3 (rangeAt_same HCa.out (hI.block ga HLa.out)) Try.underlying48 rfl (sizeE e)) rfl
          · intro a W hI hun haft hi
            have e3 : a.eval (.tmp 3) = .pointer (some ⟨p + 1, 0, none⟩) := hun 3 (by kernel_rfl)
            exact b_same hi hI rfl _ (run_fieldAddr_any rfl e3 (at_mg4 _ W)) rfl
          · intro a W hI hun haft hi
            have f5 : a.eval (.tmp 52) = .pointer (some ⟨p + 1, 19, none⟩) := haft ⟨5, .data⟩ (by simp) rfl _ _ rfl rfl
            exact b_same hi hI rfl _ (run_loadsl_op rfl f5 Try.underlying24 (HMb.out.keep hI).ev) rfl
          · intro a W hI hun haft hi
            have e5 : a.eval (.tmp 5) = .int .i64 k := hun 5 (by kernel_rfl)
            exact b_same hi hI rfl _ (run_move_op rfl e5) rfl
          · intro a W hI hun haft hi
            have f6 : a.eval (.tmp 53) = .slice (some ⟨gb, ob, none⟩) N c' := haft ⟨6, .data⟩ (by simp) rfl _ _ rfl rfl
            have f7 : a.eval (.tmp 54) = .int .i64 k := haft ⟨7, .data⟩ (by simp) rfl _ _ rfl rfl
            exact b_same hi hI rfl _ (run_indexAddr_op rfl f6 f7 (at_Ev gb ob c' N k HLt.out _)) rfl
          · intro a W hI hun haft hi
            have f8 : a.eval (.tmp 55) = .pointer (some ⟨gb, ob + k * 27, none⟩) := haft ⟨8, .data⟩ (by simp) rfl _ _ rfl rfl
            exact b_same hi hI rfl _ (run_loadmid_op rfl f8 (rangeAt_same HCb.out (hI.block gb HLb.out)) Try.underlying48 rfl (sizeE f)) rfl
          · intro a W hI hun haft hi
            have f4 : a.eval (.tmp 51) = evV e := haft ⟨4, .data⟩ (by simp) rfl _ _ rfl rfl
            have f9 : a.eval (.tmp 56) = evV f := haft ⟨9, .data⟩ (by simp) rfl _ _ rfl rfl
            exact b_same hi hI rfl (.bool true) (run_bin_op rfl f4 f9 (by kernel_rfl) (ne_true e f HQ.out W)) rfl
        · intro vals W hI hp
          have hl10 : vals 10 = .bool true := hp 10 (by decide)
          have HI := Lib.hid hI
          clear hp hI
          simp only [layN, List.size_toArray, List.length_cons, List.length_nil, List.range, List.range.loop, if_true, List.getElem?_toArray, List.getElem?_cons_zero, List.getElem?_cons_succ, Act.put, List.setIfInBounds_toArray, List.set_cons_zero, List.set_cons_succ, Nat.zero_add, Nat.reduceAdd, hl10]
          clear hl10
          have hjm := HJ1.out
          have hw := HW1.out
          have hlt := HLt.out
          clear HCa HCb HLa HLb
          generalize W = W6 at *
          go_wp2
          go_ret
          exact ⟨by rw [show bb = false from HD2.out.symm.trans (sameL_no HE.out HF.out HQ.out)]; rfl, HB.out.trans ((HBk.out.trans (HI.out.mono HBk.out.size)).mono HB.out.size)⟩
      · have HQ := Lib.hid hq
        clear hq
        go_upto_region 6 with fail
        refine wp_region_any (by kernel_rfl) ?_
        refine wpAny_below (fun i v _ => v = ([.pointer (some ⟨p, 19, none⟩), .slice (some ⟨ga, oa, none⟩) N c, .int .i64 k, .pointer (some ⟨ga, oa + k * 27, none⟩), evV e, .pointer (some ⟨p + 1, 19, none⟩), .slice (some ⟨gb, ob, none⟩) N c', .int .i64 k, .pointer (some ⟨gb, ob + k * 27, none⟩), evV f, .bool false] : List Value).getD i undef) _ wk (by kernel_rfl) (by kernel_rfl) (by kernel_rfl) (fun i v w w' _ h => h) ?_ ?_
        · refine ⟨?_, ?_, ?_, ?_, ?_, ?_, ?_, ?_, ?_, ?_, ?_, trivial⟩
          · intro a W hI hun haft hi
            have e2 : a.eval (.tmp 2) = .pointer (some ⟨p, 0, none⟩) := hun 2 (by kernel_rfl)
            exact b_same hi hI rfl _ (run_fieldAddr_any rfl e2 (at_mg4 _ W)) rfl
          · intro a W hI hun haft hi
            have f0 : a.eval (.tmp 47) = .pointer (some ⟨p, 19, none⟩) := haft ⟨0, .data⟩ (by simp) rfl _ _ rfl rfl
            exact b_same hi hI rfl _ (run_loadsl_op rfl f0 Try.underlying24 (HMa.out.keep hI).ev) rfl
          · intro a W hI hun haft hi
            have e5 : a.eval (.tmp 5) = .int .i64 k := hun 5 (by kernel_rfl)
            exact b_same hi hI rfl _ (run_move_op rfl e5) rfl
          · intro a W hI hun haft hi
            have f1 : a.eval (.tmp 48) = .slice (some ⟨ga, oa, none⟩) N c := haft ⟨1, .data⟩ (by simp) rfl _ _ rfl rfl
            have f2 : a.eval (.tmp 49) = .int .i64 k := haft ⟨2, .data⟩ (by simp) rfl _ _ rfl rfl
            exact b_same hi hI rfl _ (run_indexAddr_op rfl f1 f2 (at_Ev ga oa c N k HLt.out _)) rfl
          · intro a W hI hun haft hi
            have f3 : a.eval (.tmp 50) = .pointer (some ⟨ga, oa + k * 27, none⟩) := haft ⟨3, .data⟩ (by simp) rfl _ _ rfl rfl
            exact b_same hi hI rfl _ (run_loadmid_op rfl f3 (rangeAt_same HCa.out (hI.block ga HLa.out)) Try.underlying48 rfl (sizeE e)) rfl
          · intro a W hI hun haft hi
            have e3 : a.eval (.tmp 3) = .pointer (some ⟨p + 1, 0, none⟩) := hun 3 (by kernel_rfl)
            exact b_same hi hI rfl _ (run_fieldAddr_any rfl e3 (at_mg4 _ W)) rfl
          · intro a W hI hun haft hi
            have f5 : a.eval (.tmp 52) = .pointer (some ⟨p + 1, 19, none⟩) := haft ⟨5, .data⟩ (by simp) rfl _ _ rfl rfl
            exact b_same hi hI rfl _ (run_loadsl_op rfl f5 Try.underlying24 (HMb.out.keep hI).ev) rfl
          · intro a W hI hun haft hi
            have e5 : a.eval (.tmp 5) = .int .i64 k := hun 5 (by kernel_rfl)
            exact b_same hi hI rfl _ (run_move_op rfl e5) rfl
          · intro a W hI hun haft hi
            have f6 : a.eval (.tmp 53) = .slice (some ⟨gb, ob, none⟩) N c' := haft ⟨6, .data⟩ (by simp) rfl _ _ rfl rfl
            have f7 : a.eval (.tmp 54) = .int .i64 k := haft ⟨7, .data⟩ (by simp) rfl _ _ rfl rfl
            exact b_same hi hI rfl _ (run_indexAddr_op rfl f6 f7 (at_Ev gb ob c' N k HLt.out _)) rfl
          · intro a W hI hun haft hi
            have f8 : a.eval (.tmp 55) = .pointer (some ⟨gb, ob + k * 27, none⟩) := haft ⟨8, .data⟩ (by simp) rfl _ _ rfl rfl
            exact b_same hi hI rfl _ (run_loadmid_op rfl f8 (rangeAt_same HCb.out (hI.block gb HLb.out)) Try.underlying48 rfl (sizeE f)) rfl
          · intro a W hI hun haft hi
            have f4 : a.eval (.tmp 51) = evV e := haft ⟨4, .data⟩ (by simp) rfl _ _ rfl rfl
            have f9 : a.eval (.tmp 56) = evV f := haft ⟨9, .data⟩ (by simp) rfl _ _ rfl rfl
            exact b_same hi hI rfl (.bool false) (run_bin_op rfl f4 f9 (by kernel_rfl) (ne_false e f HQ.out W)) rfl
        · intro vals W hI hp
          have hl10 : vals 10 = .bool false := hp 10 (by decide)
          have HI := Lib.hid hI
          clear hp hI
          simp only [layN, List.size_toArray, List.length_cons, List.length_nil, List.range, List.range.loop, if_true, List.getElem?_toArray, List.getElem?_cons_zero, List.getElem?_cons_succ, Act.put, List.setIfInBounds_toArray, List.set_cons_zero, List.set_cons_succ, Nat.zero_add, Nat.reduceAdd, hl10]
          clear hl10
          have hjm := HJ1.out
          have hw := HW1.out
          have hlt := HLt.out
          clear HCa HCb HLa HLb
          generalize W = W6 at *
          go_wp2
          go_roundw
          case rel => exact ⟨k + 1, by go_num, HLt.out, fun i a b hi ha hb => by
            rcases Nat.lt_succ_iff_lt_or_eq.1 hi with h | h
            · exact HAll.out i a b h ha hb
            · rw [h, HE.out] at ha
              rw [h, HF.out] at hb
              rw [← Option.some.inj ha, ← Option.some.inj hb]; exact HQ.out, HBk.out.trans (HI.out.mono HBk.out.size)⟩
          case measure => simp [intOf] <;> omega
    · have hkn : N = k := by omega
      subst hkn
      clear hbw hlt hk
      have HSm := Lib.hid (sameL_yes (HN.out.trans HR.out.symm) fun i e f he hf => HAll.out i e f (by rw [← HN.out]; exact (List.getElem?_eq_some_iff.1 he).1) he hf)
      go_wp2
      go_ret
      exact ⟨by rw [← HD2.out, HSm.out]; rfl, HB.out.trans (HBk.out.mono HB.out.size)⟩


end Go.Proofs.Ytalaidlnhoonfaa
