/-
  message.Same at any two messages: the contract, by a walk. Conditions: lengths.
-/
import Derived.Test.YtalaidlnhoonfaaMgEqual
namespace Go.Proofs.Ytalaidlnhoonfaa
open Go.RowKit
set_option maxRecDepth 100000 in
set_option maxHeartbeats 8000000 in
theorem msame_any (m n : Mg) (l r : List Ev) (A A' : Option Addr) (N N' c c' : Nat) (w : World) (hs : SlK encE 27 w (.slice A N c) l) (hs' : SlK encE 27 w (.slice A' N' c') r) (hN : l.length = N) (hR : r.length = N') (hN2 : N ≤ 10000) :
    Calls Try.prog 16 #[mV m (.slice A N c), mV n (.slice A' N' c')] w (Gives w (.bool (sameM m l n r))) := by
  obtain ⟨p, hp⟩ : ∃ p, w.heap.size = p := ⟨_, rfl⟩
  obtain ⟨X, hX⟩ : ∃ X, X = (w.alloc (.cells (mC m (.slice A N c)) 26)).alloc (.cells (mC n (.slice A' N' c')) 26) := ⟨_, rfl⟩
  have hbX : Below w.heap.size w X := by rw [hX]; exact ((Below.refl _ _).alloc (Nat.le_refl _) _).alloc (by simp) _
  have hm1 : MB X p m (.slice A N c) := by rw [hX, ← hp]; exact (MB.new_ w m _).keep ((Below.refl _ _).alloc (Nat.le_refl _) _)
  have hm2 : MB X (p + 1) n (.slice A' N' c') := by
    rw [hX, ← hp]
    have := MB.new_ (w.alloc (.cells (mC m (.slice A N c)) 26)) n (.slice A' N' c')
    simpa using this
  have HM1 := Lib.hid hm1
  have HM2 := Lib.hid hm2
  have c0 := hm1.at_ 0 (by decide)
  have c1 := hm1.at_ 1 (by decide)
  have c2 := hm1.at_ 2 (by decide)
  have c19 := hm1.ev
  have k0 := hm2.at_ 0 (by decide)
  have k1 := hm2.at_ 1 (by decide)
  have k2 := hm2.at_ 2 (by decide)
  have k19 := hm2.ev
  have HS := Lib.hid (hs.below hbX)
  have HS' := Lib.hid (hs'.below hbX)
  have HX := Lib.hid hX
  have HP := Lib.hid hp
  have HB := Lib.hid hbX
  have HN := Lib.hid hN
  have HR := Lib.hid hR
  have HN2 := Lib.hid hN2
  rw [show m.p 0 = m.k from rfl] at c0
  rw [show m.p 1 = m.f from rfl] at c1
  rw [show m.p 2 = m.t from rfl] at c2
  rw [show n.p 0 = n.k from rfl] at k0
  rw [show n.p 1 = n.f from rfl] at k1
  rw [show n.p 2 = n.t from rfl] at k2
  obtain ⟨bb, hbb⟩ : ∃ bb, sameM m l n r = bb := ⟨_, rfl⟩
  rw [hbb]
  have HD : Hid (((m.k == n.k) && (m.f == n.f) && (m.t == n.t) && eqV m.v n.v && sameL l r) = bb) := Lib.hid hbb
  obtain ⟨kk, hkk⟩ : ∃ kk, m.k = kk := ⟨_, rfl⟩
  obtain ⟨ff, hff⟩ : ∃ ff, m.f = ff := ⟨_, rfl⟩
  obtain ⟨tt, htt⟩ : ∃ tt, m.t = tt := ⟨_, rfl⟩
  obtain ⟨kj, hkj⟩ : ∃ kj, n.k = kj := ⟨_, rfl⟩
  obtain ⟨fj, hfj⟩ : ∃ fj, n.f = fj := ⟨_, rfl⟩
  obtain ⟨tj, htj⟩ : ∃ tj, n.t = tj := ⟨_, rfl⟩
  obtain ⟨bv_, hbv⟩ : ∃ b, eqV m.v n.v = b := ⟨_, rfl⟩
  rw [hkk, hff, htt, hkj, hfj, htj, hbv] at HD
  rw [hkk] at c0
  rw [hff] at c1
  rw [htt] at c2
  rw [hkj] at k0
  rw [hfj] at k1
  rw [htj] at k2
  have hqv := fun w => eqv_is w m.v n.v bv_ hbv
  clear hX hbX hp hs hs' hN hR hN2 hm1 hm2 hkk hff htt hkj hfj htj hbb hbv
  unfold mV
  by_cases hff : ff = fj
  case neg =>
    have q1 : (ff == fj) = false := beq_eq_false_iff_ne.2 hff
    have q2 : (ff != fj) = true := by rw [bne, q1]; rfl
    have HF : Hid (bb = false) := Lib.hid (by rw [← HD.out, q1]; simp)
    clear hff
    go_enter Try.func16, Try.ntmps16
    go_upto_region 1 with fail
    try simp only [World.size_alloc]
    rw [← HX.out, HP.out]
    go_wp2_with (first
      | (refine' wpList_load_midif ?q1 23 (.tmp 27) ?q2 p 3 ?q3 _ _ ?q4 Try.underlying23 ?q5 ?q6 ?_; (case q2 => rfl); (case q1 => rfl); (case q3 => rfl); (case q4 => exact HM1.out.vec); (case q5 => rfl); (case q6 => kernel_rfl))
      | (refine' wpList_load_midif ?q1 23 (.tmp 29) ?q2 (p + 1) 3 ?q3 _ _ ?q4 Try.underlying23 ?q5 ?q6 ?_; (case q2 => rfl); (case q1 => rfl); (case q3 => rfl); (case q4 => exact HM2.out.vec); (case q5 => rfl); (case q6 => kernel_rfl))
      | fail)
    all_goals (go_ret; exact ⟨by rw [HF.out]; rfl, HB.out⟩)
  subst hff
  have qff : (ff == ff) = true := beq_self_eq_true _
  have qff' : (ff != ff) = false := by rw [bne, qff]; rfl
  by_cases htt : tt = tj
  case neg =>
    have q1 : (tt == tj) = false := beq_eq_false_iff_ne.2 htt
    have q2 : (tt != tj) = true := by rw [bne, q1]; rfl
    have HF : Hid (bb = false) := Lib.hid (by rw [← HD.out, q1]; simp)
    clear htt
    go_enter Try.func16, Try.ntmps16
    go_upto_region 1 with fail
    try simp only [World.size_alloc]
    rw [← HX.out, HP.out]
    go_wp2_with (first
      | (refine' wpList_load_midif ?q1 23 (.tmp 27) ?q2 p 3 ?q3 _ _ ?q4 Try.underlying23 ?q5 ?q6 ?_; (case q2 => rfl); (case q1 => rfl); (case q3 => rfl); (case q4 => exact HM1.out.vec); (case q5 => rfl); (case q6 => kernel_rfl))
      | (refine' wpList_load_midif ?q1 23 (.tmp 29) ?q2 (p + 1) 3 ?q3 _ _ ?q4 Try.underlying23 ?q5 ?q6 ?_; (case q2 => rfl); (case q1 => rfl); (case q3 => rfl); (case q4 => exact HM2.out.vec); (case q5 => rfl); (case q6 => kernel_rfl))
      | fail)
    all_goals (go_ret; exact ⟨by rw [HF.out]; rfl, HB.out⟩)
  subst htt
  have qtt : (tt == tt) = true := beq_self_eq_true _
  have qtt' : (tt != tt) = false := by rw [bne, qtt]; rfl
  by_cases hkk : kk = kj
  case neg =>
    have q1 : (kk == kj) = false := beq_eq_false_iff_ne.2 hkk
    have q2 : (kk != kj) = true := by rw [bne, q1]; rfl
    have HF : Hid (bb = false) := Lib.hid (by rw [← HD.out, q1]; simp)
    clear hkk
    go_enter Try.func16, Try.ntmps16
    go_upto_region 1 with fail
    try simp only [World.size_alloc]
    rw [← HX.out, HP.out]
    go_wp2_with (first
      | (refine' wpList_load_midif ?q1 23 (.tmp 27) ?q2 p 3 ?q3 _ _ ?q4 Try.underlying23 ?q5 ?q6 ?_; (case q2 => rfl); (case q1 => rfl); (case q3 => rfl); (case q4 => exact HM1.out.vec); (case q5 => rfl); (case q6 => kernel_rfl))
      | (refine' wpList_load_midif ?q1 23 (.tmp 29) ?q2 (p + 1) 3 ?q3 _ _ ?q4 Try.underlying23 ?q5 ?q6 ?_; (case q2 => rfl); (case q1 => rfl); (case q3 => rfl); (case q4 => exact HM2.out.vec); (case q5 => rfl); (case q6 => kernel_rfl))
      | fail)
    all_goals (go_ret; exact ⟨by rw [HF.out]; rfl, HB.out⟩)
  subst hkk
  have qkk : (kk == kk) = true := beq_self_eq_true _
  have qkk' : (kk != kk) = false := by rw [bne, qkk]; rfl
  cases bv_
  case false =>
    have HF : Hid (bb = false) := Lib.hid (by rw [← HD.out]; simp)
    go_enter Try.func16, Try.ntmps16
    go_upto_region 1 with fail
    try simp only [World.size_alloc]
    rw [← HX.out, HP.out]
    go_wp2_with (first
      | (refine' wpList_load_midif ?q1 23 (.tmp 27) ?q2 p 3 ?q3 _ _ ?q4 Try.underlying23 ?q5 ?q6 ?_; (case q2 => rfl); (case q1 => rfl); (case q3 => rfl); (case q4 => exact HM1.out.vec); (case q5 => rfl); (case q6 => kernel_rfl))
      | (refine' wpList_load_midif ?q1 23 (.tmp 29) ?q2 (p + 1) 3 ?q3 _ _ ?q4 Try.underlying23 ?q5 ?q6 ?_; (case q2 => rfl); (case q1 => rfl); (case q3 => rfl); (case q4 => exact HM2.out.vec); (case q5 => rfl); (case q6 => kernel_rfl))
      | fail)
    go_ret
    exact ⟨by rw [HF.out]; rfl, HB.out⟩
  have HD2 : Hid (sameL l r = bb) := Lib.hid (by rw [← HD.out, qkk, qff, qtt]; simp)
  go_enter Try.func16, Try.ntmps16
  go_upto_region 1 with fail
  try simp only [World.size_alloc]
  rw [← HX.out, HP.out]
  go_wp2_with (first
    | (refine' wpList_load_midif ?q1 23 (.tmp 27) ?q2 p 3 ?q3 _ _ ?q4 Try.underlying23 ?q5 ?q6 ?_; (case q2 => rfl); (case q1 => rfl); (case q3 => rfl); (case q4 => exact HM1.out.vec); (case q5 => rfl); (case q6 => kernel_rfl))
    | (refine' wpList_load_midif ?q1 23 (.tmp 29) ?q2 (p + 1) 3 ?q3 _ _ ?q4 Try.underlying23 ?q5 ?q6 ?_; (case q2 => rfl); (case q1 => rfl); (case q3 => rfl); (case q4 => exact HM2.out.vec); (case q5 => rfl); (case q6 => kernel_rfl))
    | fail)
  refine (equal_any l r A A' N N' c c' X HS.out HS'.out HN.out HR.out HN2.out).mono ?_
  rintro e w1 ⟨rfl, hb⟩
  rw [HD2.out]
  have HB1 := Lib.hid (HB.out.trans (hb.mono HB.out.size))
  clear hb hqv c0 c1 c2 c19 k0 k1 k2 k19
  go_wp2
  go_ret
  exact ⟨rfl, HB1.out⟩


end Go.Proofs.Ytalaidlnhoonfaa
