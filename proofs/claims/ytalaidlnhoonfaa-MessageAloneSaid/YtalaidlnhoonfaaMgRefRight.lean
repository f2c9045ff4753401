/-
  hedgerowref14.Right: the contract, by a walk. Conditions: texts that are not too long.
-/
import Derived.Test.YtalaidlnhoonfaaEvRefRt
import Derived.Test.YtalaidlnhoonfaaMgRightW
namespace Go.Proofs.Ytalaidlnhoonfaa
open Go.RowKit

theorem run_lsi {a b : Int} {q : Bool} (h : decide (a < b) = q) (w : World) : (binOp .lss 3 (.int .i64 a) (.int .i64 b)).run Try.prog w = .ok (.bool q) w := by subst h; go_simp
theorem at_ev0 (g : Nat) (w : World) : (Instr.fieldAt 48 (.pointer (some ⟨g, 0, none⟩)) 0).run Try.prog w = .ok (.pointer (some ⟨g, 0, none⟩)) w := by go_simp
theorem at_dot1 (g : Nat) (w : World) : (Instr.fieldAt 42 (.pointer (some ⟨g, 0, none⟩)) 1).run Try.prog w = .ok (.pointer (some ⟨g, 1, none⟩)) w := by go_simp
theorem at_mg3 (g : Nat) (w : World) : (Instr.fieldAt 26 (.pointer (some ⟨g, 0, none⟩)) 3).run Try.prog w = .ok (.pointer (some ⟨g, 3, none⟩)) w := by go_simp
theorem at_known (g n : Nat) (h : n < 16) (w : World) : (Instr.indexAt 23 (.pointer (some ⟨g, 3, none⟩)) (.int .i64 n)).run Try.prog w = .ok (.pointer (some ⟨g, 3 + n, none⟩)) w := by
  have h2 : (n : Int) < 16 := by omega
  go_simp
theorem refright6_is (e : Ev) (b : Bool) (h : okB e = b) (hl : Tiny e) (w : World) : Calls Try.prog 20 #[evV e] w (Gives w (.bool b)) := by subst h; exact refright6_any e w hl
theorem ok_dot (e : Ev) (h : okB e = true) : ∃ n : Nat, e.r = n ∧ n < 16 ∧ dotB e.r e.c = true := by
  unfold okB at h
  have h1 : nextB e.p e.r e.c = true := by
    cases hq : nextB e.p e.r e.c with
    | true => rfl
    | false => rw [hq] at h; simp at h
  have h2 : dotB e.r e.c = true := by
    unfold nextB at h1
    cases hq : dotB e.r e.c with
    | true => rfl
    | false => rw [hq] at h1; simp at h1
  obtain ⟨n, h3, h4, _⟩ := (dotB_iff _ _).1 h2
  exact ⟨n, h3, h4, h2⟩

set_option maxRecDepth 100000 in
set_option maxHeartbeats 4000000 in
theorem refright14_any (m : Mg) (l : List Ev) (A : Option Addr) (N c : Nat) (w : World) (hs : SlK encE 27 w (.slice A N c) l) (hN : l.length = N) (hN2 : N ≤ 10000) (hl : ∀ e ∈ l, Tiny e) :
    Calls Try.prog 10 #[mV m (.slice A N c)] w (Gives w (.bool (rightM m l))) := by
  obtain ⟨p, hp⟩ : ∃ p, w.heap.size = p := ⟨_, rfl⟩
  obtain ⟨X, hX⟩ : ∃ X, X = w.alloc (.cells (mC m (.slice A N c)) 26) := ⟨_, rfl⟩
  have hbX : Below w.heap.size w X := by rw [hX]; exact (Below.refl _ _).alloc (Nat.le_refl _) _
  have hmb : MB X p m (.slice A N c) := by rw [hX, ← hp]; exact MB.new_ w m _
  have HM := Lib.hid hmb
  have c0 := hmb.at_ 0 (by decide)
  have c1 := hmb.at_ 1 (by decide)
  have c2 := hmb.at_ 2 (by decide)
  have c19 := hmb.ev
  have HS := Lib.hid (hs.below hbX)
  have HX := Lib.hid hX
  have HP := Lib.hid hp
  have HB := Lib.hid hbX
  have HN := Lib.hid hN
  have HN2 := Lib.hid hN2
  have HL := Lib.hid hl
  have HZe := Lib.hid (zero_of_info zeroE).1
  have HR : Hid (rightM m l = (repB m.f && repB m.t && (m.f != m.t) && rightV m.v && (if m.k = 1 then decide (N = 0) else if m.k = 2 then decide (N ≤ 200) && !(l.any (wrongB m.v)) else false))) := Lib.hid (by unfold rightM evsB; rw [hN])
  obtain ⟨kk, hkk⟩ : ∃ kk, m.k = kk := ⟨_, rfl⟩
  obtain ⟨ff, hff⟩ : ∃ ff, m.f = ff := ⟨_, rfl⟩
  obtain ⟨tt, htt⟩ : ∃ tt, m.t = tt := ⟨_, rfl⟩
  rw [show m.p 0 = m.k from rfl, hkk] at c0
  rw [show m.p 1 = m.f from rfl, hff] at c1
  rw [show m.p 2 = m.t from rfl, htt] at c2
  rw [hkk, hff, htt] at HR
  clear hX hbX hmb hp hs hN hN2 hl hkk hff htt
  unfold mV
  by_cases k1 : kk = 1
  · subst k1
    rw [if_pos rfl] at HR
    by_cases hB : ff < 0
    · have dhB : decide (ff < 0) = true := decide_eq_true hB
      have HF : Hid (rightM m l = false) := Lib.hid (by rw [HR.out, show repB ff = false from decide_eq_false (by omega)]; simp)
      clear hB
      go_enter Try.func10, Try.ntmps10
      go_upto_region 1 with fail
      rw [← HX.out, HP.out]
      go_wp2
      go_ret
      exact ⟨by rw [HF.out]; rfl, HB.out⟩
    · have dhB : decide (ff < 0) = false := decide_eq_false hB
      by_cases hC : 15 < ff
      · have dhC : decide ((15 : Int) < ff) = true := decide_eq_true hC
        have HF : Hid (rightM m l = false) := Lib.hid (by rw [HR.out, show repB ff = false from decide_eq_false (by omega)]; simp)
        clear hC
        go_enter Try.func10, Try.ntmps10
        go_upto_region 1 with fail
        rw [← HX.out, HP.out]
        go_wp2
        go_ret
        exact ⟨by rw [HF.out]; rfl, HB.out⟩
      · have dhC : decide ((15 : Int) < ff) = false := decide_eq_false hC
        by_cases hD : tt < 0
        · have dhD : decide (tt < 0) = true := decide_eq_true hD
          have HF : Hid (rightM m l = false) := Lib.hid (by rw [HR.out, show repB tt = false from decide_eq_false (by omega)]; simp)
          clear hD
          go_enter Try.func10, Try.ntmps10
          go_upto_region 1 with fail
          rw [← HX.out, HP.out]
          go_wp2
          go_ret
          exact ⟨by rw [HF.out]; rfl, HB.out⟩
        · have dhD : decide (tt < 0) = false := decide_eq_false hD
          by_cases hE : 15 < tt
          · have dhE : decide ((15 : Int) < tt) = true := decide_eq_true hE
            have HF : Hid (rightM m l = false) := Lib.hid (by rw [HR.out, show repB tt = false from decide_eq_false (by omega)]; simp)
            clear hE
            go_enter Try.func10, Try.ntmps10
            go_upto_region 1 with fail
            rw [← HX.out, HP.out]
            go_wp2
            go_ret
            exact ⟨by rw [HF.out]; rfl, HB.out⟩
          · have dhE : decide ((15 : Int) < tt) = false := decide_eq_false hE
            by_cases hG : ff = tt
            · have dG : (ff == tt) = true := beq_iff_eq.2 hG
              have HF : Hid (rightM m l = false) := Lib.hid (by rw [HR.out, show (ff != tt) = false by simp [hG]]; simp)
              clear hG
              go_enter Try.func10, Try.ntmps10
              go_upto_region 1 with fail
              rw [← HX.out, HP.out]
              go_wp2
              go_ret
              exact ⟨by rw [HF.out]; rfl, HB.out⟩
            · have dG : (ff == tt) = false := beq_eq_false_iff_ne.2 hG
              have HR2 : Hid (rightM m l = (rightV m.v && decide (N = 0))) := Lib.hid (by
                rw [HR.out, show repB ff = true from decide_eq_true (by omega), show repB tt = true from decide_eq_true (by omega), show (ff != tt) = true by simp [hG]]
                simp)
              clear HR hG hB hC hD hE
              go_enter Try.func10, Try.ntmps10
              go_upto_region 1 with fail
              rw [← HX.out, HP.out]
              go_wp2_with (refine wpList_load_midif rfl 23 (.tmp 42) rfl p 3 rfl _ _ HM.out.vec Try.underlying23 rfl (by kernel_rfl) ?_)
              go_loop [4, 44] (fun _ i => ∃ k : Nat, k ≤ 16 ∧ i = .int .i64 k ∧ ∀ j, j < k → 0 ≤ m.v j ∧ m.v j ≤ 1048576) (fun _ i => 16 - (intOf i).toNat)
              case atStart => exact ⟨0, by omega, rfl, fun j hj => by omega⟩
              case round =>
                obtain ⟨k, hk, rfl, hall⟩ := hrel
                have HA := Lib.hid hall
                clear hall
                by_cases hlt : k < 16
                · have hix := index_V m.v k hlt X
                  by_cases d1 : m.v k < 0
                  · have HF : Hid (rightV m.v = false) := Lib.hid (by
                      cases hq : rightV m.v with
                      | false => rfl
                      | true => exfalso; have := (right_iff _).1 hq k hlt; omega)
                    generalize m.v k = x at *
                    go_wp2
                    go_ret
                    exact ⟨by rw [HR2.out, HF.out, Bool.false_and]; rfl, HB.out⟩
                  · skip
                    by_cases d2 : 1048576 < m.v k
                    · have HF : Hid (rightV m.v = false) := Lib.hid (by
                        cases hq : rightV m.v with
                        | false => rfl
                        | true => exfalso; have := (right_iff _).1 hq k hlt; omega)
                      generalize m.v k = x at *
                      go_wp2
                      go_ret
                      exact ⟨by rw [HR2.out, HF.out, Bool.false_and]; rfl, HB.out⟩
                    · have HA2 := Lib.hid (fun (j : Nat) (hj : j < k + 1) => show 0 ≤ m.v j ∧ m.v j ≤ 1048576 by
                        by_cases ej : j = k
                        · subst ej; omega
                        · exact HA.out j (by omega))
                      generalize m.v k = x at *
                      go_wp2
                      go_round
                      case rel => exact ⟨k + 1, by omega, by go_num, HA2.out⟩
                      case measure => simp [intOf]; omega
                · have hkk : k = 16 := by omega
                  subst hkk
                  have HRT : Hid (rightV m.v = true) := Lib.hid ((right_iff _).2 HA.out)
                  rw [HRT.out, Bool.true_and] at HR2
                  clear HA hlt hk
                  by_cases hz : N = 0
                  · subst hz
                    go_wp2_with fail
                    go_loopw [72] (fun v72 wr => v72 = .int .i64 0 ∧ Below w.heap.size w wr) (fun _ _ => 0)
                    case atStart => exact ⟨rfl, HB.out⟩
                    case round =>
                      obtain ⟨rfl, hb⟩ := hrel
                      have HBo := Lib.hid hb
                      clear hb
                      go_wp2
                      go_ret
                      exact ⟨by rw [HR2.out]; rfl, HBo.out⟩
                  · have d1 : decide ((0 : Int) < (N : Int)) = true := decide_eq_true (by omega)
                    have HZ := Lib.hid (show decide (N = 0) = false from decide_eq_false hz)
                    go_wp2
                    go_ret
                    exact ⟨by rw [HR2.out, HZ.out]; rfl, HB.out⟩
  · by_cases k2 : kk = 2
    · subst k2
      rw [if_neg (by decide), if_pos rfl] at HR
      clear k1
      by_cases hB : ff < 0
      · have dhB : decide (ff < 0) = true := decide_eq_true hB
        have HF : Hid (rightM m l = false) := Lib.hid (by rw [HR.out, show repB ff = false from decide_eq_false (by omega)]; simp)
        clear hB
        go_enter Try.func10, Try.ntmps10
        go_upto_region 1 with fail
        rw [← HX.out, HP.out]
        go_wp2
        go_ret
        exact ⟨by rw [HF.out]; rfl, HB.out⟩
      · have dhB : decide (ff < 0) = false := decide_eq_false hB
        by_cases hC : 15 < ff
        · have dhC : decide ((15 : Int) < ff) = true := decide_eq_true hC
          have HF : Hid (rightM m l = false) := Lib.hid (by rw [HR.out, show repB ff = false from decide_eq_false (by omega)]; simp)
          clear hC
          go_enter Try.func10, Try.ntmps10
          go_upto_region 1 with fail
          rw [← HX.out, HP.out]
          go_wp2
          go_ret
          exact ⟨by rw [HF.out]; rfl, HB.out⟩
        · have dhC : decide ((15 : Int) < ff) = false := decide_eq_false hC
          by_cases hD : tt < 0
          · have dhD : decide (tt < 0) = true := decide_eq_true hD
            have HF : Hid (rightM m l = false) := Lib.hid (by rw [HR.out, show repB tt = false from decide_eq_false (by omega)]; simp)
            clear hD
            go_enter Try.func10, Try.ntmps10
            go_upto_region 1 with fail
            rw [← HX.out, HP.out]
            go_wp2
            go_ret
            exact ⟨by rw [HF.out]; rfl, HB.out⟩
          · have dhD : decide (tt < 0) = false := decide_eq_false hD
            by_cases hE : 15 < tt
            · have dhE : decide ((15 : Int) < tt) = true := decide_eq_true hE
              have HF : Hid (rightM m l = false) := Lib.hid (by rw [HR.out, show repB tt = false from decide_eq_false (by omega)]; simp)
              clear hE
              go_enter Try.func10, Try.ntmps10
              go_upto_region 1 with fail
              rw [← HX.out, HP.out]
              go_wp2
              go_ret
              exact ⟨by rw [HF.out]; rfl, HB.out⟩
            · have dhE : decide ((15 : Int) < tt) = false := decide_eq_false hE
              by_cases hG : ff = tt
              · have dG : (ff == tt) = true := beq_iff_eq.2 hG
                have HF : Hid (rightM m l = false) := Lib.hid (by rw [HR.out, show (ff != tt) = false by simp [hG]]; simp)
                clear hG
                go_enter Try.func10, Try.ntmps10
                go_upto_region 1 with fail
                rw [← HX.out, HP.out]
                go_wp2
                go_ret
                exact ⟨by rw [HF.out]; rfl, HB.out⟩
              · have dG : (ff == tt) = false := beq_eq_false_iff_ne.2 hG
                have HR2 : Hid (rightM m l = (rightV m.v && (decide (N ≤ 200) && !(l.any (wrongB m.v))))) := Lib.hid (by
                  rw [HR.out, show repB ff = true from decide_eq_true (by omega), show repB tt = true from decide_eq_true (by omega), show (ff != tt) = true by simp [hG]]
                  simp)
                clear HR hG hB hC hD hE
                go_enter Try.func10, Try.ntmps10
                go_upto_region 1 with fail
                rw [← HX.out, HP.out]
                go_wp2_with (refine wpList_load_midif rfl 23 (.tmp 42) rfl p 3 rfl _ _ HM.out.vec Try.underlying23 rfl (by kernel_rfl) ?_)
                go_loop [4, 44] (fun _ i => ∃ k : Nat, k ≤ 16 ∧ i = .int .i64 k ∧ ∀ j, j < k → 0 ≤ m.v j ∧ m.v j ≤ 1048576) (fun _ i => 16 - (intOf i).toNat)
                case atStart => exact ⟨0, by omega, rfl, fun j hj => by omega⟩
                case round =>
                  obtain ⟨k, hk, rfl, hall⟩ := hrel
                  have HA := Lib.hid hall
                  clear hall
                  by_cases hlt : k < 16
                  · have hix := index_V m.v k hlt X
                    by_cases d1 : m.v k < 0
                    · have HF : Hid (rightV m.v = false) := Lib.hid (by
                        cases hq : rightV m.v with
                        | false => rfl
                        | true => exfalso; have := (right_iff _).1 hq k hlt; omega)
                      generalize m.v k = x at *
                      go_wp2
                      go_ret
                      exact ⟨by rw [HR2.out, HF.out, Bool.false_and]; rfl, HB.out⟩
                    · skip
                      by_cases d2 : 1048576 < m.v k
                      · have HF : Hid (rightV m.v = false) := Lib.hid (by
                          cases hq : rightV m.v with
                          | false => rfl
                          | true => exfalso; have := (right_iff _).1 hq k hlt; omega)
                        generalize m.v k = x at *
                        go_wp2
                        go_ret
                        exact ⟨by rw [HR2.out, HF.out, Bool.false_and]; rfl, HB.out⟩
                      · have HA2 := Lib.hid (fun (j : Nat) (hj : j < k + 1) => show 0 ≤ m.v j ∧ m.v j ≤ 1048576 by
                          by_cases ej : j = k
                          · subst ej; omega
                          · exact HA.out j (by omega))
                        generalize m.v k = x at *
                        go_wp2
                        go_round
                        case rel => exact ⟨k + 1, by omega, by go_num, HA2.out⟩
                        case measure => simp [intOf]; omega
                  · have hkk : k = 16 := by omega
                    subst hkk
                    have HRT : Hid (rightV m.v = true) := Lib.hid ((right_iff _).2 HA.out)
                    rw [HRT.out, Bool.true_and] at HR2
                    clear HA hlt hk
                    by_cases hz : 200 < N
                    · have d1 : decide ((200 : Int) < (N : Int)) = true := decide_eq_true (by omega)
                      have HZ := Lib.hid (show decide (N ≤ 200) = false from decide_eq_false (by omega))
                      go_wp2
                      go_ret
                      exact ⟨by rw [HR2.out, HZ.out]; rfl, HB.out⟩
                    · have d1 : decide ((200 : Int) < (N : Int)) = false := decide_eq_false (by omega)
                      rw [show decide (N ≤ 200) = true from decide_eq_true (by omega), Bool.true_and] at HR2
                      go_wp2_with fail
                      go_loopw [72] (fun v72 wr => ∃ j : Nat, v72 = .int .i64 j ∧ j ≤ N ∧ (l.take j).any (wrongB m.v) = false ∧ Below w.heap.size w wr ∧ MB wr p m (.slice A N c) ∧ SlK encE 27 wr (.slice A N c) l) (fun v72 _ => N - (intOf v72).toNat)
                      case atStart => exact ⟨0, rfl, Nat.zero_le _, rfl, HB.out, HM.out, HS.out⟩
                      case round =>
                        obtain ⟨j, rfl, hj, ha, hb, hm, hsl⟩ := hrel
                        obtain ⟨wi, rfl⟩ : ∃ wi, wi = wr := ⟨_, rfl⟩
                        have HA := Lib.hid ha
                        have HBo := Lib.hid hb
                        by_cases hlt : j < N
                        · obtain ⟨e, he⟩ : ∃ e, l[j]? = some e := ⟨l[j]'(by rw [HN.out]; exact hlt), List.getElem?_eq_getElem _⟩
                          obtain ⟨gs, o, rfl, hgl, hce⟩ := hsl.ev he
                          have HCe := Lib.hid hce
                          have HAt := Lib.hid (at_Ev gs o c N j hlt wi)
                          have HSn := Lib.hid (any_snoc (p := wrongB m.v) he)
                          have HAn := Lib.hid (fun hp => any_at (p := wrongB m.v) he hp)
                          have HTe := Lib.hid (HL.out e (List.mem_of_getElem? he))
                          have HAl := Lib.hid fun c => World.setRow_alloc_new wi (evC ev0) c 48
                          have HZz := Lib.hid (show Blk (wi.alloc (.cells (evC ev0) 48)) wi.heap.size 48 (evC ev0) from Blk.new _ _ _)
                          obtain ⟨Y, hY⟩ : ∃ Y, Y = wi.alloc (.cells (evC e) 48) := ⟨_, rfl⟩
                          have hbY : Below wi.heap.size wi Y := by rw [hY]; exact (Below.refl _ _).alloc (Nat.le_refl _) _
                          have HBY := Lib.hid (show EB Y wi.heap.size e by rw [hY]; exact Blk.new _ _ _)
                          have HYe := Lib.hid hY
                          have HMY := Lib.hid (hm.keep hbY)
                          have HSY := Lib.hid (hsl.below hbY)
                          have HbY := Lib.hid (show Below w.heap.size w Y from hb.trans (hbY.mono hb.size))
                          have HW1 := Lib.hid (IntWalk.i64_in ((j : Int) + 1) (by have := HN2.out; omega))
                          have HJ1 := Lib.hid (show ¬ 9223372036854775807 < j + 1 by have := HN2.out; omega)
                          clear he hgl hce hY hbY hb hm hsl ha
                          have hz := HZe.out
                          go_upto_region 14 with (first
                            | (refine wpList_val (o := ⟨some 74, _, _, _, _, _⟩) rfl (.pointer (some ⟨gs, o + j * 27, none⟩)) wi (run_indexAddr_op rfl rfl rfl HAt.out) ?_)
                            | (refine' wpList_load_midif ?q1 48 (.tmp 74) ?q2 gs (o + j * 27) ?q3 (encE e) _ ?q4 Try.underlying48 ?q5 ?q6 ?_; (case q2 => rfl); (case q1 => rfl); (case q3 => rfl); (case q4 => exact HCe.out); (case q5 => rfl); (case q6 => exact (sizeE e)))
                            | (refine wpList_store_row (o := ⟨none, _, _, _, _, _⟩) rfl 48 (.tmp 6) (.tmp 75) rfl wi.heap.size (evC e) rfl rfl _ _ HZz.out (sizeE e) rfl (by kernel_rfl) ?_; rw [HAl.out, ← HYe.out])
                            | fail)
                          clear hz HZz HAl HYe HAt HCe
                          obtain ⟨q, hq7⟩ : ∃ q, wi.heap.size = q := ⟨_, rfl⟩
                          rw [hq7] at HBY ⊢
                          clear hq7
                          try simp only [Act.put]
                          cases hok : okB e
                          · have HF : Hid (rightM m l = false) := Lib.hid (by rw [HR2.out, HAn.out (by unfold wrongB; rw [hok]; rfl)]; rfl)
                            have HQ := Lib.hid (fun W => refright6_is e false hok HTe.out W)
                            clear hok
                            refine wp_region_any (by kernel_rfl) ?_
                            refine wpAny_below (fun i v _ => v = ([evV e, .bool false, .bool true, .bool true, undef, undef, undef, undef, undef, undef, undef, undef, undef, undef, .bool true] : List Value).getD i undef) _ Y (by kernel_rfl) (by kernel_rfl) (by kernel_rfl) (fun i v w w' _ h => h) ?_ ?_
                            · refine ⟨?_, ?_, ?_, ?_, ?_, ?_, ?_, ?_, ?_, ?_, ?_, ?_, ?_, ?_, ?_, trivial⟩
                              · intro a W hI hun haft hi
                                have e6 : a.eval (.tmp 6) = .pointer (some ⟨q, 0, none⟩) := hun 6 (by kernel_rfl)
                                exact b_same hi hI rfl _ (run_load_op rfl e6 (EB.keep HBY.out hI) Try.underlying48 rfl (sizeE e)) rfl
                              · intro a W hI hun haft hi
                                have f0 : a.eval (.tmp 76) = evV e := haft ⟨0, .data⟩ (by simp) rfl _ _ rfl rfl
                                refine b_call hi hI rfl _ _ (run_call_op (args := #[evV e]) rfl (by simp [f0]) (by kernel_rfl)) ?_
                                exact (HQ.out W).mono fun e w' H => ⟨_, H.1, rfl, H.2⟩
                              · intro a W hI hun haft hi
                                have f1 : a.eval (.tmp 77) = .bool false := haft ⟨1, .data⟩ (by simp) rfl _ _ rfl rfl
                                exact b_same hi hI rfl (.bool true) (run_not_op rfl f1) rfl
                              · intro a W hI hun haft hi
                                have f2 : a.eval (.tmp 78) = .bool true := haft ⟨2, .data⟩ (by simp) rfl _ _ rfl rfl
                                exact b_same hi hI rfl _ (run_move_op rfl f2) rfl
                              · intro a W hI hun haft hi
                                have fg : a.eval (.tmp 79) = .bool true := haft ⟨3, .guard⟩ (by simp) rfl _ _ rfl rfl
                                exact b_skip hi hI (guard_no rfl rfl rfl (.inl fg)) rfl
                              · intro a W hI hun haft hi
                                have fg : a.eval (.tmp 79) = .bool true := haft ⟨3, .guard⟩ (by simp) rfl _ _ rfl rfl
                                exact b_skip hi hI (guard_no rfl rfl rfl (.inl fg)) rfl
                              · intro a W hI hun haft hi
                                have fg : a.eval (.tmp 79) = .bool true := haft ⟨3, .guard⟩ (by simp) rfl _ _ rfl rfl
                                exact b_skip hi hI (guard_no rfl rfl rfl (.inl fg)) rfl
                              · intro a W hI hun haft hi
                                have fg : a.eval (.tmp 79) = .bool true := haft ⟨3, .guard⟩ (by simp) rfl _ _ rfl rfl
                                exact b_skip hi hI (guard_no rfl rfl rfl (.inl fg)) rfl
                              · intro a W hI hun haft hi
                                have fg : a.eval (.tmp 79) = .bool true := haft ⟨3, .guard⟩ (by simp) rfl _ _ rfl rfl
                                exact b_skip hi hI (guard_no rfl rfl rfl (.inl fg)) rfl
                              · intro a W hI hun haft hi
                                have fg : a.eval (.tmp 79) = .bool true := haft ⟨3, .guard⟩ (by simp) rfl _ _ rfl rfl
                                exact b_skip hi hI (guard_no rfl rfl rfl (.inl fg)) rfl
                              · intro a W hI hun haft hi
                                have fg : a.eval (.tmp 79) = .bool true := haft ⟨3, .guard⟩ (by simp) rfl _ _ rfl rfl
                                exact b_skip hi hI (guard_no rfl rfl rfl (.inl fg)) rfl
                              · intro a W hI hun haft hi
                                have fg : a.eval (.tmp 79) = .bool true := haft ⟨3, .guard⟩ (by simp) rfl _ _ rfl rfl
                                exact b_skip hi hI (guard_no rfl rfl rfl (.inl fg)) rfl
                              · intro a W hI hun haft hi
                                have fg : a.eval (.tmp 79) = .bool true := haft ⟨3, .guard⟩ (by simp) rfl _ _ rfl rfl
                                exact b_skip hi hI (guard_no rfl rfl rfl (.inl fg)) rfl
                              · intro a W hI hun haft hi
                                have fg : a.eval (.tmp 79) = .bool true := haft ⟨3, .guard⟩ (by simp) rfl _ _ rfl rfl
                                exact b_skip hi hI (guard_no rfl rfl rfl (.inl fg)) rfl
                              · intro a W hI hun haft hi
                                have f3 : a.eval (.tmp 79) = .bool true := haft ⟨3, .data⟩ (by simp) rfl _ _ rfl rfl
                                have f13 : a.eval (.tmp 89) = undef := haft ⟨13, .data⟩ (by simp) rfl _ _ rfl rfl
                                exact b_same hi hI rfl _ (run_pick_op (b := true) rfl f3 rfl f13) rfl
                            · intro vals W hI hp
                              have hl14 : vals 14 = .bool true := hp 14 (by decide)
                              have HI := Lib.hid hI
                              clear hp hI
                              simp only [layN, List.size_toArray, List.length_cons, List.length_nil, List.range, List.range.loop, if_true, List.getElem?_toArray, List.getElem?_cons_zero, List.getElem?_cons_succ, Act.put, List.setIfInBounds_toArray, List.set_cons_zero, List.set_cons_succ, Nat.zero_add, Nat.reduceAdd, hl14]
                              clear hl14
                              go_wp2
                              go_ret
                              exact ⟨by rw [HF.out]; rfl, HbY.out.trans (HI.out.mono HbY.out.size)⟩
                          · obtain ⟨n, hn, hn16, hdot⟩ := ok_dot e hok
                            obtain ⟨d, hd⟩ : ∃ d, decide (m.v n < e.c) = d := ⟨_, rfl⟩
                            have HWb : Hid (wrongB m.v e = d) := Lib.hid (by
                              unfold wrongB knowsB
                              rw [hok, hdot, hn, ← hd]
                              simp [← Int.not_lt])
                            have HQ := Lib.hid (fun W => refright6_is e true hok HTe.out W)
                            have Hd := Lib.hid hd
                            clear hok hd hdot
                            refine wp_region_any (by kernel_rfl) ?_
                            refine wpAny_below (fun i v _ => v = ([evV e, .bool true, .bool false, .bool false, .pointer (some ⟨q, 0, none⟩), .pointer (some ⟨q, 0, none⟩), .int .i64 n, .pointer (some ⟨p, 3, none⟩), .pointer (some ⟨p, 3 + n, none⟩), .int .i64 (m.v n), .pointer (some ⟨q, 0, none⟩), .pointer (some ⟨q, 1, none⟩), .int .i64 e.c, .bool d, .bool d] : List Value).getD i undef) _ Y (by kernel_rfl) (by kernel_rfl) (by kernel_rfl) (fun i v w w' _ h => h) ?_ ?_
                            · refine ⟨?_, ?_, ?_, ?_, ?_, ?_, ?_, ?_, ?_, ?_, ?_, ?_, ?_, ?_, ?_, trivial⟩
                              · intro a W hI hun haft hi
                                have e6 : a.eval (.tmp 6) = .pointer (some ⟨q, 0, none⟩) := hun 6 (by kernel_rfl)
                                exact b_same hi hI rfl _ (run_load_op rfl e6 (EB.keep HBY.out hI) Try.underlying48 rfl (sizeE e)) rfl
                              · intro a W hI hun haft hi
                                have f0 : a.eval (.tmp 76) = evV e := haft ⟨0, .data⟩ (by simp) rfl _ _ rfl rfl
                                refine b_call hi hI rfl _ _ (run_call_op (args := #[evV e]) rfl (by simp [f0]) (by kernel_rfl)) ?_
                                exact (HQ.out W).mono fun e w' H => ⟨_, H.1, rfl, H.2⟩
                              · intro a W hI hun haft hi
                                have f1 : a.eval (.tmp 77) = .bool true := haft ⟨1, .data⟩ (by simp) rfl _ _ rfl rfl
                                exact b_same hi hI rfl (.bool false) (run_not_op rfl f1) rfl
                              · intro a W hI hun haft hi
                                have f2 : a.eval (.tmp 78) = .bool false := haft ⟨2, .data⟩ (by simp) rfl _ _ rfl rfl
                                exact b_same hi hI rfl _ (run_move_op rfl f2) rfl
                              · intro a W hI hun haft hi
                                have fg : a.eval (.tmp 79) = .bool false := haft ⟨3, .guard⟩ (by simp) rfl _ _ rfl rfl
                                have e6 : a.eval (.tmp 6) = .pointer (some ⟨q, 0, none⟩) := hun 6 (by kernel_rfl)
                                exact b_same hi hI (guard_ok rfl rfl rfl fg) _ (run_fieldAddr_any rfl e6 (at_ev0 _ _)) rfl
                              · intro a W hI hun haft hi
                                have fg : a.eval (.tmp 79) = .bool false := haft ⟨3, .guard⟩ (by simp) rfl _ _ rfl rfl
                                have f4 : a.eval (.tmp 80) = .pointer (some ⟨q, 0, none⟩) := haft ⟨4, .data⟩ (by simp) rfl _ _ rfl rfl
                                exact b_same hi hI (guard_ok rfl rfl rfl fg) _ (run_fieldAddr_any rfl f4 (at_dot0 _ _)) rfl
                              · intro a W hI hun haft hi
                                have fg : a.eval (.tmp 79) = .bool false := haft ⟨3, .guard⟩ (by simp) rfl _ _ rfl rfl
                                have f5 : a.eval (.tmp 81) = .pointer (some ⟨q, 0, none⟩) := haft ⟨5, .data⟩ (by simp) rfl _ _ rfl rfl
                                exact b_same hi hI (guard_ok rfl rfl rfl fg) _ (run_loadint_op rfl f5 Try.underlying3 ((Blk.cell (EB.keep HBY.out hI) 0).trans (by rw [← hn]; rfl))) rfl
                              · intro a W hI hun haft hi
                                have fg : a.eval (.tmp 79) = .bool false := haft ⟨3, .guard⟩ (by simp) rfl _ _ rfl rfl
                                have e1 : a.eval (.tmp 1) = .pointer (some ⟨p, 0, none⟩) := hun 1 (by kernel_rfl)
                                exact b_same hi hI (guard_ok rfl rfl rfl fg) _ (run_fieldAddr_any rfl e1 (at_mg3 _ _)) rfl
                              · intro a W hI hun haft hi
                                have fg : a.eval (.tmp 79) = .bool false := haft ⟨3, .guard⟩ (by simp) rfl _ _ rfl rfl
                                have f7 : a.eval (.tmp 83) = .pointer (some ⟨p, 3, none⟩) := haft ⟨7, .data⟩ (by simp) rfl _ _ rfl rfl
                                have f6 : a.eval (.tmp 82) = .int .i64 n := haft ⟨6, .data⟩ (by simp) rfl _ _ rfl rfl
                                exact b_same hi hI (guard_ok rfl rfl rfl fg) _ (run_indexAddr_op rfl f7 f6 (at_known _ n hn16 _)) rfl
                              · intro a W hI hun haft hi
                                have fg : a.eval (.tmp 79) = .bool false := haft ⟨3, .guard⟩ (by simp) rfl _ _ rfl rfl
                                have f8 : a.eval (.tmp 84) = .pointer (some ⟨p, 3 + n, none⟩) := haft ⟨8, .data⟩ (by simp) rfl _ _ rfl rfl
                                exact b_same hi hI (guard_ok rfl rfl rfl fg) _ (run_loadint_op rfl f8 Try.underlying3 (((MB.keep HMY.out hI).at_ (3 + n) (by omega)).trans (by rw [show m.p (3 + n) = m.v n by unfold Mg.p; rw [if_neg (by omega), if_neg (by omega), if_neg (by omega)]; congr 1; omega]))) rfl
                              · intro a W hI hun haft hi
                                have fg : a.eval (.tmp 79) = .bool false := haft ⟨3, .guard⟩ (by simp) rfl _ _ rfl rfl
                                have e6 : a.eval (.tmp 6) = .pointer (some ⟨q, 0, none⟩) := hun 6 (by kernel_rfl)
                                exact b_same hi hI (guard_ok rfl rfl rfl fg) _ (run_fieldAddr_any rfl e6 (at_ev0 _ _)) rfl
                              · intro a W hI hun haft hi
                                have fg : a.eval (.tmp 79) = .bool false := haft ⟨3, .guard⟩ (by simp) rfl _ _ rfl rfl
                                have f10 : a.eval (.tmp 86) = .pointer (some ⟨q, 0, none⟩) := haft ⟨10, .data⟩ (by simp) rfl _ _ rfl rfl
                                exact b_same hi hI (guard_ok rfl rfl rfl fg) _ (run_fieldAddr_any rfl f10 (at_dot1 _ _)) rfl
                              · intro a W hI hun haft hi
                                have fg : a.eval (.tmp 79) = .bool false := haft ⟨3, .guard⟩ (by simp) rfl _ _ rfl rfl
                                have f11 : a.eval (.tmp 87) = .pointer (some ⟨q, 1, none⟩) := haft ⟨11, .data⟩ (by simp) rfl _ _ rfl rfl
                                exact b_same hi hI (guard_ok rfl rfl rfl fg) _ (run_loadint_op rfl f11 Try.underlying3 ((Blk.cell (EB.keep HBY.out hI) 1).trans rfl)) rfl
                              · intro a W hI hun haft hi
                                have fg : a.eval (.tmp 79) = .bool false := haft ⟨3, .guard⟩ (by simp) rfl _ _ rfl rfl
                                have f9 : a.eval (.tmp 85) = .int .i64 (m.v n) := haft ⟨9, .data⟩ (by simp) rfl _ _ rfl rfl
                                have f12 : a.eval (.tmp 88) = .int .i64 e.c := haft ⟨12, .data⟩ (by simp) rfl _ _ rfl rfl
                                exact b_same hi hI (guard_ok rfl rfl rfl fg) (.bool d) (run_bin_op rfl f9 f12 (guardI _ _ _ _ _ _ _) (run_lsi Hd.out _)) rfl
                              · intro a W hI hun haft hi
                                have f3 : a.eval (.tmp 79) = .bool false := haft ⟨3, .data⟩ (by simp) rfl _ _ rfl rfl
                                have f13 : a.eval (.tmp 89) = .bool d := haft ⟨13, .data⟩ (by simp) rfl _ _ rfl rfl
                                exact b_same hi hI rfl _ (run_pick_op (b := false) rfl f3 rfl f13) rfl
                            · intro vals W hI hp
                              have hl14 : vals 14 = .bool d := hp 14 (by decide)
                              have HI := Lib.hid hI
                              clear hp hI
                              simp only [layN, List.size_toArray, List.length_cons, List.length_nil, List.range, List.range.loop, if_true, List.getElem?_toArray, List.getElem?_cons_zero, List.getElem?_cons_succ, Act.put, List.setIfInBounds_toArray, List.set_cons_zero, List.set_cons_succ, Nat.zero_add, Nat.reduceAdd, hl14]
                              clear hl14
                              have HB9 := Lib.hid (show Below w.heap.size w W from HbY.out.trans (HI.out.mono HbY.out.size))
                              have HM9 := Lib.hid (MB.keep HMY.out HI.out)
                              have HS9 := Lib.hid (HSY.out.below HI.out)
                              have hw := HW1.out
                              have hjm := HJ1.out
                              cases d
                              · go_wp2
                                go_roundw
                                case rel => exact ⟨j + 1, by go_num, by omega, by rw [HSn.out, HA.out, HWb.out]; rfl, HB9.out, HM9.out, HS9.out⟩
                                case measure => simp [intOf] <;> omega
                              · have HF : Hid (rightM m l = false) := Lib.hid (by rw [HR2.out, HAn.out HWb.out]; rfl)
                                go_wp2
                                go_ret
                                exact ⟨by rw [HF.out]; rfl, HB9.out⟩
                        · have hjN : N = j := by omega
                          subst hjN
                          rw [List.take_of_length_le (Nat.le_of_eq HN.out)] at ha
                          have HA2 := Lib.hid ha
                          clear ha hb hm hsl hj hlt HA
                          go_wp2
                          go_ret
                          exact ⟨by rw [HR2.out, HA2.out]; rfl, HBo.out⟩
    · rw [if_neg k1, if_neg k2] at HR
      have d1 : (kk == 1) = false := beq_eq_false_iff_ne.2 k1
      have d2 : (kk == 2) = false := beq_eq_false_iff_ne.2 k2
      have HF : Hid (rightM m l = false) := Lib.hid (by rw [HR.out]; simp)
      have n1 : (kk != 1) = true := by simp [k1]
      have n2 : (kk != 2) = true := by simp [k2]
      go_enter Try.func10, Try.ntmps10
      go_upto_region 1 with fail
      rw [← HX.out, HP.out]
      go_wp2
      go_ret
      exact ⟨by rw [HF.out]; rfl, HB.out⟩

end Go.Proofs.Ytalaidlnhoonfaa
