/- hedgerowref06.Right. -/import Derived.Test.YtdgglhlofnigkaaGreatDoorEvRefCh
import Derived.Test.YtdgglhlofnigkaaGreatDoorJEvPast
namespace Go.Proofs.YtdgglhlofnigkaaGreatDoor
open Lib (hid)
open Go.RowKit
theorem refchange_is (e : Ev) (hl : Tiny e) (w : World) : Calls Tryz.prog 59 #[chV e] w (Gives w (.bool (changeB e))) := refchange_any e w hl
theorem run_build_rt {P : Program} {o : Oper} {ρ : Operand → Value} {w : World} {ty : TypeId} {xs : Array (Nat × Operand)} {vs : Array (Nat × Value)} {v : Value} (ho : o.op = .build ty xs) (hx : xs.map (fun (i, x) => (i, ρ x)) = vs) (hr : (Instr.build ty vs).run P w = .ok v w) : (execOp ρ o).run P w = .ok (.value v) w := by
 unfold execOp
 simp only [ho]
 rw [show (xs.map fun x => match x with | (i, x) => (i, ρ x)) = vs from hx]
 simp [hr]
theorem at_dot0 (g : Nat) (w : World) : (Instr.fieldAt 58 (.pointer (some ⟨g, 0, none⟩)) 0).run Tryz.prog w = .ok (.pointer (some ⟨g, 0, none⟩)) w := by go_simp
theorem at_ev1 (g : Nat) (w : World) : (Instr.fieldAt 60 (.pointer (some ⟨g, 0, none⟩)) 1).run Tryz.prog w = .ok (.pointer (some ⟨g, 2, none⟩)) w := by go_simp
theorem at_ev2 (g : Nat) (w : World) : (Instr.fieldAt 60 (.pointer (some ⟨g, 0, none⟩)) 2).run Tryz.prog w = .ok (.pointer (some ⟨g, 18, none⟩)) w := by go_simp
theorem at_ev3 (g : Nat) (w : World) : (Instr.fieldAt 60 (.pointer (some ⟨g, 0, none⟩)) 3).run Tryz.prog w = .ok (.pointer (some ⟨g, 19, none⟩)) w := by go_simp
theorem at_ev4 (g : Nat) (w : World) : (Instr.fieldAt 60 (.pointer (some ⟨g, 0, none⟩)) 4).run Tryz.prog w = .ok (.pointer (some ⟨g, 24, none⟩)) w := by go_simp
theorem at_past (g n : Nat) (h : n < 16) (w : World) : (Instr.indexAt 26 (.pointer (some ⟨g, 2, none⟩)) (.int .i64 n)).run Tryz.prog w = .ok (.pointer (some ⟨g, 2 + n, none⟩)) w := by
 have h2 : (n : Int) < 16 := by omega
 go_simp
theorem run_sub1 (c : Int) (h : 1 ≤ c ∧ c ≤ 1048576) (w : World) : (binOp .sub 3 (.int .i64 c) (.int .i64 1)).run Tryz.prog w = .ok (.int .i64 (c - 1)) w := by
 have hw := IntWalk.i64_in (c - 1) (by omega)
 go_simp
theorem guardI (x y : Operand) (a b : Int) (w : World) (op : BinOp) (t : TypeId) : (eqGuard op t x y (.int .i64 a) (.int .i64 b)).run Tryz.prog w = .ok () w := by cases op <;> go_simp
theorem run_eqi {a b : Int} {q : Bool} (h : (a == b) = q) (w : World) : (binOp .eql 3 (.int .i64 a) (.int .i64 b)).run Tryz.prog w = .ok (.bool q) w := by subst h; go_simp
theorem right_iff (f : Nat → Int) : rightV f = true ↔ ∀ i, i < 16 → 0 ≤ f i ∧ f i ≤ 1048576 := by
 unfold rightV
 rw [eqV_iff]
 refine forall_congr' fun i => forall_congr' fun _ => ?_
 unfold clampV; omega
set_option maxRecDepth 100000 in
set_option maxHeartbeats 4000000 in
theorem refright6_any (e : Ev) (w : World) (hl : Tiny e) : Calls Tryz.prog 36 #[evV e] w (Gives w (.bool (okB e))) := by
 have HCh := hid (refchange_is e hl)
 have HO : Hid (okB e = (nextB e.p e.r e.c && rightV e.p && changeB e)) := hid rfl
 obtain ⟨X, hX⟩ : ∃ X, X = w.alloc (.cells (evC e) 60) := ⟨_, rfl⟩
 have hk : EB X w.heap.size e := by rw [hX]; exact EB.new_ w e
 have hy : Below w.heap.size w X := by rw [hX]; exact (Below.refl _ _).alloc (Nat.le_refl _) _
 have hs : X.heap.size = w.heap.size + 1 := by rw [hX]; simp
 have HX := hid hX
 have HS := hid hs
 have K0 := hid hk
 obtain ⟨Y, hY⟩ : ∃ Y, Y = X.alloc (.cells #[.int .i64 e.r, .int .i64 e.c] 58) := ⟨_, rfl⟩
 have hd : Blk Y X.heap.size 58 #[.int .i64 e.r, .int .i64 e.c] := by rw [hY]; exact Blk.new _ _ _
 have hky : EB Y w.heap.size e := by rw [hY]; exact hk.keep ((Below.refl _ _).alloc (Nat.le_refl _) _)
 have hby : Below w.heap.size w Y := by rw [hY]; exact hy.alloc hy.size _
 have HYY := hid hY
 have KD := hid hd
 have K := hid hky
 have BY := hid hby
 clear hX hk hy hs hY hd hky hby hl
 obtain ⟨r, hr⟩ : ∃ r, e.r = r := ⟨_, rfl⟩
 obtain ⟨c, hc⟩ : ∃ c, e.c = c := ⟨_, rfl⟩
 rw [hr, hc] at KD HO HYY
 have HRR := hid hr
 have HCC := hid hc
 clear hr hc
 unfold evV
 have k0 := Blk.cell KD.out 0
 have k1 := Blk.cell KD.out 1
 simp at k0 k1
 by_cases c1 : 0 ≤ r
 ·by_cases c2 : r ≤ 15
  ·by_cases c3 : 1 ≤ c
   ·by_cases c4 : c ≤ 1048576
    ·obtain ⟨n, rfl⟩ := Int.eq_ofNat_of_zero_le c1
     have hn : n < 16 := by omega
     have hdot : dotB (n : Int) c = true := (dotB_iff _ _).2 ⟨n, rfl, hn, c3, c4⟩
     have HNB : Hid (nextB e.p (n : Int) c = (e.p n == c - 1)) := hid (by unfold nextB; rw [hdot]; simp)
     rw [HNB.out] at HO
     have hd1 : decide ((15 : Int) < (n : Nat)) = false := decide_eq_false (by omega)
     have hd2 : decide (c < 1) = false := decide_eq_false (by omega)
     have hd3 : decide ((1048576 : Int) < c) = false := decide_eq_false (by omega)
     clear hdot
     go_enter Tryz.func36, Tryz.ntmps36
     go_upto_region 1 with fail
     rw [← HX.out]
     go_upto_region 2 with (refine wpList_load_midif rfl 58 (.tmp 6) rfl w.heap.size 0 rfl _ _ K0.out.dot Tryz.underlying58 rfl (by kernel_rfl) ?_)
     rw [HRR.out, HCC.out, ← HYY.out]
     go_wp2_with (refine wpList_load_midif rfl 26 (.tmp 26) rfl w.heap.size 2 rfl _ _ K.out.past Tryz.underlying26 rfl (by kernel_rfl) ?_)
     go_loop [5, 28] (fun _ i => ∃ k : Nat, k ≤ 16 ∧ i = .int .i64 k ∧ ∀ j, j < k → 0 ≤ e.p j ∧ e.p j ≤ 1048576) (fun _ i => 16 - (intOf i).toNat)
     case atStart => exact ⟨0, by omega, rfl, fun j hj => by omega⟩
     case round =>
      obtain ⟨k, hk, rfl, hall⟩ := hrel
      have HA := hid hall
      clear hall
      by_cases hlt : k < 16
      ·have hix := index_V e.p k hlt Y
       by_cases d1 : e.p k < 0
       ·have HF : Hid (rightV e.p = false) := hid (by
         cases hq : rightV e.p with
         | false => rfl
         | true => exfalso; have := (right_iff _).1 hq k hlt; omega)
        generalize e.p k = x at *
        go_wp2
        go_ret
        exact ⟨by rw [HO.out, HF.out, Bool.and_false, Bool.false_and]; rfl, BY.out⟩
       ·by_cases d2 : 1048576 < e.p k
        ·have HF : Hid (rightV e.p = false) := hid (by
          cases hq : rightV e.p with
          | false => rfl
          | true => exfalso; have := (right_iff _).1 hq k hlt; omega)
         generalize e.p k = x at *
         go_wp2
         go_ret
         exact ⟨by rw [HO.out, HF.out, Bool.and_false, Bool.false_and]; rfl, BY.out⟩
        ·have HA2 := hid (fun (j : Nat) (hj : j < k + 1) => show 0 ≤ e.p j ∧ e.p j ≤ 1048576 by
          by_cases ej : j = k
          ·subst ej; omega
          ·exact HA.out j (by omega))
         generalize e.p k = x at *
         go_wp2
         go_round
         case rel => exact ⟨k + 1, by omega, by go_num, HA2.out⟩
         case measure => simp [intOf]; omega
      ·have hkk : k = 16 := by omega
       subst hkk
       have HRT : Hid (rightV e.p = true) := hid ((right_iff _).2 HA.out)
       rw [HRT.out, Bool.and_true] at HO
       clear HA
       go_upto_region 10 with fail
       cases hq : (e.p n == c - 1)
       ·rw [hq] at HO
        refine wp_region_any (by kernel_rfl) ?_
        refine wpAny_below (fun i v _ => v = ([.pointer (some ⟨X.heap.size, 0, none⟩), .int .i64 n, .pointer (some ⟨w.heap.size, 2, none⟩), .pointer (some ⟨w.heap.size, 2 + n, none⟩), .int .i64 (e.p n), .pointer (some ⟨X.heap.size, 1, none⟩), .int .i64 c, .int .i64 (c - 1), .bool false, .bool false, undef, undef, undef, undef, undef, undef, undef, undef, .bool false, .bool false] : List Value).getD i undef) _ Y (by kernel_rfl) (by kernel_rfl) (by kernel_rfl) (fun i v w w' _ h => h) ?_ ?_
        ·refine ⟨?_, ?_, ?_, ?_, ?_, ?_, ?_, ?_, ?_, ?_, ?_, ?_, ?_, ?_, ?_, ?_, ?_, ?_, ?_, ?_, trivial⟩
         ·intro a W hI hun haft hi
          have e3 := hun 3 (by kernel_rfl)
          exact b_same hi hI rfl _ (run_fieldAddr_any rfl e3 (at_dot0 _ _)) rfl
         ·intro a W hI hun haft hi
          have f0 : a.eval (.tmp 38) = .pointer (some ⟨X.heap.size, 0, none⟩) := haft ⟨0, .data⟩ (by simp) rfl _ _ rfl rfl
          exact b_same hi hI rfl _ (run_loadint_op rfl f0 Tryz.underlying3 ((Blk.cell (Blk.below KD.out hI (Blk.lt KD.out)) 0).trans rfl)) rfl
         ·intro a W hI hun haft hi
          have e1 := hun 1 (by kernel_rfl)
          exact b_same hi hI rfl _ (run_fieldAddr_any rfl e1 (at_ev1 _ _)) rfl
         ·intro a W hI hun haft hi
          have f2 := haft ⟨2, .data⟩ (by simp) rfl _ _ rfl rfl
          have f1 := haft ⟨1, .data⟩ (by simp) rfl _ _ rfl rfl
          exact b_same hi hI rfl _ (run_indexAddr_op rfl f2 f1 (at_past _ n hn _)) rfl
         ·intro a W hI hun haft hi
          have f3 : a.eval (.tmp 41) = .pointer (some ⟨w.heap.size, 2 + n, none⟩) := haft ⟨3, .data⟩ (by simp) rfl _ _ rfl rfl
          exact b_same hi hI rfl _ (run_loadint_op rfl f3 Tryz.underlying3 ((Blk.cell (EB.keep K.out hI) (2 + n)).trans (past_at e n hn))) rfl
         ·intro a W hI hun haft hi
          have e3 := hun 3 (by kernel_rfl)
          exact b_same hi hI rfl _ (run_fieldAddr_any rfl e3 (field1 _ _)) rfl
         ·intro a W hI hun haft hi
          have f5 : a.eval (.tmp 43) = .pointer (some ⟨X.heap.size, 1, none⟩) := haft ⟨5, .data⟩ (by simp) rfl _ _ rfl rfl
          exact b_same hi hI rfl _ (run_loadint_op rfl f5 Tryz.underlying3 ((Blk.cell (Blk.below KD.out hI (Blk.lt KD.out)) 1).trans rfl)) rfl
         ·intro a W hI hun haft hi
          have f6 := haft ⟨6, .data⟩ (by simp) rfl _ _ rfl rfl
          exact b_same hi hI rfl (.int .i64 (c - 1)) (run_bin_op rfl f6 rfl (guardI _ _ _ _ _ _ _) (run_sub1 c ⟨c3, c4⟩ _)) rfl
         ·intro a W hI hun haft hi
          have f4 := haft ⟨4, .data⟩ (by simp) rfl _ _ rfl rfl
          have f7 := haft ⟨7, .data⟩ (by simp) rfl _ _ rfl rfl
          exact b_same hi hI rfl (.bool false) (run_bin_op rfl f4 f7 (guardI _ _ _ _ _ _ _) (run_eqi hq _)) rfl
         ·intro a W hI hun haft hi
          have f8 := haft ⟨8, .data⟩ (by simp) rfl _ _ rfl rfl
          exact b_same hi hI rfl _ (run_move_op rfl f8) rfl
         ·intro a W hI hun haft hi
          have fg : a.eval (.tmp 47) = .bool false := haft ⟨9, .guard⟩ (by simp) rfl _ _ rfl rfl
          exact b_skip hi hI (guard_no rfl rfl rfl (.inl fg)) rfl
         ·intro a W hI hun haft hi
          have fg : a.eval (.tmp 47) = .bool false := haft ⟨9, .guard⟩ (by simp) rfl _ _ rfl rfl
          exact b_skip hi hI (guard_no rfl rfl rfl (.inl fg)) rfl
         ·intro a W hI hun haft hi
          have fg : a.eval (.tmp 47) = .bool false := haft ⟨9, .guard⟩ (by simp) rfl _ _ rfl rfl
          exact b_skip hi hI (guard_no rfl rfl rfl (.inl fg)) rfl
         ·intro a W hI hun haft hi
          have fg : a.eval (.tmp 47) = .bool false := haft ⟨9, .guard⟩ (by simp) rfl _ _ rfl rfl
          exact b_skip hi hI (guard_no rfl rfl rfl (.inl fg)) rfl
         ·intro a W hI hun haft hi
          have fg : a.eval (.tmp 47) = .bool false := haft ⟨9, .guard⟩ (by simp) rfl _ _ rfl rfl
          exact b_skip hi hI (guard_no rfl rfl rfl (.inl fg)) rfl
         ·intro a W hI hun haft hi
          have fg : a.eval (.tmp 47) = .bool false := haft ⟨9, .guard⟩ (by simp) rfl _ _ rfl rfl
          exact b_skip hi hI (guard_no rfl rfl rfl (.inl fg)) rfl
         ·intro a W hI hun haft hi
          have fg : a.eval (.tmp 47) = .bool false := haft ⟨9, .guard⟩ (by simp) rfl _ _ rfl rfl
          exact b_skip hi hI (guard_no rfl rfl rfl (.inl fg)) rfl
         ·intro a W hI hun haft hi
          have fg : a.eval (.tmp 47) = .bool false := haft ⟨9, .guard⟩ (by simp) rfl _ _ rfl rfl
          exact b_skip hi hI (guard_no rfl rfl rfl (.inl fg)) rfl
         ·intro a W hI hun haft hi
          have f9 := haft ⟨9, .data⟩ (by simp) rfl _ _ rfl rfl
          have f17 := haft ⟨17, .data⟩ (by simp) rfl _ _ rfl rfl
          exact b_same hi hI rfl _ (run_pick_op (b := false) rfl f9 f17 rfl) rfl
         ·intro a W hI hun haft hi
          have f18 := haft ⟨18, .data⟩ (by simp) rfl _ _ rfl rfl
          exact b_same hi hI rfl _ (run_assign_op rfl f18) rfl
        ·intro vals W hI hp
         have hl19 : vals 19 = .bool false := hp 19 (by decide)
         have HI := hid hI
         clear hp hI
         simp only [layN, layS, List.range, List.range.loop, if_true, Act.put, Nat.zero_add, Nat.reduceAdd, hl19]
         clear hl19
         go_wp2
         go_ret
         exact ⟨by rw [HO.out]; first | rfl | (rw [Bool.true_and]; rfl), BY.out.trans (HI.out.mono BY.out.size)⟩
       ·rw [hq] at HO
        refine wp_region_any (by kernel_rfl) ?_
        refine wpAny_below (fun i v _ => v = ([.pointer (some ⟨X.heap.size, 0, none⟩), .int .i64 n, .pointer (some ⟨w.heap.size, 2, none⟩), .pointer (some ⟨w.heap.size, 2 + n, none⟩), .int .i64 (e.p n), .pointer (some ⟨X.heap.size, 1, none⟩), .int .i64 c, .int .i64 (c - 1), .bool true, .bool true, .pointer (some ⟨w.heap.size, 18, none⟩), .int .i64 e.op, .pointer (some ⟨w.heap.size, 19, none⟩), .agg #[.int .i64 e.ek, .string e.a, .string e.b, .string e.cc, .string e.d], .pointer (some ⟨w.heap.size, 24, none⟩), .agg #[.int .i64 e.vk, .int .i64 e.vn, .string e.t], chV e, .bool (changeB e), .bool (changeB e), .bool (changeB e)] : List Value).getD i undef) _ Y (by kernel_rfl) (by kernel_rfl) (by kernel_rfl) (fun i v w w' _ h => h) ?_ ?_
        ·refine ⟨?_, ?_, ?_, ?_, ?_, ?_, ?_, ?_, ?_, ?_, ?_, ?_, ?_, ?_, ?_, ?_, ?_, ?_, ?_, ?_, trivial⟩
         ·intro a W hI hun haft hi
          have e3 := hun 3 (by kernel_rfl)
          exact b_same hi hI rfl _ (run_fieldAddr_any rfl e3 (at_dot0 _ _)) rfl
         ·intro a W hI hun haft hi
          have f0 : a.eval (.tmp 38) = .pointer (some ⟨X.heap.size, 0, none⟩) := haft ⟨0, .data⟩ (by simp) rfl _ _ rfl rfl
          exact b_same hi hI rfl _ (run_loadint_op rfl f0 Tryz.underlying3 ((Blk.cell (Blk.below KD.out hI (Blk.lt KD.out)) 0).trans rfl)) rfl
         ·intro a W hI hun haft hi
          have e1 := hun 1 (by kernel_rfl)
          exact b_same hi hI rfl _ (run_fieldAddr_any rfl e1 (at_ev1 _ _)) rfl
         ·intro a W hI hun haft hi
          have f2 := haft ⟨2, .data⟩ (by simp) rfl _ _ rfl rfl
          have f1 := haft ⟨1, .data⟩ (by simp) rfl _ _ rfl rfl
          exact b_same hi hI rfl _ (run_indexAddr_op rfl f2 f1 (at_past _ n hn _)) rfl
         ·intro a W hI hun haft hi
          have f3 : a.eval (.tmp 41) = .pointer (some ⟨w.heap.size, 2 + n, none⟩) := haft ⟨3, .data⟩ (by simp) rfl _ _ rfl rfl
          exact b_same hi hI rfl _ (run_loadint_op rfl f3 Tryz.underlying3 ((Blk.cell (EB.keep K.out hI) (2 + n)).trans (past_at e n hn))) rfl
         ·intro a W hI hun haft hi
          have e3 := hun 3 (by kernel_rfl)
          exact b_same hi hI rfl _ (run_fieldAddr_any rfl e3 (field1 _ _)) rfl
         ·intro a W hI hun haft hi
          have f5 : a.eval (.tmp 43) = .pointer (some ⟨X.heap.size, 1, none⟩) := haft ⟨5, .data⟩ (by simp) rfl _ _ rfl rfl
          exact b_same hi hI rfl _ (run_loadint_op rfl f5 Tryz.underlying3 ((Blk.cell (Blk.below KD.out hI (Blk.lt KD.out)) 1).trans rfl)) rfl
         ·intro a W hI hun haft hi
          have f6 := haft ⟨6, .data⟩ (by simp) rfl _ _ rfl rfl
          exact b_same hi hI rfl (.int .i64 (c - 1)) (run_bin_op rfl f6 rfl (guardI _ _ _ _ _ _ _) (run_sub1 c ⟨c3, c4⟩ _)) rfl
         ·intro a W hI hun haft hi
          have f4 := haft ⟨4, .data⟩ (by simp) rfl _ _ rfl rfl
          have f7 := haft ⟨7, .data⟩ (by simp) rfl _ _ rfl rfl
          exact b_same hi hI rfl (.bool true) (run_bin_op rfl f4 f7 (guardI _ _ _ _ _ _ _) (run_eqi hq _)) rfl
         ·intro a W hI hun haft hi
          have f8 := haft ⟨8, .data⟩ (by simp) rfl _ _ rfl rfl
          exact b_same hi hI rfl _ (run_move_op rfl f8) rfl
         ·intro a W hI hun haft hi
          have fg := haft ⟨9, .guard⟩ (by simp) rfl _ _ rfl rfl
          have e1 := hun 1 (by kernel_rfl)
          exact b_same hi hI (guard_ok rfl rfl rfl fg) _ (run_fieldAddr_any rfl e1 (at_ev2 _ _)) rfl
         ·intro a W hI hun haft hi
          have fg := haft ⟨9, .guard⟩ (by simp) rfl _ _ rfl rfl
          have f10 := haft ⟨10, .data⟩ (by simp) rfl _ _ rfl rfl
          exact b_same hi hI (guard_ok rfl rfl rfl fg) _ (run_loadint_op rfl f10 Tryz.underlying3 (EB.opc (EB.keep K.out hI))) rfl
         ·intro a W hI hun haft hi
          have fg := haft ⟨9, .guard⟩ (by simp) rfl _ _ rfl rfl
          have e1 := hun 1 (by kernel_rfl)
          exact b_same hi hI (guard_ok rfl rfl rfl fg) _ (run_fieldAddr_any rfl e1 (at_ev3 _ _)) rfl
         ·intro a W hI hun haft hi
          have fg := haft ⟨9, .guard⟩ (by simp) rfl _ _ rfl rfl
          have f12 := haft ⟨12, .data⟩ (by simp) rfl _ _ rfl rfl
          exact b_same hi hI (guard_ok rfl rfl rfl fg) _ (run_loadmid_op rfl f12 (EB.elem (EB.keep K.out hI)) Tryz.underlying38 rfl (by kernel_rfl)) rfl
         ·intro a W hI hun haft hi
          have fg := haft ⟨9, .guard⟩ (by simp) rfl _ _ rfl rfl
          have e1 := hun 1 (by kernel_rfl)
          exact b_same hi hI (guard_ok rfl rfl rfl fg) _ (run_fieldAddr_any rfl e1 (at_ev4 _ _)) rfl
         ·intro a W hI hun haft hi
          have fg := haft ⟨9, .guard⟩ (by simp) rfl _ _ rfl rfl
          have f14 := haft ⟨14, .data⟩ (by simp) rfl _ _ rfl rfl
          exact b_same hi hI (guard_ok rfl rfl rfl fg) _ (run_loadmid_op rfl f14 (EB.value (EB.keep K.out hI)) Tryz.underlying43 rfl (by kernel_rfl)) rfl
         ·intro a W hI hun haft hi
          have fg : a.eval (.tmp 47) = .bool true := haft ⟨9, .guard⟩ (by simp) rfl _ _ rfl rfl
          have f11 : a.eval (.tmp 49) = .int .i64 e.op := haft ⟨11, .data⟩ (by simp) rfl _ _ rfl rfl
          have f13 : a.eval (.tmp 51) = .agg #[.int .i64 e.ek, .string e.a, .string e.b, .string e.cc, .string e.d] := haft ⟨13, .data⟩ (by simp) rfl _ _ rfl rfl
          have f15 : a.eval (.tmp 53) = .agg #[.int .i64 e.vk, .int .i64 e.vn, .string e.t] := haft ⟨15, .data⟩ (by simp) rfl _ _ rfl rfl
          exact b_same hi hI (guard_ok rfl rfl rfl fg) (chV e) (run_build_rt (vs := #[(0, .int .i64 e.op), (1, .agg #[.int .i64 e.ek, .string e.a, .string e.b, .string e.cc, .string e.d]), (2, .agg #[.int .i64 e.vk, .int .i64 e.vn, .string e.t])]) rfl (by simp only [List.map_toArray, List.map_cons, List.map_nil, f11, f13, f15] <;> rfl) (by kernel_rfl)) rfl
         ·intro a W hI hun haft hi
          have fg : a.eval (.tmp 47) = .bool true := haft ⟨9, .guard⟩ (by simp) rfl _ _ rfl rfl
          have f16 : a.eval (.tmp 54) = chV e := haft ⟨16, .data⟩ (by simp) rfl _ _ rfl rfl
          refine b_call hi hI (guard_ok rfl rfl rfl fg) _ _ (run_call_op (args := #[chV e]) rfl (by simp [f16]) (by kernel_rfl)) ?_
          exact (HCh.out W).mono fun e w' H => ⟨_, H.1, rfl, H.2⟩
         ·intro a W hI hun haft hi
          have f9 := haft ⟨9, .data⟩ (by simp) rfl _ _ rfl rfl
          have f17 := haft ⟨17, .data⟩ (by simp) rfl _ _ rfl rfl
          exact b_same hi hI rfl _ (run_pick_op (b := true) rfl f9 f17 rfl) rfl
         ·intro a W hI hun haft hi
          have f18 := haft ⟨18, .data⟩ (by simp) rfl _ _ rfl rfl
          exact b_same hi hI rfl _ (run_assign_op rfl f18) rfl
        ·intro vals W hI hp
         have hl19 : vals 19 = .bool (changeB e) := hp 19 (by decide)
         have HI := hid hI
         clear hp hI
         simp only [layN, layS, List.range, List.range.loop, if_true, Act.put, Nat.zero_add, Nat.reduceAdd, hl19]
         clear hl19
         go_wp2
         go_ret
         exact ⟨by rw [HO.out]; first | rfl | (rw [Bool.true_and]; rfl), BY.out.trans (HI.out.mono BY.out.size)⟩
    ·have HNB : Hid (nextB e.p r c = false) := hid (by unfold nextB dotB; rw [decide_eq_false (by omega)]; rfl)
     have hdd : decide ((1048576 : Int) < c) = true := decide_eq_true (by omega)
     go_enter Tryz.func36, Tryz.ntmps36
     go_upto_region 1 with fail
     rw [← HX.out]
     go_upto_region 2 with (refine wpList_load_midif rfl 58 (.tmp 6) rfl w.heap.size 0 rfl _ _ K0.out.dot Tryz.underlying58 rfl (by kernel_rfl) ?_)
     rw [HRR.out, HCC.out, ← HYY.out]
     go_wp2
     go_ret
     exact ⟨by rw [HO.out, HNB.out]; rfl, BY.out⟩
   ·have HNB : Hid (nextB e.p r c = false) := hid (by unfold nextB dotB; rw [decide_eq_false (by omega)]; rfl)
    have hdd : decide (c < 1) = true := decide_eq_true (by omega)
    go_enter Tryz.func36, Tryz.ntmps36
    go_upto_region 1 with fail
    rw [← HX.out]
    go_upto_region 2 with (refine wpList_load_midif rfl 58 (.tmp 6) rfl w.heap.size 0 rfl _ _ K0.out.dot Tryz.underlying58 rfl (by kernel_rfl) ?_)
    rw [HRR.out, HCC.out, ← HYY.out]
    go_wp2
    go_ret
    exact ⟨by rw [HO.out, HNB.out]; rfl, BY.out⟩
  ·have HNB : Hid (nextB e.p r c = false) := hid (by unfold nextB dotB; rw [decide_eq_false (by omega)]; rfl)
   have hdd : decide ((15 : Int) < r) = true := decide_eq_true (by omega)
   go_enter Tryz.func36, Tryz.ntmps36
   go_upto_region 1 with fail
   rw [← HX.out]
   go_upto_region 2 with (refine wpList_load_midif rfl 58 (.tmp 6) rfl w.heap.size 0 rfl _ _ K0.out.dot Tryz.underlying58 rfl (by kernel_rfl) ?_)
   rw [HRR.out, HCC.out, ← HYY.out]
   go_wp2
   go_ret
   exact ⟨by rw [HO.out, HNB.out]; rfl, BY.out⟩
 ·have HNB : Hid (nextB e.p r c = false) := hid (by unfold nextB dotB; rw [decide_eq_false (by omega)]; rfl)
  have hdd : decide (r < 0) = true := decide_eq_true (by omega)
  go_enter Tryz.func36, Tryz.ntmps36
  go_upto_region 1 with fail
  rw [← HX.out]
  go_upto_region 2 with (refine wpList_load_midif rfl 58 (.tmp 6) rfl w.heap.size 0 rfl _ _ K0.out.dot Tryz.underlying58 rfl (by kernel_rfl) ?_)
  rw [HRR.out, HCC.out, ← HYY.out]
  go_wp2
  go_ret
  exact ⟨by rw [HO.out, HNB.out]; rfl, BY.out⟩
end Go.Proofs.YtdgglhlofnigkaaGreatDoor
