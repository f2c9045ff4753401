/-
  hedgerowref14.Parse: the contract, by a walk. Conditions: lengths.
-/
import Derived.Test.YtalaidlnhoonfaaQMf
namespace Go.Proofs.Ytalaidlnhoonfaa.Rf
open Go.RowKit

/-- Between two events. -/
structure EvR (w : World) (B g b2 b4 : Nat) (m : Mg) (s : List UInt8 × Bool) (wr : World) (j : Nat) (A : Option Addr) (c : Nat) : Prop where
  r : Rr wr B g (rdL s j).2
  m4 : MB wr b4 m (.slice A j c)
  m2 : MB wr b2 m0 (.slice none 0 0)
  o : OwnK encE B 48 27 wr (.slice A j c) (rdL s j).1
  b : But g w wr
/-- With any slice, and any reader. -/
structure EvS (w : World) (B g b2 b4 : Nat) (m : Mg) (s : List UInt8 × Bool) (wr : World) (v : Value) (v4 : Value) (l : List Ev) : Prop where
  r : Rr wr B g s
  m4 : MB wr b4 m v4
  m2 : MB wr b2 m0 (.slice none 0 0)
  o : OwnK encE B 48 27 wr v l
  b : But g w wr
theorem refright14_is (m : Mg) (l : List Ev) (A : Option Addr) (N c : Nat) (b : Bool) (hb : rightM m l = b) (w : World) (hs : SlK encE 27 w (.slice A N c) l) (hN : l.length = N) (hN2 : N ≤ 10000) (hl : ∀ e ∈ l, Tiny e) :
    Calls Try.prog 10 #[mV m (.slice A N c)] w (Gives w (.bool b)) := by subst hb; exact refright14_any m l A N c w hs hN hN2 hl

set_option maxRecDepth 100000 in
set_option maxHeartbeats 4000000 in
theorem refparse_any (v : Value) (l : List UInt8) (w : World) (hv : Sl bv w v l) (hl : l.length ≤ 1000000) : Calls Try.prog 15 #[v] w (ParsesR w l) := by
  have HL := Lib.hid (Nat.le_trans (wholeF_le l) hl)
  have HLl := Lib.hid hl
  have hz := (zero_of_info zeroM).1
  have HC : Hid (refC l = if (Fr.wholeF l).2 ≠ 0 then (Fr.wholeF l).2 else if (refR (Fr.wholeF l).1).isSome then 0 else 2) := Lib.hid rfl
  have HM : Hid (refM l = if (Fr.wholeF l).2 ≠ 0 then (m0, []) else (refR (Fr.wholeF l).1).getD (m0, [])) := Lib.hid rfl
  have HF : Hid (Fr.wholeF l = if (Fr.takeF l).2.2 ≠ 0 then ([], (Fr.takeF l).2.2) else if (Fr.takeF l).2.1 < l.length then ([], 2) else ((Fr.takeF l).1, 0)) := Lib.hid rfl
  obtain ⟨p, hp⟩ : ∃ p, w.heap.size = p := ⟨_, rfl⟩
  obtain ⟨X, hX⟩ : ∃ X, X = w.alloc (.cells (mC m0 (.slice none 0 0)) 26) := ⟨_, rfl⟩
  have hbx : Below w.heap.size w X := by rw [hX]; exact (Below.refl _ _).alloc (Nat.le_refl _) _
  have VX := Lib.hid (hv.below hbx)
  have KX := Lib.hid (show MB X p m0 (.slice none 0 0) by rw [hX, ← hp]; exact MB.new_ w m0 _)
  have HX := Lib.hid hX
  have BX := Lib.hid hbx
  have HP := Lib.hid hp
  obtain ⟨Ai, ci, rfl⟩ := hv.form
  obtain ⟨n, hn⟩ : ∃ n, l.length = n := ⟨_, rfl⟩
  rw [hn] at VX HF ⊢
  clear hX hbx hp hv hl hn
  go_enter Try.func15, Try.ntmps15
  go_upto_region 1 with fail
  have HZ := Lib.hid hz
  clear hz
  rw [← HX.out, HP.out]
  go_wp2_with fail
  refine (Fr.rtake_any _ l X VX.out (by have := HLl.out; omega)).mono ?_
  rintro e1 w1 ⟨A0, n0, c0, rfl, hsl, b1⟩
  have K1 := Lib.hid (MB.keep KX.out b1)
  have B1 := Lib.hid (BX.out.trans (b1.mono BX.out.size))
  obtain ⟨t, ht⟩ : ∃ t, Fr.takeF l = t := ⟨_, rfl⟩
  obtain ⟨pl, z, x⟩ := t
  rw [ht] at hsl HF ⊢
  dsimp only at hsl HF ⊢
  have U1 := Lib.hid (hsl w1 (VX.out.below b1))
  clear hsl b1 ht KX BX VX
  by_cases hx0 : x = 0
  · subst hx0
    rw [if_neg (by decide)] at HF
    by_cases hz0 : z < n
    · rw [if_pos hz0] at HF
      rw [HF.out, if_pos (by simp)] at HC HM
      have d2 : decide ((z : Int) < (n : Int)) = true := decide_eq_true (by omega)
      have HRR := Lib.hid (setRow_blk w1 p _ _ (mC m0 (.slice none 0 0)) K1.out)
      have B9 := Lib.hid (show Below w.heap.size w (w1.setRow p (mC m0 (.slice none 0 0))) from B1.out.trans (setRow_below _ _ _ _ (by have := HP.out; omega)))
      go_wp2_with (first
        | (refine wpList_val (o := ⟨some 26, _, _, _, _, _⟩) rfl (.agg (mC m0 (.slice none 0 0))) w1 (by kernel_rfl) ?_)
        | (refine wpList_store_row rfl 26 (.tmp 2) (.tmp 26) rfl p (mC m0 (.slice none 0 0)) rfl rfl _ _ K1.out (sizeM _ _) rfl (mC_one _ _ _ _) ?_)
        | fail)
      refine bodyPost_ret (v := .tuple #[.agg (mC m0 (.slice none 0 0)), .int .i64 2]) (results_cell_tmp (P := Try.prog) Try.results15 _ _ p _ (mC m0 (.slice none 0 0)) _ _ rfl HRR.out Try.underlying26 rfl (sizeM _ _)) rfl ⟨none, 0, ?_, ?_, B9.out⟩
      · rw [HM.out, HC.out]; rfl
      · rw [HM.out]; exact OwnK.nil_ _ _ _ _ _
    · rw [if_neg hz0] at HF
      rw [HF.out] at HL
      rw [HF.out, if_neg (by simp)] at HC HM
      have d2 : decide ((z : Int) < (n : Int)) = false := decide_eq_false (by omega)
      have HRr := Lib.hid (Rr.new w1 A0 n0 c0 pl U1.out (by have := HL.out; dsimp only at this; omega))
      have hz := HZ.out
      go_upto_region 8 with fail
      clear hz d2 hz0
      obtain ⟨g, hg⟩ : ∃ g, w1.heap.size = g := ⟨_, rfl⟩
      obtain ⟨Y, hY⟩ : ∃ Y, Y = (w1.alloc (.cells #[.slice A0 n0 c0, .bool false] 62)).alloc (.cells (mC m0 (.slice none 0 0)) 26) := ⟨_, rfl⟩
      have hb0 : Below w1.heap.size w1 (w1.alloc (.cells #[.slice A0 n0 c0, .bool false] 62)) := (Below.refl _ _).alloc (Nat.le_refl _) _
      have hb1 : Below (w1.heap.size + 1) (w1.alloc (.cells #[.slice A0 n0 c0, .bool false] 62)) Y := by rw [hY]; exact (Below.refl _ _).alloc (by simp) _
      have hbY : Below w1.heap.size w1 Y := hb0.trans (hb1.mono (Nat.le_succ _))
      have M0 := Lib.hid (show MB Y (g + 1) m0 (.slice none 0 0) by
        rw [hY, ← hg]
        have := MB.new_ (w1.alloc (.cells #[.slice A0 n0 c0, .bool false] 62)) m0 (.slice none 0 0)
        simpa using this)
      have R0 := Lib.hid (show Rr Y g g (pl, false) by rw [← hg]; exact HRr.out.below (by simpa using hb1))
      have Z0 := Lib.hid (MB.keep K1.out hbY)
      have B0 := Lib.hid (But.of_below (g := g) (B1.out.trans (hbY.mono B1.out.size)))
      have HPl := Lib.hid (show pl.length ≤ 1000000 from HL.out)
      have HwG := Lib.hid (show w.heap.size ≤ g by rw [← hg]; exact B1.out.size)
      have HPg := Lib.hid (show p < g by rw [← hg]; exact K1.out.lt)
      have HY := Lib.hid hY
      have HG := Lib.hid hg
      clear hY hg hb0 hb1 hbY HRr HL U1 K1 B1
      try simp only [World.size_alloc]
      rw [← HY.out, HG.out]
      clear HY HG
      have R0 : Hid (Rr Y g g (rdP (pl, false) 0).2) := R0
      have M0 : Hid (MB Y (g + 1) (rdP (pl, false) 0).1 (.slice none 0 0)) := M0
      go_wp2_with fail
      refine (refnum_any g g (rdP (pl, false) 0).2 mq _ R0.out).mono ?_
      rintro e' w2 ⟨rfl, r, b⟩
      have kk : MB w2 (g + 1) (rdP (pl, false) 0).1 (.slice none 0 0) := M0.out.but b (by omega)
      have zz : MB w2 p m0 (.slice none 0 0) := Z0.out.but b (by have := HPg.out; omega)
      have cc := kk.at_ 0 (by decide)
      have ff := Blk.free kk 0
      have M1 := Lib.hid (show MB (w2.setCell ⟨g + 1, 0, none⟩ (.int .i64 (rNum (rdP (pl, false) 0).2 mq).1)) (g + 1) (rdP (pl, false) 1).1 (.slice none 0 0) from kk.put_ 0 (rNum (rdP (pl, false) 0).2 mq).1 (by decide))
      have Z1 := Lib.hid (MB.far zz (q := g + 1) (by have := HPg.out; omega) 0 (.int .i64 (rNum (rdP (pl, false) 0).2 mq).1))
      have R1 := Lib.hid (show Rr _ g g (rdP (pl, false) 1).2 from Rr.far r (q := g + 1) (by omega) (by omega) 0 (.int .i64 (rNum (rdP (pl, false) 0).2 mq).1))
      have B1 := Lib.hid ((B0.out.trans b).far_set (q := g + 1) (by have := HwG.out; omega) 0 (.int .i64 (rNum (rdP (pl, false) 0).2 mq).1))
      clear kk zz r b M0 Z0 R0 B0
      go_wp2_with fail
      clear cc ff
      refine (refnum_any g g (rdP (pl, false) 1).2 mq _ R1.out).mono ?_
      rintro e' w3 ⟨rfl, r, b⟩
      have kk : MB w3 (g + 1) (rdP (pl, false) 1).1 (.slice none 0 0) := M1.out.but b (by omega)
      have zz : MB w3 p m0 (.slice none 0 0) := Z1.out.but b (by have := HPg.out; omega)
      have cc := kk.at_ 1 (by decide)
      have ff := Blk.free kk 1
      have M2 := Lib.hid (show MB (w3.setCell ⟨g + 1, 1, none⟩ (.int .i64 (rNum (rdP (pl, false) 1).2 mq).1)) (g + 1) (rdP (pl, false) 2).1 (.slice none 0 0) from kk.put_ 1 (rNum (rdP (pl, false) 1).2 mq).1 (by decide))
      have Z2 := Lib.hid (MB.far zz (q := g + 1) (by have := HPg.out; omega) 1 (.int .i64 (rNum (rdP (pl, false) 1).2 mq).1))
      have R2 := Lib.hid (show Rr _ g g (rdP (pl, false) 2).2 from Rr.far r (q := g + 1) (by omega) (by omega) 1 (.int .i64 (rNum (rdP (pl, false) 1).2 mq).1))
      have B2 := Lib.hid ((B1.out.trans b).far_set (q := g + 1) (by have := HwG.out; omega) 1 (.int .i64 (rNum (rdP (pl, false) 1).2 mq).1))
      clear kk zz r b M1 Z1 R1 B1
      go_wp2_with fail
      clear cc ff
      refine (refnum_any g g (rdP (pl, false) 2).2 mq _ R2.out).mono ?_
      rintro e' w4 ⟨rfl, r, b⟩
      have kk : MB w4 (g + 1) (rdP (pl, false) 2).1 (.slice none 0 0) := M2.out.but b (by omega)
      have zz : MB w4 p m0 (.slice none 0 0) := Z2.out.but b (by have := HPg.out; omega)
      have cc := kk.at_ 2 (by decide)
      have ff := Blk.free kk 2
      have M3 := Lib.hid (show MB (w4.setCell ⟨g + 1, 2, none⟩ (.int .i64 (rNum (rdP (pl, false) 2).2 mq).1)) (g + 1) (rdP (pl, false) 3).1 (.slice none 0 0) from kk.put_ 2 (rNum (rdP (pl, false) 2).2 mq).1 (by decide))
      have Z3 := Lib.hid (MB.far zz (q := g + 1) (by have := HPg.out; omega) 2 (.int .i64 (rNum (rdP (pl, false) 2).2 mq).1))
      have R3 := Lib.hid (show Rr _ g g (rdP (pl, false) 3).2 from Rr.far r (q := g + 1) (by omega) (by omega) 2 (.int .i64 (rNum (rdP (pl, false) 2).2 mq).1))
      have B3 := Lib.hid ((B2.out.trans b).far_set (q := g + 1) (by have := HwG.out; omega) 2 (.int .i64 (rNum (rdP (pl, false) 2).2 mq).1))
      clear kk zz r b M2 Z2 R2 B2
      go_wp2_with fail
      clear cc ff
      go_loopw [9] (fun v9 W => ∃ k : Nat, k ≤ 16 ∧ v9 = .int .i64 k ∧ Rr W g g (rdP (pl, false) (3 + k)).2 ∧ MB W (g + 1) (rdP (pl, false) (3 + k)).1 (.slice none 0 0) ∧ MB W p m0 (.slice none 0 0) ∧ But g w W) (fun v9 _ => 16 - (intOf v9).toNat)
      case atStart => exact ⟨0, by omega, rfl, R3.out, M3.out, Z3.out, B3.out⟩
      case round =>
        clear R3 M3 Z3 B3
        obtain ⟨k, hk, rfl, r2, m2, z2, b2⟩ := hrel
        obtain ⟨wo, rfl⟩ : ∃ wo, wo = wr := ⟨_, rfl⟩
        have R2 := Lib.hid r2
        have M2 := Lib.hid m2
        have Z2 := Lib.hid z2
        have B2 := Lib.hid b2
        clear r2 m2 z2 b2
        by_cases hlt : k < 16
        · go_wp2_with fail
          refine (refnum_any g g (rdP (pl, false) (3 + k)).2 mq _ R2.out).mono ?_
          rintro e' w3 ⟨rfl, r3, b3⟩
          have kk : MB w3 (g + 1) (rdP (pl, false) (3 + k)).1 (.slice none 0 0) := M2.out.but b3 (by omega)
          have zz : MB w3 p m0 (.slice none 0 0) := Z2.out.but b3 (by have := HPg.out; omega)
          have cc := kk.at_ (3 + k) (by omega)
          have ff := Blk.free kk (3 + k)
          have K3 := Lib.hid (kk.put_ (3 + k) (rNum (rdP (pl, false) (3 + k)).2 mq).1 (by omega))
          have Z3 := Lib.hid (MB.far zz (q := g + 1) (by have := HPg.out; omega) (3 + k) (.int .i64 (rNum (rdP (pl, false) (3 + k)).2 mq).1))
          have R3 := Lib.hid (Rr.far r3 (q := g + 1) (by omega) (by omega) (3 + k) (.int .i64 (rNum (rdP (pl, false) (3 + k)).2 mq).1))
          have B3 := Lib.hid ((B2.out.trans b3).far_set (q := g + 1) (by have := HwG.out; omega) (3 + k) (.int .i64 (rNum (rdP (pl, false) (3 + k)).2 mq).1))
          clear kk zz r3 b3 M2 Z2 R2 B2
          generalize hx : (rNum (rdP (pl, false) (3 + k)).2 mq).1 = x at *
          generalize (rdP (pl, false) (3 + k)).1.p (3 + k) = y at *
          have HXX := Lib.hid hx
          clear hx
          go_wp2
          go_roundw
          case rel =>
            have hx := HXX.out
            subst hx
            exact ⟨k + 1, by omega, by go_num, R3.out, K3.out, Z3.out, B3.out⟩
          case measure => simp [intOf] <;> omega
        · have hkk : k = 16 := by omega
          subst hkk
          clear hlt hk
          go_wp2_with fail
          refine (refnum_any g g (rdP (pl, false) 19).2 200 _ R2.out).mono ?_
          rintro e' w4 ⟨rfl, r4, b4⟩
          rw [cnt_eq (pl, false)]
          obtain ⟨nn, hnn⟩ : ∃ nn, cnt (pl, false) = nn := ⟨_, rfl⟩
          have HNn := Lib.hid hnn
          have HN200 := Lib.hid (show nn ≤ 200 by rw [← hnn]; exact cnt_le _)
          rw [hnn]
          obtain ⟨s0, hs0⟩ : ∃ s0, st (pl, false) = s0 := ⟨_, rfl⟩
          have HS0 := Lib.hid hs0
          obtain ⟨m, hm⟩ : ∃ m, (rdP (pl, false) 19).1 = m := ⟨_, rfl⟩
          have HMm := Lib.hid hm
          have HI0 := Lib.hid (show EvR w g g p (g + 1) m s0 w4 0 none 0 from ⟨by rw [← hs0]; exact r4, by rw [← hm]; exact M2.out.but b4 (by omega), Z2.out.but b4 (by have := HPg.out; omega), OwnK.nil_ _ _ _ _ _, B2.out.trans b4⟩)
          have HLs := Lib.hid (show s0.1.length ≤ 1000000 by
            rw [← hs0]
            exact Nat.le_trans (rNum_le _ _) (Nat.le_trans (rdP_le (pl, false) 19) HPl.out))
          have HQ : Hid (refR pl = if (rdL s0 nn).2.2 = true then none else if (rdL s0 nn).2.1.length ≠ 0 then none else if rightM m (rdL s0 nn).1 = true then some (m, (rdL s0 nn).1) else none) := Lib.hid (by
            unfold refR refQ
            rw [hnn, hs0, hm])
          clear r4 b4 hnn hs0 hm R2 M2 Z2 B2
          go_wp2_with fail
          go_loopw [11] (fun v11 wr => ∃ (j : Nat) (A : Option Addr) (c : Nat), v11 = .int .i64 j ∧ j ≤ nn ∧ EvR w g g p (g + 1) m s0 wr j A c) (fun v11 _ => nn - (intOf v11).toNat)
          case atStart => exact ⟨0, none, 0, rfl, Nat.zero_le _, HI0.out⟩
          case round =>
            obtain ⟨j, A, c, rfl, hj, hI⟩ := hrel
            obtain ⟨wi, rfl⟩ : ∃ wi, wi = wr := ⟨_, rfl⟩
            have HI := Lib.hid hI
            have HT := Lib.hid (rdL_tiny HLs.out j)
            obtain ⟨tl, htl⟩ : ∃ tl, (rdL s0 j).2 = tl := ⟨_, rfl⟩
            obtain ⟨tb, bad⟩ := tl
            have c1 := hI.r.flag
            obtain ⟨Ar, cr, c0⟩ := hI.r.rest
            rw [htl] at c1 c0
            dsimp only at c1 c0
            clear hI
            cases bad
            · by_cases hlt : j < nn
              · have HR := Lib.hid (show EvR w g g p (g + 1) m s0 wi j A c from HI.out)
                have HW1 := Lib.hid (IntWalk.i64_in ((j : Int) + 1) (by have := HN200.out; omega))
                have HJ1 := Lib.hid (show ¬ 9223372036854775807 < j + 1 by have := HN200.out; omega)
                have d2 : decide ((j : Int) < (nn : Int)) = true := decide_eq_true (by omega)
                clear c0
                go_upto_region 19 with fail
                clear c1 d2
                try simp only [Act.put]
                refine wp_region_any (by kernel_rfl) ?_
                refine Lt.wpAny_readapp (fun W => ∃ A' c', EvR w g g p (g + 1) m s0 W (j + 1) A' c') (fun u W => ∃ A' c', u = .slice A' (j + 1) c' ∧ EvS w g g p (g + 1) m (rdL s0 (j + 1)).2 W (.slice A' (j + 1) c') (.slice A j c) (rdL s0 (j + 1)).1)
                  (fun W => EvS w g g p (g + 1) m (rdL s0 (j + 1)).2 W (.slice A j c) (.slice A j c) (rdL s0 j).1) (fun W => EvS w g g p (g + 1) m (rdL s0 j).2 W (.slice A j c) (.slice A j c) (rdL s0 j).1) (.pointer (some ⟨g + 1, 19, none⟩)) (.slice A j c) (.pointer (some ⟨g, 0, none⟩)) (evV (nextE (rdL s0 j).2)) (fun u W => SlK encE 27 W u [nextE (rdL s0 j).2])
                  _ wi _ _ _ _ _ _ _ _ 62 63 64 65 66 67 68 rfl rfl rfl rfl rfl rfl rfl rfl rfl (by kernel_rfl) (by kernel_rfl) (by kernel_rfl)
                  (fun L hc => ⟨fun h => ⟨hc 7 _ rfl h ⟨6, .data⟩ (by simp) rfl, hc 7 _ rfl h ⟨5, .data⟩ (by simp) rfl⟩, fun h => hc 6 _ rfl h ⟨5, .phase⟩ (by simp) rfl, fun h => ⟨hc 5 _ rfl h ⟨4, .data⟩ (by simp) rfl, hc 5 _ rfl h ⟨1, .data⟩ (by simp) rfl⟩, fun h => hc 4 _ rfl h ⟨3, .data⟩ (by simp) rfl, fun h => hc 3 _ rfl h ⟨2, .data⟩ (by simp) rfl, fun h => hc 1 _ rfl h ⟨0, .data⟩ (by simp) rfl⟩)
                  rfl (by simp) (by simp) (by simp) (by simp) (by simp) (by simp) rfl (by simp) (by simp) (fun _ => rfl) ?_ ?_ ?_ ?_ ?_ ?_ ?_ ?_ ?_ ?_
                · exact ⟨HR.out.r, HR.out.m4, HR.out.m2, HR.out.o, HR.out.b.trans ⟨rfl, rfl, rfl, Nat.le_refl _, fun _ _ _ => rfl⟩⟩
                · intro a W hor hun hi
                  have e8 : a.eval (.tmp 8) = .pointer (some ⟨g + 1, 0, none⟩) := hun 8 (by kernel_rfl)
                  exact wpOp_val hi rfl _ W (run_fieldAddr_any rfl e8 (at_mg4 _ W)) ⟨rfl, rfl⟩
                · intro a W hor f0 hi
                  have hc : W.cell? ⟨g + 1, 19, none⟩ = some (.slice A j c) := by
                    rcases hor with h | h
                    · exact h.m4.ev
                    · exact h.m4.ev
                  exact wpOp_val hi rfl _ W (run_loadsl_op rfl f0 Try.underlying24 hc) ⟨rfl, rfl⟩
                · intro a W h hun hi
                  have e7 : a.eval (.tmp 7) = .pointer (some ⟨g, 0, none⟩) := hun 7 (by kernel_rfl)
                  exact wpOp_val hi rfl _ W (run_move_op rfl e7) ⟨rfl, rfl⟩
                · intro a W h f2 hi
                  refine wpOp_enter hi rfl _ _ (run_call_op (args := #[.pointer (some ⟨g, 0, none⟩)]) rfl (by simp [f2]) (by kernel_rfl)) ?_
                  refine (refread_any g g (rdL s0 j).2 W h.r).mono ?_
                  rintro e' W' ⟨he, hr, hb⟩
                  exact ⟨_, he, rfl, hr, h.m4.but hb (by omega), h.m2.but hb (by have := HPg.out; omega), h.o.same fun k hk => hb.block k (h.o.lt k hk).2 (fun e => by
                    obtain ⟨_, _, hbl, _⟩ := h.r.sl
                    exact own_ne_blk h.o hbl (by decide) (by rw [hk, Option.some.inj e])), h.b.trans hb⟩
                · intro a W h f3 hi
                  have hba : Below W.heap.size W (W.alloc (.cells (evC (nextE (rdL s0 j).2)) 48)) := (Below.refl _ _).alloc (Nat.le_refl _) _
                  exact wpOp_val hi rfl _ _ (run_buildSlice_op (vs := #[(0, evV (nextE (rdL s0 j).2))]) rfl (by simp only [List.map_toArray, List.map_cons, List.map_nil, f3]) (bsEv _ W)) ⟨_, rfl, ⟨h.r.below hba, h.m4.keep hba, h.m2.keep hba, OwnK.keep h.o hba, h.b.trans (But.of_below hba)⟩, sl_one _ W⟩
                · intro a W u h hs f1 f4 hi
                  obtain ⟨v', w', hr, ho, hgr⟩ := append_ev g W (.slice A j c) (rdL s0 j).1 h.o u [nextE (rdL s0 j).2] hs (by rw [rdL_len]; have := HN200.out; simp; omega) (by have := h.r.lt; omega)
                  obtain ⟨A', c', rfl, _, _⟩ := ho.read encE_len
                  have hlen : ((rdL s0 j).1 ++ [nextE (rdL s0 j).2]).length = j + 1 := rdL_len s0 (j + 1)
                  rw [hlen] at hr ho
                  have hown : (Value.slice A j c).ownBlock ≠ some (g + 1) := own_ne_blk h.o h.m4 (by decide)
                  have hown2 : (Value.slice A j c).ownBlock ≠ some p := own_ne_blk h.o h.m2 (by decide)
                  exact wpOp_val hi rfl _ _ (run_append_op rfl f1 f4 hr) ⟨_, rfl, A', c', rfl, h.r.grown_ hgr h.o, h.m4.grown hgr (fun e => hown e.symm), h.m2.grown hgr (fun e => hown2 e.symm), ho, h.b.grown hgr (fun q hq => by have := (h.o.lt q hq).1; have := HwG.out; omega)⟩
                · intro a W u h hun hi
                  have e8 : a.eval (.tmp 8) = .pointer (some ⟨g + 1, 0, none⟩) := hun 8 (by kernel_rfl)
                  exact wpOp_val hi rfl _ W (run_fieldAddr_any rfl e8 (at_mg4 _ W)) ⟨rfl, rfl⟩
                · intro a W u h f6 f5 hi
                  obtain ⟨A', c', rfl, h⟩ := h
                  refine l_skip hi rfl _ (run_storesl_op rfl f6 f5 sizeSl h.m4.ev (Blk.free h.m4 19)) ⟨_, rfl, A', c', Rr.far h.r (by omega) (by omega) _ _, h.m4.putE _, h.m2.far (by have := HPg.out; omega) _ _, h.o.same fun k hk => Below.heap_setCell W _ _ k (fun e => own_ne_blk h.o h.m4 (by decide) (by rw [hk, e])), h.b.far_set (by have := HwG.out; omega) _ _⟩
                · rintro vals W ⟨A', c', hK⟩
                  have HK := Lib.hid hK
                  have hw := HW1.out
                  have hjm := HJ1.out
                  clear hK HI HR
                  simp only [layN, List.size_toArray, List.length_cons, List.length_nil, List.range, List.range.loop, if_true, List.getElem?_toArray, List.getElem?_cons_zero, List.getElem?_cons_succ, Act.put, List.setIfInBounds_toArray, List.set_cons_zero, List.set_cons_succ, Nat.zero_add, Nat.reduceAdd]
                  go_wp2
                  go_roundw
                  case rel => exact ⟨j + 1, A', c', by go_num, by omega, HK.out⟩
                  case measure => simp [intOf] <;> omega
              · have hjn : nn = j := by omega
                subst hjn
                have d2 : decide ((nn : Int) < (nn : Int)) = false := decide_eq_false (by omega)
                rw [htl, if_neg (by simp)] at HQ
                dsimp only at HQ
                by_cases hk0 : tb.length = 0
                · rw [if_neg (by rw [hk0]; decide)] at HQ
                  obtain ⟨es, hes⟩ : ∃ es, (rdL s0 nn).1 = es := ⟨_, rfl⟩
                  have hlen : es.length = nn := by rw [← hes]; exact rdL_len s0 nn
                  have ho := HI.out.o
                  rw [hes] at HQ HT ho
                  obtain ⟨b, hb⟩ : ∃ b, rightM m es = b := ⟨_, rfl⟩
                  have HRt := Lib.hid (fun W (hW : Below wi.heap.size wi W) => refright14_is m es A nn c b hb W ((ho.read encE_len).below hW) hlen (by have := HN200.out; omega) HT.out.2)
                  rw [hb] at HQ
                  have HO := Lib.hid ho
                  have HLen := Lib.hid hlen
                  have d3 : decide ((0 : Int) < ((0 : Nat) : Int)) = false := rfl
                  rw [hk0] at c0
                  clear hes hlen ho hb htl hk0 hlt hj
                  unfold mV at HRt
                  go_wp2_with (first
                    | (refine wpList_load_if rfl 26 (.tmp 8) rfl (g + 1) rfl _ _ _ _ HI.out.m4 Try.underlying26 rfl (sizeM _ _) ?_)
                    | fail)
                  refine (HRt.out wi (Below.refl _ _)).mono ?_
                  rintro e4 w5 ⟨rfl, hb5⟩
                  have K5 := Lib.hid (MB.keep HI.out.m2 hb5)
                  have Q5 := Lib.hid (MB.keep HI.out.m4 hb5)
                  have B5 := Lib.hid ((HI.out.b.below HwG.out (Nat.le_refl _)).trans (hb5.mono HI.out.b.size))
                  have O5 := Lib.hid (OwnK.keep HO.out hb5)
                  clear hb5 c0 c1 HI HO HRt
                  cases b
                  · rw [if_neg (by decide)] at HQ
                    rw [HQ.out] at HC HM
                    have HRR := Lib.hid (setRow_blk w5 p _ _ (mC m0 (.slice none 0 0)) K5.out)
                    have B9 := Lib.hid (show Below w.heap.size w (w5.setRow p (mC m0 (.slice none 0 0))) from B5.out.trans (setRow_below _ _ _ _ (by have := HP.out; omega)))
                    go_wp2_with (first
                      | (refine wpList_val (o := ⟨some 86, _, _, _, _, _⟩) rfl (.agg (mC m0 (.slice none 0 0))) w5 (by kernel_rfl) ?_)
                      | (refine wpList_store_row rfl 26 (.tmp 2) (.tmp 86) rfl p (mC m0 (.slice none 0 0)) rfl rfl _ _ K5.out (sizeM _ _) rfl (mC_one _ _ _ _) ?_)
                      | fail)
                    refine bodyPost_ret (v := .tuple #[.agg (mC m0 (.slice none 0 0)), .int .i64 2]) (results_cell_tmp (P := Try.prog) Try.results15 _ _ p _ (mC m0 (.slice none 0 0)) _ _ rfl HRR.out Try.underlying26 rfl (sizeM _ _)) rfl ⟨none, 0, ?_, ?_, B9.out⟩
                    · rw [HM.out, HC.out]; rfl
                    · rw [HM.out]; exact OwnK.nil_ _ _ _ _ _
                  · rw [if_pos rfl] at HQ
                    rw [HQ.out] at HC HM
                    have HRR := Lib.hid (setRow_blk w5 p _ _ (mC m (.slice A nn c)) K5.out)
                    have B9 := Lib.hid (show Below w.heap.size w (w5.setRow p (mC m (.slice A nn c))) from B5.out.trans (setRow_below _ _ _ _ (by have := HP.out; omega)))
                    have O9 := Lib.hid (show OwnK encE w.heap.size 48 27 (w5.setRow p (mC m (.slice A nn c))) (.slice A nn c) es from OwnK.base_ (O5.out.same fun k hk => setRow_other _ _ _ _ (by have := (O5.out.lt k hk).1; have := HPg.out; omega)) HwG.out)
                    go_wp2_with (first
                      | (refine wpList_load_if rfl 26 (.tmp 8) rfl (g + 1) rfl _ _ _ _ Q5.out Try.underlying26 rfl (sizeM _ _) ?_)
                      | (refine wpList_store_row rfl 26 (.tmp 2) (.tmp 87) rfl p (mC m (.slice A nn c)) rfl rfl _ _ K5.out (sizeM _ _) rfl (mC_one _ _ _ _) ?_)
                      | fail)
                    refine bodyPost_ret (v := .tuple #[.agg (mC m (.slice A nn c)), .int .i64 0]) (results_cell_tmp (P := Try.prog) Try.results15 _ _ p _ (mC m (.slice A nn c)) _ _ rfl HRR.out Try.underlying26 rfl (sizeM _ _)) rfl ⟨A, c, ?_, ?_, B9.out⟩
                    · rw [HM.out, HC.out]
                      have := HLen.out
                      subst this
                      rfl
                    · rw [HM.out]
                      have := HLen.out
                      subst this
                      exact O9.out
                · rw [if_pos hk0] at HQ
                  rw [HQ.out] at HC HM
                  have d3 : decide ((0 : Int) < (tb.length : Int)) = true := decide_eq_true (by omega)
                  have hk1 : 0 < tb.length := by omega
                  have K5 := Lib.hid HI.out.m2
                  have B5 := Lib.hid (HI.out.b.below HwG.out (Nat.le_refl _))
                  clear htl hk0 hlt hj HI
                  have HRR := Lib.hid (setRow_blk wi p _ _ (mC m0 (.slice none 0 0)) K5.out)
                  have B9 := Lib.hid (show Below w.heap.size w (wi.setRow p (mC m0 (.slice none 0 0))) from B5.out.trans (setRow_below _ _ _ _ (by have := HP.out; omega)))
                  go_wp2_with (first
                    | (refine wpList_val (o := ⟨some 86, _, _, _, _, _⟩) rfl (.agg (mC m0 (.slice none 0 0))) wi (by kernel_rfl) ?_)
                    | (refine wpList_store_row rfl 26 (.tmp 2) (.tmp 86) rfl p (mC m0 (.slice none 0 0)) rfl rfl _ _ K5.out (sizeM _ _) rfl (mC_one _ _ _ _) ?_)
                    | fail)
                  refine bodyPost_ret (v := .tuple #[.agg (mC m0 (.slice none 0 0)), .int .i64 2]) (results_cell_tmp (P := Try.prog) Try.results15 _ _ p _ (mC m0 (.slice none 0 0)) _ _ rfl HRR.out Try.underlying26 rfl (sizeM _ _)) rfl ⟨none, 0, ?_, ?_, B9.out⟩
                  · rw [HM.out, HC.out]; rfl
                  · rw [HM.out]; exact OwnK.nil_ _ _ _ _ _
            · have HQn := Lib.hid (show refR pl = none by rw [HQ.out, if_pos (rdL_bad (by rw [htl]) nn hj)])
              rw [HQn.out] at HC HM
              have K5 := Lib.hid HI.out.m2
              have B5 := Lib.hid (HI.out.b.below HwG.out (Nat.le_refl _))
              clear htl c0 HI HQ
              by_cases hlt : j < nn
              · have d2 : decide ((j : Int) < (nn : Int)) = true := decide_eq_true (by omega)
                have HRR := Lib.hid (setRow_blk wi p _ _ (mC m0 (.slice none 0 0)) K5.out)
                have B9 := Lib.hid (show Below w.heap.size w (wi.setRow p (mC m0 (.slice none 0 0))) from B5.out.trans (setRow_below _ _ _ _ (by have := HP.out; omega)))
                go_wp2_with (first
                  | (refine wpList_val (o := ⟨some 86, _, _, _, _, _⟩) rfl (.agg (mC m0 (.slice none 0 0))) wi (by kernel_rfl) ?_)
                  | (refine wpList_store_row rfl 26 (.tmp 2) (.tmp 86) rfl p (mC m0 (.slice none 0 0)) rfl rfl _ _ K5.out (sizeM _ _) rfl (mC_one _ _ _ _) ?_)
                  | fail)
                refine bodyPost_ret (v := .tuple #[.agg (mC m0 (.slice none 0 0)), .int .i64 2]) (results_cell_tmp (P := Try.prog) Try.results15 _ _ p _ (mC m0 (.slice none 0 0)) _ _ rfl HRR.out Try.underlying26 rfl (sizeM _ _)) rfl ⟨none, 0, ?_, ?_, B9.out⟩
                · rw [HM.out, HC.out]; rfl
                · rw [HM.out]; exact OwnK.nil_ _ _ _ _ _
              · have d2 : decide ((j : Int) < (nn : Int)) = false := decide_eq_false (by omega)
                have HRR := Lib.hid (setRow_blk wi p _ _ (mC m0 (.slice none 0 0)) K5.out)
                have B9 := Lib.hid (show Below w.heap.size w (wi.setRow p (mC m0 (.slice none 0 0))) from B5.out.trans (setRow_below _ _ _ _ (by have := HP.out; omega)))
                go_wp2_with (first
                  | (refine wpList_val (o := ⟨some 86, _, _, _, _, _⟩) rfl (.agg (mC m0 (.slice none 0 0))) wi (by kernel_rfl) ?_)
                  | (refine wpList_store_row rfl 26 (.tmp 2) (.tmp 86) rfl p (mC m0 (.slice none 0 0)) rfl rfl _ _ K5.out (sizeM _ _) rfl (mC_one _ _ _ _) ?_)
                  | fail)
                refine bodyPost_ret (v := .tuple #[.agg (mC m0 (.slice none 0 0)), .int .i64 2]) (results_cell_tmp (P := Try.prog) Try.results15 _ _ p _ (mC m0 (.slice none 0 0)) _ _ rfl HRR.out Try.underlying26 rfl (sizeM _ _)) rfl ⟨none, 0, ?_, ?_, B9.out⟩
                · rw [HM.out, HC.out]; rfl
                · rw [HM.out]; exact OwnK.nil_ _ _ _ _ _
  · rw [if_pos hx0] at HF
    rw [HF.out, if_pos hx0] at HC HM
    have d1 : ((x : Int) == 0) = false := by rw [beq_eq_false_iff_ne]; omega
    clear hx0
    have HRR := Lib.hid (setRow_blk w1 p _ _ (mC m0 (.slice none 0 0)) K1.out)
    have B9 := Lib.hid (show Below w.heap.size w (w1.setRow p (mC m0 (.slice none 0 0))) from B1.out.trans (setRow_below _ _ _ _ (by have := HP.out; omega)))
    go_wp2_with (first
      | (refine wpList_val (o := ⟨some 20, _, _, _, _, _⟩) rfl (.agg (mC m0 (.slice none 0 0))) w1 (by kernel_rfl) ?_)
      | (refine wpList_store_row rfl 26 (.tmp 2) (.tmp 20) rfl p (mC m0 (.slice none 0 0)) rfl rfl _ _ K1.out (sizeM _ _) rfl (mC_one _ _ _ _) ?_)
      | fail)
    refine bodyPost_ret (v := .tuple #[.agg (mC m0 (.slice none 0 0)), .int .i64 x]) (results_cell_tmp (P := Try.prog) Try.results15 _ _ p _ (mC m0 (.slice none 0 0)) _ _ rfl HRR.out Try.underlying26 rfl (sizeM _ _)) rfl ⟨none, 0, ?_, ?_, B9.out⟩
    · rw [HM.out, HC.out]; rfl
    · rw [HM.out]; exact OwnK.nil_ _ _ _ _ _

end Go.Proofs.Ytalaidlnhoonfaa.Rf
