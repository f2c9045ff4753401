/-
  hedgerowlaw14.MessageTurned: the walk: for all messages, places, patterns, cuts and bytes behind the call returns true, and nothing that was there has turned. Conditions: CutOk, lengths.
-/
import Derived.Test.YtalaidlnhoonfaaMgBytesW
import Derived.Test.YtalaidlnhoonfaaMgTurnM
namespace Go.Proofs.Ytalaidlnhoonfaa
open Go.RowKit

theorem rem_run (a n : Nat) (ha : a < 65536) (hn : 0 < n) (hn2 : n ≤ 1000000) (w : World) : (binOp .rem 3 (.int .i64 a) (.int .i64 n)).run Try.prog w = .ok (.int .i64 ((a % n : Nat) : Int)) w := by
  have h0 : ((n : Int) == 0) = false := by rw [beq_eq_false_iff_ne]; omega
  have h1 : (n : Int) ≠ 0 := by omega
  have h2 : ((a % n : Nat) : Int) = (a : Int).tmod (n : Int) := by
    rw [Int.tmod_eq_emod_of_nonneg (by omega)]
    simp [Int.natCast_emod]
  have h3 : n ≠ 0 := by omega
  rw [h2]
  go_simp
theorem guard_rem (x y : Operand) (a b : Value) (w : World) : (eqGuard .rem 3 x y a b).run Try.prog w = .ok () w := by
  unfold eqGuard; simp [Sem.run_pure]
/-- What Parse tells of any bytes, in short. -/
theorem mparse_is (l : List UInt8) (x : Nat) (hx : msgC l = x) (hl : l.length ≤ 1000000) (v : Value) (w : World) (hv : Sl bv w v l) (hw : CutOk w) :
    Calls Try.prog 12 #[v] w fun e w' => ∃ mm A n c, e = .returned (.tuple #[mV mm (.slice A n c), .int .i64 x]) ∧ Below w.heap.size w w' := by
  refine (mparse_any v l w hv (by omega) hw).mono ?_
  rintro e w' ⟨A, c, rfl, _, hb⟩
  exact ⟨_, A, _, c, by rw [hx], hb⟩
theorem slA_zero (A : Option Addr) (c : Nat) : slA A c 0 = A := by
  unfold slA
  split
  · rfl
  · cases A <;> simp [Addr.add]
theorem own_sl {w : World} {B n : Nat} {v : Value} {l : List UInt8} (h : w.ownsRow B 5 1 v n (bs l)) (hn : l.length = n) : Sl bv w v l := by subst hn; exact Sl.of_own h
theorem bs_set (l : List UInt8) (k : Nat) (hk : k < l.length) (x : UInt8) : (bs l).set k (bv (l[k] ^^^ x)) = bs (Fr.tb l k x) := by
  rw [Fr.tb_set l k hk x]; unfold bs; rw [List.map_set]

set_option maxRecDepth 100000 in
set_option maxHeartbeats 2000000 in
theorem turned14_walk (m : Mg) (l : List Ev) (A : Option Addr) (N c : Nat) (at_ cut : Nat) (x : UInt8) (vt : Value) (t : List UInt8) (w : World) (hs : SlK encE 27 w (.slice A N c) l) (hN : l.length = N) (hN2 : N ≤ 4611686018427387903) (hf : ∀ e ∈ l, Fit e) (hcm : CanonM m) (hcl : ∀ e ∈ l, Canon e)
    (hat : at_ < 65536) (hcut : cut < 65536) (ht : Sl bv w vt t) (htl : t.length ≤ 140737488355328) (hw : CutOk w) :
    Calls Try.prog 5 #[mV m (.slice A N c), .int .u16 at_, .int .u8 (x.toNat : Int), .int .u16 cut, vt] w (Gives w (.bool true)) := by
  obtain ⟨p, hp⟩ : ∃ p, w.heap.size = p := ⟨_, rfl⟩
  obtain ⟨X, hX⟩ : ∃ X, X = w.alloc (.cells (mC m (.slice A N c)) 26) := ⟨_, rfl⟩
  have hbX : Below w.heap.size w X := by rw [hX]; exact (Below.refl _ _).alloc (Nat.le_refl _) _
  have hmb : MB X p m (.slice A N c) := by rw [hX, ← hp]; exact MB.new_ w m _
  obtain ⟨B, d, rfl⟩ := ht.form
  obtain ⟨nt, hnt⟩ : ∃ nt, t.length = nt := ⟨_, rfl⟩
  have K0 := Lib.hid hmb
  have Sl0 := Lib.hid (hs.below hbX)
  have T0 := Lib.hid (Sl.below ht hbX)
  have HX := Lib.hid hX
  have HP := Lib.hid hp
  have Y0 := Lib.hid hbX
  have W0 := Lib.hid (hw.below hbX)
  have HWw := Lib.hid hw
  have HN := Lib.hid hN
  have HFw := Lib.hid (fun b hb => few14_is m l A N c b hb hN hN2 hf)
  have HCm := Lib.hid hcm
  have HCl := Lib.hid hcl
  have HAt := Lib.hid hat
  have HCut := Lib.hid hcut
  have HNt := Lib.hid hnt
  rw [hnt] at htl T0 ⊢
  have hx256 := x.toNat_lt
  obtain ⟨y, hy⟩ : ∃ y, y = x.toNat := ⟨_, rfl⟩
  rw [← hy] at hx256 ⊢
  have HY := Lib.hid hy
  clear hX hbX hmb hp hs hN hN2 hf hcm hcl hw ht hnt hy
  unfold mV
  go_enter Try.func5, Try.ntmps5
  go_upto_region 1 with fail
  rw [← HX.out, HP.out]
  go_wp2_with fail
  refine (mfixed_any _ W0.out).mono ?_
  rintro x1 A1 ⟨rfl, hb⟩
  have K1 := Lib.hid (MB.keep K0.out hb)
  have Sl1 := Lib.hid (Sl0.out.below hb)
  have Y1 := Lib.hid (Y0.out.trans (hb.mono Y0.out.size))
  have W1 := Lib.hid (CutOk.below W0.out hb)
  have T1 := Lib.hid (Sl.below T0.out hb)
  clear hb Y0 K0 Sl0 W0 T0
  cases hq : fewM l
  · have HQ := Lib.hid (HFw.out false hq)
    clear hq
    go_wp2_with (refine wpList_load_if rfl 26 (.tmp 5) rfl p rfl _ _ _ _ K1.out Try.underlying26 rfl (sizeM _ _) ?_)
    refine (HQ.out A1 Sl1.out).mono ?_
    rintro x2 A2 ⟨rfl, hb⟩
    have Y2 := Lib.hid (Y1.out.trans (hb.mono Y1.out.size))
    clear hb
    go_wp2
    go_ret
    exact ⟨rfl, Y2.out⟩
  · have HQ := Lib.hid (HFw.out true hq)
    have HFew := Lib.hid hq
    have H30 := Lib.hid (show N ≤ 30 by rw [← HN.out]; exact (few_lens hq).2)
    clear hq
    go_wp2_with (refine wpList_load_if rfl 26 (.tmp 5) rfl p rfl _ _ _ _ K1.out Try.underlying26 rfl (sizeM _ _) ?_)
    refine (HQ.out A1 Sl1.out).mono ?_
    rintro x2 A2 ⟨rfl, hb⟩
    have K2 := Lib.hid (MB.keep K1.out hb)
    have Sl2 := Lib.hid (Sl1.out.below hb)
    have Y2 := Lib.hid (Y1.out.trans (hb.mono Y1.out.size))
    have W2 := Lib.hid (CutOk.below W1.out hb)
    have T2 := Lib.hid (Sl.below T1.out hb)
    clear hb Y1 K1 Sl1 W1 T1 HQ
    cases hr : rightM m l
    · have HRr := Lib.hid (fun W hs => Rf.refright14_is m l A N c false hr W hs HN.out (by have := H30.out; omega) (few_tiny HFew.out))
      clear hr
      go_wp2_with (refine wpList_load_if rfl 26 (.tmp 5) rfl p rfl _ _ _ _ K2.out Try.underlying26 rfl (sizeM _ _) ?_)
      refine (HRr.out A2 Sl2.out).mono ?_
      rintro x3 A3 ⟨rfl, hb⟩
      have Y3 := Lib.hid (Y2.out.trans (hb.mono Y2.out.size))
      clear hb
      go_wp2
      go_ret
      exact ⟨rfl, Y3.out⟩
    · have HRr := Lib.hid (fun W hs => Rf.refright14_is m l A N c true hr W hs HN.out (by have := H30.out; omega) (few_tiny HFew.out))
      by_cases hbig : 100 < nt
      · clear hr
        go_wp2_with (refine wpList_load_if rfl 26 (.tmp 5) rfl p rfl _ _ _ _ K2.out Try.underlying26 rfl (sizeM _ _) ?_)
        refine (HRr.out A2 Sl2.out).mono ?_
        rintro x3 A3 ⟨rfl, hb⟩
        have Y3 := Lib.hid (Y2.out.trans (hb.mono Y2.out.size))
        clear hb
        go_wp2
        go_ret
        exact ⟨rfl, Y3.out⟩
      · obtain ⟨LL, hLL⟩ : ∃ LL, bytesM m l = LL := ⟨_, rfl⟩
        have hpay := few_pay m l HFew.out
        have hlen : LL.length ≤ 20008 ∧ 8 ≤ LL.length := by rw [← hLL, bytesM_len]; omega
        have HRb := Lib.hid (refbytes_is m l A N c HFew.out HN.out LL hLL)
        have HPart := Lib.hid (fun r hr2 => msg_part m l (by omega) r hr2)
        have HMore := Lib.hid (msg_more m l (by omega))
        have HTurn := Lib.hid (msg_turned m l (by omega))
        have HBack := (msg_back m l hr HCm.out (fun e he => ⟨(few_lens HFew.out).1 e he, HCl.out e he⟩) (by omega)).1
        rw [hLL] at HPart HMore HTurn HBack
        have HBk := Lib.hid HBack
        obtain ⟨nl, hnl⟩ : ∃ nl, LL.length = nl := ⟨_, rfl⟩
        have HNl := Lib.hid hnl
        rw [hnl] at hlen HPart HTurn
        have HLen := Lib.hid hlen
        clear hr hLL hpay hlen hnl HBack
        go_wp2_with (refine wpList_load_if rfl 26 (.tmp 5) rfl p rfl _ _ _ _ K2.out Try.underlying26 rfl (sizeM _ _) ?_)
        refine (HRr.out A2 Sl2.out).mono ?_
        rintro x3 A3 ⟨rfl, hb⟩
        have K3 := Lib.hid (MB.keep K2.out hb)
        have Sl3 := Lib.hid (Sl2.out.below hb)
        have Y3 := Lib.hid (Y2.out.trans (hb.mono Y2.out.size))
        have W3 := Lib.hid (CutOk.below W2.out hb)
        have T3 := Lib.hid (Sl.below T2.out hb)
        clear hb Y2 K2 Sl2 W2 T2 HRr
        have hbg : decide ((100 : Int) < (nt : Int)) = false := decide_eq_false (by omega)
        go_wp2_with (refine wpList_load_if rfl 26 (.tmp 5) rfl p rfl _ _ _ _ K3.out Try.underlying26 rfl (sizeM _ _) ?_)
        refine (HRb.out A3 Sl3.out).mono ?_
        rintro x4 A4 ⟨v4, rfl, ho, hb⟩
        rw [HNl.out] at ho
        obtain ⟨g, cg, rfl, hgl⟩ := own_row ho (by have := HLen.out; omega)
        have hgw : w.heap.size ≤ g := Nat.le_trans Y3.out.size (ho.lt g rfl).1
        have HGw := Lib.hid hgw
        have O4 := Lib.hid ho
        clear ho hgw hgl hbg
        have Y4 := Lib.hid (Y3.out.trans (hb.mono Y3.out.size))
        have W4 := Lib.hid (CutOk.below W3.out hb)
        have T4 := Lib.hid (Sl.below T3.out hb)
        clear hb Y3 K3 Sl3 W3 T3 HRb
        obtain ⟨k1, hk1⟩ : ∃ k1, cut % nl = k1 := ⟨_, rfl⟩
        have hk1l : k1 < nl := by rw [← hk1]; exact Nat.mod_lt _ (by have := HLen.out; omega)
        have HK1 := Lib.hid hk1l
        have hrm1 := rem_run cut nl HCut.out (by have := HLen.out; omega) (by have := HLen.out; omega) A4
        rw [hk1] at hrm1
        have HRm1 := Lib.hid hrm1
        clear hk1 hk1l hrm1
        have hsh : Sl bv A4 (.slice (some ⟨g, 0, none⟩) k1 cg) (LL.take k1) := by
          have h1 := (own_sl O4.out HNl.out).hi k1 (by have := HK1.out; omega)
          rw [slA_zero] at h1
          exact h1
        have HSh := Lib.hid hsh
        clear hsh
        have hk1c : k1 ≤ cg := by
          have h1 := (own_sl O4.out HNl.out).len.2
          rw [HNl.out] at h1
          have := HK1.out
          omega
        go_wp2_with (first
          | (refine wpList_val (o := ⟨some 42, _, _, _, _, _⟩) rfl (.int .i64 k1) A4 (run_bin_op rfl rfl rfl (guard_rem _ _ _ _ _) HRm1.out) ?_)
          | fail)
        refine (mparse_is (LL.take k1) 2 (HPart.out k1 HK1.out) (by rw [List.length_take, HNl.out]; have := HLen.out; omega) _ A4 HSh.out W4.out).mono ?_
        rintro x5 A5 ⟨m5, P5, n5, c5, rfl, hb⟩
        have Y5 := Lib.hid (Y4.out.trans (hb.mono Y4.out.size))
        have W5 := Lib.hid (CutOk.below W4.out hb)
        have T5 := Lib.hid (Sl.below T4.out hb)
        have O5 := Lib.hid (own_belowP O4.out hb)
        clear hb Y4 W4 T4 O4 HPart
        have hz := (zero_of_info zeroM).1
        have NN := Lib.hid (MB.new_ A5 m0 (.slice none 0 0))
        unfold mV
        go_upto_region 7 with (refine wpList_store_row rfl 26 (.tmp 12) (.tmp 45) rfl A5.heap.size (mC m5 (.slice P5 n5 c5)) rfl rfl _ _ NN.out (sizeM _ _) rfl (mC_one _ _ _ _) ?_)
        clear hz
        have hb : Below A5.heap.size A5 ((A5.alloc (.cells (mC m0 (.slice none 0 0)) 26)).setRow A5.heap.size (mC m5 (.slice P5 n5 c5))) := ((Below.refl _ _).alloc (Nat.le_refl _) _).trans (setRow_below _ _ _ _ (Nat.le_refl _))
        generalize (A5.alloc (.cells (mC m0 (.slice none 0 0)) 26)).setRow A5.heap.size (mC m5 (.slice P5 n5 c5)) = A6 at *
        have Y6 := Lib.hid (Y5.out.trans (hb.mono Y5.out.size))
        have W6 := Lib.hid (CutOk.below W5.out hb)
        have T6 := Lib.hid (Sl.below T5.out hb)
        have O6 := Lib.hid (own_belowP O5.out hb)
        clear hb Y5 W5 T5 O5 NN
        try simp only [Act.put]
        obtain ⟨v7, w7, hr7, ho7, hb7⟩ := Fr.append_fresh A6 _ LL (own_sl O6.out HNl.out) (by rw [HNl.out]; have := HLen.out; omega)
        obtain ⟨v8, w8, hr8, ho8, hb8⟩ := Fr.append_more A6 w7 v7 LL ho7 hb7 _ t (Sl.below T6.out hb7) (by rw [HNl.out]; have := HLen.out; have := HNt.out; omega)
        have hs8 := Sl.of_own ho8
        have hb := hb8
        obtain ⟨A9, c9, rfl⟩ := (Sl.of_own ho7).form
        obtain ⟨A8, c8, rfl⟩ := hs8.form
        obtain ⟨n8, hn8⟩ : ∃ n8, (LL ++ t).length = n8 := ⟨_, rfl⟩
        rw [hn8] at hs8 hr8
        have HS8 := Lib.hid hs8
        have HR7 := Lib.hid hr7
        have HR8 := Lib.hid hr8
        clear hs8 hn8
        rw [HNl.out] at HR7 HR8
        clear hr7 ho7 hb7 hr8 ho8 hb8
        have Y8 := Lib.hid (Y6.out.trans (hb.mono Y6.out.size))
        have W8 := Lib.hid (CutOk.below W6.out hb)
        have O8 := Lib.hid (own_belowP O6.out hb)
        clear hb Y6 W6 O6 T6
        go_wp2_with (first
          | (at_builtin; refine Lib.wpList_append_run (o := ⟨some 50, _, _, _, _, _⟩) _ rfl _ _ _ _ rfl _ _ rfl rfl _ _ HR7.out ?_)
          | (at_builtin; refine Lib.wpList_append_run (o := ⟨some 52, _, _, _, _, _⟩) _ rfl _ _ _ _ rfl _ _ rfl rfl _ _ HR8.out ?_)
          | fail)
        obtain ⟨x7, hx7⟩ : ∃ x7, msgC (LL ++ t) = x7 := ⟨_, rfl⟩
        have HX7 := Lib.hid hx7
        clear hx7
        refine (mparse_is (LL ++ t) x7 HX7.out (by rw [List.length_append, HNl.out, HNt.out]; have := HLen.out; omega) _ w8 HS8.out W8.out).mono ?_
        rintro y5 A9 ⟨m9, P9, n9, c9', rfl, hb⟩
        have Y9 := Lib.hid (Y8.out.trans (hb.mono Y8.out.size))
        have W9 := Lib.hid (CutOk.below W8.out hb)
        have O9 := Lib.hid (own_belowP O8.out hb)
        clear hb Y8 W8 O8 HR7 HR8 HS8
        have hz := (zero_of_info zeroM).1
        have NN := Lib.hid (MB.new_ A9 m0 (.slice none 0 0))
        obtain ⟨k2, hk2⟩ : ∃ k2, at_ % nl = k2 := ⟨_, rfl⟩
        have hk2l : k2 < nl := by rw [← hk2]; exact Nat.mod_lt _ (by have := HLen.out; omega)
        have HK2 := Lib.hid hk2l
        have HRm2 := Lib.hid (fun W => by have h := rem_run at_ nl HAt.out (by have := HLen.out; omega) (by have := HLen.out; omega) W; rw [hk2] at h; exact h)
        clear hk2 hk2l
        unfold mV
        go_upto_region 8 with (refine wpList_store_row rfl 26 (.tmp 14) (.tmp 54) rfl A9.heap.size (mC m9 (.slice P9 n9 c9')) rfl rfl _ _ NN.out (sizeM _ _) rfl (mC_one _ _ _ _) ?_)
        clear hz
        have hb : Below A9.heap.size A9 ((A9.alloc (.cells (mC m0 (.slice none 0 0)) 26)).setRow A9.heap.size (mC m9 (.slice P9 n9 c9'))) := ((Below.refl _ _).alloc (Nat.le_refl _) _).trans (setRow_below _ _ _ _ (Nat.le_refl _))
        generalize (A9.alloc (.cells (mC m0 (.slice none 0 0)) 26)).setRow A9.heap.size (mC m9 (.slice P9 n9 c9')) = A10 at *
        have Y10 := Lib.hid (Y9.out.trans (hb.mono Y9.out.size))
        have W10 := Lib.hid (CutOk.below W9.out hb)
        have O10 := Lib.hid (own_belowP O9.out hb)
        clear hb Y9 W9 O9 NN
        try simp only [Act.put]
        have hkl : k2 < LL.length := by rw [HNl.out]; exact HK2.out
        have hbc := O10.out.cellAt k2 (by have := HK2.out; omega)
        have hbs : (bs LL)[k2]? = some (bv LL[k2]) := by simp [bs, hkl]
        rw [hbs] at hbc
        have hbf := O10.out.frozenAt k2
        have hst := O10.out.stored k2 (bv (LL[k2] ^^^ x))
        rw [bs_set LL k2 hkl x] at hst
        have hxx : bits .xor .u8 ((LL[k2]).toNat : Int) (y : Int) = ((LL[k2] ^^^ x).toNat : Int) := by rw [HY.out]; exact Fr.u8x _ _
        unfold bv at hbc hst
        have HST := Lib.hid hst
        have HXX := Lib.hid hxx
        have hFm := (LL[k2]).toNat_lt
        obtain ⟨q10, hq10⟩ : ∃ q, msgC (Fr.tb LL k2 x) = q := ⟨_, rfl⟩
        have HQ10 := Lib.hid hq10
        have HTl := Lib.hid (show (Fr.tb LL k2 x).length ≤ 1000000 by rw [Fr.tb_length, HNl.out]; have := HLen.out; omega)
        clear hst hxx hbs hq10
        generalize (LL[k2] ^^^ x).toNat = z at *
        generalize (LL[k2]).toNat = f at *
        have hxx := HXX.out
        have HB11 := Lib.hid (Y10.out.setCell (p := ⟨g, k2, none⟩) HGw.out (.int .u8 (z : Int)))
        have hsb : Sl bv (A10.setCell ⟨g, k2, none⟩ (.int .u8 (z : Int))) (.slice (some ⟨g, 0, none⟩) nl cg) (Fr.tb LL k2 x) := own_sl HST.out.1 (by rw [Fr.tb_length]; exact HNl.out)
        have HSB := Lib.hid hsb
        have HW11 := Lib.hid (HWw.out.below HB11.out)
        clear hsb
        go_wp2_with (first
          | (refine wpList_val (o := ⟨some 60, _, _, _, _, _⟩) rfl (.int .i64 k2) A10 (run_bin_op rfl rfl rfl (guard_rem _ _ _ _ _) (HRm2.out A10)) ?_)
          | fail)
        refine (mparse_is (Fr.tb LL k2 x) q10 HQ10.out HTl.out _ _ HSB.out HW11.out).mono ?_
        rintro y6 A12 ⟨m12, P12, n12, c12, rfl, hb⟩
        have Y12 := Lib.hid (HB11.out.trans (hb.mono HB11.out.size))
        clear hb hbc hbf hxx HSB HW11
        generalize A10.setCell ⟨g, k2, none⟩ (.int .u8 (z : Int)) = A11 at *
        have hz := (zero_of_info zeroM).1
        have NN := Lib.hid (MB.new_ A12 m0 (.slice none 0 0))
        unfold mV
        go_upto_region 11 with (refine wpList_store_row rfl 26 (.tmp 17) (.tmp 71) rfl A12.heap.size (mC m12 (.slice P12 n12 c12)) rfl rfl _ _ NN.out (sizeM _ _) rfl (mC_one _ _ _ _) ?_)
        clear hz
        have hb : Below A12.heap.size A12 ((A12.alloc (.cells (mC m0 (.slice none 0 0)) 26)).setRow A12.heap.size (mC m12 (.slice P12 n12 c12))) := ((Below.refl _ _).alloc (Nat.le_refl _) _).trans (setRow_below _ _ _ _ (Nat.le_refl _))
        generalize (A12.alloc (.cells (mC m0 (.slice none 0 0)) 26)).setRow A12.heap.size (mC m12 (.slice P12 n12 c12)) = A13 at *
        have Y13 := Lib.hid (Y12.out.trans (hb.mono Y12.out.size))
        clear hb Y12 NN
        try simp only [Act.put]
        obtain ⟨b1, hb1, hb1'⟩ : ∃ b : Bool, ((x7 : Int) == 0) = b ∧ ((nt : Int) == 0) = b := by
          by_cases h : t = []
          · have e1 := HX7.out
            rw [h, List.append_nil, HBk.out] at e1
            have e2 := HNt.out
            rw [h] at e2
            exact ⟨true, by rw [← e1]; rfl, by rw [← e2]; rfl⟩
          · have e1 := HX7.out
            rw [HMore.out t h] at e1
            have e2 := List.length_pos_iff.2 h
            rw [HNt.out] at e2
            exact ⟨false, by rw [← e1]; rfl, by rw [beq_eq_false_iff_ne]; omega⟩
        obtain ⟨b2, hb2, hb2'⟩ : ∃ b : Bool, ((q10 : Int) == 0) = b ∧ ((y : Int) == 0) = b := by
          by_cases h : x = 0
          · have e1 := HQ10.out
            rw [h, Fr.tb_zero, HBk.out] at e1
            have e2 := HY.out
            rw [h] at e2
            exact ⟨true, by rw [← e1]; rfl, by rw [e2]; rfl⟩
          · have e1 := HQ10.out
            rw [HTurn.out k2 HK2.out x h] at e1
            have e2 : y ≠ 0 := fun e => h (UInt8.toNat_inj.1 (by rw [← HY.out, e]; rfl))
            exact ⟨false, by rw [← e1]; rfl, by rw [beq_eq_false_iff_ne]; omega⟩
        go_wp2
        go_ret
        exact ⟨rfl, Y13.out⟩

end Go.Proofs.Ytalaidlnhoonfaa
