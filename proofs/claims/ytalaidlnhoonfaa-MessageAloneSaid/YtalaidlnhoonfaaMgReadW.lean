/-
  message.read: the contract, by a walk. Conditions: lengths, CutOk.
-/
import Derived.Test.YtalaidlnhoonfaaQMd
import Derived.Test.YtalaidlnhoonfaaMgLaid
namespace Go.Proofs.Ytalaidlnhoonfaa
open Go.RowKit

section
variable {w w' : World} {g : Nat} {m : Mg} {s : Value}
theorem MB.but {k : Nat} (h : MB w g m s) (hb : But k w w') (hne : g ≠ k) : MB w' g m s := But.blk hb h hne
theorem MB.put_ (h : MB w g m s) (i : Nat) (x : Int) (hi : i < 19) : MB (w.setCell ⟨g, i, none⟩ (.int .i64 x)) g (m.put i x) s := by
  have := Blk.set_ h i (.int .i64 x)
  rw [mC_put m s i x hi] at this
  exact this
theorem MB.putE (h : MB w g m s) (u : Value) : MB (w.setCell ⟨g, 19, none⟩ u) g m u := Blk.set_ h 19 u
theorem MB.far (h : MB w g m s) {q : Nat} (hq : g ≠ q) (i : Nat) (v : Value) : MB (w.setCell ⟨q, i, none⟩ v) g m s := Blk.far h (p := ⟨q, i, none⟩) hq v
theorem MB.grown (h : MB w g m s) {row : Option Nat} (hg : w.grownBy w' row) (hne : some g ≠ row) : MB w' g m s := (hg.block g h.lt hne).trans h
end
/-- What read answers, and leaves. -/
def ReadsM (w : World) (g : Nat) (s : List UInt8 × Bool) (e : Ending) (w' : World) : Prop :=
  ∃ mm A n c, e = .returned (.tuple #[mV mm (.slice A n c), .bool (readM s).isSome]) ∧ (∀ m es, readM s = some (m, es) → mm = m ∧ es.length = n ∧ OwnK encE w.heap.size 48 27 w' (.slice A n c) es) ∧ But g w w'
/-- Between two events. -/
structure EvI (w : World) (g b2 b4 : Nat) (m : Mg) (s : List UInt8 × Bool) (wr : World) (j : Nat) (es : List Ev) (t : List UInt8 × Bool) (A : Option Addr) (c : Nat) : Prop where
  e : rdE (stM s) j = some (es, t)
  r : Rd wr g t
  m4 : MB wr b4 m (.slice A j c)
  m2 : MB wr b2 m0 (.slice none 0 0)
  o : OwnK encE w.heap.size 48 27 wr (.slice A j c) es
  b : But g w wr
def p14 (b2 : Nat) (m : Mg) (s : Value) (g : Nat) (d : Bool) (i : Nat) (v : Value) (W : World) : Prop :=
  match i with
  | 0 => v = mV m s
  | 1 => v = .pointer (some ⟨g, 0, none⟩)
  | 2 => v = .bool d
  | 3 => MB W b2 m s
  | _ => v = .bool d
theorem rNum_top (s : List UInt8 × Bool) (m : Int) (hm : 0 ≤ m) : (rNum s m).1 ≤ m := by
  unfold rNum
  split
  · exact hm
  · split
    · exact hm
    · split
      · exact hm
      · dsimp only; omega
theorem cntM_eq (s : List UInt8 × Bool) : (rNum (rdP s 19).2 200).1 = ((cntM s : Nat) : Int) := by
  unfold cntM
  have := (rNum_rng (rdP s 19).2 200).1
  omega
theorem cntM_le (s : List UInt8 × Bool) : cntM s ≤ 200 := by
  unfold cntM
  have := rNum_top (rdP s 19).2 200 (by decide)
  omega

set_option maxRecDepth 100000 in
set_option maxHeartbeats 4000000 in
theorem mread_any (g : Nat) (s : List UInt8 × Bool) (w : World) (h : Rd w g s) (hg : 0 < g) (hl : s.1.length ≤ 4294967280) (hw : CutOk w) : Calls Try.prog 25 #[.pointer (some ⟨g, 0, none⟩)] w (ReadsM w g s) := by
  have hgl := h.lt
  obtain ⟨p, hp⟩ : ∃ p, w.heap.size = p := ⟨_, rfl⟩
  obtain ⟨X, hX⟩ : ∃ X, X = (w.alloc (.cells (mC m0 (.slice none 0 0)) 26)).alloc (.cells (mC m0 (.slice none 0 0)) 26) := ⟨_, rfl⟩
  have hbX : Below w.heap.size w X := by rw [hX]; exact ((Below.refl _ _).alloc (Nat.le_refl _) _).alloc (by simp) _
  have HM2 := Lib.hid (show MB X p m0 (.slice none 0 0) by rw [hX, ← hp]; exact (MB.new_ w m0 _).keep ((Below.refl _ _).alloc (Nat.le_refl _) _))
  have HM4 := Lib.hid (show MB X (p + 1) m0 (.slice none 0 0) by
    rw [hX, ← hp]
    have := MB.new_ (w.alloc (.cells (mC m0 (.slice none 0 0)) 26)) m0 (.slice none 0 0)
    simpa using this)
  have HR := Lib.hid (h.below hbX)
  have HX := Lib.hid hX
  have HP := Lib.hid hp
  have HG := Lib.hid hg
  have HL := Lib.hid hl
  have HBt := Lib.hid (But.of_below (g := g) hbX)
  have HW := Lib.hid hw
  have HN2 := Lib.hid (show p ≠ g by omega)
  have HN4 := Lib.hid (show p + 1 ≠ g by omega)
  have HGw := Lib.hid (show g < w.heap.size from hgl)
  have hzm := (zero_of_info zeroM).1
  clear hX hbX hp hl hg hw h hgl
  unfold mC m0 at hzm HX
  dsimp only at hzm HX
  go_enter Try.func25, Try.ntmps25
  go_upto_region 2 with fail
  rw [← HX.out, HP.out]
  have HZm := Lib.hid hzm
  clear hzm
  go_wp2_with fail
  refine (parts_any (p + 1) X).mono ?_
  rintro e w1 ⟨v9, rfl, ho9, hb1⟩
  have hg9X : ∀ q, v9.ownBlock = some q → X.heap.size ≤ q := fun q hq => (ho9.lt q hq).1
  obtain ⟨g9, c9, rfl, hg9⟩ := own_row ho9 (by decide)
  have hpX : p + 1 < X.heap.size := HM4.out.lt
  have hgX : g < X.heap.size := HR.out.lt
  have h9X : X.heap.size ≤ g9 := hg9X g9 rfl
  have HPt := Lib.hid (show ∀ (W : World), W.heap[g9]? = w1.heap[g9]? → ∀ i, i < 19 → W.cell? ⟨g9, i, none⟩ = some (.pointer (some ⟨p + 1, i, none⟩)) from fun W h i hi => (World.cell?_of_block h).trans ((World.ownsRow.cellAt ho9 i (by omega)).trans (ptrL_at (p + 1) 19 i hi)))
  have HM21 := Lib.hid (MB.keep HM2.out hb1)
  have HM41 := Lib.hid (MB.keep HM4.out hb1)
  have HR1 := Lib.hid (HR.out.below hb1)
  have HB1 := Lib.hid (HBt.out.trans (But.of_below (g := g) hb1))
  have H9 := Lib.hid hg9
  have H9p := Lib.hid (show g9 ≠ p + 1 by omega)
  have H9g := Lib.hid (show g9 ≠ g by omega)
  clear ho9 hg9 hb1 hg9X hpX hgX h9X
  go_wp2_with fail
  go_loopw [11] (fun v11 wr => ∃ k : Nat, v11 = .int .i64 k ∧ k ≤ 19 ∧ Rd wr g (rdP s k).2 ∧ MB wr (p + 1) (rdP s k).1 (.slice none 0 0) ∧ MB wr p m0 (.slice none 0 0) ∧ But g w wr ∧ w1.heap.size ≤ wr.heap.size ∧ wr.heap[g9]? = w1.heap[g9]?) (fun v11 _ => 19 - (intOf v11).toNat)
  case atStart => exact ⟨0, rfl, Nat.zero_le _, HR1.out, HM41.out, HM21.out, HB1.out, Nat.le_refl _, rfl⟩
  case round =>
    obtain ⟨k, rfl, hk, hr, h4, h2, hb, hsz, h9⟩ := hrel
    obtain ⟨wo, rfl⟩ : ∃ wo, wo = wr := ⟨_, rfl⟩
    have HRo := Lib.hid hr
    have H4 := Lib.hid h4
    have H2 := Lib.hid h2
    have HBo := Lib.hid hb
    have HSz := Lib.hid hsz
    have H9o := Lib.hid h9
    by_cases hlt : k < 19
    · have hc1 := HPt.out wo h9 k hlt
      have HAt := Lib.hid (at_Pt g9 c9 19 k hlt wo)
      have HW1 := Lib.hid (IntWalk.i64_in ((k : Int) + 1) (by omega))
      have HJ1 := Lib.hid (show ¬ 9223372036854775807 < k + 1 by omega)
      clear hr h4 h2 hb hsz h9
      go_wp2_with (first
        | (refine wpList_val (o := ⟨some 13, _, _, _, _, _⟩) rfl (.pointer (some ⟨g9, k, none⟩)) wo (run_indexAddr_op rfl rfl rfl HAt.out) ?_)
        | fail)
      clear hc1
      refine (num_any g (rdP s k).2 1048576 wo HRo.out).mono ?_
      rintro e w3 ⟨rfl, r3, b3⟩
      have kk : MB w3 (p + 1) (rdP s k).1 (.slice none 0 0) := H4.out.but b3 HN4.out
      have cc := kk.at_ k hlt
      have ff := Blk.free kk k
      have K4 := Lib.hid (kk.put_ k (rNum (rdP s k).2 1048576).1 hlt)
      have K2 := Lib.hid (MB.far (H2.out.but b3 HN2.out) (q := p + 1) (by omega) k (.int .i64 (rNum (rdP s k).2 1048576).1))
      have R3 := Lib.hid (Rd.far r3 (q := p + 1) HN4.out.symm k (.int .i64 (rNum (rdP s k).2 1048576).1))
      have B3 := Lib.hid ((HBo.out.trans b3).far_set (q := p + 1) (by have := HP.out; omega) k (.int .i64 (rNum (rdP s k).2 1048576).1))
      have Z3 := Lib.hid (show w1.heap.size ≤ (w3.setCell ⟨p + 1, k, none⟩ (.int .i64 (rNum (rdP s k).2 1048576).1)).heap.size by have := HSz.out; have := b3.size; simp [World.setCell]; omega)
      have N3 := Lib.hid (show (w3.setCell ⟨p + 1, k, none⟩ (.int .i64 (rNum (rdP s k).2 1048576).1)).heap[g9]? = w1.heap[g9]? from (Below.heap_setCell w3 ⟨p + 1, k, none⟩ _ g9 H9p.out).trans ((b3.block g9 (by have := H9.out; have := HSz.out; omega) (fun e => H9g.out (Option.some.inj e))).trans H9o.out))
      clear kk r3 b3
      generalize hx : (rNum (rdP s k).2 1048576).1 = x at *
      have HXX := Lib.hid hx
      clear hx
      have hw := HW1.out
      have hjm := HJ1.out
      go_wp2
      go_roundw
      case rel =>
        have hx := HXX.out
        subst hx
        exact ⟨k + 1, by go_num, by omega, R3.out, K4.out, K2.out, B3.out, Z3.out, N3.out⟩
      case measure => simp [intOf] <;> omega
    · have hkk : k = 19 := by omega
      subst hkk
      clear hr h4 h2 hb hsz h9 hlt hk
      go_wp2_with fail
      refine (num_any g (rdP s 19).2 200 wo HRo.out).mono ?_
      rintro e w4 ⟨rfl, r4, b4⟩
      rw [cntM_eq s]
      obtain ⟨nn, hnn⟩ : ∃ nn, cntM s = nn := ⟨_, rfl⟩
      have HNn := Lib.hid hnn
      have HN200 := Lib.hid (show nn ≤ 200 by rw [← hnn]; exact cntM_le s)
      rw [hnn]
      have HI0 := Lib.hid (show EvI w g p (p + 1) (rdP s 19).1 s w4 0 [] (stM s) none 0 from ⟨rfl, r4, H4.out.but b4 HN4.out, H2.out.but b4 HN2.out, OwnK.nil_ _ _ _ _ _, HBo.out.trans b4⟩)
      have HLs := Lib.hid (show (stM s).1.length ≤ 4294967280 from Nat.le_trans (rNum_le _ _) (Nat.le_trans (rdP_le s 19) HL.out))
      clear r4 b4 hnn
      go_wp2_with fail
      go_loopw [22] (fun v22 wr => ∃ (j : Nat) (es : List Ev) (t : List UInt8 × Bool) (A : Option Addr) (c : Nat), v22 = .int .i64 j ∧ j ≤ nn ∧ EvI w g p (p + 1) (rdP s 19).1 s wr j es t A c) (fun v22 _ => nn - (intOf v22).toNat)
      case atStart => exact ⟨0, [], stM s, none, 0, rfl, Nat.zero_le _, HI0.out⟩
      case round =>
        obtain ⟨j, es, t, A, c, rfl, hj, hI⟩ := hrel
        obtain ⟨wi, rfl⟩ : ∃ wi, wi = wr := ⟨_, rfl⟩
        have HI := Lib.hid hI
        have HTl := Lib.hid (show t.1.length ≤ 4294967280 from Nat.le_trans (rdE_le hI.e).2 HLs.out)
        have HEl := Lib.hid (show es.length = j from (rdE_le hI.e).1)
        have HWi := Lib.hid (HW.out.but hI.b HG.out)
        clear hI
        by_cases hlt : j < nn
        · have HW1 := Lib.hid (IntWalk.i64_in ((j : Int) + 1) (by have := HN200.out; omega))
          have HJ1 := Lib.hid (show ¬ 9223372036854775807 < j + 1 by have := HN200.out; omega)
          go_wp2_with fail
          refine (eread_any g t wi HI.out.r HG.out HTl.out HWi.out).mono ?_
          rintro e w5 ⟨rfl, r5, b5⟩
          have R5 := Lib.hid r5
          have B5 := Lib.hid b5
          have N1 := Lib.hid (EB.new_ w5 ev0)
          have hz := (zero_of_info zeroE).1
          unfold evV
          go_upto_region 10 with (first
            | (refine wpList_store_row (o := ⟨none, _, _, _, _, _⟩) rfl 48 (.tmp 7) (.tmp 27) rfl w5.heap.size (evC (readE t)) rfl rfl _ _ N1.out (sizeE _) rfl (evC_one _) ?_)
            | fail)
          clear hz
          have hba : Below w5.heap.size w5 (w5.alloc (.cells (evC ev0) 48)) := (Below.refl _ _).alloc (Nat.le_refl _) _
          have hbb : Below w5.heap.size w5 ((w5.alloc (.cells (evC ev0) 48)).setRow w5.heap.size (evC (readE t))) := hba.trans (setRow_below _ _ _ _ (Nat.le_refl _))
          have hqy : EB ((w5.alloc (.cells (evC ev0) 48)).setRow w5.heap.size (evC (readE t))) w5.heap.size (readE t) := setRow_blk _ _ _ _ _ N1.out
          generalize (w5.alloc (.cells (evC ev0) 48)).setRow w5.heap.size (evC (readE t)) = Y at *
          have hbt : But g wi Y := b5.trans (But.of_below hbb)
          have Q3 := Lib.hid hqy
          have R3 := Lib.hid (r5.below hbb)
          have K4 := Lib.hid (HI.out.m4.but hbt HN4.out)
          have K2 := Lib.hid (HI.out.m2.but hbt HN2.out)
          have B3 := Lib.hid (HI.out.b.trans hbt)
          have O3 := Lib.hid (show OwnK encE w.heap.size 48 27 Y (.slice A j c) es from HI.out.o.same fun q hq => hbt.block q (HI.out.o.lt q hq).2 (fun e => by have h1 := Option.some.inj e; have h2 := (HI.out.o.lt q hq).1; have := HN2.out; have := HN4.out; have h3 := HRo.out.lt; have h4 := R3.out.lt; have h5 := HGw.out; omega))
          obtain ⟨b7, hb7⟩ : ∃ b7, w5.heap.size = b7 := ⟨_, rfl⟩
          rw [hb7] at Q3 ⊢
          clear hba hbb hqy hbt hb7 r5 b5
          try simp only [Act.put]
          cases hrc : readC t
          · have HRn := Lib.hid (show readM s = none by
              have h1 := rdE_none (rdE_no HI.out.e hrc) nn (by omega)
              unfold readM
              rw [HNn.out, h1])
            have HRR := Lib.hid (setRow_blk Y p _ _ (mC m0 (.slice none 0 0)) K2.out)
            have B9 := Lib.hid (show But g w (Y.setRow p (mC m0 (.slice none 0 0))) from But.far_row B3.out (by have := HP.out; omega) _)
            clear hrc
            go_wp2_with (first
              | (refine wpList_val (o := ⟨some 31, _, _, _, _, _⟩) rfl (.agg (mC m0 (.slice none 0 0))) Y (by kernel_rfl) ?_)
              | (refine wpList_store_row rfl 26 (.tmp 2) (.tmp 31) rfl p (mC m0 (.slice none 0 0)) rfl rfl _ _ K2.out (sizeM _ _) rfl (mC_one _ _ _ _) ?_))
            refine bodyPost_ret (v := .tuple #[.agg (mC m0 (.slice none 0 0)), .bool false]) (results_cell_tmp (P := Try.prog) Try.results25 _ _ p _ (mC m0 (.slice none 0 0)) _ _ rfl HRR.out Try.underlying26 rfl (sizeM _ _)) rfl ⟨m0, none, 0, 0, ?_, fun m' es' h' => ?_, B9.out⟩
            · rw [HRn.out]; rfl
            · rw [HRn.out] at h'; cases h'
          · have hre : readE t = nextE t := by unfold readE; rw [if_pos hrc]
            rw [hre] at Q3
            have HYs := Lib.hid (rdE_yes HI.out.e hrc)
            obtain ⟨ee, hee⟩ : ∃ ee, nextE t = ee := ⟨_, rfl⟩
            rw [hee] at Q3 HYs
            have hsl := sl_one ee Y
            have hba : Below Y.heap.size Y (Y.alloc (.cells (evC ee) 48)) := (Below.refl _ _).alloc (Nat.le_refl _) _
            have hwz : w.heap.size ≤ Y.heap.size := B3.out.size
            obtain ⟨v', w', hr, ho, hgr⟩ := append_ev w.heap.size (Y.alloc (.cells (evC ee) 48)) (.slice A j c) es (OwnK.keep O3.out hba) _ [ee] hsl (by have := HEl.out; have := HN200.out; simp; omega) (Nat.le_trans hwz hba.size)
            obtain ⟨A', c', rfl, _, _⟩ := ho.read encE_len
            have hlen : (es ++ [ee]).length = j + 1 := by simp [HEl.out]
            rw [hlen] at hr ho
            have hown : (Value.slice A j c).ownBlock ≠ some (p + 1) := own_ne_blk O3.out K4.out (by decide)
            have hown2 : (Value.slice A j c).ownBlock ≠ some p := own_ne_blk O3.out K2.out (by decide)
            have k4 : MB w' (p + 1) (rdP s 19).1 (.slice A j c) := (MB.keep K4.out hba).grown hgr (fun e => hown e.symm)
            have k2 : MB w' p m0 (.slice none 0 0) := (MB.keep K2.out hba).grown hgr (fun e => hown2 e.symm)
            have cc := k4.ev
            have ff := Blk.free k4 19
            have hgw : ∀ q, (Value.slice A j c).ownBlock = some q → w.heap.size ≤ q := fun q hq => (O3.out.lt q hq).1
            have hbw : But g w w' := (B3.out.trans (But.of_below hba)).grown hgr hgw
            have hrd : Rd w' g (nextS t) := by
              obtain ⟨bb, h1, h2, h3⟩ := R3.out.below hba
              refine ⟨bb, h1, h2, (hgr.block g (Blk.lt h3) (fun e => ?_)).trans h3⟩
              have := hgw g e.symm
              have := HGw.out
              omega
            have HI' := Lib.hid (show EvI w g p (p + 1) (rdP s 19).1 s (w'.setCell ⟨p + 1, 19, none⟩ (.slice A' (j + 1) c')) (j + 1) (es ++ [ee]) (nextS t) A' c' from
              ⟨HYs.out, Rd.far hrd HN4.out.symm _ _, k4.putE _, k2.far (by omega) _ _, ho.same fun q hq => Below.heap_setCell w' _ _ q (fun e => own_ne_blk ho k4 (by decide) (by rw [hq, e])), hbw.far_set (by have := HP.out; omega) _ _⟩)
            have HAp := Lib.hid hr
            have c19 := K4.out.ev
            have hw := HW1.out
            have hjm := HJ1.out
            clear hsl hba hwz hr ho hgr hlen hown hown2 k4 k2 hgw hbw hrd hrc hre hee
            go_wp2_with (first
              | (refine wpList_load_if rfl 48 (.tmp 7) rfl b7 rfl _ _ _ _ Q3.out Try.underlying48 rfl (sizeE _) ?_)
              | (refine wpList_val (o := ⟨some 35, _, _, _, _, _⟩) rfl (.slice (some ⟨Y.heap.size, 0, none⟩) 1 1) (Y.alloc (.cells (evC ee) 48)) (run_buildSlice_op (vs := #[(0, .agg (evC ee))]) rfl (by simp only [List.map_toArray, List.map_cons, List.map_nil]; rfl) (bsEv ee Y)) ?_)
              | (at_builtin; refine Lib.wpList_append_run (o := ⟨some 36, _, _, _, _, _⟩) _ rfl _ _ _ _ rfl _ _ rfl rfl _ _ HAp.out ?_)
              | fail)
            go_roundw
            case rel => exact ⟨j + 1, es ++ [ee], nextS t, A', c', by go_num, by omega, HI'.out⟩
            case measure => simp [intOf] <;> omega
        · have hjn : nn = j := by omega
          subst hjn
          obtain ⟨d, hd⟩ : ∃ d, rDone t = d := ⟨_, rfl⟩
          have HD := Lib.hid hd
          have HRs := Lib.hid (show readM s = if d then some ((rdP s 19).1, es) else none by
            unfold readM
            rw [HNn.out, HI.out.e]
            dsimp only
            rw [hd])
          clear hd hlt hj
          go_upto_region 14 with fail
          try simp only [Act.put]
          obtain ⟨mm, hmm⟩ : ∃ mm, (rdP s 19).1 = mm := ⟨_, rfl⟩
          rw [hmm] at HI HRs
          clear hmm
          refine wp_region_any (by kernel_rfl) ?_
          refine wpAny_keep (fun W => Rd W g t ∧ MB W (p + 1) mm (.slice A nn c) ∧ (∃ m' s', MB W p m' s') ∧ OwnK encE w.heap.size 48 27 W (.slice A nn c) es ∧ But g w W) (p14 p mm (.slice A nn c) g d) (fun W W' => W' = W ∨ W' = W.setRow p (mC mm (.slice A nn c))) _ wi (by kernel_rfl) (by kernel_rfl) (by kernel_rfl) ⟨HI.out.r, HI.out.m4, ⟨_, _, HI.out.m2⟩, HI.out.o, HI.out.b.trans ⟨rfl, rfl, rfl, Nat.le_refl _, fun _ _ _ => rfl⟩⟩ (fun i v W W' hst hp => ?_) ?_ ?_
          · rcases hst with rfl | rfl
            · exact hp
            · unfold p14 at *
              split at hp
              · exact hp
              · exact hp
              · exact hp
              · exact setRow_blk _ _ _ _ _ hp
              · exact hp
          · refine ⟨?_, ?_, ?_, ?_, ?_, trivial⟩
            · intro a W hI hun haft hi
              have e4 : a.eval (.tmp 4) = .pointer (some ⟨p + 1, 0, none⟩) := hun 4 (by kernel_rfl)
              exact wpOp_val hi rfl _ W (run_load_op rfl e4 hI.2.1 Try.underlying26 rfl (sizeM _ _)) ⟨⟨_, rfl, rfl⟩, .inl rfl, hI⟩
            · intro a W hI hun haft hi
              have e0 : a.eval (.tmp 0) = .pointer (some ⟨g, 0, none⟩) := hun 0 (by kernel_rfl)
              exact wpOp_val hi rfl _ W (run_move_op rfl e0) ⟨⟨_, rfl, rfl⟩, .inl rfl, hI⟩
            · intro a W hI hun haft hi
              have f1 : a.eval (.tmp 40) = .pointer (some ⟨g, 0, none⟩) := haft ⟨1, .data⟩ (by simp) rfl _ _ rfl rfl
              refine wpOp_enter hi rfl _ _ (run_call_op (args := #[.pointer (some ⟨g, 0, none⟩)]) rfl (by simp [f1]) (by kernel_rfl)) ?_
              exact (done_any g t W hI.1).mono fun e w' ⟨h1, h2⟩ => ⟨_, h1, ⟨_, rfl, by rw [HD.out]; rfl⟩, .inl h2.symm, h2 ▸ hI⟩
            · intro a W hI hun haft hi
              have e2 : a.eval (.tmp 2) = .pointer (some ⟨p, 0, none⟩) := hun 2 (by kernel_rfl)
              have f0 : a.eval (.tmp 39) = mV mm (.slice A nn c) := haft ⟨0, .data⟩ (by simp) rfl _ _ rfl rfl
              obtain ⟨h1, h2, ⟨m', s', h3⟩, h4, h5⟩ := hI
              have hown : (Value.slice A nn c).ownBlock ≠ some p := own_ne_blk h4 h3 (by decide)
              refine l_skip hi rfl _ (run_storerow_op rfl e2 f0 h3 (sizeM _ _) rfl (mC_one _ _ _ _)) ⟨⟨_, rfl, setRow_blk _ _ _ _ _ h3⟩, .inr rfl, ?_⟩
              exact ⟨Rd.row h1 HN2.out.symm _, (setRow_other _ _ _ _ (by omega)).trans h2, ⟨_, _, setRow_blk _ _ _ _ _ h3⟩, h4.same fun q hq => setRow_other _ _ _ _ (fun e => hown (by rw [hq, e])), But.far_row h5 (by have := HP.out; omega) _⟩
            · intro a W hI hun haft hi
              have f2 : a.eval (.tmp 41) = .bool d := haft ⟨2, .data⟩ (by simp) rfl _ _ rfl rfl
              exact wpOp_val hi rfl _ W (run_assign_op rfl f2) ⟨⟨_, rfl, rfl⟩, .inl rfl, hI⟩
          · rintro vals W ⟨h1, h2, _, h4, h5⟩ hp
            have hl3 : MB W p mm (.slice A nn c) := hp 3 (by decide)
            have hl4 : vals 4 = .bool d := hp 4 (by decide)
            have H3 := Lib.hid hl3
            have H4o := Lib.hid h4
            have H5 := Lib.hid h5
            clear hp h1 h2 h4 h5 hl3
            simp only [layN, List.size_toArray, List.length_cons, List.length_nil, List.range, List.range.loop, if_true, List.getElem?_toArray, List.getElem?_cons_zero, List.getElem?_cons_succ, Act.put, List.setIfInBounds_toArray, List.set_cons_zero, List.set_cons_succ, Nat.zero_add, Nat.reduceAdd, hl4]
            clear hl4
            go_wp2
            refine bodyPost_ret (v := .tuple #[.agg (mC mm (.slice A nn c)), .bool d]) (results_cell_tmp (P := Try.prog) Try.results25 _ _ p _ (mC mm (.slice A nn c)) _ _ rfl H3.out Try.underlying26 rfl (sizeM _ _)) rfl ⟨mm, A, nn, c, ?_, fun m' es' h => ?_, H5.out⟩
            · rw [HRs.out]; cases d <;> rfl
            · rw [HRs.out] at h
              cases d
              · cases h
              · simp only [if_true, Option.some.injEq, Prod.mk.injEq] at h
                obtain ⟨rfl, rfl⟩ := h
                exact ⟨rfl, HEl.out, H4o.out⟩

end Go.Proofs.Ytalaidlnhoonfaa
