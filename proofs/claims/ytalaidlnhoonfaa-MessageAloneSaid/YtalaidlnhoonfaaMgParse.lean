/-
  message.Parse: the contract, by a walk. Conditions: lengths, CutOk.
-/
import Derived.Test.YtalaidlnhoonfaaMgReadW
import Derived.Test.YtalaidlnhoonfaaQMe
namespace Go.Proofs.Ytalaidlnhoonfaa
open Go.RowKit

/-- What a payload tells. -/
def msgR (p : List UInt8) : Option (Mg × List Ev) := match readM (p, false) with
  | none => none
  | some (m, es) => if rightM m es then some (m, es) else none
def msgC (l : List UInt8) : Nat := if (Fr.wholeF l).2 ≠ 0 then (Fr.wholeF l).2 else if (msgR (Fr.wholeF l).1).isSome then 0 else 2
def msgM (l : List UInt8) : Mg × List Ev := if (Fr.wholeF l).2 ≠ 0 then (m0, []) else (msgR (Fr.wholeF l).1).getD (m0, [])
/-- What Parse answers, and leaves. -/
def ParsesM (w : World) (l : List UInt8) (e : Ending) (w' : World) : Prop :=
  ∃ A c, e = .returned (.tuple #[mV (msgM l).1 (.slice A (msgM l).2.length c), .int .i64 (msgC l)]) ∧ OwnK encE w.heap.size 48 27 w' (.slice A (msgM l).2.length c) (msgM l).2 ∧ Below w.heap.size w w'
theorem wholeF_le (b : List UInt8) : (Fr.wholeF b).1.length ≤ b.length := by
  unfold Fr.wholeF
  split
  · simp
  · rename_i h
    split
    · simp
    · have := Fr.takeF_size b (by omega)
      dsimp only
      omega
theorem rdE_lens {s : List UInt8 × Bool} (hs : s.1.length ≤ 4294967280) : ∀ {j : Nat} {es : List Ev} {t : List UInt8 × Bool}, rdE s j = some (es, t) → ∀ e ∈ es, Lens e
  | 0, es, t, h => by
    simp only [rdE, Option.some.injEq, Prod.mk.injEq] at h
    obtain ⟨rfl, rfl⟩ := h
    intro e he; cases he
  | j + 1, es, t, h => by
    unfold rdE at h
    cases hj : rdE s j with
    | none => rw [hj] at h; cases h
    | some q =>
      obtain ⟨fs, u⟩ := q
      rw [hj] at h
      dsimp only at h
      split at h
      · simp only [Option.some.injEq, Prod.mk.injEq] at h
        obtain ⟨rfl, rfl⟩ := h
        intro e he
        rcases List.mem_append.1 he with h1 | h1
        · exact rdE_lens hs hj e h1
        · rw [List.mem_singleton.1 h1]
          exact nextE_lens u (Nat.le_trans (rdE_le hj).2 hs)
      · cases h
theorem readM_lens {p : List UInt8} {m : Mg} {es : List Ev} (h : readM (p, false) = some (m, es)) (hp : p.length ≤ 4294967280) : es.length ≤ 200 ∧ ∀ e ∈ es, Lens e := by
  unfold readM at h
  have h1 : (stM (p, false)).1.length ≤ 4294967280 := Nat.le_trans (rNum_le _ _) (Nat.le_trans (rdP_le (p, false) 19) hp)
  cases hr : rdE (stM (p, false)) (cntM (p, false)) with
  | none => rw [hr] at h; cases h
  | some q =>
    obtain ⟨fs, u⟩ := q
    rw [hr] at h
    dsimp only at h
    split at h
    · simp only [Option.some.injEq, Prod.mk.injEq] at h
      obtain ⟨rfl, rfl⟩ := h
      have := cntM_le (p, false)
      have h2 := (rdE_le hr).1
      exact ⟨by omega, rdE_lens h1 hr⟩
    · cases h

set_option maxRecDepth 100000 in
set_option maxHeartbeats 4000000 in
theorem mparse_any (v : Value) (l : List UInt8) (w : World) (hv : Sl bv w v l) (hl : l.length ≤ 4294967280) (hw : CutOk w) : Calls Try.prog 12 #[v] w (ParsesM w l) := by
  have HL := Lib.hid (Nat.le_trans (wholeF_le l) hl)
  have HLl := Lib.hid hl
  have hz := (zero_of_info zeroM).1
  have HC : Hid (msgC l = if (Fr.wholeF l).2 ≠ 0 then (Fr.wholeF l).2 else if (msgR (Fr.wholeF l).1).isSome then 0 else 2) := Lib.hid rfl
  have HM : Hid (msgM l = if (Fr.wholeF l).2 ≠ 0 then (m0, []) else (msgR (Fr.wholeF l).1).getD (m0, [])) := Lib.hid rfl
  obtain ⟨p, hp⟩ : ∃ p, w.heap.size = p := ⟨_, rfl⟩
  obtain ⟨X, hX⟩ : ∃ X, X = w.alloc (.cells (mC m0 (.slice none 0 0)) 26) := ⟨_, rfl⟩
  have hbx : Below w.heap.size w X := by rw [hX]; exact (Below.refl _ _).alloc (Nat.le_refl _) _
  have VX := Lib.hid (hv.below hbx)
  have KX := Lib.hid (show MB X p m0 (.slice none 0 0) by rw [hX, ← hp]; exact MB.new_ w m0 _)
  have HX := Lib.hid hX
  have BX := Lib.hid hbx
  have WX := Lib.hid (hw.below hbx)
  have HP := Lib.hid hp
  clear hX hbx hp hv hl hw
  go_enter Try.func12, Try.ntmps12
  go_upto_region 1 with fail
  have HZ := Lib.hid hz
  clear hz
  rw [← HX.out, HP.out]
  go_wp2_with fail
  refine (Fr.whole_any _ l X VX.out (by have := HLl.out; omega)).mono ?_
  rintro e1 w1 ⟨u, rfl, ho, b1⟩
  have K1 := Lib.hid (MB.keep KX.out b1)
  have B1 := Lib.hid (BX.out.trans (b1.mono BX.out.size))
  have W1 := Lib.hid (WX.out.below b1)
  obtain ⟨pl, hpl⟩ : ∃ pl, (Fr.wholeF l).1 = pl := ⟨_, rfl⟩
  obtain ⟨x, hx⟩ : ∃ x, (Fr.wholeF l).2 = x := ⟨_, rfl⟩
  rw [hpl] at HL HC HM ho
  rw [hx] at HC HM ⊢
  have U1 := Lib.hid (show Sl bv w1 u pl from Sl.of_own ho)
  clear ho b1 hpl hx KX BX WX VX
  by_cases hx0 : x = 0
  · subst hx0
    rw [if_neg (by decide)] at HC HM
    go_wp2_with fail
    refine (read_any _ pl w1 U1.out (by have := HL.out; omega)).mono ?_
    rintro e2 w2 ⟨rfl, r2, b2⟩
    have hpw : p < w1.heap.size := K1.out.lt
    have hww : w.heap.size ≤ w1.heap.size := B1.out.size
    have hw12 := b2.size
    have hgl := r2.lt
    have K2 := Lib.hid (MB.keep K1.out b2)
    have B2 := Lib.hid (B1.out.trans (b2.mono hww))
    have W2 := Lib.hid (W1.out.below b2)
    go_wp2_with fail
    refine (mread_any w1.heap.size (pl, false) w2 r2 (by omega) HL.out W2.out).mono ?_
    rintro e3 w3 ⟨mm, A, n, c, rfl, hm, b3⟩
    have b23 : Below w1.heap.size w2 w3 := b3.below (Nat.le_refl _) hw12
    have K3 : MB w3 p m0 (.slice none 0 0) := (b23.block p hpw).trans K2.out
    have B3 : Below w.heap.size w w3 := B2.out.trans (b23.mono hww)
    have W3 : CutOk w3 := W2.out.but b3 (by omega)
    have hw13 : w1.heap.size ≤ w3.heap.size := Nat.le_trans hw12 b23.size
    have N1 := Lib.hid (MB.new_ w3 m0 (.slice none 0 0))
    unfold mV at *
    have hz := HZ.out
    clear r2 b2 b3 b23 hgl
    obtain ⟨q, hq⟩ : ∃ q, readM (pl, false) = q := ⟨_, rfl⟩
    rw [hq] at hm ⊢
    obtain ⟨bq, hbq⟩ : ∃ bq, q.isSome = bq := ⟨_, rfl⟩
    rw [hbq]
    go_upto_region 5 with (refine wpList_store_row rfl 26 (.tmp 6) (.tmp 21) rfl w3.heap.size (mC mm (.slice A n c)) rfl rfl _ _ N1.out (sizeM _ _) rfl (mC_one _ _ _ _) ?_)
    clear hz
    have hba : Below w3.heap.size w3 (w3.alloc (.cells (mC m0 (.slice none 0 0)) 26)) := (Below.refl _ _).alloc (Nat.le_refl _) _
    have hbb : Below w3.heap.size w3 ((w3.alloc (.cells (mC m0 (.slice none 0 0)) 26)).setRow w3.heap.size (mC mm (.slice A n c))) := hba.trans (setRow_below _ _ _ _ (Nat.le_refl _))
    have hqy : MB ((w3.alloc (.cells (mC m0 (.slice none 0 0)) 26)).setRow w3.heap.size (mC mm (.slice A n c))) w3.heap.size mm (.slice A n c) := setRow_blk _ _ _ _ _ N1.out
    generalize (w3.alloc (.cells (mC m0 (.slice none 0 0)) 26)).setRow w3.heap.size (mC mm (.slice A n c)) = Y at *
    have Q3 := Lib.hid hqy
    have KY := Lib.hid (MB.keep K3 hbb)
    have BY := Lib.hid (B3.trans (hbb.mono B3.size))
    have WY := Lib.hid (W3.below hbb)
    have OY := Lib.hid (fun m es (h : q = some (m, es)) => (hm m es h).2.2.keep hbb)
    have OM := Lib.hid (fun m es (h : q = some (m, es)) => And.intro (hm m es h).1 (hm m es h).2.1)
    have HPw := Lib.hid hpw
    have HWw := Lib.hid hww
    have HW12 := Lib.hid hw12
    clear hba hbb hqy K3 B3 W3 hm N1 hpw hww hw12 hw13 B2 W2 K2
    cases q with
    | none =>
      have hr : msgR pl = none := by unfold msgR; rw [hq]
      rw [hr] at HC HM
      simp only [Option.isSome_none] at hbq
      subst hbq
      clear hq hr
      have HRR := Lib.hid (setRow_blk Y p _ _ (mC m0 (.slice none 0 0)) KY.out)
      have B9 := Lib.hid (show Below w.heap.size w (Y.setRow p (mC m0 (.slice none 0 0))) from BY.out.trans (setRow_below _ _ _ _ (by have := HP.out; omega)))
      go_wp2_with (first
        | (refine wpList_val (o := ⟨some 30, _, _, _, _, _⟩) rfl (.agg (mC m0 (.slice none 0 0))) Y (by kernel_rfl) ?_)
        | (refine wpList_store_row rfl 26 (.tmp 2) (.tmp 30) rfl p (mC m0 (.slice none 0 0)) rfl rfl _ _ KY.out (sizeM _ _) rfl (mC_one _ _ _ _) ?_))
      refine bodyPost_ret (v := .tuple #[.agg (mC m0 (.slice none 0 0)), .int .i64 2]) (results_cell_tmp (P := Try.prog) Try.results12 _ _ p _ (mC m0 (.slice none 0 0)) _ _ rfl HRR.out Try.underlying26 rfl (sizeM _ _)) rfl ⟨none, 0, ?_, ?_, B9.out⟩
      · rw [HM.out, HC.out]; rfl
      · rw [HM.out]; exact OwnK.nil_ _ _ _ _ _
    | some ms =>
      obtain ⟨m, es⟩ := ms
      obtain ⟨rfl, hn⟩ := OM.out m es rfl
      have oy := OY.out mm es rfl
      simp only [Option.isSome_some] at hbq
      subst hbq
      have hlens := readM_lens hq HL.out
      obtain ⟨b, hb⟩ : ∃ b, rightM mm es = b := ⟨_, rfl⟩
      have hr : msgR pl = if b then some (mm, es) else none := by unfold msgR; rw [hq]; dsimp only; rw [hb]
      rw [hr] at HC HM
      have HR := Lib.hid (mright_is mm es A n c b hb Y (oy.read encE_len) hn (by omega) hlens.2 WY.out)
      have HO := Lib.hid oy
      have HN := Lib.hid hn
      clear hr hq hlens hb oy hn OM OY WY
      unfold mV at HR
      go_wp2_with (first
        | (refine wpList_load_if rfl 26 (.tmp 6) rfl w3.heap.size rfl _ _ _ _ Q3.out Try.underlying26 rfl (sizeM _ _) ?_)
        | fail)
      refine HR.out.mono ?_
      rintro e4 w4 ⟨rfl, hb4⟩
      have K4 := Lib.hid (MB.keep KY.out hb4)
      have Q4 := Lib.hid (MB.keep Q3.out hb4)
      have B4 := Lib.hid (BY.out.trans (hb4.mono BY.out.size))
      have O4 := Lib.hid (HO.out.keep hb4)
      clear hb4 KY Q3 BY HO HR
      cases b
      · have HRR := Lib.hid (setRow_blk w4 p _ _ (mC m0 (.slice none 0 0)) K4.out)
        have B9 := Lib.hid (show Below w.heap.size w (w4.setRow p (mC m0 (.slice none 0 0))) from B4.out.trans (setRow_below _ _ _ _ (by have := HP.out; omega)))
        go_wp2_with (first
          | (refine wpList_val (o := ⟨some 30, _, _, _, _, _⟩) rfl (.agg (mC m0 (.slice none 0 0))) w4 (by kernel_rfl) ?_)
          | (refine wpList_store_row rfl 26 (.tmp 2) (.tmp 30) rfl p (mC m0 (.slice none 0 0)) rfl rfl _ _ K4.out (sizeM _ _) rfl (mC_one _ _ _ _) ?_))
        refine bodyPost_ret (v := .tuple #[.agg (mC m0 (.slice none 0 0)), .int .i64 2]) (results_cell_tmp (P := Try.prog) Try.results12 _ _ p _ (mC m0 (.slice none 0 0)) _ _ rfl HRR.out Try.underlying26 rfl (sizeM _ _)) rfl ⟨none, 0, ?_, ?_, B9.out⟩
        · rw [HM.out, HC.out]; rfl
        · rw [HM.out]; exact OwnK.nil_ _ _ _ _ _
      · have HRR := Lib.hid (setRow_blk w4 p _ _ (mC mm (.slice A n c)) K4.out)
        have B9 := Lib.hid (show Below w.heap.size w (w4.setRow p (mC mm (.slice A n c))) from B4.out.trans (setRow_below _ _ _ _ (by have := HP.out; omega)))
        have O9 := Lib.hid (show OwnK encE w.heap.size 48 27 (w4.setRow p (mC mm (.slice A n c))) (.slice A n c) es from OwnK.base_ (O4.out.same fun g hg => setRow_other _ _ _ _ (by have := (O4.out.lt g hg).1; have := HPw.out; have := HW12.out; omega)) (by have := HWw.out; have := HW12.out; omega))
        go_wp2_with (first
          | (refine wpList_load_if rfl 26 (.tmp 6) rfl w3.heap.size rfl _ _ _ _ Q4.out Try.underlying26 rfl (sizeM _ _) ?_)
          | (refine wpList_store_row rfl 26 (.tmp 2) (.tmp 31) rfl p (mC mm (.slice A n c)) rfl rfl _ _ K4.out (sizeM _ _) rfl (mC_one _ _ _ _) ?_))
        refine bodyPost_ret (v := .tuple #[.agg (mC mm (.slice A n c)), .int .i64 0]) (results_cell_tmp (P := Try.prog) Try.results12 _ _ p _ (mC mm (.slice A n c)) _ _ rfl HRR.out Try.underlying26 rfl (sizeM _ _)) rfl ⟨A, c, ?_, ?_, B9.out⟩
        · rw [HM.out, HC.out]
          have := HN.out
          subst this
          rfl
        · rw [HM.out]
          have := HN.out
          subst this
          exact O9.out
  · rw [if_pos hx0] at HC HM
    have d1 : ((x : Int) == 0) = false := by rw [beq_eq_false_iff_ne]; omega
    clear hx0
    have HRR := Lib.hid (setRow_blk w1 p _ _ (mC m0 (.slice none 0 0)) K1.out)
    have B9 := Lib.hid (show Below w.heap.size w (w1.setRow p (mC m0 (.slice none 0 0))) from B1.out.trans (setRow_below _ _ _ _ (by have := HP.out; omega)))
    go_wp2_with (first
      | (refine wpList_val (o := ⟨some 15, _, _, _, _, _⟩) rfl (.agg (mC m0 (.slice none 0 0))) w1 (by kernel_rfl) ?_)
      | (refine wpList_store_row rfl 26 (.tmp 2) (.tmp 15) rfl p (mC m0 (.slice none 0 0)) rfl rfl _ _ K1.out (sizeM _ _) rfl (mC_one _ _ _ _) ?_))
    refine bodyPost_ret (v := .tuple #[.agg (mC m0 (.slice none 0 0)), .int .i64 x]) (results_cell_tmp (P := Try.prog) Try.results12 _ _ p _ (mC m0 (.slice none 0 0)) _ _ rfl HRR.out Try.underlying26 rfl (sizeM _ _)) rfl ⟨none, 0, ?_, ?_, B9.out⟩
    · rw [HM.out, HC.out]; rfl
    · rw [HM.out]; exact OwnK.nil_ _ _ _ _ _

end Go.Proofs.Ytalaidlnhoonfaa
