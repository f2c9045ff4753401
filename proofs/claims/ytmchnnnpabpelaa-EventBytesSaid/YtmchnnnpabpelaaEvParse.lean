/-
  event.Parse, Bytes, Put: the contracts, by walks. Conditions: CutOk, lengths.
-/
import Derived.Test.YtmchnnnpabpelaaEvNext
namespace Go.Proofs.Ytmchnnnpabpelaa
open Go.RowKit

theorem rNum_le (s : List UInt8 × Bool) (m : Int) : (rNum s m).2.1.length ≤ s.1.length := by
  unfold rNum
  split
  · exact Nat.le_refl _
  · split
    · exact Nat.le_refl _
    · split
      · exact Nat.le_refl _
      · simp
theorem rText_le (s : List UInt8 × Bool) (m : Int) : (rText s m).2.1.length ≤ s.1.length ∧ (rText s m).1.length ≤ s.1.length := by
  have := rNum_le s m
  unfold rText
  split
  · exact ⟨this, by simp⟩
  · split
    · exact ⟨this, by simp⟩
    · simp only [List.length_drop, List.length_take]; omega
theorem pN_le (s : List UInt8 × Bool) (k : Nat) : (pN s k).2.1.length ≤ s.1.length := by
  induction k with
  | zero => exact Nat.le_trans (rNum_le _ _) (rNum_le _ _)
  | succ k ih => exact Nat.le_trans (rNum_le _ _) ih
theorem ba_size (l : List UInt8) : (ba l).size = l.length := by simp [ba, ByteArray.size]
theorem nextE_lens (s : List UInt8 × Bool) (h : s.1.length ≤ 4294967280) : Lens (nextE s) := by
  have h0 := pN_le s 16
  have h4 : (n4 s).2.1.length ≤ s.1.length := Nat.le_trans (rNum_le _ _) h0
  have h5 : (n5 s).2.1.length ≤ s.1.length := Nat.le_trans (rNum_le _ _) h4
  have a6 := rText_le (n5 s).2 mx
  have a7 := rText_le (t6 s).2 mx
  have a8 := rText_le (t7 s).2 mx
  have a9 := rText_le (t8 s).2 mx
  have h10 : (n10 s).2.1.length ≤ (t9 s).2.1.length := rNum_le _ _
  have h11 : (n11 s).2.1.length ≤ (n10 s).2.1.length := rNum_le _ _
  have a12 := rText_le (n11 s).2 mx
  change (t6 s).2.1.length ≤ _ ∧ (t6 s).1.length ≤ _ at a6
  change (t7 s).2.1.length ≤ _ ∧ (t7 s).1.length ≤ _ at a7
  change (t8 s).2.1.length ≤ _ ∧ (t8 s).1.length ≤ _ at a8
  change (t9 s).2.1.length ≤ _ ∧ (t9 s).1.length ≤ _ at a9
  change _ ∧ (t12 s).1.length ≤ _ at a12
  refine ⟨?_, ?_, ?_, ?_, ?_⟩
  · show (ba (t6 s).1).size ≤ _; rw [ba_size]; omega
  · show (ba (t7 s).1).size ≤ _; rw [ba_size]; omega
  · show (ba (t8 s).1).size ≤ _; rw [ba_size]; omega
  · show (ba (t9 s).1).size ≤ _; rw [ba_size]; omega
  · show (ba (t12 s).1).size ≤ _; rw [ba_size]; omega

/-- What Parse answers. -/
def parsC (l : List UInt8) : Int := if rDone (nextS (l, false)) = true then codeI (okB (nextE (l, false))) else 2
def parsE (l : List UInt8) : Ev := if parsC l = 0 then nextE (l, false) else ev0
theorem results_cell_tmp {P : Program} {fn : Func} {p q : Tmp} {ty : TypeId} (h : fn.results = #[.cell p ty, .tmp q]) (tmps : Array Value) (w : World) (g : Nat) (t : TypeId) (cs : Array Value) (fr : Nat × Nat) (d : TypeDesc)
    (hp : tmps.getD p undef = .pointer (some ⟨g, 0, none⟩)) (hg : w.heap[g]? = some (.cells cs t fr))
    (hu : P.underlying ty = some d) (hd : (match d with | .struct _ | .array _ _ => true | _ => false) = true) (hi : (P.info? ty).map (·.size) = some cs.size) :
    (results fn tmps).run P w = .ok (.tuple #[.agg cs, tmps.getD q undef]) w := by
  have hp' : tmps[p]?.getD undef = .pointer (some ⟨g, 0, none⟩) := by simpa using hp
  simp [results, h, hp', asAddr, run_loadVar_row w g t ty cs fr d hg hu hd hi]

set_option maxRecDepth 100000 in
set_option maxHeartbeats 2000000 in
theorem eparse_any (v : Value) (l : List UInt8) (w : World) (hv : Sl bv w v l) (hl : l.length ≤ 4294967280) (hw : CutOk w) : Calls Try.prog 18 #[v] w (Gives w (.tuple #[evV (parsE l), .int .i64 (parsC l)])) := by
  have HL := Lib.hid (nextE_lens (l, false) hl)
  have hz := (zero_of_info zeroE).1
  have HC : Hid (parsC l = if rDone (nextS (l, false)) = true then codeI (okB (nextE (l, false))) else 2) := Lib.hid rfl
  have HE : Hid (parsE l = if parsC l = 0 then nextE (l, false) else ev0) := Lib.hid rfl
  obtain ⟨X, hX⟩ : ∃ X, X = w.alloc (.cells (evC ev0) 31) := ⟨_, rfl⟩
  have hbx : Below w.heap.size w X := by rw [hX]; exact (Below.refl _ _).alloc (Nat.le_refl _) _
  have k0 : EB X w.heap.size ev0 := by rw [hX]; exact EB.new_ w ev0
  have hsx : X.heap.size = w.heap.size + 1 := by rw [hX]; simp
  have VX := Lib.hid (hv.below hbx)
  have HX := Lib.hid hX
  have KX := Lib.hid k0
  have BX := Lib.hid hbx
  have WX := Lib.hid (hw.below hbx)
  have SX := Lib.hid hsx
  have HLL := Lib.hid (show l.length ≤ 9223372036854775807 by omega)
  obtain ⟨A, c, rfl⟩ := hv.form
  clear hX hbx k0 hsx hv hl hw
  unfold evV
  go_enter Try.func18, Try.ntmps18
  go_upto_region 1 with fail
  have HZ := Lib.hid hz
  clear hz
  rw [← HX.out]
  go_wp2_with fail
  refine (read_any _ l X VX.out HLL.out).mono ?_
  rintro e1 w1 ⟨rfl, r1, b1⟩
  have R1 := Lib.hid r1
  have K1 := Lib.hid (EB.keep KX.out b1)
  have B1 := Lib.hid (BX.out.trans (b1.mono BX.out.size))
  have W1 := Lib.hid (CutOk.below WX.out b1)
  have S1 := Lib.hid (show X.heap.size < w1.heap.size from r1.lt)
  clear r1 b1 KX BX WX VX
  go_wp2_with fail
  refine (enext_any X.heap.size (l, false) w1 R1.out).mono ?_
  rintro e2 w2 ⟨rfl, r2, b2⟩
  have hb12 : Below X.heap.size w1 w2 := b2.below (Nat.le_refl _) (by have := S1.out; omega)
  have hxs := SX.out
  have R2 := Lib.hid r2
  have K2 : Hid (EB w2 w.heap.size ev0) := Lib.hid ((hb12.block w.heap.size (by omega)).trans K1.out)
  have B2 := Lib.hid (B1.out.trans (hb12.mono (by omega)))
  have W2 : Hid (CutOk w2) := Lib.hid (by
    obtain ⟨h0, m, hm⟩ := W1.out
    have hc := hb12.cell (p := ⟨0, 0, none⟩) (show 0 < X.heap.size by omega)
    exact ⟨Nat.lt_of_lt_of_le h0 hb12.size, m, hc.trans hm⟩)
  clear r2 b2 hb12 hxs K1 B1 W1 R1
  have hz := HZ.out
  have n1' : EB (w2.alloc (.cells (evC ev0) 31)) w2.heap.size ev0 := EB.new_ w2 ev0
  have N1 := Lib.hid n1'
  clear n1'
  go_upto_region 3 with (refine wpList_store_row rfl 31 (.tmp 5) (.tmp 10) rfl w2.heap.size (evC (nextE (l, false))) rfl rfl _ _ N1.out (sizeE _) rfl (evC_one _) ?_)
  clear hz
  have hba : Below w2.heap.size w2 (w2.alloc (.cells (evC ev0) 31)) := (Below.refl _ _).alloc (Nat.le_refl _) _
  have hbb : Below w2.heap.size w2 ((w2.alloc (.cells (evC ev0) 31)).setRow w2.heap.size (evC (nextE (l, false)))) := hba.trans (setRow_below _ _ _ _ (Nat.le_refl _))
  have hq : EB ((w2.alloc (.cells (evC ev0) 31)).setRow w2.heap.size (evC (nextE (l, false)))) w2.heap.size (nextE (l, false)) := setRow_blk _ _ _ _ _ N1.out
  generalize (w2.alloc (.cells (evC ev0) 31)).setRow w2.heap.size (evC (nextE (l, false))) = Y at *
  have Q3 := Lib.hid hq
  have R3 := Lib.hid (R2.out.below hbb)
  have K3 := Lib.hid (EB.keep K2.out hbb)
  have B3 := Lib.hid (B2.out.trans (hbb.mono B2.out.size))
  have W3 := Lib.hid (CutOk.below W2.out hbb)
  clear hba hbb hq R2 K2 B2 W2 N1
  go_wp2_with fail
  refine (done_any X.heap.size (nextS (l, false)) Y R3.out).mono ?_
  rintro e3 w3 ⟨rfl, rfl⟩
  have HR := fun (e : Ev) => setRow_blk Y w.heap.size _ _ (evC e) K3.out
  have HRR := Lib.hid HR
  have HBB := Lib.hid (fun (e : Ev) => B3.out.trans (setRow_below Y w.heap.size w.heap.size (evC e) (Nat.le_refl _)))
  clear HR
  cases hd : rDone (nextS (l, false))
  · rw [hd, if_neg (by decide)] at HC
    have hE : parsE l = ev0 := by rw [HE.out, HC.out]; rfl
    have HEE := Lib.hid hE
    clear hd hE R3
    go_wp2_with (first
      | (refine wpList_val (o := ⟨some 14, _, _, _, _, _⟩) rfl (.agg (evC ev0)) Y (by kernel_rfl) ?_)
      | (refine wpList_store_row rfl 31 (.tmp 2) (.tmp 14) rfl w.heap.size (evC ev0) rfl rfl _ _ K3.out (sizeE _) rfl (evC_one _) ?_))
    exact bodyPost_ret (v := .tuple #[.agg (evC ev0), .int .i64 2]) (results_cell_tmp (P := Try.prog) Try.results18 _ _ w.heap.size _ (evC ev0) _ _ rfl (HRR.out ev0) Try.underlying31 rfl (sizeE _)) rfl ⟨by rw [HEE.out, HC.out], HBB.out ev0⟩
  · rw [hd, if_pos rfl] at HC
    clear hd R3
    cases ho : okB (nextE (l, false))
    all_goals
      rw [ho] at HC
      have hr := fun w hw => eright_any (nextE (l, false)) w HL.out hw
      rw [ho] at hr
      have HRt := Lib.hid hr
      clear hr ho
      go_wp2_with (refine wpList_load_if rfl 31 (.tmp 5) rfl w2.heap.size rfl _ _ _ _ Q3.out Try.underlying31 rfl (sizeE _) ?_)
      refine (HRt.out _ W3.out).mono ?_
      rintro e4 w4 ⟨rfl, hb4⟩
      have K4 := Lib.hid (EB.keep K3.out hb4)
      have Q4 := Lib.hid (EB.keep Q3.out hb4)
      have B4 := Lib.hid (B3.out.trans (hb4.mono B3.out.size))
      clear hb4 HRR HBB K3 Q3 B3 W3
    · have hE : parsE l = ev0 := by rw [HE.out, HC.out]; rfl
      have HEE := Lib.hid hE
      have HRR := Lib.hid (setRow_blk w4 w.heap.size _ _ (evC ev0) K4.out)
      have HBB := Lib.hid (B4.out.trans (setRow_below w4 w.heap.size w.heap.size (evC ev0) (Nat.le_refl _)))
      clear hE
      go_wp2_with (first
        | (refine wpList_val (o := ⟨some 19, _, _, _, _, _⟩) rfl (.agg (evC ev0)) w4 (by kernel_rfl) ?_)
        | (refine wpList_store_row rfl 31 (.tmp 2) (.tmp 19) rfl w.heap.size (evC ev0) rfl rfl _ _ K4.out (sizeE _) rfl (evC_one _) ?_))
      exact bodyPost_ret (v := .tuple #[.agg (evC ev0), .int .i64 1]) (results_cell_tmp (P := Try.prog) Try.results18 _ _ w.heap.size _ (evC ev0) _ _ rfl HRR.out Try.underlying31 rfl (sizeE _)) rfl ⟨by rw [HEE.out, HC.out]; rfl, HBB.out⟩
    · have hE : parsE l = nextE (l, false) := by rw [HE.out, HC.out]; rfl
      have HEE := Lib.hid hE
      have HRR := Lib.hid (setRow_blk w4 w.heap.size _ _ (evC (nextE (l, false))) K4.out)
      have HBB := Lib.hid (B4.out.trans (setRow_below w4 w.heap.size w.heap.size (evC (nextE (l, false))) (Nat.le_refl _)))
      clear hE
      go_wp2_with (first
        | (refine wpList_load_if rfl 31 (.tmp 5) rfl w2.heap.size rfl _ _ _ _ Q4.out Try.underlying31 rfl (sizeE _) ?_)
        | (refine wpList_store_row rfl 31 (.tmp 2) (.tmp 21) rfl w.heap.size (evC (nextE (l, false))) rfl rfl _ _ K4.out (sizeE _) rfl (evC_one _) ?_))
      exact bodyPost_ret (v := .tuple #[.agg (evC (nextE (l, false))), .int .i64 0]) (results_cell_tmp (P := Try.prog) Try.results18 _ _ w.heap.size _ (evC (nextE (l, false))) _ _ rfl HRR.out Try.underlying31 rfl (sizeE _)) rfl ⟨by rw [HEE.out, HC.out]; rfl, HBB.out⟩

end Go.Proofs.Ytmchnnnpabpelaa
