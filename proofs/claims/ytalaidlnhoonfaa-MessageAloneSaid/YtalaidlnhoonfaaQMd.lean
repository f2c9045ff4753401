/-
  event.Read: the contract, by a walk. What message.read reads; a rule for regions that draw their order and store. Conditions: lengths.
-/
import Derived.Test.YtalaidlnhoonfaaQMk
import Derived.Test.YtalaidlnhoonfaaQMb
namespace Go.Proofs.Ytalaidlnhoonfaa
open Go.RowKit

/-- What Read answers. -/
def readC (s : List UInt8 × Bool) : Bool := !(nextS s).2 && okB (nextE s)
def readE (s : List UInt8 × Bool) : Ev := if readC s then nextE s else ev0
theorem CutOk.but {g : Nat} {w w' : World} (hw : CutOk w) (hb : But g w w') (hg : 0 < g) : CutOk w' := by
  obtain ⟨h0, m, hm⟩ := hw
  have hc := (hb.below (B := 1) hg h0).cell (p := ⟨0, 0, none⟩) Nat.one_pos
  exact ⟨Nat.lt_of_lt_of_le h0 hb.size, m, hc.trans hm⟩

set_option maxRecDepth 100000 in
set_option maxHeartbeats 2000000 in
theorem eread_any (g : Nat) (s : List UInt8 × Bool) (w : World) (h : Rd w g s) (hg : 0 < g) (hl : s.1.length ≤ 4294967280) (hw : CutOk w) : Calls Try.prog 48 #[.pointer (some ⟨g, 0, none⟩)] w fun e w' =>
    e = .returned (.tuple #[evV (readE s), .bool (readC s)]) ∧ Rd w' g (nextS s) ∧ But g w w' := by
  have HL := Lib.hid (nextE_lens s hl)
  have hz := (zero_of_info zeroE).1
  have HC : Hid (readC s = (!(nextS s).2 && okB (nextE s))) := Lib.hid rfl
  have HE : Hid (readE s = if readC s then nextE s else ev0) := Lib.hid rfl
  have hgl := h.lt
  obtain ⟨q, hq⟩ : ∃ q, w.heap.size = q := ⟨_, rfl⟩
  obtain ⟨X, hX⟩ : ∃ X, X = w.alloc (.cells (evC ev0) 48) := ⟨_, rfl⟩
  have hbx : Below w.heap.size w X := by rw [hX]; exact (Below.refl _ _).alloc (Nat.le_refl _) _
  have k0 : EB X q ev0 := by rw [hX, ← hq]; exact EB.new_ w ev0
  have RX := Lib.hid (h.below hbx)
  have HX := Lib.hid hX
  have KX := Lib.hid k0
  have BX := Lib.hid (But.of_below (g := g) hbx)
  have WX := Lib.hid (hw.below hbx)
  have HQ := Lib.hid hq
  have HG := Lib.hid hg
  have HGq := Lib.hid (show q ≠ g by omega)
  have HQw := Lib.hid (show w.heap.size ≤ q by omega)
  clear hX hbx k0 hl hw h hg hgl hq
  unfold evV
  go_enter Try.func48, Try.ntmps48
  go_upto_region 1 with fail
  have HZ := Lib.hid hz
  clear hz
  rw [← HX.out, HQ.out]
  go_wp2_with fail
  refine (enext_any g s X RX.out).mono ?_
  rintro e2 w2 ⟨rfl, r2, b2⟩
  have R2 := Lib.hid r2
  have K2 : Hid (EB w2 q ev0) := Lib.hid (But.blk b2 KX.out HGq.out)
  have B2 := Lib.hid (BX.out.trans b2)
  have W2 := Lib.hid (WX.out.but b2 HG.out)
  have Q2 := Lib.hid (show w.heap.size ≤ w2.heap.size from B2.out.size)
  clear r2 b2 BX KX WX RX
  have hz := HZ.out
  have N1 := Lib.hid (EB.new_ w2 ev0)
  go_upto_region 2 with (refine wpList_store_row rfl 48 (.tmp 4) (.tmp 6) rfl w2.heap.size (evC (nextE s)) rfl rfl _ _ N1.out (sizeE _) rfl (evC_one _) ?_)
  clear hz
  have hba : Below w2.heap.size w2 (w2.alloc (.cells (evC ev0) 48)) := (Below.refl _ _).alloc (Nat.le_refl _) _
  have hbb : Below w2.heap.size w2 ((w2.alloc (.cells (evC ev0) 48)).setRow w2.heap.size (evC (nextE s))) := hba.trans (setRow_below _ _ _ _ (Nat.le_refl _))
  have hqy : EB ((w2.alloc (.cells (evC ev0) 48)).setRow w2.heap.size (evC (nextE s))) w2.heap.size (nextE s) := setRow_blk _ _ _ _ _ N1.out
  generalize (w2.alloc (.cells (evC ev0) 48)).setRow w2.heap.size (evC (nextE s)) = Y at *
  obtain ⟨b4, hb4⟩ : ∃ b4, w2.heap.size = b4 := ⟨_, rfl⟩
  rw [hb4] at hqy ⊢
  have Q3 := Lib.hid hqy
  have R3 := Lib.hid (R2.out.below (by rw [← hb4] at *; exact hbb))
  have K3 := Lib.hid (EB.keep K2.out hbb)
  have B3 := Lib.hid (B2.out.trans (But.of_below (g := g) hbb))
  have W3 := Lib.hid (CutOk.below W2.out hbb)
  clear hba hbb hqy R2 K2 B2 W2 N1 hb4
  go_wp2_with fail
  refine (fail_any g (nextS s) Y R3.out).mono ?_
  rintro e3 w3 ⟨rfl, rfl⟩
  cases hd : (nextS s).2
  · rw [hd, Bool.not_false, Bool.true_and] at HC
    clear hd
    have hr := fun w hw => eright_any (nextE s) w HL.out hw
    cases ho : okB (nextE s)
    · rw [ho] at HC hr
      have HRt := Lib.hid hr
      have HEE := Lib.hid (show readE s = ev0 by rw [HE.out, HC.out]; rfl)
      clear hr ho
      go_wp2_with (refine wpList_load_if rfl 48 (.tmp 4) rfl b4 rfl _ _ _ _ Q3.out Try.underlying48 rfl (sizeE _) ?_)
      refine (HRt.out _ W3.out).mono ?_
      rintro e4 w4 ⟨rfl, hb4⟩
      have K4 := Lib.hid (EB.keep K3.out hb4)
      have HRR := Lib.hid (setRow_blk w4 q _ _ (evC ev0) K4.out)
      have R5 := Lib.hid (show Rd (w4.setRow q (evC ev0)) g (nextS s) from Rd.row (R3.out.below hb4) (fun e => HGq.out e.symm) _)
      have B5 := Lib.hid (show But g w (w4.setRow q (evC ev0)) from But.far_row (B3.out.trans (But.of_below hb4)) HQw.out _)
      clear hb4
      go_wp2_with (first
        | (refine wpList_val (o := ⟨some 14, _, _, _, _, _⟩) rfl (.agg (evC ev0)) w4 (by kernel_rfl) ?_)
        | (refine wpList_store_row rfl 48 (.tmp 2) (.tmp 14) rfl q (evC ev0) rfl rfl _ _ K4.out (sizeE _) rfl (evC_one _) ?_))
      exact bodyPost_ret (v := .tuple #[.agg (evC ev0), .bool false]) (results_cell_tmp (P := Try.prog) Try.results48 _ _ q _ (evC ev0) _ _ rfl HRR.out Try.underlying48 rfl (sizeE _)) rfl ⟨by rw [HEE.out, HC.out], R5.out, B5.out⟩
    · rw [ho] at HC hr
      have HRt := Lib.hid hr
      have HEE := Lib.hid (show readE s = nextE s by rw [HE.out, HC.out]; rfl)
      clear hr ho
      go_wp2_with (refine wpList_load_if rfl 48 (.tmp 4) rfl b4 rfl _ _ _ _ Q3.out Try.underlying48 rfl (sizeE _) ?_)
      refine (HRt.out _ W3.out).mono ?_
      rintro e4 w4 ⟨rfl, hb4⟩
      have K4 := Lib.hid (EB.keep K3.out hb4)
      have Q4 := Lib.hid (EB.keep Q3.out hb4)
      have HRR := Lib.hid (setRow_blk w4 q _ _ (evC (nextE s)) K4.out)
      have R5 := Lib.hid (show Rd (w4.setRow q (evC (nextE s))) g (nextS s) from Rd.row (R3.out.below hb4) (fun e => HGq.out e.symm) _)
      have B5 := Lib.hid (show But g w (w4.setRow q (evC (nextE s))) from But.far_row (B3.out.trans (But.of_below hb4)) HQw.out _)
      clear hb4
      go_wp2_with (first
        | (refine wpList_load_if rfl 48 (.tmp 4) rfl b4 rfl _ _ _ _ Q4.out Try.underlying48 rfl (sizeE _) ?_)
        | (refine wpList_store_row rfl 48 (.tmp 2) (.tmp 15) rfl q (evC (nextE s)) rfl rfl _ _ K4.out (sizeE _) rfl (evC_one _) ?_))
      exact bodyPost_ret (v := .tuple #[.agg (evC (nextE s)), .bool true]) (results_cell_tmp (P := Try.prog) Try.results48 _ _ q _ (evC (nextE s)) _ _ rfl HRR.out Try.underlying48 rfl (sizeE _)) rfl ⟨by rw [HEE.out, HC.out], R5.out, B5.out⟩
  · rw [hd, Bool.not_true, Bool.false_and] at HC
    have HEE := Lib.hid (show readE s = ev0 by rw [HE.out, HC.out]; rfl)
    have HRR := Lib.hid (setRow_blk Y q _ _ (evC ev0) K3.out)
    have R5 := Lib.hid (show Rd (Y.setRow q (evC ev0)) g (nextS s) from Rd.row R3.out (fun e => HGq.out e.symm) _)
    have B5 := Lib.hid (show But g w (Y.setRow q (evC ev0)) from But.far_row B3.out HQw.out _)
    clear hd
    go_wp2_with (first
      | (refine wpList_val (o := ⟨some 14, _, _, _, _, _⟩) rfl (.agg (evC ev0)) Y (by kernel_rfl) ?_)
      | (refine wpList_store_row rfl 48 (.tmp 2) (.tmp 14) rfl q (evC ev0) rfl rfl _ _ K3.out (sizeE _) rfl (evC_one _) ?_))
    exact bodyPost_ret (v := .tuple #[.agg (evC ev0), .bool false]) (results_cell_tmp (P := Try.prog) Try.results48 _ _ q _ (evC ev0) _ _ rfl HRR.out Try.underlying48 rfl (sizeE _)) rfl ⟨by rw [HEE.out, HC.out], R5.out, B5.out⟩

end Go.Proofs.Ytalaidlnhoonfaa

namespace Go.Proofs.Ytalaidlnhoonfaa
open Go.RowKit

section
variable {P : Program} {ops : Array Oper} {Q : Exit → Act → World → Prop} {md : Region.Mode}
theorem l_skip {i : Nat} {o : Oper} {a : Act} {w : World} {K : Act → World → Prop} (hi : ops[i]? = some o) (hw : Region.wanted o (yielded ops a.tmps) = true) (w' : World) (hr : (execOp a.eval o).run P w = .ok .skip w')
    (hK : K (a.put o.dst undef) w') : wpOp P ops Q i K a w := by
  unfold wpOp
  simp only [hi, hw, if_true]
  left
  unfold Oper.wp
  rw [hr]
  exact hK
/-- THE RULE where something turns: I throughout; what an operation left stays, whatever step does. -/
theorem wpAny_keep (I : World → Prop) (p : Nat → Value → World → Prop) (step : World → World → Prop) (a0 : Act) (w1 : World)
    (hap : apartB ops = true) (hah : aheadB md ops = true) (hin : (List.range ops.size).all (fun i => match ops[i]? with | some o => (match o.dst with | some d => decide (d < a0.tmps.size) | none => true) | none => true) = true)
    (h0 : I w1.drew) (hst : ∀ i v w w', step w w' → p i v w → p i v w')
    (hop : AllIdx (fun i o => ∀ (a : Act) (w : World), I w → (∀ d : Tmp, (ops.all fun o => o.dst != some d) = true → a.eval (.tmp d) = a0.eval (.tmp d)) →
      (∀ e ∈ o.after, Region.binds md e = true → ∀ oj d, ops[e.on]? = some oj → oj.dst = some d → p e.on (a.eval (.tmp d)) w) → ops[i]? = some o → wpOp P ops Q i (fun a' w' => (∃ v, a' = a.put o.dst v ∧ p i v w') ∧ step w w' ∧ I w') a w) 0 ops.toList)
    (hend : ∀ vals w, I w → (∀ i, i < ops.size → p i (vals i) w) → Q .normal (layN ops (fun _ => true) vals (List.range ops.size) a0) w) :
    wpAny P md ops Q ops.size (Array.replicate ops.size false) a0 w1.drew := by
  refine wpAny_each I p step a0 w1.drew hap hah hin h0 hst ?_ hend
  intro i o hi a w hI _ hun haft
  have h1 := allIdx_get ops.toList 0 i o hop (by simpa using hi)
  rw [Nat.zero_add] at h1
  refine h1 a w hI (fun d hd => hun d fun j oj hj => ?_) haft hi
  obtain ⟨hjl, rfl⟩ := Array.getElem?_eq_some_iff.1 hj
  rw [Array.all_eq_true] at hd
  simpa using hd j hjl
end
theorem run_storerow_op {P : Program} {o : Oper} {ρ : Operand → Value} {w : World} {ty : TypeId} {x y : Operand} {g : Nat} {t : TypeId} {cs cs' : Array Value} (ho : o.op = .store ty x y) (hx : ρ x = .pointer (some ⟨g, 0, none⟩)) (hy : ρ y = .agg cs') (hb : w.heap[g]? = some (.cells cs t (0, 0)))
    (hi : (P.info? ty).map (·.size) = some cs'.size) (hs : cs.size = cs'.size) (h1 : cs'.all (·.oneCell') = true) : (execOp ρ o).run P w = .ok .skip (w.setRow g cs') := by
  unfold execOp
  simp only [ho, hx, hy, Instr.storeAt, Instr.sureAddr, Sem.run_bind, Sem.run_pure, Result.andThen_ok, run_storeVar_row w g t ty cs cs' hb hi hs h1]
/-- The first numbers. -/
def rdP (s : List UInt8 × Bool) : Nat → Mg × (List UInt8 × Bool)
  | 0 => (m0, s)
  | k + 1 => ((rdP s k).1.put k (rNum (rdP s k).2 1048576).1, (rNum (rdP s k).2 1048576).2)
/-- The first events, as long as each may be. -/
def rdE (s : List UInt8 × Bool) : Nat → Option (List Ev × (List UInt8 × Bool))
  | 0 => some ([], s)
  | j + 1 => match rdE s j with
    | none => none
    | some (es, t) => if readC t then some (es ++ [nextE t], nextS t) else none
def cntM (s : List UInt8 × Bool) : Nat := (rNum (rdP s 19).2 200).1.toNat
def stM (s : List UInt8 × Bool) : List UInt8 × Bool := (rNum (rdP s 19).2 200).2
/-- The message that bytes tell. -/
def readM (s : List UInt8 × Bool) : Option (Mg × List Ev) :=
  match rdE (stM s) (cntM s) with
  | none => none
  | some (es, t) => if rDone t then some ((rdP s 19).1, es) else none
theorem rdP_le (s : List UInt8 × Bool) : ∀ k, (rdP s k).2.1.length ≤ s.1.length
  | 0 => Nat.le_refl _
  | k + 1 => Nat.le_trans (rNum_le _ _) (rdP_le s k)
theorem nextS_le (s : List UInt8 × Bool) : (nextS s).1.length ≤ s.1.length := by
  have h0 := pN_le s 16
  have h4 : (n4 s).2.1.length ≤ s.1.length := Nat.le_trans (rNum_le _ _) h0
  have h5 : (n5 s).2.1.length ≤ s.1.length := Nat.le_trans (rNum_le _ _) h4
  have a6 : (t6 s).2.1.length ≤ _ := (rText_le (n5 s).2 mx).1
  have a7 : (t7 s).2.1.length ≤ _ := (rText_le (t6 s).2 mx).1
  have a8 : (t8 s).2.1.length ≤ _ := (rText_le (t7 s).2 mx).1
  have a9 : (t9 s).2.1.length ≤ _ := (rText_le (t8 s).2 mx).1
  have h10 : (n10 s).2.1.length ≤ (t9 s).2.1.length := rNum_le _ _
  have h11 : (n11 s).2.1.length ≤ (n10 s).2.1.length := rNum_le _ _
  have a12 : (t12 s).2.1.length ≤ _ := (rText_le (n11 s).2 mx).1
  unfold nextS
  omega
theorem rdE_none {s : List UInt8 × Bool} {j : Nat} (h : rdE s j = none) : ∀ n, j ≤ n → rdE s n = none := by
  intro n
  induction n with
  | zero =>
    intro hn
    have : j = 0 := by omega
    rw [this] at h; cases h
  | succ n ih =>
    intro hn
    by_cases e : j = n + 1
    · rw [← e]; exact h
    · have := ih (by omega)
      unfold rdE
      rw [this]
theorem rdE_le {s : List UInt8 × Bool} : ∀ {j : Nat} {es : List Ev} {t : List UInt8 × Bool}, rdE s j = some (es, t) → es.length = j ∧ t.1.length ≤ s.1.length
  | 0, es, t, h => by
    simp only [rdE, Option.some.injEq, Prod.mk.injEq] at h
    obtain ⟨rfl, rfl⟩ := h
    exact ⟨rfl, Nat.le_refl _⟩
  | j + 1, es, t, h => by
    unfold rdE at h
    cases hj : rdE s j with
    | none => rw [hj] at h; cases h
    | some q =>
      obtain ⟨fs, u⟩ := q
      rw [hj] at h
      dsimp only at h
      obtain ⟨h1, h2⟩ := rdE_le hj
      split at h
      · simp only [Option.some.injEq, Prod.mk.injEq] at h
        obtain ⟨rfl, rfl⟩ := h
        exact ⟨by simp [h1], Nat.le_trans (nextS_le u) h2⟩
      · cases h
theorem rdE_yes {s : List UInt8 × Bool} {j : Nat} {es : List Ev} {t : List UInt8 × Bool} (h : rdE s j = some (es, t)) (hr : readC t = true) : rdE s (j + 1) = some (es ++ [nextE t], nextS t) := by
  unfold rdE; rw [h]; dsimp only; rw [if_pos hr]
theorem rdE_no {s : List UInt8 × Bool} {j : Nat} {es : List Ev} {t : List UInt8 × Bool} (h : rdE s j = some (es, t)) (hr : readC t = false) : rdE s (j + 1) = none := by
  unfold rdE; rw [h]; dsimp only; rw [if_neg (by rw [hr]; exact Bool.false_ne_true)]
theorem But.grown {g : Nat} {w W W' : World} {row : Option Nat} (h : But g w W) (hg : W.grownBy W' row) (hr : ∀ q, row = some q → w.heap.size ≤ q) : But g w W' :=
  ⟨hg.os.trans h.os, hg.tape.trans h.tape, hg.output.trans h.output, Nat.le_trans h.size hg.size, fun k hk hn => (hg.block k (Nat.lt_of_lt_of_le hk h.size) (fun e => by have := hr k e.symm; omega)).trans (h.block k hk hn)⟩

end Go.Proofs.Ytalaidlnhoonfaa
