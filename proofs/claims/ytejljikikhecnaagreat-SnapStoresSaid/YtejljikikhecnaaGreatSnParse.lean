/-
  snap.Parse: what bytes tell: the contract, by a walk. Conditions: lengths.
-/
import Derived.Test.YtejljikikhecnaaGreatSnRowI
namespace Go.Proofs.YtejljikikhecnaaGreat
open Go.RowKit Go.MapKept Go.Sort

theorem results_cell_tmp {P : Program} {fn : Func} {p q : Tmp} {ty : TypeId} (h : fn.results = #[.cell p ty, .tmp q]) (tmps : Array Value) (w : World) (g : Nat) (t : TypeId) (cs : Array Value) (fr : Nat × Nat) (d : TypeDesc)
    (hp : tmps.getD p undef = .pointer (some ⟨g, 0, none⟩)) (hg : w.heap[g]? = some (.cells cs t fr))
    (hu : P.underlying ty = some d) (hd : (match d with | .struct _ | .array _ _ => true | _ => false) = true) (hi : (P.info? ty).map (·.size) = some cs.size) :
    (results fn tmps).run P w = .ok (.tuple #[.agg cs, tmps.getD q undef]) w := by
  have hp' : tmps[p]?.getD undef = .pointer (some ⟨g, 0, none⟩) := by simpa using hp
  simp [results, h, hp', asAddr, run_loadVar_row w g t ty cs fr d hg hu hd hi]
theorem rdF_le (s : List UInt8 × Bool) : (rdF s).2.1.length ≤ s.1.length := by
  have : ∀ k, (pV s k).2.1.length ≤ s.1.length := fun k => by
    induction k with
    | zero => exact Nat.le_refl _
    | succ k ih => exact Nat.le_trans (rNum_le _ _) ih
  exact this 16
theorem rdF_flag (s : List UInt8 × Bool) (h : (rdF s).2.2 = false) : s.2 = false := by
  have : ∀ k, (pV s k).2.2 = false → s.2 = false := fun k => by
    induction k with
    | zero => exact id
    | succ k ih => exact fun h => ih (rNum_flag _ _ h)
  exact this 16 h
theorem rdI_le (s : List UInt8 × Bool) : (rdI s).2.1.length ≤ s.1.length := Nat.le_trans (rowN_le _) (rdX_le _)
theorem rowI_le (s : List UInt8 × Bool) : (rowR rdI s).2.1.length ≤ s.1.length := Nat.le_trans (rowGo_le rdI rdI_le _ _ _) (rNum_le _ _)
theorem rdEv_more (s : List UInt8 × Bool) (h : (rdEv s).2.2 = false) : (rdEv s).2.1.length < s.1.length := by
  have h1 : (rdX (e3 s).2).2.2 = false := rdA_flag _ h
  have h2 : (e3 s).2.2 = false := rNum_flag _ _ (rdX_flag _ h1)
  have h3 := rNum_more _ _ h2
  have h4 : (rdEv s).2.1.length ≤ (e3 s).2.1.length := Nat.le_trans (rdA_le _) (rdX_le _)
  have h5 : (rdF (rdD s).2).2.1.length ≤ s.1.length := Nat.le_trans (rdF_le _) (rdD_le _)
  unfold e3 at h3 h4
  omega
theorem ItOwn.far {B : Nat} {w w' : World} {L : List (El × Value)} {I : List (El × List (Dt × Va))} (h : ItOwn B w L I) (hk : ∀ b, B ≤ b → b < w.heap.size → w'.heap[b]? = w.heap[b]?) : ItOwn B w' L I :=
  ⟨h.1, fun i y q hy hq => ⟨(h.2 i y q hy hq).1, (h.2 i y q hy hq).2.same fun b hb => hk b ((h.2 i y q hy hq).2.lt b hb).1 ((h.2 i y q hy hq).2.lt b hb).2⟩⟩
theorem OwnK.far {α : Type} {enc : α → List Value} {B k : Nat} {e : TypeId} {w w' : World} {v : Value} {l : List α} (h : OwnK enc B e k w v l) (hk : ∀ b, B ≤ b → b < w.heap.size → w'.heap[b]? = w.heap[b]?) : OwnK enc B e k w' v l := h.same fun b hb => hk b (h.lt b hb).1 (h.lt b hb).2
theorem ItOwn.its {B B' : Nat} {w : World} {v : Value} {L : List (El × Value)} {I : List (El × List (Dt × Va))} (h : ItOwn B w L I) (ho : OwnK enI B' 61 6 w v L) : ItsIs w v I := by
  refine ⟨L, ho.read enI_len, h.1, fun i y q hy hq => ?_⟩
  obtain ⟨e1, e2⟩ := h.2 i y q hy hq
  obtain ⟨A, c, e3⟩ := e2.form
  have := e2.read enN_len
  rw [e3] at this
  exact ⟨e1, A, c, e3, this⟩
/-- What bytes tell: the vector, the items, the events, what is left. -/
def sF (l : List UInt8) : (Nat → Int) × (List UInt8 × Bool) := rdF (l, false)
def sI (l : List UInt8) : List (El × List (Dt × Va)) × (List UInt8 × Bool) := rowR rdI (sF l).2
def sE (l : List UInt8) : List Ev × (List UInt8 × Bool) := rowR rdEv (sI l).2
def snC (l : List UInt8) : Nat := if rDone (sE l).2 then (if rightS (sF l).1 (sI l).1 (sE l).1 then 0 else 1) else 2
theorem zeroSn : (Tryz.prog.info? 27).map (fun i => (i.zero, i.size)) = some (some (.agg (sC (fun _ => 0) (.slice none 0 0) (.slice none 0 0))), 18) := by kernel_rfl
theorem sC_one (f : Nat → Int) (A B : Option Addr) (a b c d : Nat) : (sC f (.slice A a c) (.slice B b d)).all (·.oneCell') = true := by simp [sC, Value.oneCell']
/-- What Parse answers, and leaves. -/
def ParsesS (w : World) (l : List UInt8) (e : Ending) (w' : World) : Prop :=
  ∃ f A a c B b d, e = .returned (.tuple #[sV f (.slice A a c) (.slice B b d), .int .i64 ((snC l : Nat) : Int)]) ∧
    (snC l = 0 → f = (sF l).1 ∧ a = (sI l).1.length ∧ b = (sE l).1.length ∧ ItsIs w' (.slice A a c) (sI l).1 ∧ SlK encE 27 w' (.slice B b d) (sE l).1) ∧
    (snC l ≠ 0 → f = (fun _ => 0) ∧ a = 0 ∧ b = 0) ∧ Below w.heap.size w w'

set_option maxRecDepth 100000 in
set_option maxHeartbeats 6000000 in
theorem sparse_any (v : Value) (l : List UInt8) (w : World) (hv : Sl bv w v l) (hl : l.length ≤ 900000) (hw : CutOk w)
    (hF : rDone (sE l).2 = true → (sI l).1.length ≤ 10000 ∧ (∀ q ∈ (sI l).1, ItFits q) ∧ (sE l).1.length ≤ 10000 ∧ ∀ e ∈ (sE l).1, Lens e) :
    Calls Tryz.prog 11 #[v] w (ParsesS w l) := by
  have hz := (zero_of_info zeroSn).1
  obtain ⟨p, hp⟩ : ∃ p, w.heap.size = p := ⟨_, rfl⟩
  obtain ⟨X, hX⟩ : ∃ X, X = w.alloc (.cells (sC (fun _ => 0) (.slice none 0 0) (.slice none 0 0)) 27) := ⟨_, rfl⟩
  have hbx : Below w.heap.size w X := by rw [hX]; exact (Below.refl _ _).alloc (Nat.le_refl _) _
  have VX := Lib.hid (hv.below hbx)
  have KX := Lib.hid (show SB X p (fun _ => 0) (.slice none 0 0) (.slice none 0 0) by rw [hX, ← hp]; exact SB.new_ w _ _ _)
  have SX := Lib.hid (show X.heap.size = p + 1 by rw [hX, ← hp]; simp)
  have HX := Lib.hid hX
  have BX := Lib.hid hbx
  have HW := Lib.hid hw
  have HP := Lib.hid hp
  have HLl := Lib.hid hl
  have HFt := Lib.hid hF
  clear hX hbx hp hv hl hw hF
  go_enter Tryz.func11, Tryz.ntmps11
  go_upto_region 1 with fail
  have HZ := Lib.hid hz
  clear hz
  rw [← HX.out, HP.out]
  go_wp2_with fail
  refine (read_any _ l X VX.out (by have := HLl.out; omega)).mono ?_
  rintro e1 w1 ⟨rfl, r1, b1⟩
  obtain ⟨g, hg⟩ : ∃ g, X.heap.size = g := ⟨_, rfl⟩
  rw [hg] at r1 ⊢
  have HGp := Lib.hid (show p < g ∧ w.heap.size ≤ g ∧ p = w.heap.size by have := SX.out; have := HP.out; omega)
  have K1 := SB.keep KX.out b1
  have B1 : But g w w1 := (But.of_below (g := g) BX.out).trans (But.of_below b1)
  have hgl := r1.lt
  have hz := HZ.out
  clear hg
  go_upto_region 3 with fail
  clear hz
  obtain ⟨b5, hb5⟩ : ∃ b5, w1.heap.size = b5 := ⟨_, rfl⟩
  obtain ⟨Y1, hY1⟩ : ∃ Y1, Y1 = w1.alloc (.cells (sC (fun _ => 0) (.slice none 0 0) (.slice none 0 0)) 27) := ⟨_, rfl⟩
  have hbY : Below w1.heap.size w1 Y1 := by rw [hY1]; exact (Below.refl _ _).alloc (Nat.le_refl _) _
  have Q1 := Lib.hid (show SB Y1 b5 (fun _ => 0) (.slice none 0 0) (.slice none 0 0) by rw [hY1, ← hb5]; exact SB.new_ w1 _ _ _)
  have K2 := Lib.hid (K1.keep hbY)
  have R2 := Lib.hid (r1.below hbY)
  have B2 := Lib.hid (B1.trans (But.of_below (g := g) hbY))
  have HG5 := Lib.hid (show g < b5 ∧ p < b5 ∧ w.heap.size ≤ b5 by have := HGp.out; omega)
  have HS2 := Lib.hid (show b5 < Y1.heap.size from Q1.out.lt)
  rw [← hY1, hb5]
  clear hY1 hb5 hbY K1 r1 b1 B1 hgl KX VX
  go_wp2_with fail
  refine (readVector_any g (l, false) Y1 R2.out).mono ?_
  rintro e2 w2 ⟨rfl, r3, b3⟩
  obtain ⟨F, hF⟩ : ∃ F, rdF (l, false) = F := ⟨_, rfl⟩
  have HF := Lib.hid (show sF l = F from hF)
  rw [hF] at r3 ⊢
  clear hF
  have kk : SB w2 b5 (fun _ => 0) (.slice none 0 0) (.slice none 0 0) := b3.blk Q1.out (by have := HG5.out; omega)
  have zz : SB w2 p (fun _ => 0) (.slice none 0 0) (.slice none 0 0) := b3.blk K2.out (by have := HGp.out; omega)
  have HT := Lib.hid (Blk.there kk 0 16 (by simp [sC]))
  have hput : putA (sC (fun _ => 0) (.slice none 0 0) (.slice none 0 0)) 0 (vA F.1).toList = sC F.1 (.slice none 0 0) (.slice none 0 0) := by kernel_rfl
  have ks := Blk.sets (vA F.1).toList 0 _ _ kk
  rw [hput] at ks
  have Q3 := Lib.hid (show SB (w2.setCells b5 0 (vA F.1).toList) b5 F.1 (.slice none 0 0) (.slice none 0 0) from ks)
  have K3 := Lib.hid (show SB (w2.setCells b5 0 (vA F.1).toList) p (fun _ => 0) (.slice none 0 0) (.slice none 0 0) from Blk.fars (q := b5) (by have := HG5.out; omega) (vA F.1).toList 0 _ zz)
  have R3 := Lib.hid (Rd.fars (q := b5) (by have := HG5.out; omega) (vA F.1).toList 0 _ r3)
  have B3 := Lib.hid (But.far_sets (q := b5) (by have := HG5.out; omega) (vA F.1).toList 0 _ (B2.out.trans b3))
  clear hput ks kk zz r3 b3 Q1 K2 R2 B2 HS2
  go_wp2_with (refine wpList_store_mid (op := ⟨none, _, _, _, _, _⟩) rfl 23 (.tmp 11) (.tmp 10) rfl b5 0 (vA F.1) rfl rfl HT.out (by kernel_rfl) (vA_cells _) ?_)
  clear HT
  generalize w2.setCells b5 0 (vA F.1).toList = W3 at *
  have HL3 := Lib.hid (show F.2.1.length ≤ 900000 by rw [← HF.out]; exact Nat.le_trans (rdF_le _) HLl.out)
  refine (readRowI_any g F.2 W3 R3.out HL3.out).mono ?_
  rintro e3 w4 ⟨v4, L, rfl, ho4, hi4, r4, b4⟩
  obtain ⟨I, hI⟩ : ∃ I, rowR rdI F.2 = I := ⟨_, rfl⟩
  have HI := Lib.hid (show sI l = I by unfold sI; rw [HF.out]; exact hI)
  rw [hI] at hi4 r4
  have HL4 := Lib.hid (show I.2.1.length ≤ 900000 by rw [← hI]; exact Nat.le_trans (rowI_le _) HL3.out)
  clear hI
  obtain ⟨A4, c4, rfl⟩ := ho4.form
  obtain ⟨n4, hn4⟩ : ∃ n4, L.length = n4 := ⟨_, rfl⟩
  have HN4 := Lib.hid (show n4 = I.1.length by rw [← hn4]; exact hi4.1)
  rw [hn4] at ho4 ⊢
  have hb5W : b5 < W3.heap.size := Q3.out.lt
  have kk : SB w4 b5 F.1 (.slice none 0 0) (.slice none 0 0) := b4.blk Q3.out (by have := HG5.out; omega)
  have zz : SB w4 p (fun _ => 0) (.slice none 0 0) (.slice none 0 0) := b4.blk K3.out (by have := HGp.out; omega)
  have cc : w4.cell? ⟨b5, 16, none⟩ = some (.slice none 0 0) := kk.its
  have ff := Blk.free kk 16
  have Q4 := Lib.hid (show SB (w4.setCell ⟨b5, 16, none⟩ (.slice A4 n4 c4)) b5 F.1 (.slice A4 n4 c4) (.slice none 0 0) from Blk.set_ kk 16 (.slice A4 n4 c4))
  have K4 := Lib.hid (show SB (w4.setCell ⟨b5, 16, none⟩ (.slice A4 n4 c4)) p (fun _ => 0) (.slice none 0 0) (.slice none 0 0) from Blk.far zz (p := ⟨b5, 16, none⟩) (by show p ≠ b5; have := HG5.out; omega) (.slice A4 n4 c4))
  have R4 := Lib.hid (Rd.far r4 (q := b5) (by have := HG5.out; omega) 16 (.slice A4 n4 c4))
  have B4 := Lib.hid ((B3.out.trans b4).far_set (q := b5) (by have := HG5.out; omega) 16 (.slice A4 n4 c4))
  have hfar : ∀ b, W3.heap.size ≤ b → b < w4.heap.size → (w4.setCell ⟨b5, 16, none⟩ (.slice A4 n4 c4)).heap[b]? = w4.heap[b]? := fun b h1 _ => Below.heap_setCell w4 ⟨b5, 16, none⟩ _ b (fun e => by have e' : b = b5 := e; omega)
  have O4 := Lib.hid (ho4.far hfar)
  have I4 := Lib.hid (hi4.far hfar)
  have HB4 := Lib.hid (show g < W3.heap.size by have := HG5.out; omega)
  have SW4 := Lib.hid (show W3.heap.size ≤ w4.heap.size from b4.size)
  clear hfar kk zz r4 b4 ho4 hi4 hn4 Q3 K3 R3 B3
  go_wp2_with fail
  clear cc ff
  have hS4 : W3.heap.size ≤ (w4.setCell ⟨b5, 16, none⟩ (.slice A4 n4 c4)).heap.size ∧ b5 < (w4.setCell ⟨b5, 16, none⟩ (.slice A4 n4 c4)).heap.size := ⟨by
    have := SW4.out
    simpa [World.setCell] using this, Q4.out.lt⟩
  generalize w4.setCell ⟨b5, 16, none⟩ (.slice A4 n4 c4) = W4 at *
  refine (readRowE_any g I.2 W4 R4.out HL4.out rdEv_more).mono ?_
  rintro e4 w5 ⟨v5, rfl, ho5, r5, b5'⟩
  obtain ⟨E, hE⟩ : ∃ E, rowR rdEv I.2 = E := ⟨_, rfl⟩
  have HE := Lib.hid (show sE l = E by unfold sE; rw [HI.out]; exact hE)
  rw [hE] at ho5 r5
  clear hE
  obtain ⟨A5, c5, rfl⟩ := ho5.form
  obtain ⟨n5, hn5⟩ : ∃ n5, E.1.length = n5 := ⟨_, rfl⟩
  have HN5 := Lib.hid hn5
  rw [hn5] at ho5 ⊢
  have kk : SB w5 b5 F.1 (.slice A4 n4 c4) (.slice none 0 0) := b5'.blk Q4.out (by have := HG5.out; omega)
  have zz : SB w5 p (fun _ => 0) (.slice none 0 0) (.slice none 0 0) := b5'.blk K4.out (by have := HGp.out; omega)
  have cc : w5.cell? ⟨b5, 17, none⟩ = some (.slice none 0 0) := kk.evs
  have ff := Blk.free kk 17
  have Q5 := Lib.hid (show SB (w5.setCell ⟨b5, 17, none⟩ (.slice A5 n5 c5)) b5 F.1 (.slice A4 n4 c4) (.slice A5 n5 c5) from Blk.set_ kk 17 (.slice A5 n5 c5))
  have K5 := Lib.hid (show SB (w5.setCell ⟨b5, 17, none⟩ (.slice A5 n5 c5)) p (fun _ => 0) (.slice none 0 0) (.slice none 0 0) from Blk.far zz (p := ⟨b5, 17, none⟩) (by show p ≠ b5; have := HG5.out; omega) (.slice A5 n5 c5))
  have R5 := Lib.hid (Rd.far r5 (q := b5) (by have := HG5.out; omega) 17 (.slice A5 n5 c5))
  have B5 := Lib.hid ((B4.out.trans b5').far_set (q := b5) (by have := HG5.out; omega) 17 (.slice A5 n5 c5))
  have hfar : ∀ b, b5 < b → b < w5.heap.size → (w5.setCell ⟨b5, 17, none⟩ (.slice A5 n5 c5)).heap[b]? = w5.heap[b]? := fun b h1 _ => Below.heap_setCell w5 ⟨b5, 17, none⟩ _ b (fun e => by have e' : b = b5 := e; omega)
  have O5 := Lib.hid (ho5.far fun b h1 h2 => hfar b (by have := hS4.2; omega) h2)
  have P5 := Lib.hid ((O4.out.but b5' HB4.out).far fun b h1 h2 => hfar b (by omega) h2)
  have I5 := Lib.hid ((I4.out.but b5' HB4.out).far fun b h1 h2 => hfar b (by omega) h2)
  have HW4p := Lib.hid (show p < W4.heap.size by have := hS4.2; have := HG5.out; omega)
  clear hfar kk zz r5 b5' ho5 hn5 Q4 K4 R4 B4 O4 I4 hS4
  go_wp2_with fail
  clear cc ff
  generalize w5.setCell ⟨b5, 17, none⟩ (.slice A5 n5 c5) = W5 at *
  refine (done_any g E.2 W5 R5.out).mono ?_
  rintro e5 w6 ⟨rfl, rfl⟩
  have HC : Hid (snC l = if rDone E.2 then (if rightS F.1 I.1 E.1 then 0 else 1) else 2) := Lib.hid (by unfold snC; rw [HE.out, HI.out, HF.out])
  rw [HE.out, HI.out] at HFt
  have HRR := Lib.hid (setRow_blk W5 p _ _ (sC (fun _ => 0) (.slice none 0 0) (.slice none 0 0)) K5.out)
  have HRB := Lib.hid (B5.out.far_row (q := p) (by have := HGp.out; omega) (sC (fun _ => 0) (.slice none 0 0) (.slice none 0 0)))
  cases hd : rDone E.2
  · rw [hd, if_neg Bool.false_ne_true] at HC
    clear hd
    go_wp2_with (first
      | (refine wpList_val (o := ⟨some 21, _, _, _, _, _⟩) rfl (.agg (sC (fun _ => 0) (.slice none 0 0) (.slice none 0 0))) W5 (by kernel_rfl) ?_)
      | (refine wpList_store_row rfl 27 (.tmp 2) (.tmp 21) rfl p (sC (fun _ => 0) (.slice none 0 0) (.slice none 0 0)) rfl rfl _ _ K5.out (sizeSn _ _ _) rfl (sC_one _ _ _ _ _ _ _) ?_))
    refine bodyPost_ret (v := .tuple #[.agg (sC (fun _ => 0) (.slice none 0 0) (.slice none 0 0)), .int .i64 2]) (results_cell_tmp (P := Tryz.prog) Tryz.results11 _ _ p _ (sC (fun _ => 0) (.slice none 0 0) (.slice none 0 0)) _ _ rfl HRR.out Tryz.underlying27 rfl (sizeSn _ _ _)) rfl ⟨fun _ => 0, none, 0, 0, none, 0, 0, ?_, ?_, ?_, HRB.out.below (by have := HGp.out; omega) (Nat.le_refl _)⟩
    · rw [HC.out]; rfl
    · rw [HC.out]; intro e; cases e
    · exact fun _ => ⟨rfl, rfl, rfl⟩
  · have hft := HFt.out hd
    rw [hd, if_pos rfl] at HC
    obtain ⟨b, hb⟩ : ∃ b, rightS F.1 I.1 E.1 = b := ⟨_, rfl⟩
    rw [hb] at HC
    have HIts := I5.out.its P5.out
    rw [HN4.out] at HIts
    have HRi := Lib.hid (sright_is F.1 I.1 E.1 A4 A5 I.1.length n5 c4 c5 b hb W5 HIts rfl hft.1 hft.2.1 (O5.out.read encE_len) HN5.out (by rw [← HN5.out]; exact hft.2.2.1) hft.2.2.2 (HW.out.below (B5.out.below (by have := HGp.out; omega) (Nat.le_refl _))))
    rw [← HN4.out] at HRi
    clear hd hft hb HIts
    unfold sV at HRi
    go_wp2_with (refine wpList_load_if rfl 27 (.tmp 5) rfl b5 rfl _ _ _ _ Q5.out Tryz.underlying27 rfl (sizeSn _ _ _) ?_)
    refine HRi.out.mono ?_
    rintro e6 w7 ⟨rfl, hb7⟩
    have Q7 := Lib.hid (Q5.out.keep hb7)
    have K7 := Lib.hid (K5.out.keep hb7)
    have B7 := Lib.hid (B5.out.trans (But.of_below (g := g) hb7))
    have O7 := Lib.hid (O5.out.keep hb7)
    have P7 := Lib.hid (P5.out.keep hb7)
    have I7 := Lib.hid (I5.out.below hb7)
    have hpw7 : p < w7.heap.size := K7.out.lt
    clear hb7 Q5 K5 B5 O5 P5 I5 HRR HRB HRi
    cases b
    · rw [if_neg Bool.false_ne_true] at HC
      have HRR := Lib.hid (setRow_blk w7 p _ _ (sC (fun _ => 0) (.slice none 0 0) (.slice none 0 0)) K7.out)
      have HRB := Lib.hid (B7.out.far_row (q := p) (by have := HGp.out; omega) (sC (fun _ => 0) (.slice none 0 0) (.slice none 0 0)))
      go_wp2_with (first
        | (refine wpList_val (o := ⟨some 26, _, _, _, _, _⟩) rfl (.agg (sC (fun _ => 0) (.slice none 0 0) (.slice none 0 0))) w7 (by kernel_rfl) ?_)
        | (refine wpList_store_row rfl 27 (.tmp 2) (.tmp 26) rfl p (sC (fun _ => 0) (.slice none 0 0) (.slice none 0 0)) rfl rfl _ _ K7.out (sizeSn _ _ _) rfl (sC_one _ _ _ _ _ _ _) ?_))
      refine bodyPost_ret (v := .tuple #[.agg (sC (fun _ => 0) (.slice none 0 0) (.slice none 0 0)), .int .i64 1]) (results_cell_tmp (P := Tryz.prog) Tryz.results11 _ _ p _ (sC (fun _ => 0) (.slice none 0 0) (.slice none 0 0)) _ _ rfl HRR.out Tryz.underlying27 rfl (sizeSn _ _ _)) rfl ⟨fun _ => 0, none, 0, 0, none, 0, 0, ?_, ?_, ?_, HRB.out.below (by have := HGp.out; omega) (Nat.le_refl _)⟩
      · rw [HC.out]; rfl
      · rw [HC.out]; intro e; cases e
      · exact fun _ => ⟨rfl, rfl, rfl⟩
    · rw [if_pos rfl] at HC
      have HRR := Lib.hid (setRow_blk w7 p _ _ (sC F.1 (.slice A4 n4 c4) (.slice A5 n5 c5)) K7.out)
      have HRB := Lib.hid (B7.out.far_row (q := p) (by have := HGp.out; omega) (sC F.1 (.slice A4 n4 c4) (.slice A5 n5 c5)))
      have hk : ∀ b, p < b → (w7.setRow p (sC F.1 (.slice A4 n4 c4) (.slice A5 n5 c5))).heap[b]? = w7.heap[b]? := fun b hb => setRow_other w7 p b _ (by omega)
      have O8 := Lib.hid (O7.out.far fun b h1 _ => hk b (by have := HG5.out; have := HB4.out; have := HW4p.out; omega))
      have P8 := Lib.hid (P7.out.far fun b h1 _ => hk b (by have := HG5.out; have := HB4.out; have := HGp.out; omega))
      have I8 := Lib.hid (I7.out.far fun b h1 _ => hk b (by have := HG5.out; have := HB4.out; have := HGp.out; omega))
      clear hk
      go_wp2_with (first
        | (refine wpList_load_if rfl 27 (.tmp 5) rfl b5 rfl _ _ _ _ Q7.out Tryz.underlying27 rfl (sizeSn _ _ _) ?_)
        | (refine wpList_store_row rfl 27 (.tmp 2) (.tmp 28) rfl p (sC F.1 (.slice A4 n4 c4) (.slice A5 n5 c5)) rfl rfl _ _ K7.out (sizeSn _ _ _) rfl (sC_one _ _ _ _ _ _ _) ?_))
      refine bodyPost_ret (v := .tuple #[.agg (sC F.1 (.slice A4 n4 c4) (.slice A5 n5 c5)), .int .i64 0]) (results_cell_tmp (P := Tryz.prog) Tryz.results11 _ _ p _ (sC F.1 (.slice A4 n4 c4) (.slice A5 n5 c5)) _ _ rfl HRR.out Tryz.underlying27 rfl (sizeSn _ _ _)) rfl ⟨F.1, A4, n4, c4, A5, n5, c5, ?_, ?_, ?_, HRB.out.below (by have := HGp.out; omega) (Nat.le_refl _)⟩
      · rw [HC.out]; rfl
      · intro _
        rw [HE.out, HI.out, HF.out]
        refine ⟨rfl, HN4.out, HN5.out.symm, ?_, O8.out.read encE_len⟩
        exact I8.out.its P8.out
      · intro h; exact absurd HC.out h

end Go.Proofs.YtejljikikhecnaaGreat
