/-
  A reader of tokens as a state: what is left, and the fault; Takes and Fail, said so. (*tokens.Reader).Has, One, Name: the contracts, by walks. (*tokens.Reader).One, Name: the contracts, by walks. Conditions: lengths.
-/
import Derived.Test.YtdabanocofimmaaGreatDoorJTkRd
import Derived.Test.YtdabanocofimmaaGreatDoorShelf
namespace Go.Proofs.YtdabanocofimmaaGreatDoor
open Go.RowKit

/-- A reader's state: the other cells of its block are `rest`. -/
def Rst (w0 : World) (b : Nat) (t : TypeId) (rest : List Value) (w : World) (L : List Lx.Tk) (er : Int) : Prop :=
  (∃ cs, RdAt w0.heap.size w b t cs L er ∧ cs.toList.drop 2 = rest) ∧ Below w0.heap.size w0 w
/-- It came to a state. -/
def RdTo (w0 : World) (b : Nat) (t : TypeId) (rest : List Value) (w : World) (L : List Lx.Tk) (er : Int) (w' : World) : Prop := Rst w0 b t rest w' L er ∧ But b w w'
theorem drop_set (cs : Array Value) (i : Nat) (hi : i < 2) (v : Value) : (cs.setIfInBounds i v).toList.drop 2 = cs.toList.drop 2 := by
  rw [Array.toList_setIfInBounds, List.drop_set_of_lt hi]
theorem Rst.keep {w0 w w' : World} {b : Nat} {t : TypeId} {rest : List Value} {L : List Lx.Tk} {er : Int} (h : Rst w0 b t rest w L er) (hb : Below w.heap.size w w') : RdTo w0 b t rest w L er w' := by
  obtain ⟨⟨cs, h1, h2⟩, h3⟩ := h
  exact ⟨⟨⟨cs, h1.keep hb, h2⟩, h3.trans (hb.mono h3.size)⟩, But.of_below hb⟩
theorem Rst.wok {w0 w : World} {b : Nat} {t : TypeId} {rest : List Value} {L : List Lx.Tk} {er : Int} (h : Rst w0 b t rest w L er) (hw : WOk w0) : WOk w := hw.below h.2
theorem RdTo.trans {w0 w w1 w2 : World} {b : Nat} {t : TypeId} {rest rest2 : List Value} {L L2 : List Lx.Tk} {er er2 : Int} (h : RdTo w0 b t rest w L er w1) (k : RdTo w0 b t rest2 w1 L2 er2 w2) : RdTo w0 b t rest2 w L2 er2 w2 := ⟨k.1, h.2.trans k.2⟩
theorem Rst.refl {w0 w : World} {b : Nat} {t : TypeId} {rest : List Value} {L : List Lx.Tk} {er : Int} (h : Rst w0 b t rest w L er) : RdTo w0 b t rest w L er w := ⟨h, But.refl _ _⟩
theorem Rst.of {w0 w w' : World} {b : Nat} {t : TypeId} {rest : List Value} {L L2 : List Lx.Tk} {er er2 : Int} {cs : Array Value} (h : Rst w0 b t rest w L er) (h1 : RdAt w0.heap.size w' b t cs L2 er2) (h2 : cs.toList.drop 2 = rest) (hb : But b w w') : RdTo w0 b t rest w L2 er2 w' :=
  ⟨⟨⟨cs, h1, h2⟩, h.2.trans (hb.below h1.lo h.2.size)⟩, hb⟩
/-- What Takes leaves. -/
def takeS (er : Int) (L : List Lx.Tk) (s : List UInt8) : List Lx.Tk := if tkOk er L s = true then L.tail else L
def failS (er k : Int) : Int := if er = 0 then k else er
theorem takes_st {w0 w : World} {b : Nat} {t : TypeId} {rest : List Value} {L : List Lx.Tk} {er : Int} (s : ByteArray) (h : Rst w0 b t rest w L er) (hw : WOk w0) (hL : TkSm L) :
    Calls Tryz.prog 104 #[.pointer (some ⟨b, 0, none⟩), .string s] w fun e w' => e = .returned (.bool (tkOk er L s.data.toList)) ∧ RdTo w0 b t rest w (takeS er L s.data.toList) er w' := by
  obtain ⟨cs, h1, h2⟩ := h.1
  refine (takes_any s h1 (h.wok hw) hL).mono fun e w' ⟨he, hr⟩ => ⟨he, ?_⟩
  unfold TakesR at hr
  unfold takeS
  split at hr
  · rename_i hk
    obtain ⟨v, hv, hb⟩ := hr
    rw [if_pos hk]
    exact h.of hv ((drop_set cs 0 (by omega) v).trans h2) hb
  · rename_i hk
    rw [if_neg hk]
    exact h.keep hr
theorem fail_st {w0 w : World} {b : Nat} {t : TypeId} {rest : List Value} {L : List Lx.Tk} {er : Int} (k : Int) (h : Rst w0 b t rest w L er) :
    Calls Tryz.prog 115 #[.pointer (some ⟨b, 0, none⟩), .int .i64 k] w fun e w' => e = .returned (.tuple #[]) ∧ RdTo w0 b t rest w L (failS er k) w' := by
  obtain ⟨cs, h1, h2⟩ := h.1
  refine (fail_any k h1).mono fun e w' ⟨he, hr⟩ => ⟨he, ?_⟩
  unfold FailR at hr
  unfold failS
  split at hr
  · rename_i hk
    rw [if_pos hk]
    exact h.of hr.1 ((drop_set cs 1 (by omega) _).trans h2) hr.2
  · rename_i hk
    rw [if_neg hk, hr]
    exact h.refl
/-- What Needs comes to, of one text. -/
def needE (er : Int) (L : List Lx.Tk) (s : List UInt8) : Int := if tkOk er L s = true then er else failS er 10

set_option maxRecDepth 100000 in
set_option maxHeartbeats 1500000 in
theorem needs_st {w0 w : World} {b : Nat} {t : TypeId} {rest : List Value} {L : List Lx.Tk} {er : Int} (s : ByteArray) (g o c : Nat) (h : Rst w0 b t rest w L er) (hw : WOk w0) (hL : TkSm L) (hc : w.cell? ⟨g, o, none⟩ = some (.string s)) :
    Calls Tryz.prog 125 #[.pointer (some ⟨b, 0, none⟩), .slice (some ⟨g, o, none⟩) 1 c] w fun e w' => e = .returned (.tuple #[]) ∧ RdTo w0 b t rest w (takeS er L s.data.toList) (needE er L s.data.toList) w' := by
  have HT := Lib.hid (takes_st s h hw hL)
  have HAt := Lib.hid (show (Instr.indexAt 30 (.slice (some ⟨g, o, none⟩) 1 c) (.int .i64 0)).run Tryz.prog w = .ok (.pointer (some ⟨g, o, none⟩)) w by go_simp)
  obtain ⟨k, hk⟩ : ∃ k, tkOk er L s.data.toList = k := ⟨_, rfl⟩
  obtain ⟨S, hS⟩ : ∃ S, takeS er L s.data.toList = S := ⟨_, rfl⟩
  obtain ⟨E, hE⟩ : ∃ E, needE er L s.data.toList = E := ⟨_, rfl⟩
  have HE := Lib.hid (show (if k = true then er else failS er 10) = E by rw [← hE, ← hk]; rfl)
  rw [hS, hE]
  rw [hS, hk] at HT
  have HC := Lib.hid hc
  clear hk hS hE h hw hL
  go_enter Tryz.func125, Tryz.ntmps125
  go_wp2_with fail
  go_loopw [8] (fun v8 wr => (v8 = .int .i64 0 ∧ wr = w) ∨ (v8 = .int .i64 1 ∧ RdTo w0 b t rest w S E wr)) (fun v _ => match v with | .int _ i => if i = 0 then 1 else 0 | _ => 0)
  case atStart => exact .inl ⟨rfl, rfl⟩
  case round =>
    rcases hrel with ⟨rfl, rfl⟩ | ⟨rfl, hr⟩
    · clear hc
      have c0 : wr.cell? ⟨g, o, none⟩ = some (.string s) := HC.out
      go_wp2_with (first
        | (refine wpList_val (o := ⟨some 10, _, _, _, _, _⟩) rfl (.pointer (some ⟨g, o, none⟩)) wr (run_indexAddr_op rfl rfl rfl HAt.out) ?_)
        | fail)
      refine HT.out.mono ?_
      rintro e w1 ⟨rfl, hb1⟩
      have HB1 := Lib.hid hb1
      clear hb1 c0
      cases k
      · have HFa := Lib.hid (fail_st 10 HB1.out.1)
        go_wp2_with fail
        refine HFa.out.mono ?_
        rintro e w2 ⟨rfl, hb2⟩
        have HB2 := Lib.hid (HB1.out.trans hb2)
        clear hb2
        go_wp2_with fail
        go_roundw
        case rel => exact .inr ⟨rfl, by have := HE.out; rw [if_neg (by decide)] at this; rw [← this]; exact HB2.out⟩
        case measure => decide
      · go_wp2_with fail
        go_roundw
        case rel => exact .inr ⟨rfl, by have h2 : er = E := by { have := HE.out; simpa using this }; rw [← h2]; exact HB1.out⟩
        case measure => decide
    · have HR := Lib.hid hr
      clear hr
      go_wp2_with fail
      go_end0
      exact ⟨rfl, HR.out⟩

end Go.Proofs.YtdabanocofimmaaGreatDoor

namespace Go.Proofs.YtdabanocofimmaaGreatDoor
open Go.RowKit

/-- Does a token of one of the kinds stand there? -/
def hasS (er : Int) (L : List Lx.Tk) (ks : List Int) : Bool := headB er L && (ks.contains (headT er L).1 && Lx.rightT (headT er L))
set_option maxRecDepth 100000 in
set_option maxHeartbeats 1500000 in
theorem has_any {R : Nat} {w : World} {b : Nat} {t : TypeId} {cs : Array Value} {L : List Lx.Tk} {er : Int} (ks : List Int) (g o n c : Nat) (h : RdAt R w b t cs L er) (hw : WOk w) (hL : TkSm L) (hn : ks.length = n) (hn2 : n ≤ 100) (hg : g < w.heap.size)
    (hc : ∀ j, j < ks.length → w.cell? ⟨g, o + j, none⟩ = some (.int .i64 (ks.getD j 0))) :
    Calls Tryz.prog 180 #[.pointer (some ⟨b, 0, none⟩), .slice (some ⟨g, o, none⟩) n c] w (Gives w (.bool (hasS er L ks))) := by
  obtain ⟨t0, ht0⟩ : ∃ x, headT er L = x := ⟨_, rfl⟩
  obtain ⟨q0, hq0⟩ : ∃ x, headB er L = x := ⟨_, rfl⟩
  have HN := Lib.hid (next_any h)
  rw [ht0, hq0] at HN
  have HLn := Lib.hid (show t0.2.2.length ≤ 1000000 from by rw [← ht0]; exact headT_sm hL)
  have HW := Lib.hid hw
  have HK := Lib.hid (show hasS er L ks = (q0 && (ks.contains t0.1 && Lx.rightT t0)) by unfold hasS; rw [ht0, hq0])
  have HCs := Lib.hid hc
  have HG := Lib.hid hg
  have HN2 := Lib.hid hn2
  have HNn := Lib.hid hn
  rw [HK.out]
  obtain ⟨q1, hq1⟩ : ∃ x, ks.contains t0.1 = x := ⟨_, rfl⟩
  obtain ⟨q2, hq2⟩ : ∃ x, Lx.rightT t0 = x := ⟨_, rfl⟩
  rw [hq1, hq2]
  have HQ1 := Lib.hid hq1
  have HQ2 := Lib.hid hq2
  clear h hw hL ht0 hq0 hq1 hq2 HK hc hg hn hn2
  go_enter Tryz.func180, Tryz.ntmps180
  go_wp2_with fail
  refine HN.out.mono ?_
  rintro e w1 ⟨rfl, hb1⟩
  obtain ⟨p, hp⟩ : ∃ p, w1.heap.size = p := ⟨_, rfl⟩
  obtain ⟨Z, hZ⟩ : ∃ Z, Z = w1.alloc (.cells (tkC t0) 43) := ⟨_, rfl⟩
  have hbZ : Below w.heap.size w Z := by rw [hZ]; exact hb1.alloc hb1.size _
  have HE := Lib.hid (show Blk Z p 43 (tkC t0) by rw [hZ, ← hp]; exact Blk.new w1 _ _)
  have HC := Lib.hid (Tryz.slices_Contains_int g o n c ks t0.1 Z (by have := HNn.out; omega) (by have := HN2.out; omega) (fun j hj => by
    rw [← HCs.out j hj]
    exact World.cell?_of_block (hbZ.block g HG.out)))
  have HM := Lib.hid (may_any t0 Z (HW.out.below hbZ) HLn.out)
  rw [HQ2.out] at HM
  rw [show (ks.take n).contains t0.1 = q1 by rw [List.take_of_length_le (by have := HNn.out; omega)]; exact HQ1.out] at HC
  have HB := Lib.hid hbZ
  have HZ := Lib.hid hZ
  have HP := Lib.hid hp
  clear hb1 hZ hp hbZ HQ1 HQ2 HG HCs HNn HN2
  obtain ⟨k0, n0, x0⟩ := t0
  obtain ⟨bx, hbx⟩ : ∃ b : ByteArray, (⟨x0.toArray⟩ : ByteArray) = b := ⟨_, rfl⟩
  unfold tkV at HM ⊢
  unfold tkC at *
  dsimp only at *
  rw [hbx] at HZ HE HM ⊢
  clear hbx
  go_upto_region 2 with fail
  rw [← HZ.out, HP.out]
  have c0 : Z.cell? ⟨p, 0, none⟩ = some (.int .i64 k0) := (Blk.cell HE.out 0).trans rfl
  have c1 : Z.cell? ⟨p, 1, none⟩ = some (.int .i64 n0) := (Blk.cell HE.out 1).trans rfl
  have c2 : Z.cell? ⟨p, 2, none⟩ = some (.string bx) := (Blk.cell HE.out 2).trans rfl
  cases q0
  · clear HC HM HW HN
    go_wp2_with fail
    go_ret
    exact ⟨rfl, HB.out⟩
  · clear HN HW
    go_wp2_with fail
    refine HC.out.mono ?_
    rintro e w2 ⟨rfl, rfl⟩
    cases q1
    · clear HC HM
      go_wp2_with fail
      go_ret
      exact ⟨rfl, HB.out⟩
    · clear HC
      go_wp2_with fail
      refine HM.out.mono ?_
      rintro e w3 ⟨rfl, hb3⟩
      have HB3 := Lib.hid (HB.out.trans (hb3.mono HB.out.size))
      clear hb3
      go_wp2_with fail
      go_ret
      exact ⟨rfl, HB3.out⟩

end Go.Proofs.YtdabanocofimmaaGreatDoor

namespace Go.Proofs.YtdabanocofimmaaGreatDoor
open Go.RowKit

theorem below_setRow {B k : Nat} {w w' : World} (h : Below B w w') (hk : B ≤ k) (cs : Array Value) : Below B w (w'.setRow k cs) :=
  h.trans ⟨rfl, rfl, rfl, by rw [size_setRow]; exact Nat.le_refl _, fun i hi => setRow_other w' k i cs (by omega)⟩
theorem But.setRow {g k : Nat} {w w' : World} (h : But g w w') (hk : w.heap.size ≤ k) (cs : Array Value) : But g w (w'.setRow k cs) :=
  ⟨h.os, h.tape, h.output, by rw [size_setRow]; exact h.size, fun i hi hn => by rw [setRow_other w' k i cs (by omega)]; exact h.block i hi hn⟩
theorem RdAt.frame {R : Nat} {w w' : World} {b : Nat} {t : TypeId} {cs : Array Value} {L : List Lx.Tk} {er : Int} (h : RdAt R w b t cs L er) (hR : Below R w w') (hb : w'.heap[b]? = w.heap[b]?) : RdAt R w' b t cs L er := by
  obtain ⟨A, c, h1, h2, h3⟩ := h.left
  refine ⟨hb.trans h.blk, h.lo, h.err, A, c, h1, ?_, h3⟩
  obtain ⟨A', c', e1, e2, e3⟩ := h2
  refine ⟨A', c', e1, e2, fun hne => ?_⟩
  obtain ⟨g, o, rfl, hg, hc⟩ := e3 hne
  injection e1 with e1 _ _
  have hlt := h3 g o none e1
  exact ⟨g, o, rfl, Nat.lt_of_lt_of_le hg hR.size, fun j x hj q u hu => by
    have := hc j x hj q u hu
    rw [← this]
    exact World.cell?_of_block (hR.block g hlt)⟩
theorem RdTo.setRow {w0 w w' : World} {b k : Nat} {t : TypeId} {rest rest2 : List Value} {L L2 : List Lx.Tk} {er er2 : Int} (h0 : Rst w0 b t rest w L er) (h : RdTo w0 b t rest2 w L2 er2 w') (hk : w.heap.size ≤ k) (cs : Array Value) : RdTo w0 b t rest2 w L2 er2 (w'.setRow k cs) := by
  obtain ⟨⟨⟨ds, h1, h2⟩, h3⟩, h4⟩ := h
  obtain ⟨⟨ds0, g1, _⟩, g3⟩ := h0
  have hbk : b < w.heap.size := g1.blk.lt
  have hR : w0.heap.size ≤ k := Nat.le_trans g3.size hk
  exact ⟨⟨⟨ds, h1.frame (below_setRow (Below.refl _ _) hR cs) (setRow_other w' k b cs (by omega)), h2⟩, below_setRow h3 hR cs⟩, h4.setRow hk cs⟩
/-- What One tells, and leaves. -/
def oneT (er : Int) (L : List Lx.Tk) (ks : List Int) : Lx.Tk := if hasS er L ks = true then headT er L else zTk
def oneS (er : Int) (L : List Lx.Tk) (ks : List Int) : List Lx.Tk := if hasS er L ks = true then L.tail else L
def oneE (er : Int) (L : List Lx.Tk) (ks : List Int) : Int := if hasS er L ks = true then er else failS er 10
theorem hasS_cons {er : Int} {L : List Lx.Tk} {ks : List Int} (h : hasS er L ks = true) : ∃ x r, L = x :: r ∧ headT er L = x := by
  unfold hasS headB headT at *
  by_cases her : er = 0
  · subst her
    cases L with
    | nil => simp at h
    | cons x r => exact ⟨x, r, rfl, rfl⟩
  · simp [her] at h

set_option maxRecDepth 100000 in
set_option maxHeartbeats 1500000 in
theorem one_any {w0 w : World} {b : Nat} {t : TypeId} {rest : List Value} {L : List Lx.Tk} {er : Int} (ks : List Int) (g o n c : Nat) (h : Rst w0 b t rest w L er) (hw : WOk w0) (hL : TkSm L) (hn : ks.length = n) (hn2 : n ≤ 100) (hg : g < w.heap.size)
    (hc : ∀ j, j < ks.length → w.cell? ⟨g, o + j, none⟩ = some (.int .i64 (ks.getD j 0))) :
    Calls Tryz.prog 167 #[.pointer (some ⟨b, 0, none⟩), .slice (some ⟨g, o, none⟩) n c] w fun e w' => e = .returned (tkV (oneT er L ks)) ∧ RdTo w0 b t rest w (oneS er L ks) (oneE er L ks) w' := by
  obtain ⟨p, hp⟩ : ∃ p, w.heap.size = p := ⟨_, rfl⟩
  obtain ⟨Z, hZ⟩ : ∃ Z, Z = w.alloc (.cells (tkC zTk) 43) := ⟨_, rfl⟩
  have hbZ : Below w.heap.size w Z := by rw [hZ]; exact (Below.refl _ _).alloc (Nat.le_refl _) _
  have hE : Blk Z p 43 (tkC zTk) := by rw [hZ, ← hp]; exact Blk.new w _ _
  have hz := (zero_of_info (show (Tryz.prog.info? 43).map (fun i => (i.zero, i.size)) = some (some (.agg (tkC zTk)), 3) by kernel_rfl)).1
  have hk := (h.keep hbZ).1
  obtain ⟨⟨cs, h1, h2⟩, h3⟩ := hk
  have HH := Lib.hid (has_any ks g o n c h1 (hw.below h3) hL hn hn2 (Nat.lt_of_lt_of_le hg hbZ.size) (fun j hj => by
    rw [← hc j hj]
    exact World.cell?_of_block (hbZ.block g hg)))
  have HK := Lib.hid (h.keep hbZ)
  have H0 := Lib.hid h
  have HE := Lib.hid hE
  have HZ := Lib.hid hZ
  have HP := Lib.hid hp
  have HbZ := Lib.hid hbZ
  obtain ⟨q, hq⟩ : ∃ q, hasS er L ks = q := ⟨_, rfl⟩
  cases q
  · have HV := Lib.hid (show tkV (oneT er L ks) = .agg (tkC zTk) by unfold oneT; rw [if_neg (by rw [hq]; decide)]; rfl)
    have HS := Lib.hid (show oneS er L ks = L by unfold oneS; rw [if_neg (by rw [hq]; decide)])
    have HEr := Lib.hid (show oneE er L ks = failS er 10 by unfold oneE; rw [if_neg (by rw [hq]; decide)])
    rw [HV.out, HS.out, HEr.out]
    rw [hq] at HH
    clear h hw hL hn hn2 hg hc hp hZ hbZ hE h1 h2 h3 hq
    go_enter Tryz.func167, Tryz.ntmps167
    go_upto_region 1 with fail
    rw [← HZ.out, HP.out]
    clear hz
    go_wp2_with fail
    refine HH.out.mono ?_
    rintro e w1 ⟨rfl, hb1⟩
    have HK1 := Lib.hid (HK.out.trans (HK.out.1.keep hb1))
    have HE1 := Lib.hid (HE.out.below hb1 HE.out.lt)
    have HFa := Lib.hid (fail_st 10 HK1.out.1)
    clear hb1
    go_wp2_with fail
    refine HFa.out.mono ?_
    rintro e w2 ⟨rfl, hb2⟩
    have HK2 := Lib.hid (HK1.out.trans hb2)
    have HNe := Lib.hid (show p ≠ b by
      obtain ⟨⟨ds0, g1, _⟩, _⟩ := H0.out
      have := g1.blk.lt
      have := HP.out
      omega)
    have HE2 := Lib.hid (show Blk w2 p 43 (tkC zTk) from hb2.2.blk HE1.out HNe.out)
    clear hb2
    go_wp2_with (first
      | (refine wpList_build (o := ⟨some 12, _, _, _, _, _⟩) rfl _ _ rfl rfl ?_)
      | (refine wpList_store_row (o := ⟨none, _, _, _, _, _⟩) rfl 43 (.tmp 4) (.tmp 12) rfl p (tkC zTk) rfl rfl _ _ HE2.out (sizeT zTk) rfl (tkC_one _) ?_)
      | fail)
    (try simp only [Exit.inBlock, Exit.then])
    refine bodyPost_ret (ret_cell1 rfl _ _ p _ (tkC zTk) _ rfl (setRow_heap w2 p (tkC zTk) (tkC zTk) _ _ HE2.out) Tryz.underlying43 rfl (sizeT zTk)) rfl ?_
    exact ⟨rfl, HK2.out.setRow H0.out (by rw [HP.out]; exact Nat.le_refl _) _⟩
  · obtain ⟨x, r, hxr, hhx⟩ := hasS_cons hq
    have HV := Lib.hid (show tkV (oneT er L ks) = .agg (tkC x) by unfold oneT; rw [if_pos hq, hhx]; rfl)
    have HS := Lib.hid (show oneS er L ks = r by unfold oneS; rw [if_pos hq, hxr]; rfl)
    have HEr := Lib.hid (show oneE er L ks = er by unfold oneE; rw [if_pos hq])
    rw [HV.out, HS.out, HEr.out]
    rw [hq] at HH
    have HL := Lib.hid hxr
    clear h hw hL hn hn2 hg hc hp hZ hbZ hE h1 h2 h3 hq hhx hxr
    go_enter Tryz.func167, Tryz.ntmps167
    go_upto_region 1 with fail
    rw [← HZ.out, HP.out]
    clear hz
    go_wp2_with fail
    refine HH.out.mono ?_
    rintro e w1 ⟨rfl, hb1⟩
    have hK1 := HK.out.trans (HK.out.1.keep hb1)
    have HE1 := Lib.hid (HE.out.below hb1 HE.out.lt)
    obtain ⟨⟨⟨ds, g1, g2⟩, g3⟩, g4⟩ := hK1
    obtain ⟨A, c', d0, hsl, _⟩ := g1.left
    rw [HL.out] at d0 hsl
    have c0 : w1.cell? ⟨b, 0, none⟩ = some (.slice A (x :: r).length c') := (Blk.cell g1.blk 0).trans d0
    obtain ⟨gg, oo, rfl, hgg, hce⟩ := hsl.tk (j := 0) rfl
    have hce' : w1.rangeAt gg oo (encT x) := by have := hce; rwa [Nat.zero_mul, Nat.add_zero] at this
    have d1 : w1.cell? ⟨gg, oo, none⟩ = some (.int .i64 x.1) := hce' 0 _ rfl
    have d2 : w1.cell? ⟨gg, oo + 1, none⟩ = some (.int .i64 x.2.1) := hce' 1 _ rfl
    have d3 : w1.cell? ⟨gg, oo + 2, none⟩ = some (.string ⟨x.2.2.toArray⟩) := hce' 2 _ rfl
    obtain ⟨nn, hnn⟩ : ∃ n, (x :: r).length = n := ⟨_, rfl⟩
    have hnp : 0 < nn := by rw [← hnn]; exact Nat.succ_pos _
    rw [hnn] at c0
    have HAt := Lib.hid (at_T0 gg oo c' nn hnp w1)
    obtain ⟨p5, hp5⟩ : ∃ p, w1.heap.size = p := ⟨_, rfl⟩
    obtain ⟨X, hX⟩ : ∃ X, X = w1.alloc (.cells #[.int .i64 x.1, .int .i64 x.2.1, .string ⟨x.2.2.toArray⟩] 43) := ⟨_, rfl⟩
    have hbX : Below w1.heap.size w1 X := by rw [hX]; exact (Below.refl _ _).alloc (Nat.le_refl _) _
    have hE5 : Blk X p5 43 (tkC x) := by rw [hX, ← hp5]; exact Blk.new w1 _ _
    have g1X := g1.keep hbX
    have hKX : RdTo w0 b t rest w L er X := RdTo.trans ⟨⟨⟨ds, g1, g2⟩, g3⟩, g4⟩ (Rst.keep ⟨⟨ds, g1, g2⟩, g3⟩ hbX)
    have d0X : ds[0]? = some (.slice (some ⟨gg, oo, none⟩) L.length c') := by rw [HL.out]; exact d0
    have hLn : L.length = nn := by rw [HL.out]; exact hnn
    have hNx := g1X.next (w0 := X) (Below.refl _ _) d0X (by rw [hLn]; exact hnp)
    rw [hLn] at hNx
    have HSl := Lib.hid (run_sliceK_lo (P := Tryz.prog) (k := 3) X 25 43 (by kernel_rfl) (by kernel_rfl) (some ⟨gg, oo, none⟩) nn c' 1 hnp)
    have HTo := Lib.hid (show RdTo w0 b t rest w r er (X.setCell ⟨b, 0, none⟩ (.slice (slK (some ⟨gg, oo, none⟩) c' 1 3) (nn - 1) (c' - 1))) by
      obtain ⟨v, hv, hb⟩ := hNx
      rw [show L.tail = r by rw [HL.out]; rfl] at hv
      exact hKX.trans (hKX.1.of hv ((drop_set ds 0 (by omega) v).trans g2) hb))
    have c0X : X.cell? ⟨b, 0, none⟩ = some (.slice (some ⟨gg, oo, none⟩) nn c') := by rw [← hLn]; exact (Blk.cell g1X.blk 0).trans d0X
    have HFb := Lib.hid (Blk.free g1X.blk 0)
    have hpb : p ≠ b := by
      obtain ⟨⟨ds0, k1, _⟩, _⟩ := H0.out
      have := k1.blk.lt
      have := HP.out
      omega
    have h5b : p5 ≠ b := by
      have := g1.blk.lt
      omega
    obtain ⟨Y, hY⟩ : ∃ Y, Y = X.setCell ⟨b, 0, none⟩ (.slice (slK (some ⟨gg, oo, none⟩) c' 1 3) (nn - 1) (c' - 1)) := ⟨_, rfl⟩
    rw [← hY] at HTo
    have hBY : But b X Y := by rw [hY]; exact But.setCell X b 0 _
    have HE5 := Lib.hid (show Blk Y p5 43 (tkC x) from hBY.blk hE5 h5b)
    have HE2 := Lib.hid (show Blk Y p 43 (tkC zTk) from hBY.blk (HE1.out.below hbX HE1.out.lt) hpb)
    have HX := Lib.hid hX
    have HY := Lib.hid hY
    have HP5 := Lib.hid hp5
    have f0 := HFb.out
    clear hb1 g1 g2 g3 g4 d0 hsl hce hce' hgg hnn hp5 hX hbX hE5 g1X hKX d0X hLn hNx hpb h5b hY hBY HK HH HE1
    go_upto_region 5 with (first
      | (refine wpList_val (o := ⟨some 17, _, _, _, _, _⟩) rfl (.pointer (some ⟨gg, oo, none⟩)) w1 (run_indexAddr_op rfl rfl rfl HAt.out) ?_)
      | fail)
    rw [← HX.out, HP5.out]
    clear c0 d1 d2 d3
    go_upto_region 6 with (first
      | (refine wpList_val (o := ⟨some 24, _, _, _, _, _⟩) rfl (.slice (slK (some ⟨gg, oo, none⟩) c' 1 3) (nn - 1) (c' - 1)) X (run_sllo_op rfl rfl rfl HSl.out) ?_)
      | fail)
    rw [← HY.out]
    clear f0 c0X
    go_wp2_with (first
      | (refine wpList_load_row (o := ⟨some 27, _, _, _, _, _⟩) rfl 43 (.tmp 5) rfl p5 rfl _ (tkC x) _ _ HE5.out Tryz.underlying43 rfl (sizeT x) ?_)
      | (refine wpList_store_row (o := ⟨none, _, _, _, _, _⟩) rfl 43 (.tmp 4) (.tmp 27) rfl p (tkC x) rfl rfl _ _ HE2.out (sizeT x) rfl (tkC_one _) ?_)
      | fail)
    (try simp only [Exit.inBlock, Exit.then])
    refine bodyPost_ret (ret_cell1 rfl _ _ p _ (tkC x) _ rfl (setRow_heap Y p (tkC zTk) (tkC x) _ _ HE2.out) Tryz.underlying43 rfl (sizeT x)) rfl ?_
    exact ⟨rfl, HTo.out.setRow H0.out (by rw [HP.out]; exact Nat.le_refl _) _⟩

end Go.Proofs.YtdabanocofimmaaGreatDoor
