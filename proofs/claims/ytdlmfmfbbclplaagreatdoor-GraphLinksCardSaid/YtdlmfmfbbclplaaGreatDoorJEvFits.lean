/-
  event.settable, fits, Change: the contracts, by walks. event.Of, Make, Right: the contracts, by walks. event.Right: the contract, by a walk. Conditions: lengths.
-/
import Derived.Test.YtdlmfmfbbclplaaGreatDoorJValRefLink
import Derived.Handy
namespace Go.Proofs.YtdlmfmfbbclplaaGreatDoor
open Go.RowKit

theorem right_is (k n : Int) (s : ByteArray) (hs : s.size ≤ 9223372036854775807) (h5 : k ≠ 5) (b : Bool) (h : rightB k n s.data.toList = b) (w : World) (hw : CutOk w) : Calls Tryz.prog 85 #[valV k n s] w (Gives w (.bool b)) := by
  have := right_wide k n s w hs (fun e => absurd e h5) hw; rwa [h] at this

set_option maxRecDepth 100000 in
set_option maxHeartbeats 1000000 in
theorem settable_any (k n : Int) (s : ByteArray) (w : World) (hs : s.size ≤ 9223372036854775807) (hw : CutOk w) : Calls Tryz.prog 127 #[valV k n s] w (Gives w (.bool (setB k n s.data.toList))) := by
  have HR := Lib.hid (fun h5 b h w => right_is k n s hs h5 b h w)
  have HE : Hid (setB k n s.data.toList = (decide (1 ≤ k ∧ k ≤ 3) && rightB k n s.data.toList)) := Lib.hid rfl
  have HW := Lib.hid (hw.alloc (.cells #[.int .i64 k, .int .i64 n, .string s] 43))
  have HY := Lib.hid ((Below.refl w.heap.size w).alloc (Nat.le_refl _) (.cells #[.int .i64 k, .int .i64 n, .string s] 43))
  clear hs hw
  unfold valV at *
  by_cases hk : 1 ≤ k ∧ k ≤ 3
  · rw [decide_eq_true hk, Bool.true_and] at HE
    have h3 : k = 1 ∨ k = 2 ∨ k = 3 := by omega
    clear hk
    rcases h3 with rfl | rfl | rfl
    all_goals
      go_enter Tryz.func127, Tryz.ntmps127
      go_wp2_with fail
      refine (HR.out (by decide) _ rfl _ HW.out).mono ?_
      rintro e w1 ⟨rfl, hb⟩
      have HZ := Lib.hid (HY.out.trans (hb.mono HY.out.size))
      clear hb
      go_wp2
      go_ret
      exact ⟨by rw [HE.out]; rfl, HZ.out⟩
  · have g1 : (k == 1) = false := beq_eq_false_iff_ne.2 (by omega)
    have g2 : (k == 2) = false := beq_eq_false_iff_ne.2 (by omega)
    have g3 : (k == 3) = false := beq_eq_false_iff_ne.2 (by omega)
    rw [decide_eq_false hk, Bool.false_and] at HE
    clear hk HR
    go_enter Tryz.func127, Tryz.ntmps127
    go_wp2
    go_ret
    exact ⟨by rw [HE.out]; rfl, HY.out⟩
theorem settable_is (k n : Int) (s : ByteArray) (hs : s.size ≤ 9223372036854775807) (b : Bool) (h : setB k n s.data.toList = b) (w : World) (hw : CutOk w) : Calls Tryz.prog 127 #[valV k n s] w (Gives w (.bool b)) := by
  have := settable_any k n s w hs hw; rwa [h] at this

set_option maxRecDepth 100000 in
set_option maxHeartbeats 4000000 in
theorem fits_any (e : Ev) (w : World) (hs : e.t.size ≤ 9223372036854775807) (hw : CutOk w) : Calls Tryz.prog 93 #[chV e] w (Gives w (.bool (fitsB e.op e.ek e.vk e.vn e.t.data.toList))) := by
  obtain ⟨r, c, p, op, ek, a, b, cc, d, vk, vn, t⟩ := e
  show Calls Tryz.prog 93 #[.agg #[.int .i64 op, .int .i64 ek, .string a, .string b, .string cc, .string d, .int .i64 vk, .int .i64 vn, .string t]] w (Gives w (.bool (fitsB op ek vk vn t.data.toList)))
  dsimp only at hs
  have HS := Lib.hid (fun b h w => settable_is vk vn t hs b h w)
  have hq := fun w => eq_none vk vn t w
  have HW := Lib.hid (hw.alloc (.cells #[.int .i64 op, .int .i64 ek, .string a, .string b, .string cc, .string d, .int .i64 vk, .int .i64 vn, .string t] 106))
  have HY := Lib.hid ((Below.refl w.heap.size w).alloc (Nat.le_refl _) (.cells #[.int .i64 op, .int .i64 ek, .string a, .string b, .string cc, .string d, .int .i64 vk, .int .i64 vn, .string t] 106))
  have HE : Hid (fitsB op ek vk vn t.data.toList = if op = 1 ∨ op = 2 then !valdB ek && noneB vk vn t.data.toList else if op = 3 then valdB ek && setB vk vn t.data.toList else if op = 4 then valdB ek && noneB vk vn t.data.toList else false) := Lib.hid rfl
  have HV : Hid (valdB ek = (ek == 4 || ek == 5)) := Lib.hid rfl
  clear hs hw
  unfold valV at *
  generalize noneB vk vn t.data.toList = nb at *
  have hgd := fun (x y : Operand) (a b : Array Value) (w : World) => guard_agg 43 (by kernel_rfl) x y a b w
  cases g4 : (ek == 4)
  all_goals cases g5 : (ek == 5)
  all_goals
    rw [g4, g5] at HV
    by_cases o1 : op = 1
    · subst o1
      rw [if_pos (Or.inl rfl), HV.out] at HE
      clear HS
      go_enter Tryz.func93, Tryz.ntmps93
      go_wp2
      go_ret
      exact ⟨by rw [HE.out]; rfl, HY.out⟩
    · by_cases o2 : op = 2
      · subst o2
        rw [if_pos (Or.inr rfl), HV.out] at HE
        clear HS o1
        go_enter Tryz.func93, Tryz.ntmps93
        go_wp2
        go_ret
        exact ⟨by rw [HE.out]; rfl, HY.out⟩
      · by_cases o3 : op = 3
        · subst o3
          rw [if_neg (by omega), if_pos rfl, HV.out] at HE
          clear o1 o2
          first
            | (go_enter Tryz.func93, Tryz.ntmps93
               go_wp2_with fail
               refine (HS.out _ rfl _ HW.out).mono ?_
               rintro e w1 ⟨rfl, hb⟩
               have HZ := Lib.hid (HY.out.trans (hb.mono HY.out.size))
               clear hb
               go_wp2
               go_ret
               exact ⟨by rw [HE.out]; rfl, HZ.out⟩)
            | (go_enter Tryz.func93, Tryz.ntmps93
               go_wp2
               go_ret
               exact ⟨by rw [HE.out]; rfl, HY.out⟩)
        · by_cases o4 : op = 4
          · subst o4
            rw [if_neg (by omega), if_neg (by omega), if_pos rfl, HV.out] at HE
            clear HS o1 o2 o3
            go_enter Tryz.func93, Tryz.ntmps93
            go_wp2
            go_ret
            exact ⟨by rw [HE.out]; rfl, HY.out⟩
          · rw [if_neg (by omega), if_neg o3, if_neg o4] at HE
            have b1 : (op == 1) = false := beq_eq_false_iff_ne.2 o1
            have b2 : (op == 2) = false := beq_eq_false_iff_ne.2 o2
            have b3 : (op == 3) = false := beq_eq_false_iff_ne.2 o3
            have b4 : (op == 4) = false := beq_eq_false_iff_ne.2 o4
            clear HS o1 o2 o3 o4
            go_enter Tryz.func93, Tryz.ntmps93
            go_wp2
            go_ret
            exact ⟨by rw [HE.out]; rfl, HY.out⟩

theorem fits_is (e : Ev) (hs : e.t.size ≤ 9223372036854775807) (b : Bool) (h : fitsB e.op e.ek e.vk e.vn e.t.data.toList = b) (w : World) (hw : CutOk w) : Calls Tryz.prog 93 #[chV e] w (Gives w (.bool b)) := by
  have := fits_any e w hs hw; rwa [h] at this
theorem elem_is (k : Int) (a b c d : ByteArray) (ha : a.size ≤ 9223372036854775807) (hb : b.size ≤ 9223372036854775807) (hc : c.size ≤ 9223372036854775807) (hd : d.size ≤ 9223372036854775807) (q : Bool) (h : elemB k a.data.toList b.data.toList c.data.toList d.data.toList = q) (w : World) :
    Calls Tryz.prog 92 #[elV k a b c d] w (Gives w (.bool q)) := by
  have := elem_any k a b c d w ha hb hc hd; rwa [h] at this
/-- Texts that are not too long. -/
def Lens (e : Ev) : Prop := e.a.size ≤ 4294967280 ∧ e.b.size ≤ 4294967280 ∧ e.cc.size ≤ 4294967280 ∧ e.d.size ≤ 4294967280 ∧ e.t.size ≤ 4294967280

set_option maxRecDepth 100000 in
set_option maxHeartbeats 2000000 in
theorem change_wide (e : Ev) (w : World) (l1 : e.a.size ≤ 4294967280) (l2 : e.b.size ≤ 4294967280) (l3 : e.cc.size ≤ 4294967280) (l4 : e.d.size ≤ 4294967280) (l5 : e.t.size ≤ 9223372036854775807) (hw : CutOk w) : Calls Tryz.prog 67 #[chV e] w (Gives w (.int .i64 (codeI (changeB e)))) := by
  have HEl := Lib.hid (elem_is e.ek e.a e.b e.cc e.d (by omega) (by omega) (by omega) (by omega))
  have HFi := Lib.hid (fits_is e (by omega))
  have HW := Lib.hid (hw.alloc (.cells (chC e) 106))
  have HX := Lib.hid (Blk.new w 106 (chC e))
  have HY := Lib.hid ((Below.refl w.heap.size w).alloc (Nat.le_refl _) (.cells (chC e) 106))
  have HC : Hid (changeB e = (elemB e.ek e.a.data.toList e.b.data.toList e.cc.data.toList e.d.data.toList && fitsB e.op e.ek e.vk e.vn e.t.data.toList)) := Lib.hid rfl
  clear l1 l2 l3 l4 l5 hw
  unfold chV at *
  cases h1 : elemB e.ek e.a.data.toList e.b.data.toList e.cc.data.toList e.d.data.toList
  · rw [h1] at HC
    have HEl' := Lib.hid (HEl.out _ h1)
    clear HEl h1 HFi
    unfold chC at *
    unfold elV at *
    go_enter Tryz.func67, Tryz.ntmps67
    go_wp2_with fail
    refine (HEl'.out _).mono ?_
    rintro e w1 ⟨rfl, hb⟩
    have HZ := Lib.hid (HY.out.trans (hb.mono HY.out.size))
    clear hb
    go_wp2
    go_ret
    exact ⟨by rw [HC.out]; rfl, HZ.out⟩
  · rw [h1] at HC
    have HEl' := Lib.hid (HEl.out _ h1)
    clear HEl h1
    cases h2 : fitsB e.op e.ek e.vk e.vn e.t.data.toList
    all_goals
      rw [h2] at HC
      have HFi' := Lib.hid (HFi.out _ h2)
      clear HFi h2
      unfold chC at *
      unfold elV at *
      go_enter Tryz.func67, Tryz.ntmps67
      go_wp2_with fail
      refine (HEl'.out _).mono ?_
      rintro e w1 ⟨rfl, hb⟩
      have HZ := Lib.hid (HY.out.trans (hb.mono HY.out.size))
      have HX1 := Lib.hid (Blk.below HX.out hb (Blk.lt HX.out))
      have HW1 := Lib.hid (HW.out.below hb)
      clear hb
      go_wp2_with (refine wpList_load_if rfl 106 (.tmp 1) rfl w.heap.size rfl _ _ _ _ HX1.out Tryz.underlying106 rfl (by kernel_rfl) ?_)
      refine (HFi'.out _ HW1.out).mono ?_
      rintro e w2 ⟨rfl, hb⟩
      have HZ2 := Lib.hid (HZ.out.trans (hb.mono HZ.out.size))
      clear hb
      go_wp2
      go_ret
      exact ⟨by rw [HC.out]; rfl, HZ2.out⟩

theorem change_any (e : Ev) (w : World) (hl : Lens e) (hw : CutOk w) : Calls Tryz.prog 67 #[chV e] w (Gives w (.int .i64 (codeI (changeB e)))) := change_wide e w hl.1 hl.2.1 hl.2.2.1 hl.2.2.2.1 (by have := hl.2.2.2.2; omega) hw

end Go.Proofs.YtdlmfmfbbclplaaGreatDoor

namespace Go.Proofs.YtdlmfmfbbclplaaGreatDoor
open Go.RowKit

/-- The event of nothing. -/
def ev0 : Ev := ⟨0, 0, fun _ => 0, 0, 0, ⟨#[]⟩, ⟨#[]⟩, ⟨#[]⟩, ⟨#[]⟩, 0, 0, ⟨#[]⟩⟩
theorem zeroE : (Tryz.prog.info? 60).map (fun i => (i.zero, i.size)) = some (some (.agg (evC ev0)), 27) := by kernel_rfl
theorem zeroC : (Tryz.prog.info? 106).map (fun i => (i.zero, i.size)) = some (some (.agg (chC ev0)), 9) := by kernel_rfl
theorem sizeE (e : Ev) : (Tryz.prog.info? 60).map (·.size) = some (evC e).size := (zero_of_info zeroE).2
theorem sizeC (e : Ev) : (Tryz.prog.info? 106).map (·.size) = some (chC e).size := (zero_of_info zeroC).2
theorem chC_one (e : Ev) : (chC e).all (·.oneCell') = true := by simp [chC, Value.oneCell']
/-- An event's block. -/
def EB (w : World) (g : Nat) (e : Ev) : Prop := Blk w g 60 (evC e)
theorem EB.past {w : World} {g : Nat} {e : Ev} (h : EB w g e) : w.rangeAt g 2 (vA e.p).toList := World.rangeAt_of_block (C := evC e) h 2 16
theorem EB.dot {w : World} {g : Nat} {e : Ev} (h : EB w g e) : w.rangeAt g 0 [.int .i64 e.r, .int .i64 e.c] := World.rangeAt_of_block (C := evC e) h 0 2
theorem EB.elem {w : World} {g : Nat} {e : Ev} (h : EB w g e) : w.rangeAt g 19 [.int .i64 e.ek, .string e.a, .string e.b, .string e.cc, .string e.d] := World.rangeAt_of_block (C := evC e) h 19 5
theorem EB.value {w : World} {g : Nat} {e : Ev} (h : EB w g e) : w.rangeAt g 24 [.int .i64 e.vk, .int .i64 e.vn, .string e.t] := World.rangeAt_of_block (C := evC e) h 24 3
theorem EB.opc {w : World} {g : Nat} {e : Ev} (h : EB w g e) : w.cell? ⟨g, 18, none⟩ = some (.int .i64 e.op) := (Blk.cell h 18).trans rfl
theorem EB.keep {w w' : World} {g : Nat} {e : Ev} (h : EB w g e) (hb : Below w.heap.size w w') : EB w' g e := Blk.below h hb (Blk.lt h)
theorem EB.new_ (w : World) (e : Ev) : EB (w.alloc (.cells (evC e) 60)) w.heap.size e := Blk.new w _ _
theorem setRow_blk (w : World) (g : Nat) (t : TypeId) (c c' : Array Value) (h : Blk w g t c) : Blk (w.setRow g c') g t c' := by
  unfold Blk at *
  simp only [World.setRow]
  rw [Array.getElem?_modify, if_pos rfl, h]; rfl
/-- An operation whose run is known. -/
theorem wpList_val {P : Program} {ops : Array Oper} {rest : List Oper} {o : Oper} {a : Act} {w : World} {Q : Exit → Act → World → Prop} (hw : Region.wanted o (yielded ops a.tmps) = true) (v : Value) (w' : World)
    (hr : (execOp a.eval o).run P w = .ok (.value v) w') (h : wpList P ops Q rest (a.put o.dst v) w') : wpList P ops Q (o :: rest) a w :=
  wpList_step fun K hK => by
    rw [if_pos hw]
    unfold Oper.wp
    rw [hr]
    exact hK _ _ h

set_option maxRecDepth 100000 in
set_option maxHeartbeats 400000 in
theorem eof_any (e : Ev) (w : World) : Calls Tryz.prog 68 #[evV e] w (Gives w (chV e)) := by
  have hz := (zero_of_info zeroC).1
  have hx : EB ((w.alloc (.cells (evC e) 60)).alloc (.cells (chC ev0) 106)) w.heap.size e := (EB.new_ w e).keep ((Below.refl _ _).alloc (Nat.le_refl _) _)
  have hy : Blk ((w.alloc (.cells (evC e) 60)).alloc (.cells (chC ev0) 106)) (w.heap.size + 1) 106 (chC ev0) := by
    have := Blk.new (w.alloc (.cells (evC e) 60)) 106 (chC ev0)
    simpa using this
  have hb : Below w.heap.size w ((w.alloc (.cells (evC e) 60)).alloc (.cells (chC ev0) 106)) := ((Below.refl _ _).alloc (Nat.le_refl _) _).alloc (by simp) _
  have hc := hx.opc
  unfold evV chV
  obtain ⟨X, hX⟩ : ∃ X, X = (w.alloc (.cells (evC e) 60)).alloc (.cells (chC ev0) 106) := ⟨_, rfl⟩
  rw [← hX] at hx hy hb hc
  have HX := Lib.hid hX
  have K := Lib.hid hx
  have HR := Lib.hid (setRow_blk X (w.heap.size + 1) _ _ (chC e) hy)
  have KY := Lib.hid hy
  have HB := Lib.hid (hb.trans (setRow_below X (w.heap.size + 1) w.heap.size (chC e) (by omega)))
  clear hx hy hb hX
  go_enter Tryz.func68, Tryz.ntmps68
  go_upto_region 1 with fail
  rw [← HX.out]
  go_wp2_with (first
    | (refine wpList_load_midif rfl 38 (.tmp 5) rfl w.heap.size 19 rfl _ _ K.out.elem Tryz.underlying38 rfl (by kernel_rfl) ?_)
    | (refine wpList_load_midif rfl 43 (.tmp 7) rfl w.heap.size 24 rfl _ _ K.out.value Tryz.underlying43 rfl (by kernel_rfl) ?_)
    | (refine wpList_val (o := ⟨some 9, _, _, _, _, _⟩) rfl (.agg (chC e)) X (by kernel_rfl) ?_)
    | (refine wpList_store_row rfl 106 (.tmp 2) (.tmp 9) rfl (w.heap.size + 1) (chC e) rfl rfl _ _ KY.out (sizeC _) rfl (chC_one _) ?_))
  exact bodyPost_ret (v := .agg (chC e)) (results_cell_row (P := Tryz.prog) Tryz.results68 _ _ (w.heap.size + 1) _ (chC e) _ _ rfl HR.out Tryz.underlying106 rfl (sizeC _)) rfl ⟨rfl, HB.out⟩

end Go.Proofs.YtdlmfmfbbclplaaGreatDoor

namespace Go.Proofs.YtdlmfmfbbclplaaGreatDoor
open Go.RowKit

theorem vnext_is (f : Nat → Int) (r c : Int) (b : Bool) (h : nextB f r c = b) (w : World) : Calls Tryz.prog 65 #[.agg (vA f), dv r c] w (Gives w (.bool b)) := by
  have := next_any f r c w; rwa [h] at this
theorem vright_is (f : Nat → Int) (b : Bool) (h : rightV f = b) (w : World) : Calls Tryz.prog 66 #[.agg (vA f)] w (Gives w (.bool b)) := by
  have := vright_any f w; rwa [h] at this

set_option maxRecDepth 100000 in
set_option maxHeartbeats 600000 in
theorem eright_any (e : Ev) (w : World) (hl : Lens e) (hw : CutOk w) : Calls Tryz.prog 52 #[evV e] w (Gives w (.int .i64 (codeI (okB e)))) := by
  have HL := Lib.hid hl
  have HN := Lib.hid (vnext_is e.p e.r e.c)
  have HR := Lib.hid (vright_is e.p)
  have HC : Hid (okB e = (nextB e.p e.r e.c && rightV e.p && changeB e)) := Lib.hid rfl
  obtain ⟨X, hX⟩ : ∃ X, X = w.alloc (.cells (evC e) 60) := ⟨_, rfl⟩
  have HX := Lib.hid hX
  have hk : EB X w.heap.size e := by rw [hX]; exact EB.new_ w e
  have hy : Below w.heap.size w X := by rw [hX]; exact (Below.refl _ _).alloc (Nat.le_refl _) _
  have hww : CutOk X := by rw [hX]; exact hw.alloc _
  have K := Lib.hid hk
  have HY := Lib.hid hy
  have HW := Lib.hid hww
  clear hX hk hy hww hl hw
  unfold evV
  cases h1 : nextB e.p e.r e.c
  · rw [h1] at HC
    have HN' := Lib.hid (HN.out _ h1)
    clear HN HR h1
    go_enter Tryz.func52, Tryz.ntmps52
    go_upto_region 1 with fail
    rw [← HX.out]
    go_wp2_with (first | (refine wpList_load_midif rfl 26 (.tmp 3) rfl w.heap.size 2 rfl _ _ K.out.past Tryz.underlying26 rfl (by kernel_rfl) ?_) | (refine wpList_load_midif rfl 58 (.tmp 5) rfl w.heap.size 0 rfl _ _ K.out.dot Tryz.underlying58 rfl (by kernel_rfl) ?_) | (refine wpList_load_midif rfl 26 (.tmp 10) rfl w.heap.size 2 rfl _ _ K.out.past Tryz.underlying26 rfl (by kernel_rfl) ?_) | (refine wpList_load_if rfl 60 (.tmp 15) rfl w.heap.size rfl _ _ _ _ K.out Tryz.underlying60 rfl (sizeE _) ?_) | (refine wpList_load_if rfl 60 (.tmp 1) rfl w.heap.size rfl _ _ _ _ K.out Tryz.underlying60 rfl (sizeE _) ?_))
    refine (HN'.out _).mono ?_
    rintro e' w1 ⟨rfl, hb⟩
    have K1 := Lib.hid (EB.keep K.out hb)
    have Y1 := Lib.hid (HY.out.trans (hb.mono HY.out.size))
    have HW1 := Lib.hid (CutOk.below HW.out hb)
    clear hb K HY HW
    go_wp2
    go_ret
    exact ⟨by rw [HC.out]; rfl, Y1.out⟩
  · rw [h1] at HC
    have HN' := Lib.hid (HN.out _ h1)
    clear HN h1
    cases h2 : rightV e.p
    · rw [h2] at HC
      have HR' := Lib.hid (HR.out _ h2)
      clear HR h2
      go_enter Tryz.func52, Tryz.ntmps52
      go_upto_region 1 with fail
      rw [← HX.out]
      go_wp2_with (first | (refine wpList_load_midif rfl 26 (.tmp 3) rfl w.heap.size 2 rfl _ _ K.out.past Tryz.underlying26 rfl (by kernel_rfl) ?_) | (refine wpList_load_midif rfl 58 (.tmp 5) rfl w.heap.size 0 rfl _ _ K.out.dot Tryz.underlying58 rfl (by kernel_rfl) ?_) | (refine wpList_load_midif rfl 26 (.tmp 10) rfl w.heap.size 2 rfl _ _ K.out.past Tryz.underlying26 rfl (by kernel_rfl) ?_) | (refine wpList_load_if rfl 60 (.tmp 15) rfl w.heap.size rfl _ _ _ _ K.out Tryz.underlying60 rfl (sizeE _) ?_) | (refine wpList_load_if rfl 60 (.tmp 1) rfl w.heap.size rfl _ _ _ _ K.out Tryz.underlying60 rfl (sizeE _) ?_))
      refine (HN'.out _).mono ?_
      rintro e' w1 ⟨rfl, hb⟩
      have K1 := Lib.hid (EB.keep K.out hb)
      have Y1 := Lib.hid (HY.out.trans (hb.mono HY.out.size))
      have HW1 := Lib.hid (CutOk.below HW.out hb)
      clear hb K HY HW
      go_wp2_with (first | (refine wpList_load_midif rfl 26 (.tmp 3) rfl w.heap.size 2 rfl _ _ K1.out.past Tryz.underlying26 rfl (by kernel_rfl) ?_) | (refine wpList_load_midif rfl 58 (.tmp 5) rfl w.heap.size 0 rfl _ _ K1.out.dot Tryz.underlying58 rfl (by kernel_rfl) ?_) | (refine wpList_load_midif rfl 26 (.tmp 10) rfl w.heap.size 2 rfl _ _ K1.out.past Tryz.underlying26 rfl (by kernel_rfl) ?_) | (refine wpList_load_if rfl 60 (.tmp 15) rfl w.heap.size rfl _ _ _ _ K1.out Tryz.underlying60 rfl (sizeE _) ?_) | (refine wpList_load_if rfl 60 (.tmp 1) rfl w.heap.size rfl _ _ _ _ K1.out Tryz.underlying60 rfl (sizeE _) ?_))
      refine (HR'.out _).mono ?_
      rintro e' w2 ⟨rfl, hb⟩
      have K2 := Lib.hid (EB.keep K1.out hb)
      have Y2 := Lib.hid (Y1.out.trans (hb.mono Y1.out.size))
      have HW2 := Lib.hid (CutOk.below HW1.out hb)
      clear hb K1 Y1 HW1
      go_wp2
      go_ret
      exact ⟨by rw [HC.out]; rfl, Y2.out⟩
    · rw [h2, Bool.true_and, Bool.true_and] at HC
      have HR' := Lib.hid (HR.out _ h2)
      clear HR h2
      go_enter Tryz.func52, Tryz.ntmps52
      go_upto_region 1 with fail
      rw [← HX.out]
      go_wp2_with (first | (refine wpList_load_midif rfl 26 (.tmp 3) rfl w.heap.size 2 rfl _ _ K.out.past Tryz.underlying26 rfl (by kernel_rfl) ?_) | (refine wpList_load_midif rfl 58 (.tmp 5) rfl w.heap.size 0 rfl _ _ K.out.dot Tryz.underlying58 rfl (by kernel_rfl) ?_) | (refine wpList_load_midif rfl 26 (.tmp 10) rfl w.heap.size 2 rfl _ _ K.out.past Tryz.underlying26 rfl (by kernel_rfl) ?_) | (refine wpList_load_if rfl 60 (.tmp 15) rfl w.heap.size rfl _ _ _ _ K.out Tryz.underlying60 rfl (sizeE _) ?_) | (refine wpList_load_if rfl 60 (.tmp 1) rfl w.heap.size rfl _ _ _ _ K.out Tryz.underlying60 rfl (sizeE _) ?_))
      refine (HN'.out _).mono ?_
      rintro e' w1 ⟨rfl, hb⟩
      have K1 := Lib.hid (EB.keep K.out hb)
      have Y1 := Lib.hid (HY.out.trans (hb.mono HY.out.size))
      have HW1 := Lib.hid (CutOk.below HW.out hb)
      clear hb K HY HW
      go_wp2_with (first | (refine wpList_load_midif rfl 26 (.tmp 3) rfl w.heap.size 2 rfl _ _ K1.out.past Tryz.underlying26 rfl (by kernel_rfl) ?_) | (refine wpList_load_midif rfl 58 (.tmp 5) rfl w.heap.size 0 rfl _ _ K1.out.dot Tryz.underlying58 rfl (by kernel_rfl) ?_) | (refine wpList_load_midif rfl 26 (.tmp 10) rfl w.heap.size 2 rfl _ _ K1.out.past Tryz.underlying26 rfl (by kernel_rfl) ?_) | (refine wpList_load_if rfl 60 (.tmp 15) rfl w.heap.size rfl _ _ _ _ K1.out Tryz.underlying60 rfl (sizeE _) ?_) | (refine wpList_load_if rfl 60 (.tmp 1) rfl w.heap.size rfl _ _ _ _ K1.out Tryz.underlying60 rfl (sizeE _) ?_))
      refine (HR'.out _).mono ?_
      rintro e' w2 ⟨rfl, hb⟩
      have K2 := Lib.hid (EB.keep K1.out hb)
      have Y2 := Lib.hid (Y1.out.trans (hb.mono Y1.out.size))
      have HW2 := Lib.hid (CutOk.below HW1.out hb)
      clear hb K1 Y1 HW1
      go_wp2_with (first | (refine wpList_load_midif rfl 26 (.tmp 3) rfl w.heap.size 2 rfl _ _ K2.out.past Tryz.underlying26 rfl (by kernel_rfl) ?_) | (refine wpList_load_midif rfl 58 (.tmp 5) rfl w.heap.size 0 rfl _ _ K2.out.dot Tryz.underlying58 rfl (by kernel_rfl) ?_) | (refine wpList_load_midif rfl 26 (.tmp 10) rfl w.heap.size 2 rfl _ _ K2.out.past Tryz.underlying26 rfl (by kernel_rfl) ?_) | (refine wpList_load_if rfl 60 (.tmp 15) rfl w.heap.size rfl _ _ _ _ K2.out Tryz.underlying60 rfl (sizeE _) ?_) | (refine wpList_load_if rfl 60 (.tmp 1) rfl w.heap.size rfl _ _ _ _ K2.out Tryz.underlying60 rfl (sizeE _) ?_))
      refine (eof_any e _).mono ?_
      rintro e' w3 ⟨rfl, hb⟩
      have K3 := Lib.hid (EB.keep K2.out hb)
      have Y3 := Lib.hid (Y2.out.trans (hb.mono Y2.out.size))
      have HW3 := Lib.hid (CutOk.below HW2.out hb)
      clear hb K2 Y2 HW2
      go_wp2_with (first | (refine wpList_load_midif rfl 26 (.tmp 3) rfl w.heap.size 2 rfl _ _ K3.out.past Tryz.underlying26 rfl (by kernel_rfl) ?_) | (refine wpList_load_midif rfl 58 (.tmp 5) rfl w.heap.size 0 rfl _ _ K3.out.dot Tryz.underlying58 rfl (by kernel_rfl) ?_) | (refine wpList_load_midif rfl 26 (.tmp 10) rfl w.heap.size 2 rfl _ _ K3.out.past Tryz.underlying26 rfl (by kernel_rfl) ?_) | (refine wpList_load_if rfl 60 (.tmp 15) rfl w.heap.size rfl _ _ _ _ K3.out Tryz.underlying60 rfl (sizeE _) ?_) | (refine wpList_load_if rfl 60 (.tmp 1) rfl w.heap.size rfl _ _ _ _ K3.out Tryz.underlying60 rfl (sizeE _) ?_))
      refine (change_any e _ HL.out HW3.out).mono ?_
      rintro e' w4 ⟨rfl, hb⟩
      have K4 := Lib.hid (EB.keep K3.out hb)
      have Y4 := Lib.hid (Y3.out.trans (hb.mono Y3.out.size))
      have HW4 := Lib.hid (CutOk.below HW3.out hb)
      clear hb K3 Y3 HW3
      go_wp2
      go_ret
      exact ⟨by rw [HC.out]; rfl, Y4.out⟩

end Go.Proofs.YtdlmfmfbbclplaaGreatDoor
