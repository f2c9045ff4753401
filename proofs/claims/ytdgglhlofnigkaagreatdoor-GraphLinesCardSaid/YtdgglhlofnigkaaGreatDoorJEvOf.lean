/-
  event.Of, Make, Right. event.Right. Conditions: lengths.
-/import Derived.Test.YtdgglhlofnigkaaGreatDoorJValRefLink
import Derived.Handy
namespace Go.Proofs.YtdgglhlofnigkaaGreatDoor
open Lib (hid)
open Go.RowKit
def ev0 : Ev := ⟨0, 0, fun _ => 0, 0, 0, ⟨#[]⟩, ⟨#[]⟩, ⟨#[]⟩, ⟨#[]⟩, 0, 0, ⟨#[]⟩⟩
theorem zeroE : (Tryz.prog.info? 60).map (fun i => (i.zero, i.size)) = some (some (.agg (evC ev0)), 27) := by kernel_rfl
theorem zeroC : (Tryz.prog.info? 106).map (fun i => (i.zero, i.size)) = some (some (.agg (chC ev0)), 9) := by kernel_rfl
theorem sizeE (e : Ev) : (Tryz.prog.info? 60).map (·.size) = some (evC e).size := (zero_of_info zeroE).2
theorem sizeC (e : Ev) : (Tryz.prog.info? 106).map (·.size) = some (chC e).size := (zero_of_info zeroC).2
theorem chC_one (e : Ev) : (chC e).all (·.oneCell') = true := by simp [chC, Value.oneCell']
def EB (w : World) (g : Nat) (e : Ev) : Prop := Blk w g 60 (evC e)
theorem EB.past {w : World} {g : Nat} {e : Ev} (h : EB w g e) : w.rangeAt g 2 (vA e.p).toList := World.rangeAt_of_block (C := evC e) h 2 16
theorem EB.dot {w : World} {g : Nat} {e : Ev} (h : EB w g e) : w.rangeAt g 0 [.int .i64 e.r, .int .i64 e.c] := World.rangeAt_of_block (C := evC e) h 0 2
theorem EB.elem {w : World} {g : Nat} {e : Ev} (h : EB w g e) : w.rangeAt g 19 [.int .i64 e.ek, .string e.a, .string e.b, .string e.cc, .string e.d] := World.rangeAt_of_block (C := evC e) h 19 5
theorem EB.value {w : World} {g : Nat} {e : Ev} (h : EB w g e) : w.rangeAt g 24 [.int .i64 e.vk, .int .i64 e.vn, .string e.t] := World.rangeAt_of_block (C := evC e) h 24 3
theorem EB.opc {w : World} {g : Nat} {e : Ev} (h : EB w g e) : w.cell? ⟨g, 18, none⟩ = some (.int .i64 e.op) := (Blk.cell h 18).trans rfl
theorem EB.keep {w w' : World} {g : Nat} {e : Ev} (h : EB w g e) (hb : Below w.heap.size w w') : EB w' g e := Blk.below h hb (Blk.lt h)
theorem EB.new_ (w : World) (e : Ev) : EB (w.alloc (.cells (evC e) 60)) w.heap.size e := Blk.new w _ _
theorem setRow_blk (w : World) (g : Nat) (t : TypeId) (c c' : Array Value) (h : Blk w g t c) : Blk (w.setRow g c') g t c' := by
 unfold Blk at *
 simp only [World.setRow]
 rw [Array.getElem?_modify, if_pos rfl, h]; rfl
theorem wpList_val {P : Program} {ops : Array Oper} {rest : List Oper} {o : Oper} {a : Act} {w : World} {Q : Exit → Act → World → Prop} (hw : Region.wanted o (yielded ops a.tmps) = true) (v : Value) (w' : World)
  (hr : (execOp a.eval o).run P w = .ok (.value v) w') (h : wpList P ops Q rest (a.put o.dst v) w') : wpList P ops Q (o :: rest) a w :=
 wpList_step fun K hK => by
  rw [if_pos hw]
  unfold Oper.wp
  rw [hr]
  exact hK _ _ h
set_option maxRecDepth 100000 in
set_option maxHeartbeats 400000 in
theorem eof_any (e : Ev) (w : World) : Calls Tryz.prog 68 #[evV e] w (Gives w (chV e)) := by
 have hz := (zero_of_info zeroC).1
 have hx : EB ((w.alloc (.cells (evC e) 60)).alloc (.cells (chC ev0) 106)) w.heap.size e := (EB.new_ w e).keep ((Below.refl _ _).alloc (Nat.le_refl _) _)
 have hy : Blk ((w.alloc (.cells (evC e) 60)).alloc (.cells (chC ev0) 106)) (w.heap.size + 1) 106 (chC ev0) := by
  have := Blk.new (w.alloc (.cells (evC e) 60)) 106 (chC ev0)
  simpa using this
 have hb : Below w.heap.size w ((w.alloc (.cells (evC e) 60)).alloc (.cells (chC ev0) 106)) := ((Below.refl _ _).alloc (Nat.le_refl _) _).alloc (by simp) _
 have hc := hx.opc
 unfold evV chV
 obtain ⟨X, hX⟩ : ∃ X, X = (w.alloc (.cells (evC e) 60)).alloc (.cells (chC ev0) 106) := ⟨_, rfl⟩
 rw [← hX] at hx hy hb hc
 have HX := hid hX
 have K := hid hx
 have HR := hid (setRow_blk X (w.heap.size + 1) _ _ (chC e) hy)
 have KY := hid hy
 have HB := hid (hb.trans (setRow_below X (w.heap.size + 1) w.heap.size (chC e) (by omega)))
 clear hx hy hb hX
 go_enter Tryz.func68, Tryz.ntmps68
 go_upto_region 1 with fail
 rw [← HX.out]
 go_wp2_with (first
  | (refine wpList_load_midif rfl 38 (.tmp 5) rfl w.heap.size 19 rfl _ _ K.out.elem Tryz.underlying38 rfl (by kernel_rfl) ?_)
  | (refine wpList_load_midif rfl 43 (.tmp 7) rfl w.heap.size 24 rfl _ _ K.out.value Tryz.underlying43 rfl (by kernel_rfl) ?_)
  | (refine wpList_val (o := ⟨some 9, _, _, _, _, _⟩) rfl (.agg (chC e)) X (by kernel_rfl) ?_)
  | (refine wpList_store_row rfl 106 (.tmp 2) (.tmp 9) rfl (w.heap.size + 1) (chC e) rfl rfl _ _ KY.out (sizeC _) rfl (chC_one _) ?_))
 exact bodyPost_ret (v := .agg (chC e)) (results_cell_row (P := Tryz.prog) Tryz.results68 _ _ (w.heap.size + 1) _ (chC e) _ _ rfl HR.out Tryz.underlying106 rfl (sizeC _)) rfl ⟨rfl, HB.out⟩
theorem vnext_is (f : Nat → Int) (r c : Int) (b : Bool) (h : nextB f r c = b) (w : World) : Calls Tryz.prog 65 #[.agg (vA f), dv r c] w (Gives w (.bool b)) := by
 have := next_any f r c w; rwa [h] at this
theorem vright_is (f : Nat → Int) (b : Bool) (h : rightV f = b) (w : World) : Calls Tryz.prog 66 #[.agg (vA f)] w (Gives w (.bool b)) := by
 have := vright_any f w; rwa [h] at this
set_option maxRecDepth 100000 in
set_option maxHeartbeats 600000 in
theorem eright_any (e : Ev) (w : World) (hl : Lens e) (hw : CutOk w) : Calls Tryz.prog 52 #[evV e] w (Gives w (.int .i64 (codeI (okB e)))) := by
 have HL := hid hl
 have HN := hid (vnext_is e.p e.r e.c)
 have HR := hid (vright_is e.p)
 have HC : Hid (okB e = (nextB e.p e.r e.c && rightV e.p && changeB e)) := hid rfl
 obtain ⟨X, hX⟩ : ∃ X, X = w.alloc (.cells (evC e) 60) := ⟨_, rfl⟩
 have HX := hid hX
 have hk : EB X w.heap.size e := by rw [hX]; exact EB.new_ w e
 have hy : Below w.heap.size w X := by rw [hX]; exact (Below.refl _ _).alloc (Nat.le_refl _) _
 have hww : CutOk X := by rw [hX]; exact hw.alloc _
 have K := hid hk
 have HY := hid hy
 have HW := hid hww
 clear hX hk hy hww hl hw
 unfold evV
 cases h1 : nextB e.p e.r e.c
 ·rw [h1] at HC
  have HN' := hid (HN.out _ h1)
  clear HN HR h1
  go_enter Tryz.func52, Tryz.ntmps52
  go_upto_region 1 with fail
  rw [← HX.out]
  go_wp2_with (first | (refine wpList_load_midif rfl 26 (.tmp 3) rfl w.heap.size 2 rfl _ _ K.out.past Tryz.underlying26 rfl (by kernel_rfl) ?_) | (refine wpList_load_midif rfl 58 (.tmp 5) rfl w.heap.size 0 rfl _ _ K.out.dot Tryz.underlying58 rfl (by kernel_rfl) ?_) | (refine wpList_load_midif rfl 26 (.tmp 10) rfl w.heap.size 2 rfl _ _ K.out.past Tryz.underlying26 rfl (by kernel_rfl) ?_) | (refine wpList_load_if rfl 60 (.tmp 15) rfl w.heap.size rfl _ _ _ _ K.out Tryz.underlying60 rfl (sizeE _) ?_) | (refine wpList_load_if rfl 60 (.tmp 1) rfl w.heap.size rfl _ _ _ _ K.out Tryz.underlying60 rfl (sizeE _) ?_))
  refine (HN'.out _).mono ?_
  rintro e' w1 ⟨rfl, hb⟩
  have K1 := hid (EB.keep K.out hb)
  have Y1 := hid (HY.out.trans (hb.mono HY.out.size))
  have HW1 := hid (CutOk.below HW.out hb)
  clear hb K HY HW
  go_wp2
  go_ret
  exact ⟨by rw [HC.out]; rfl, Y1.out⟩
 ·rw [h1] at HC
  have HN' := hid (HN.out _ h1)
  clear HN h1
  cases h2 : rightV e.p
  ·rw [h2] at HC
   have HR' := hid (HR.out _ h2)
   clear HR h2
   go_enter Tryz.func52, Tryz.ntmps52
   go_upto_region 1 with fail
   rw [← HX.out]
   go_wp2_with (first | (refine wpList_load_midif rfl 26 (.tmp 3) rfl w.heap.size 2 rfl _ _ K.out.past Tryz.underlying26 rfl (by kernel_rfl) ?_) | (refine wpList_load_midif rfl 58 (.tmp 5) rfl w.heap.size 0 rfl _ _ K.out.dot Tryz.underlying58 rfl (by kernel_rfl) ?_) | (refine wpList_load_midif rfl 26 (.tmp 10) rfl w.heap.size 2 rfl _ _ K.out.past Tryz.underlying26 rfl (by kernel_rfl) ?_) | (refine wpList_load_if rfl 60 (.tmp 15) rfl w.heap.size rfl _ _ _ _ K.out Tryz.underlying60 rfl (sizeE _) ?_) | (refine wpList_load_if rfl 60 (.tmp 1) rfl w.heap.size rfl _ _ _ _ K.out Tryz.underlying60 rfl (sizeE _) ?_))
   refine (HN'.out _).mono ?_
   rintro e' w1 ⟨rfl, hb⟩
   have K1 := hid (EB.keep K.out hb)
   have Y1 := hid (HY.out.trans (hb.mono HY.out.size))
   have HW1 := hid (CutOk.below HW.out hb)
   clear hb K HY HW
   go_wp2_with (first | (refine wpList_load_midif rfl 26 (.tmp 3) rfl w.heap.size 2 rfl _ _ K1.out.past Tryz.underlying26 rfl (by kernel_rfl) ?_) | (refine wpList_load_midif rfl 58 (.tmp 5) rfl w.heap.size 0 rfl _ _ K1.out.dot Tryz.underlying58 rfl (by kernel_rfl) ?_) | (refine wpList_load_midif rfl 26 (.tmp 10) rfl w.heap.size 2 rfl _ _ K1.out.past Tryz.underlying26 rfl (by kernel_rfl) ?_) | (refine wpList_load_if rfl 60 (.tmp 15) rfl w.heap.size rfl _ _ _ _ K1.out Tryz.underlying60 rfl (sizeE _) ?_) | (refine wpList_load_if rfl 60 (.tmp 1) rfl w.heap.size rfl _ _ _ _ K1.out Tryz.underlying60 rfl (sizeE _) ?_))
   refine (HR'.out _).mono ?_
   rintro e' w2 ⟨rfl, hb⟩
   have K2 := hid (EB.keep K1.out hb)
   have Y2 := hid (Y1.out.trans (hb.mono Y1.out.size))
   have HW2 := hid (CutOk.below HW1.out hb)
   clear hb K1 Y1 HW1
   go_wp2
   go_ret
   exact ⟨by rw [HC.out]; rfl, Y2.out⟩
  ·rw [h2, Bool.true_and, Bool.true_and] at HC
   have HR' := hid (HR.out _ h2)
   clear HR h2
   go_enter Tryz.func52, Tryz.ntmps52
   go_upto_region 1 with fail
   rw [← HX.out]
   go_wp2_with (first | (refine wpList_load_midif rfl 26 (.tmp 3) rfl w.heap.size 2 rfl _ _ K.out.past Tryz.underlying26 rfl (by kernel_rfl) ?_) | (refine wpList_load_midif rfl 58 (.tmp 5) rfl w.heap.size 0 rfl _ _ K.out.dot Tryz.underlying58 rfl (by kernel_rfl) ?_) | (refine wpList_load_midif rfl 26 (.tmp 10) rfl w.heap.size 2 rfl _ _ K.out.past Tryz.underlying26 rfl (by kernel_rfl) ?_) | (refine wpList_load_if rfl 60 (.tmp 15) rfl w.heap.size rfl _ _ _ _ K.out Tryz.underlying60 rfl (sizeE _) ?_) | (refine wpList_load_if rfl 60 (.tmp 1) rfl w.heap.size rfl _ _ _ _ K.out Tryz.underlying60 rfl (sizeE _) ?_))
   refine (HN'.out _).mono ?_
   rintro e' w1 ⟨rfl, hb⟩
   have K1 := hid (EB.keep K.out hb)
   have Y1 := hid (HY.out.trans (hb.mono HY.out.size))
   have HW1 := hid (CutOk.below HW.out hb)
   clear hb K HY HW
   go_wp2_with (first | (refine wpList_load_midif rfl 26 (.tmp 3) rfl w.heap.size 2 rfl _ _ K1.out.past Tryz.underlying26 rfl (by kernel_rfl) ?_) | (refine wpList_load_midif rfl 58 (.tmp 5) rfl w.heap.size 0 rfl _ _ K1.out.dot Tryz.underlying58 rfl (by kernel_rfl) ?_) | (refine wpList_load_midif rfl 26 (.tmp 10) rfl w.heap.size 2 rfl _ _ K1.out.past Tryz.underlying26 rfl (by kernel_rfl) ?_) | (refine wpList_load_if rfl 60 (.tmp 15) rfl w.heap.size rfl _ _ _ _ K1.out Tryz.underlying60 rfl (sizeE _) ?_) | (refine wpList_load_if rfl 60 (.tmp 1) rfl w.heap.size rfl _ _ _ _ K1.out Tryz.underlying60 rfl (sizeE _) ?_))
   refine (HR'.out _).mono ?_
   rintro e' w2 ⟨rfl, hb⟩
   have K2 := hid (EB.keep K1.out hb)
   have Y2 := hid (Y1.out.trans (hb.mono Y1.out.size))
   have HW2 := hid (CutOk.below HW1.out hb)
   clear hb K1 Y1 HW1
   go_wp2_with (first | (refine wpList_load_midif rfl 26 (.tmp 3) rfl w.heap.size 2 rfl _ _ K2.out.past Tryz.underlying26 rfl (by kernel_rfl) ?_) | (refine wpList_load_midif rfl 58 (.tmp 5) rfl w.heap.size 0 rfl _ _ K2.out.dot Tryz.underlying58 rfl (by kernel_rfl) ?_) | (refine wpList_load_midif rfl 26 (.tmp 10) rfl w.heap.size 2 rfl _ _ K2.out.past Tryz.underlying26 rfl (by kernel_rfl) ?_) | (refine wpList_load_if rfl 60 (.tmp 15) rfl w.heap.size rfl _ _ _ _ K2.out Tryz.underlying60 rfl (sizeE _) ?_) | (refine wpList_load_if rfl 60 (.tmp 1) rfl w.heap.size rfl _ _ _ _ K2.out Tryz.underlying60 rfl (sizeE _) ?_))
   refine (eof_any e _).mono ?_
   rintro e' w3 ⟨rfl, hb⟩
   have K3 := hid (EB.keep K2.out hb)
   have Y3 := hid (Y2.out.trans (hb.mono Y2.out.size))
   have HW3 := hid (CutOk.below HW2.out hb)
   clear hb K2 Y2 HW2
   go_wp2_with (first | (refine wpList_load_midif rfl 26 (.tmp 3) rfl w.heap.size 2 rfl _ _ K3.out.past Tryz.underlying26 rfl (by kernel_rfl) ?_) | (refine wpList_load_midif rfl 58 (.tmp 5) rfl w.heap.size 0 rfl _ _ K3.out.dot Tryz.underlying58 rfl (by kernel_rfl) ?_) | (refine wpList_load_midif rfl 26 (.tmp 10) rfl w.heap.size 2 rfl _ _ K3.out.past Tryz.underlying26 rfl (by kernel_rfl) ?_) | (refine wpList_load_if rfl 60 (.tmp 15) rfl w.heap.size rfl _ _ _ _ K3.out Tryz.underlying60 rfl (sizeE _) ?_) | (refine wpList_load_if rfl 60 (.tmp 1) rfl w.heap.size rfl _ _ _ _ K3.out Tryz.underlying60 rfl (sizeE _) ?_))
   refine (change_any e _ HL.out HW3.out).mono ?_
   rintro e' w4 ⟨rfl, hb⟩
   have K4 := hid (EB.keep K3.out hb)
   have Y4 := hid (Y3.out.trans (hb.mono Y3.out.size))
   have HW4 := hid (CutOk.below HW3.out hb)
   clear hb K3 Y3 HW3
   go_wp2
   go_ret
   exact ⟨by rw [HC.out]; rfl, Y4.out⟩
end Go.Proofs.YtdgglhlofnigkaaGreatDoor
