/-
  event.Of, Make, Right: the contracts, by walks. Conditions: CutOk, texts that are not too long.
-/
import Derived.Test.YtojhloaleefieaaGreatEvFits
import Derived.Handy
namespace Go.Proofs.YtojhloaleefieaaGreat
open Go.RowKit

/-- The event of nothing. -/
def ev0 : Ev := ⟨0, 0, fun _ => 0, 0, 0, ⟨#[]⟩, ⟨#[]⟩, ⟨#[]⟩, ⟨#[]⟩, 0, 0, ⟨#[]⟩⟩
theorem zeroE : (Tryz.prog.info? 38).map (fun i => (i.zero, i.size)) = some (some (.agg (evC ev0)), 27) := by kernel_rfl
theorem zeroC : (Tryz.prog.info? 81).map (fun i => (i.zero, i.size)) = some (some (.agg (chC ev0)), 9) := by kernel_rfl
theorem evC_size (e : Ev) : (evC e).size = 27 := rfl
theorem chC_size (e : Ev) : (chC e).size = 9 := rfl
theorem sizeE (e : Ev) : (Tryz.prog.info? 38).map (·.size) = some (evC e).size := (zero_of_info zeroE).2
theorem sizeC (e : Ev) : (Tryz.prog.info? 81).map (·.size) = some (chC e).size := (zero_of_info zeroC).2
theorem evC_one (e : Ev) : (evC e).all (·.oneCell') = true := by simp [evC, Value.oneCell']
theorem chC_one (e : Ev) : (chC e).all (·.oneCell') = true := by simp [chC, Value.oneCell']
/-- An event's block. -/
def EB (w : World) (g : Nat) (e : Ev) : Prop := Blk w g 38 (evC e)
theorem EB.past {w : World} {g : Nat} {e : Ev} (h : EB w g e) : w.rangeAt g 2 (vA e.p).toList := World.rangeAt_of_block (C := evC e) h 2 16
theorem EB.dot {w : World} {g : Nat} {e : Ev} (h : EB w g e) : w.rangeAt g 0 [.int .i64 e.r, .int .i64 e.c] := World.rangeAt_of_block (C := evC e) h 0 2
theorem EB.elem {w : World} {g : Nat} {e : Ev} (h : EB w g e) : w.rangeAt g 19 [.int .i64 e.ek, .string e.a, .string e.b, .string e.cc, .string e.d] := World.rangeAt_of_block (C := evC e) h 19 5
theorem EB.value {w : World} {g : Nat} {e : Ev} (h : EB w g e) : w.rangeAt g 24 [.int .i64 e.vk, .int .i64 e.vn, .string e.t] := World.rangeAt_of_block (C := evC e) h 24 3
theorem EB.opc {w : World} {g : Nat} {e : Ev} (h : EB w g e) : w.cell? ⟨g, 18, none⟩ = some (.int .i64 e.op) := (Blk.cell h 18).trans rfl
theorem EB.keep {w w' : World} {g : Nat} {e : Ev} (h : EB w g e) (hb : Below w.heap.size w w') : EB w' g e := Blk.below h hb (Blk.lt h)
theorem EB.new_ (w : World) (e : Ev) : EB (w.alloc (.cells (evC e) 38)) w.heap.size e := Blk.new w _ _
theorem setRow_blk (w : World) (g : Nat) (t : TypeId) (c c' : Array Value) (h : Blk w g t c) : Blk (w.setRow g c') g t c' := by
  unfold Blk at *
  simp only [World.setRow]
  rw [Array.getElem?_modify, if_pos rfl, h]; rfl
theorem mkEv (e : Ev) (w : World) : (Instr.build 38 #[(0, .agg #[.int .i64 e.r, .int .i64 e.c]), (1, .agg (vA e.p)), (2, .int .i64 e.op), (3, .agg #[.int .i64 e.ek, .string e.a, .string e.b, .string e.cc, .string e.d]), (4, .agg #[.int .i64 e.vk, .int .i64 e.vn, .string e.t])]).run Tryz.prog w = .ok (.agg (evC e)) w := by
  kernel_rfl
theorem mkCh (e : Ev) (w : World) : (Instr.build 81 #[(0, .int .i64 e.op), (1, .agg #[.int .i64 e.ek, .string e.a, .string e.b, .string e.cc, .string e.d]), (2, .agg #[.int .i64 e.vk, .int .i64 e.vn, .string e.t])]).run Tryz.prog w = .ok (.agg (chC e)) w := by
  kernel_rfl

/-- An operation whose run is known. -/
theorem wpList_val {P : Program} {ops : Array Oper} {rest : List Oper} {o : Oper} {a : Act} {w : World} {Q : Exit → Act → World → Prop} (hw : Region.wanted o (yielded ops a.tmps) = true) (v : Value) (w' : World)
    (hr : (execOp a.eval o).run P w = .ok (.value v) w') (h : wpList P ops Q rest (a.put o.dst v) w') : wpList P ops Q (o :: rest) a w :=
  wpList_step fun K hK => by
    rw [if_pos hw]
    unfold Oper.wp
    rw [hr]
    exact hK _ _ h

set_option maxRecDepth 100000 in
set_option maxHeartbeats 400000 in
theorem eof_any (e : Ev) (w : World) : Calls Tryz.prog 38 #[evV e] w (Gives w (chV e)) := by
  have hz := (zero_of_info zeroC).1
  have hx : EB ((w.alloc (.cells (evC e) 38)).alloc (.cells (chC ev0) 81)) w.heap.size e := (EB.new_ w e).keep ((Below.refl _ _).alloc (Nat.le_refl _) _)
  have hy : Blk ((w.alloc (.cells (evC e) 38)).alloc (.cells (chC ev0) 81)) (w.heap.size + 1) 81 (chC ev0) := by
    have := Blk.new (w.alloc (.cells (evC e) 38)) 81 (chC ev0)
    simpa using this
  have hb : Below w.heap.size w ((w.alloc (.cells (evC e) 38)).alloc (.cells (chC ev0) 81)) := ((Below.refl _ _).alloc (Nat.le_refl _) _).alloc (by simp) _
  have hc := hx.opc
  unfold evV chV
  obtain ⟨X, hX⟩ : ∃ X, X = (w.alloc (.cells (evC e) 38)).alloc (.cells (chC ev0) 81) := ⟨_, rfl⟩
  rw [← hX] at hx hy hb hc
  have HX := Lib.hid hX
  have K := Lib.hid hx
  have HR := Lib.hid (setRow_blk X (w.heap.size + 1) _ _ (chC e) hy)
  have KY := Lib.hid hy
  have HB := Lib.hid (hb.trans (setRow_below X (w.heap.size + 1) w.heap.size (chC e) (by omega)))
  clear hx hy hb hX
  go_enter Tryz.func38, Tryz.ntmps38
  go_upto_region 1 with fail
  rw [← HX.out]
  go_wp2_with (first
    | (refine wpList_load_midif rfl 24 (.tmp 5) rfl w.heap.size 19 rfl _ _ K.out.elem Tryz.underlying24 rfl (by kernel_rfl) ?_)
    | (refine wpList_load_midif rfl 36 (.tmp 7) rfl w.heap.size 24 rfl _ _ K.out.value Tryz.underlying36 rfl (by kernel_rfl) ?_)
    | (refine wpList_val (o := ⟨some 9, _, _, _, _, _⟩) rfl (.agg (chC e)) X (by kernel_rfl) ?_)
    | (refine wpList_store_row rfl 81 (.tmp 2) (.tmp 9) rfl (w.heap.size + 1) (chC e) rfl rfl _ _ KY.out (sizeC _) rfl (chC_one _) ?_))
  exact bodyPost_ret (v := .agg (chC e)) (results_cell_row (P := Tryz.prog) Tryz.results38 _ _ (w.heap.size + 1) _ (chC e) _ _ rfl HR.out Tryz.underlying81 rfl (sizeC _)) rfl ⟨rfl, HB.out⟩

end Go.Proofs.YtojhloaleefieaaGreat
