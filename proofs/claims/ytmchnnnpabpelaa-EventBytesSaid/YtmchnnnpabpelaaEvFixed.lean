/-
  hedgerowlaw06.fixed: the fixed facts of layer 6's statements hold, and nothing that was there turns. Conditions: CutOk.
-/
import Derived.Test.YtmchnnnpabpelaaEvBytes
import Derived.Test.YtmchnnnpabpelaaSlice
namespace Go.Proofs.Ytmchnnnpabpelaa
open Go.RowKit

/-- The event of the fixed facts; its node; the change that may not be. -/
def evF : Ev := ⟨1, 3, fun i => if i = 0 then 5 else if i = 1 then 2 else 0, 1, 1, ⟨#[97]⟩, ⟨#[]⟩, ⟨#[]⟩, ⟨#[]⟩, 0, 0, ⟨#[]⟩⟩
def evS : Ev := ⟨0, 0, fun _ => 0, 3, 1, ⟨#[97]⟩, ⟨#[]⟩, ⟨#[]⟩, ⟨#[]⟩, 0, 0, ⟨#[]⟩⟩
theorem lensF : Lens evF := by unfold Lens evF; decide
theorem lensS : Lens evS := by unfold Lens evS; decide
theorem lens0 : Lens ev0 := by unfold Lens ev0; decide
theorem okF : okB evF = true := by decide +kernel
theorem bytF : bytL evF = bytesE evF := by unfold bytL; rw [okF]; rfl
theorem lenF : (bytesE evF).length = 28 := by decide +kernel
theorem parF : parsC (bytesE evF) = 0 := by decide +kernel
theorem parT : parsC ((bytesE evF).drop 1) = 2 := by decide +kernel
theorem chS : changeB evS = false := by decide +kernel
theorem ok0 : okB ev0 = false := by decide +kernel
def sameE (e f : Ev) : Bool := e.r == f.r && e.c == f.c && ((List.range 16).all fun i => e.p i == f.p i) && e.op == f.op && e.ek == f.ek && e.a.data == f.a.data && e.b.data == f.b.data && e.cc.data == f.cc.data && e.d.data == f.d.data && e.vk == f.vk && e.vn == f.vn && e.t.data == f.t.data
theorem evF_back : sameE (parsE (bytesE evF)) evF = true := by decide +kernel

theorem evC_same (e f : Ev) (h : sameE e f = true) : evC e = evC f := by
  simp only [sameE, Bool.and_eq_true, beq_iff_eq, List.all_eq_true, List.mem_range] at h
  obtain ⟨⟨⟨⟨⟨⟨⟨⟨⟨⟨⟨h1, h2⟩, h3⟩, h4⟩, h5⟩, h6⟩, h7⟩, h8⟩, h9⟩, h10⟩, h11⟩, h12⟩ := h
  have b6 : e.a = f.a := by cases ha : e.a; cases hb : f.a; rw [ha, hb] at h6; simpa using h6
  have b7 : e.b = f.b := by cases ha : e.b; cases hb : f.b; rw [ha, hb] at h7; simpa using h7
  have b8 : e.cc = f.cc := by cases ha : e.cc; cases hb : f.cc; rw [ha, hb] at h8; simpa using h8
  have b9 : e.d = f.d := by cases ha : e.d; cases hb : f.d; rw [ha, hb] at h9; simpa using h9
  have b12 : e.t = f.t := by cases ha : e.t; cases hb : f.t; rw [ha, hb] at h12; simpa using h12
  unfold evC
  rw [h1, h2, h3 0 (by decide), h3 1 (by decide), h3 2 (by decide), h3 3 (by decide), h3 4 (by decide), h3 5 (by decide), h3 6 (by decide), h3 7 (by decide), h3 8 (by decide), h3 9 (by decide), h3 10 (by decide), h3 11 (by decide), h3 12 (by decide), h3 13 (by decide), h3 14 (by decide), h3 15 (by decide), h4, h5, b6, b7, b8, b9, h10, h11, b12]
theorem eq_same {e f : Ev} (h : evC e = evC f) (w : World) : (binOp .eql 31 (evV e) (evV f)).run Try.prog w = .ok (.bool true) w := by
  have := eq_event e w
  unfold evV at *
  rw [← h]; exact this
theorem run_field_op {P : Program} {o : Oper} {ρ : Operand → Value} {w : World} {ty : TypeId} {x : Operand} {k : Nat} {vx v : Value} (ho : o.op = .field ty x k) (hx : ρ x = vx) (hr : (Instr.field ty vx k).run P w = .ok v w) : (execOp ρ o).run P w = .ok (.value v) w := by
  unfold execOp
  simp [ho, hx, hr]
theorem run_build_op {P : Program} {o : Oper} {ρ : Operand → Value} {w : World} {ty : TypeId} {xs : Array (Nat × Operand)} {vs : Array (Nat × Value)} {v : Value} (ho : o.op = .build ty xs) (hx : xs.map (fun (i, x) => (i, ρ x)) = vs) (hr : (Instr.build ty vs).run P w = .ok v w) : (execOp ρ o).run P w = .ok (.value v) w := by
  unfold execOp
  simp only [ho]
  rw [show (xs.map fun x => match x with | (i, x) => (i, ρ x)) = vs from hx]
  simp [hr]
theorem ebytes_F (w : World) (hw : CutOk w) : Calls Try.prog 17 #[evV evF] w fun x w' => ∃ v, x = .returned (.tuple #[v, .int .i64 0]) ∧ w'.ownsRow w.heap.size 5 1 v 28 (bs (bytesE evF)) ∧ Below w.heap.size w w' := by
  have := ebytes_any evF w lensF hw
  rw [okF, bytF, lenF] at this
  exact this
theorem change_S (w : World) (hw : CutOk w) : Calls Try.prog 11 #[chV evS] w (Gives w (.int .i64 1)) := by
  have := change_any evS w lensS hw
  rwa [chS] at this
theorem right_0 (w : World) (hw : CutOk w) : Calls Try.prog 8 #[evV ev0] w (Gives w (.int .i64 1)) := by
  have := eright_any ev0 w lens0 hw
  rwa [ok0] at this
theorem fieldE (e : Ev) (w : World) : (Instr.field 35 (chV e) 1).run Try.prog w = .ok (elV e.ek e.a e.b e.cc e.d) w := by kernel_rfl
theorem guardI6 (x y : Operand) (a b : Int) (w : World) (op : BinOp) (t : TypeId) : (eqGuard op t x y (.int .i64 a) (.int .i64 b)).run Try.prog w = .ok () w := by cases op <;> go_simp

set_option maxRecDepth 100000 in
set_option maxHeartbeats 2000000 in
theorem efixed_any (w : World) (hw : CutOk w) : Calls Try.prog 6 #[] w (Gives w (.bool true)) := by
  have hz := (zero_of_info zeroE).1
  have HWC := Lib.hid hw
  clear hw
  go_enter Try.func6, Try.ntmps6
  go_upto_region 2 with fail
  have n1 : Blk (w.alloc (.cells #[.int .i64 1, .string ⟨#[97]⟩, .string ⟨#[]⟩, .string ⟨#[]⟩, .string ⟨#[]⟩] 27)) w.heap.size 27 #[.int .i64 1, .string ⟨#[97]⟩, .string ⟨#[]⟩, .string ⟨#[]⟩, .string ⟨#[]⟩] := Blk.new _ _ _
  have y1 : Below w.heap.size w (w.alloc (.cells #[.int .i64 1, .string ⟨#[97]⟩, .string ⟨#[]⟩, .string ⟨#[]⟩, .string ⟨#[]⟩] 27)) := (Below.refl _ _).alloc (Nat.le_refl _) _
  have c1 := CutOk.below HWC.out y1
  generalize w.alloc (.cells #[.int .i64 1, .string ⟨#[97]⟩, .string ⟨#[]⟩, .string ⟨#[]⟩, .string ⟨#[]⟩] 27) = A1 at *
  have E1 := Lib.hid n1
  have Y1 := Lib.hid y1
  have C1 := Lib.hid c1
  have HZ := Lib.hid hz
  clear n1 y1 c1 hz HWC
  go_wp2_with (first
    | (refine wpList_val (o := ⟨some 10, _, _, _, _, _⟩) rfl (dv evF.r evF.c) A1 (by kernel_rfl) ?_)
    | (refine wpList_val (o := ⟨some 11, _, _, _, _, _⟩) rfl (.agg (vA evF.p)) A1 (by kernel_rfl) ?_)
    | (refine wpList_load_if rfl 27 (.tmp 1) rfl w.heap.size rfl _ _ _ _ E1.out Try.underlying27 rfl (by kernel_rfl) ?_)
    | (refine wpList_val (o := ⟨some 13, _, _, _, _, _⟩) rfl (chV evF) A1 (by kernel_rfl) ?_))
  refine (make_any evF _).mono ?_
  rintro x1 A2 ⟨rfl, hb⟩
  have E2 := Lib.hid (Blk.below E1.out hb (Blk.lt E1.out))
  have Y2 := Lib.hid (Y1.out.trans (hb.mono Y1.out.size))
  have C2 := Lib.hid (CutOk.below C1.out hb)
  clear hb E1 Y1 C1
  have hz := HZ.out
  have nn : EB (A2.alloc (.cells (evC ev0) 31)) A2.heap.size ev0 := EB.new_ _ _
  have NN := Lib.hid nn
  clear nn
  unfold evV
  go_upto_region 3 with (refine wpList_store_row rfl 31 (.tmp 2) (.tmp 14) rfl A2.heap.size (evC evF) rfl rfl _ _ NN.out (sizeE _) rfl (evC_one _) ?_)
  clear hz
  have hbb : Below A2.heap.size A2 ((A2.alloc (.cells (evC ev0) 31)).setRow A2.heap.size (evC evF)) := ((Below.refl _ _).alloc (Nat.le_refl _) _).trans (setRow_below _ _ _ _ (Nat.le_refl _))
  have hq : EB ((A2.alloc (.cells (evC ev0) 31)).setRow A2.heap.size (evC evF)) A2.heap.size evF := setRow_blk _ _ _ _ _ NN.out
  generalize (A2.alloc (.cells (evC ev0) 31)).setRow A2.heap.size (evC evF) = A3 at *
  have F3 := Lib.hid hq
  have E3 := Lib.hid (Blk.below E2.out hbb (Blk.lt E2.out))
  have Y3 := Lib.hid (Y2.out.trans (hbb.mono Y2.out.size))
  have C3 := Lib.hid (CutOk.below C2.out hbb)
  clear hbb hq E2 Y2 C2 NN
  go_wp2_with (refine wpList_load_if rfl 31 (.tmp 2) rfl A2.heap.size rfl _ _ _ _ F3.out Try.underlying31 rfl (sizeE _) ?_)
  refine (ebytes_F _ C3.out).mono ?_
  rintro x4 A4 ⟨v, rfl, ho, hb⟩
  have ho' : A4.ownsRow A3.heap.size 5 1 v (bytesE evF).length (bs (bytesE evF)) := by rw [lenF]; exact ho
  have S4 := Lib.hid (Sl.of_own ho')
  obtain ⟨P, c, rfl⟩ := own_form ho
  have F4 := Lib.hid (EB.keep F3.out hb)
  have E4 := Lib.hid (Blk.below E3.out hb (Blk.lt E3.out))
  have Y4 := Lib.hid (Y3.out.trans (hb.mono Y3.out.size))
  have C4 := Lib.hid (CutOk.below C3.out hb)
  clear ho ho' hb F3 E3 Y3 C3
  have LL := Lib.hid (show (bytesE evF).length ≤ 4294967280 by rw [lenF]; decide)
  have LD := Lib.hid (show ((bytesE evF).drop 1).length ≤ 4294967280 by rw [List.length_drop, lenF]; decide)
  go_wp2_with fail
  refine (eparse_any _ (bytesE evF) _ S4.out LL.out C4.out).mono ?_
  rintro x5 A5 ⟨rfl, hb⟩
  rw [parF]
  have S5 := Lib.hid (S4.out.below hb)
  have F5 := Lib.hid (EB.keep F4.out hb)
  have E5 := Lib.hid (Blk.below E4.out hb (Blk.lt E4.out))
  have Y5 := Lib.hid (Y4.out.trans (hb.mono Y4.out.size))
  have C5 := Lib.hid (CutOk.below C4.out hb)
  clear hb F4 E4 Y4 C4 S4
  have hz := HZ.out
  have NN := Lib.hid (EB.new_ A5 ev0)
  unfold evV
  go_upto_region 7 with (refine wpList_store_row rfl 31 (.tmp 5) (.tmp 26) rfl A5.heap.size (evC (parsE (bytesE evF))) rfl rfl _ _ NN.out (sizeE _) rfl (evC_one _) ?_)
  clear hz
  have hbb : Below A5.heap.size A5 ((A5.alloc (.cells (evC ev0) 31)).setRow A5.heap.size (evC (parsE (bytesE evF)))) := ((Below.refl _ _).alloc (Nat.le_refl _) _).trans (setRow_below _ _ _ _ (Nat.le_refl _))
  have hq : EB ((A5.alloc (.cells (evC ev0) 31)).setRow A5.heap.size (evC (parsE (bytesE evF)))) A5.heap.size (parsE (bytesE evF)) := setRow_blk _ _ _ _ _ NN.out
  generalize (A5.alloc (.cells (evC ev0) 31)).setRow A5.heap.size (evC (parsE (bytesE evF))) = A6 at *
  have G6 := Lib.hid hq
  have S6 := Lib.hid (S5.out.below hbb)
  have F6 := Lib.hid (EB.keep F5.out hbb)
  have E6 := Lib.hid (Blk.below E5.out hbb (Blk.lt E5.out))
  have Y6 := Lib.hid (Y5.out.trans (hbb.mono Y5.out.size))
  have C6 := Lib.hid (CutOk.below C5.out hbb)
  clear hbb hq F5 E5 Y5 C5 NN S5
  go_wp2_with (refine wpList_slice_lo (o := ⟨some 30, _, _, _, _, _⟩) rfl 43 5 _ _ rfl Try.underlying43 (by kernel_rfl) P 28 c 1 rfl rfl (by decide) ?_)
  refine (eparse_any _ ((bytesE evF).drop 1) _ (S6.out.lo 1 (by decide)) LD.out C6.out).mono ?_
  rintro x7 A7 ⟨rfl, hb⟩
  rw [parT]
  generalize parsE ((bytesE evF).drop 1) = EX
  have G7 := Lib.hid (EB.keep G6.out hb)
  have F7 := Lib.hid (EB.keep F6.out hb)
  have E7 := Lib.hid (Blk.below E6.out hb (Blk.lt E6.out))
  have Y7 := Lib.hid (Y6.out.trans (hb.mono Y6.out.size))
  have C7 := Lib.hid (CutOk.below C6.out hb)
  clear hb F6 E6 Y6 C6 S6 G6
  have hz := HZ.out
  have NN := Lib.hid (EB.new_ A7 ev0)
  unfold evV
  go_upto_region 8 with (refine wpList_store_row rfl 31 (.tmp 7) (.tmp 32) rfl A7.heap.size (evC EX) rfl rfl _ _ NN.out (sizeE _) rfl (evC_one _) ?_)
  clear hz
  have hbb : Below A7.heap.size A7 ((A7.alloc (.cells (evC ev0) 31)).setRow A7.heap.size (evC EX)) := ((Below.refl _ _).alloc (Nat.le_refl _) _).trans (setRow_below _ _ _ _ (Nat.le_refl _))
  generalize (A7.alloc (.cells (evC ev0) 31)).setRow A7.heap.size (evC EX) = A8 at *
  have G8 := Lib.hid (EB.keep G7.out hbb)
  have F8 := Lib.hid (EB.keep F7.out hbb)
  have E8 := Lib.hid (Blk.below E7.out hbb (Blk.lt E7.out))
  have Y8 := Lib.hid (Y7.out.trans (hbb.mono Y7.out.size))
  have C8 := Lib.hid (CutOk.below C7.out hbb)
  clear hbb F7 E7 Y7 C7 G7 NN
  refine wp_region_any (by kernel_rfl) ?_
  refine wpAny_below (fun i v _ => v = ([.int .i64 0, .bool true, .bool true, .int .i64 0, .bool true, .bool true, .bool true, evV evF, evV (parsE (bytesE evF)), .bool true, .bool true, .bool true, .int .i64 2, .bool true, .bool true, .bool true, elV 1 ⟨#[97]⟩ ⟨#[]⟩ ⟨#[]⟩ ⟨#[]⟩, chV evS, .int .i64 1, .bool true, .bool true, .bool true, evV evF, chV evF, elV 1 ⟨#[97]⟩ ⟨#[]⟩ ⟨#[]⟩ ⟨#[]⟩, elV 1 ⟨#[97]⟩ ⟨#[]⟩ ⟨#[]⟩ ⟨#[]⟩, .bool true, .bool true, .bool true, evV ev0, .int .i64 1, .bool true, .bool true, .bool true] : List Value).getD i undef) _ A8 (by kernel_rfl) (by kernel_rfl) (by kernel_rfl) (fun i v w w' _ h => h) ?_ ?_
  · refine ⟨?_, ?_, ?_, ?_, ?_, ?_, ?_, ?_, ?_, ?_, ?_, ?_, ?_, ?_, ?_, ?_, ?_, ?_, ?_, ?_, ?_, ?_, ?_, ?_, ?_, ?_, ?_, ?_, ?_, ?_, ?_, ?_, ?_, ?_, trivial⟩
    · intro a W hI hun haft hi
      have e4 : a.eval (.tmp 4) = .int .i64 0 := hun 4 (by kernel_rfl)
      exact b_same hi hI rfl _ (run_move_op rfl e4) rfl
    · intro a W hI hun haft hi
      have f0 : a.eval (.tmp 34) = .int .i64 0 := haft ⟨0, .data⟩ (by simp) rfl _ _ rfl rfl
      exact b_same hi hI rfl (.bool true) (run_bin_op rfl f0 rfl (guardI6 _ _ _ _ _ _ _) (by kernel_rfl)) rfl
    · intro a W hI hun haft hi
      have f1 : a.eval (.tmp 35) = .bool true := haft ⟨1, .data⟩ (by simp) rfl _ _ rfl rfl
      exact b_same hi hI rfl _ (run_move_op rfl f1) rfl
    · intro a W hI hun haft hi
      have fg : a.eval (.tmp 36) = .bool true := haft ⟨2, .guard⟩ (by simp) rfl _ _ rfl rfl
      have e6 : a.eval (.tmp 6) = .int .i64 0 := hun 6 (by kernel_rfl)
      exact b_same hi hI (guard_ok rfl rfl rfl fg) _ (run_move_op rfl e6) rfl
    · intro a W hI hun haft hi
      have fg : a.eval (.tmp 36) = .bool true := haft ⟨2, .guard⟩ (by simp) rfl _ _ rfl rfl
      have f3 : a.eval (.tmp 37) = .int .i64 0 := haft ⟨3, .data⟩ (by simp) rfl _ _ rfl rfl
      exact b_same hi hI (guard_ok rfl rfl rfl fg) (.bool true) (run_bin_op rfl f3 rfl (guardI6 _ _ _ _ _ _ _) (by kernel_rfl)) rfl
    · intro a W hI hun haft hi
      have f2 : a.eval (.tmp 36) = .bool true := haft ⟨2, .data⟩ (by simp) rfl _ _ rfl rfl
      have f4 : a.eval (.tmp 38) = .bool true := haft ⟨4, .data⟩ (by simp) rfl _ _ rfl rfl
      exact b_same hi hI rfl _ (run_pick_op (b := true) rfl f2 f4 rfl) rfl
    · intro a W hI hun haft hi
      have f5 : a.eval (.tmp 39) = .bool true := haft ⟨5, .data⟩ (by simp) rfl _ _ rfl rfl
      exact b_same hi hI rfl _ (run_move_op rfl f5) rfl
    · intro a W hI hun haft hi
      have fg : a.eval (.tmp 40) = .bool true := haft ⟨6, .guard⟩ (by simp) rfl _ _ rfl rfl
      have e2 : a.eval (.tmp 2) = .pointer (some ⟨A2.heap.size, 0, none⟩) := hun 2 (by kernel_rfl)
      exact b_same hi hI (guard_ok rfl rfl rfl fg) _ (run_load_op rfl e2 (Blk.below F8.out hI (Blk.lt F8.out)) Try.underlying31 rfl (sizeE _)) rfl
    · intro a W hI hun haft hi
      have fg : a.eval (.tmp 40) = .bool true := haft ⟨6, .guard⟩ (by simp) rfl _ _ rfl rfl
      have e5 : a.eval (.tmp 5) = .pointer (some ⟨A5.heap.size, 0, none⟩) := hun 5 (by kernel_rfl)
      exact b_same hi hI (guard_ok rfl rfl rfl fg) _ (run_load_op rfl e5 (Blk.below G8.out hI (Blk.lt G8.out)) Try.underlying31 rfl (sizeE _)) rfl
    · intro a W hI hun haft hi
      have fg : a.eval (.tmp 40) = .bool true := haft ⟨6, .guard⟩ (by simp) rfl _ _ rfl rfl
      have f7 : a.eval (.tmp 41) = evV evF := haft ⟨7, .data⟩ (by simp) rfl _ _ rfl rfl
      have f8 : a.eval (.tmp 42) = evV (parsE (bytesE evF)) := haft ⟨8, .data⟩ (by simp) rfl _ _ rfl rfl
      exact b_same hi hI (guard_ok rfl rfl rfl fg) (.bool true) (run_bin_op rfl f7 f8 (guard_agg _ (by kernel_rfl) _ _ _ _ _) (eq_same (evC_same _ _ evF_back).symm _)) rfl
    · intro a W hI hun haft hi
      have f6 : a.eval (.tmp 40) = .bool true := haft ⟨6, .data⟩ (by simp) rfl _ _ rfl rfl
      have f9 : a.eval (.tmp 43) = .bool true := haft ⟨9, .data⟩ (by simp) rfl _ _ rfl rfl
      exact b_same hi hI rfl _ (run_pick_op (b := true) rfl f6 f9 rfl) rfl
    · intro a W hI hun haft hi
      have f10 : a.eval (.tmp 44) = .bool true := haft ⟨10, .data⟩ (by simp) rfl _ _ rfl rfl
      exact b_same hi hI rfl _ (run_move_op rfl f10) rfl
    · intro a W hI hun haft hi
      have fg : a.eval (.tmp 45) = .bool true := haft ⟨11, .guard⟩ (by simp) rfl _ _ rfl rfl
      have e8 : a.eval (.tmp 8) = .int .i64 2 := hun 8 (by kernel_rfl)
      exact b_same hi hI (guard_ok rfl rfl rfl fg) _ (run_move_op rfl e8) rfl
    · intro a W hI hun haft hi
      have fg : a.eval (.tmp 45) = .bool true := haft ⟨11, .guard⟩ (by simp) rfl _ _ rfl rfl
      have f12 : a.eval (.tmp 46) = .int .i64 2 := haft ⟨12, .data⟩ (by simp) rfl _ _ rfl rfl
      exact b_same hi hI (guard_ok rfl rfl rfl fg) (.bool true) (run_bin_op rfl f12 rfl (guardI6 _ _ _ _ _ _ _) (by kernel_rfl)) rfl
    · intro a W hI hun haft hi
      have f11 : a.eval (.tmp 45) = .bool true := haft ⟨11, .data⟩ (by simp) rfl _ _ rfl rfl
      have f13 : a.eval (.tmp 47) = .bool true := haft ⟨13, .data⟩ (by simp) rfl _ _ rfl rfl
      exact b_same hi hI rfl _ (run_pick_op (b := true) rfl f11 f13 rfl) rfl
    · intro a W hI hun haft hi
      have f14 : a.eval (.tmp 48) = .bool true := haft ⟨14, .data⟩ (by simp) rfl _ _ rfl rfl
      exact b_same hi hI rfl _ (run_move_op rfl f14) rfl
    · intro a W hI hun haft hi
      have fg : a.eval (.tmp 49) = .bool true := haft ⟨15, .guard⟩ (by simp) rfl _ _ rfl rfl
      have e1 : a.eval (.tmp 1) = .pointer (some ⟨w.heap.size, 0, none⟩) := hun 1 (by kernel_rfl)
      exact b_same hi hI (guard_ok rfl rfl rfl fg) _ (run_load_op rfl e1 (Blk.below E8.out hI (Blk.lt E8.out)) Try.underlying27 rfl (by kernel_rfl)) rfl
    · intro a W hI hun haft hi
      have fg : a.eval (.tmp 49) = .bool true := haft ⟨15, .guard⟩ (by simp) rfl _ _ rfl rfl
      have f16 : a.eval (.tmp 50) = elV 1 ⟨#[97]⟩ ⟨#[]⟩ ⟨#[]⟩ ⟨#[]⟩ := haft ⟨16, .data⟩ (by simp) rfl _ _ rfl rfl
      exact b_same hi hI (guard_ok rfl rfl rfl fg) (chV evS) (run_build_op (vs := #[(0, .int .i64 3), (1, elV 1 ⟨#[97]⟩ ⟨#[]⟩ ⟨#[]⟩ ⟨#[]⟩)]) rfl (by simp only [List.map_toArray, List.map_cons, List.map_nil, f16]; rfl) (by kernel_rfl)) rfl
    · intro a W hI hun haft hi
      have fg : a.eval (.tmp 49) = .bool true := haft ⟨15, .guard⟩ (by simp) rfl _ _ rfl rfl
      have f17 : a.eval (.tmp 51) = chV evS := haft ⟨17, .data⟩ (by simp) rfl _ _ rfl rfl
      refine b_call hi hI (guard_ok rfl rfl rfl fg) _ _ (run_call_op (args := #[chV evS]) rfl (by simp [f17]) (by kernel_rfl)) ?_
      exact (change_S W (CutOk.below C8.out hI)).mono fun e w' H => ⟨_, H.1, rfl, H.2⟩
    · intro a W hI hun haft hi
      have fg : a.eval (.tmp 49) = .bool true := haft ⟨15, .guard⟩ (by simp) rfl _ _ rfl rfl
      have f18 : a.eval (.tmp 52) = .int .i64 1 := haft ⟨18, .data⟩ (by simp) rfl _ _ rfl rfl
      exact b_same hi hI (guard_ok rfl rfl rfl fg) (.bool true) (run_bin_op rfl f18 rfl (guardI6 _ _ _ _ _ _ _) (by kernel_rfl)) rfl
    · intro a W hI hun haft hi
      have f15 : a.eval (.tmp 49) = .bool true := haft ⟨15, .data⟩ (by simp) rfl _ _ rfl rfl
      have f19 : a.eval (.tmp 53) = .bool true := haft ⟨19, .data⟩ (by simp) rfl _ _ rfl rfl
      exact b_same hi hI rfl _ (run_pick_op (b := true) rfl f15 f19 rfl) rfl
    · intro a W hI hun haft hi
      have f20 : a.eval (.tmp 54) = .bool true := haft ⟨20, .data⟩ (by simp) rfl _ _ rfl rfl
      exact b_same hi hI rfl _ (run_move_op rfl f20) rfl
    · intro a W hI hun haft hi
      have fg : a.eval (.tmp 55) = .bool true := haft ⟨21, .guard⟩ (by simp) rfl _ _ rfl rfl
      have e2 : a.eval (.tmp 2) = .pointer (some ⟨A2.heap.size, 0, none⟩) := hun 2 (by kernel_rfl)
      exact b_same hi hI (guard_ok rfl rfl rfl fg) _ (run_load_op rfl e2 (Blk.below F8.out hI (Blk.lt F8.out)) Try.underlying31 rfl (sizeE _)) rfl
    · intro a W hI hun haft hi
      have fg : a.eval (.tmp 55) = .bool true := haft ⟨21, .guard⟩ (by simp) rfl _ _ rfl rfl
      have f22 : a.eval (.tmp 56) = evV evF := haft ⟨22, .data⟩ (by simp) rfl _ _ rfl rfl
      refine b_call hi hI (guard_ok rfl rfl rfl fg) _ _ (run_call_op (args := #[evV evF]) rfl (by simp [f22]) (by kernel_rfl)) ?_
      exact (eof_any evF W).mono fun e w' H => ⟨_, H.1, rfl, H.2⟩
    · intro a W hI hun haft hi
      have fg : a.eval (.tmp 55) = .bool true := haft ⟨21, .guard⟩ (by simp) rfl _ _ rfl rfl
      have f23 : a.eval (.tmp 57) = chV evF := haft ⟨23, .data⟩ (by simp) rfl _ _ rfl rfl
      exact b_same hi hI (guard_ok rfl rfl rfl fg) _ (run_field_op rfl f23 (fieldE evF _)) rfl
    · intro a W hI hun haft hi
      have fg : a.eval (.tmp 55) = .bool true := haft ⟨21, .guard⟩ (by simp) rfl _ _ rfl rfl
      have e1 : a.eval (.tmp 1) = .pointer (some ⟨w.heap.size, 0, none⟩) := hun 1 (by kernel_rfl)
      exact b_same hi hI (guard_ok rfl rfl rfl fg) _ (run_load_op rfl e1 (Blk.below E8.out hI (Blk.lt E8.out)) Try.underlying27 rfl (by kernel_rfl)) rfl
    · intro a W hI hun haft hi
      have fg : a.eval (.tmp 55) = .bool true := haft ⟨21, .guard⟩ (by simp) rfl _ _ rfl rfl
      have f24 : a.eval (.tmp 58) = elV 1 ⟨#[97]⟩ ⟨#[]⟩ ⟨#[]⟩ ⟨#[]⟩ := haft ⟨24, .data⟩ (by simp) rfl _ _ rfl rfl
      have f25 : a.eval (.tmp 59) = elV 1 ⟨#[97]⟩ ⟨#[]⟩ ⟨#[]⟩ ⟨#[]⟩ := haft ⟨25, .data⟩ (by simp) rfl _ _ rfl rfl
      exact b_same hi hI (guard_ok rfl rfl rfl fg) (.bool true) (run_bin_op rfl f24 f25 (guard_agg _ (by kernel_rfl) _ _ _ _ _) (eq_elem _ _ _ _ _ _)) rfl
    · intro a W hI hun haft hi
      have f21 : a.eval (.tmp 55) = .bool true := haft ⟨21, .data⟩ (by simp) rfl _ _ rfl rfl
      have f26 : a.eval (.tmp 60) = .bool true := haft ⟨26, .data⟩ (by simp) rfl _ _ rfl rfl
      exact b_same hi hI rfl _ (run_pick_op (b := true) rfl f21 f26 rfl) rfl
    · intro a W hI hun haft hi
      have f27 : a.eval (.tmp 61) = .bool true := haft ⟨27, .data⟩ (by simp) rfl _ _ rfl rfl
      exact b_same hi hI rfl _ (run_move_op rfl f27) rfl
    · intro a W hI hun haft hi
      have fg : a.eval (.tmp 62) = .bool true := haft ⟨28, .guard⟩ (by simp) rfl _ _ rfl rfl
      exact b_same hi hI (guard_ok rfl rfl rfl fg) (evV ev0) (by kernel_rfl) rfl
    · intro a W hI hun haft hi
      have fg : a.eval (.tmp 62) = .bool true := haft ⟨28, .guard⟩ (by simp) rfl _ _ rfl rfl
      have f29 : a.eval (.tmp 63) = evV ev0 := haft ⟨29, .data⟩ (by simp) rfl _ _ rfl rfl
      refine b_call hi hI (guard_ok rfl rfl rfl fg) _ _ (run_call_op (args := #[evV ev0]) rfl (by simp [f29]) (by kernel_rfl)) ?_
      exact (right_0 W (CutOk.below C8.out hI)).mono fun e w' H => ⟨_, H.1, rfl, H.2⟩
    · intro a W hI hun haft hi
      have fg : a.eval (.tmp 62) = .bool true := haft ⟨28, .guard⟩ (by simp) rfl _ _ rfl rfl
      have f30 : a.eval (.tmp 64) = .int .i64 1 := haft ⟨30, .data⟩ (by simp) rfl _ _ rfl rfl
      exact b_same hi hI (guard_ok rfl rfl rfl fg) (.bool true) (run_bin_op rfl f30 rfl (guardI6 _ _ _ _ _ _ _) (by kernel_rfl)) rfl
    · intro a W hI hun haft hi
      have f28 : a.eval (.tmp 62) = .bool true := haft ⟨28, .data⟩ (by simp) rfl _ _ rfl rfl
      have f31 : a.eval (.tmp 65) = .bool true := haft ⟨31, .data⟩ (by simp) rfl _ _ rfl rfl
      exact b_same hi hI rfl _ (run_pick_op (b := true) rfl f28 f31 rfl) rfl
    · intro a W hI hun haft hi
      have f32 : a.eval (.tmp 66) = .bool true := haft ⟨32, .data⟩ (by simp) rfl _ _ rfl rfl
      exact b_same hi hI rfl _ (run_assign_op rfl f32) rfl
  · intro vals W hI hp
    have hl33 : vals 33 = .bool true := hp 33 (by decide)
    have HI := Lib.hid hI
    clear hp hI
    simp only [layN, List.size_toArray, List.length_cons, List.length_nil, List.range, List.range.loop, if_true, List.getElem?_toArray, List.getElem?_cons_zero, List.getElem?_cons_succ, Act.put, List.setIfInBounds_toArray, List.set_cons_zero, List.set_cons_succ, Nat.zero_add, Nat.reduceAdd, hl33]
    clear hl33
    go_wp2
    go_ret
    exact ⟨rfl, Y8.out.trans (HI.out.mono Y8.out.size)⟩

end Go.Proofs.Ytmchnnnpabpelaa
