/-
  A byte ahead of bytes; the law's same of records and just their payloads: the contract, by a walk. Conditions: bounds on lengths.
-/
import Derived.Test.YtkdfedcmhcchiaaJnReg
namespace Go.Proofs.Ytkdfedcmhcchiaa
open Go.RowKit

/-- A slice of one byte, just laid: nothing fits behind it. -/
def OneB (w : World) (v : Value) (x : UInt8) : Prop := ∃ g, v = .slice (some ⟨g, 0, none⟩) 1 1 ∧ g < w.heap.size ∧ w.heap[g]? = some (.cells #[bv x] 5 (0, 0))
theorem OneB.new (W : World) (x : UInt8) : OneB (W.alloc (.cells #[bv x] 5)) (.slice (some ⟨W.heap.size, 0, none⟩) 1 1) x := ⟨_, rfl, (Blk.new W 5 #[bv x]).lt, Blk.new W 5 #[bv x]⟩
theorem OneB.below {w w' : World} {v : Value} {x : UInt8} (h : OneB w v x) (hb : Below w.heap.size w w') : OneB w' v x := by
  obtain ⟨g, hv, hg, hc⟩ := h
  exact ⟨g, hv, Nat.lt_of_lt_of_le hg hb.size, (hb.block g hg).trans hc⟩
/-- What slots hold: just this; a slice that reads so; a slice of one byte. -/
def pOfC (k : Option Value × Option (List UInt8) × Option UInt8) (v : Value) (w : World) : Prop :=
  match k with
  | (some x, _, _) => v = x
  | (none, some l, _) => Sl bv w v l
  | (none, none, some x) => OneB w v x
  | (none, none, none) => True
theorem pOfC_stable (T : List (Option Value × Option (List UInt8) × Option UInt8)) (i : Nat) (v : Value) (w w' : World) (hb : Below w.heap.size w w') (h : pOfC (T.getD i (none, none, none)) v w) : pOfC (T.getD i (none, none, none)) v w' := by
  generalize T.getD i (none, none, none) = k at *
  obtain ⟨x, y, z⟩ := k
  cases x with
  | some x => exact h
  | none =>
    cases y with
    | some l => exact Sl.below h hb
    | none =>
      cases z with
      | some x => exact OneB.below h hb
      | none => trivial

/-- append behind one byte just laid: a row of its own. -/
theorem append_own1 (w : World) (v : Value) (x : UInt8) (B : Nat) (h : OneB w v x) (hB : ∀ k, v.ownBlock = some k → B ≤ k) (hBw : B ≤ w.heap.size) (v2 : Value) (l : List UInt8) (hl : Sl bv w v2 l) (hlen : l.length ≤ 140737488350000) :
    ∃ v' w', (Builtin.append_ #[34, 34] 34 #[v, v2]).run Try.prog w = .ok v' w' ∧ w'.ownsRow B 5 1 v' (x :: l).length (bs (x :: l)) ∧ Below w.heap.size w w' := by
  obtain ⟨i0, hi, hz0, hz1, hz2⟩ := info_parts infoB
  obtain ⟨g, rfl, hg, hc⟩ := h
  have hown : w.ownsRow B 5 1 (.slice (some ⟨g, 0, none⟩) 1 1) 1 [bv x] := ⟨rfl, .inr ⟨g, 1, #[bv x], rfl, hB g rfl, hc, Nat.le_refl _, by unfold maxLen; omega, rfl, rfl⟩⟩
  by_cases hn : l = []
  · subst hn
    obtain ⟨A, c, rfl, hlc, hx⟩ := hl
    refine ⟨.slice (some ⟨g, 0, none⟩) 1 1, w, ?_, hown, Below.refl _ _⟩
    rcases A with _ | ad
    · simp [Builtin.append_, run_underlying Try.underlying34, sizeOf, typeInfo, hi, Builtin.lenOf, Builtin.firstCells, storeCells]
    · simp [Builtin.append_, run_underlying Try.underlying34, sizeOf, typeInfo, hi, Builtin.lenOf, Builtin.firstCells, storeCells, loadCells, loadCellsFrom]
  · obtain ⟨A, c, rfl, hlc, hx⟩ := hl
    obtain ⟨b, o, rfl, hb, hcell⟩ := hx hn
    have hpos : 0 < l.length := List.length_pos_iff.2 hn
    obtain ⟨v', w', hr, ho, hg2⟩ := run_append_arg_grows (P := Try.prog) w 34 34 5 i0 (.int .u8 0) 1 1 Try.underlying34 hi hz0 hz1 hz2 rfl (by omega) ⟨g, 0, none⟩ 1 1 [bv x] rfl (by
        intro j u hu
        have hj : j = 0 := by have := (List.getElem?_eq_some_iff.1 hu).1; simpa using this
        subst hj
        rw [Addr.add_lit, cell_of_row w g (0 + 0) #[bv x] 5 (0, 0) hc]
        simpa using hu) ⟨b, o, none⟩ l.length c (bs l) (by simp [bs]) (by
        intro j u hu
        obtain ⟨y, hy, rfl⟩ : ∃ y, l[j]? = some y ∧ bv y = u := by simpa [bs] using hu
        rw [Addr.add_lit]; exact hcell j y hy) (by omega) (by unfold maxLen; omega) (by omega)
    refine ⟨v', w', hr, ?_, ⟨hg2.os, hg2.tape, hg2.output, hg2.size, fun k hk => hg2.block k hk (by simp)⟩⟩
    have e1 : (x :: l).length = 1 + l.length := by rw [List.length_cons]; omega
    have e2 : bs (x :: l) = [bv x] ++ bs l := rfl
    rw [e1, e2]
    exact own_le ho hBw
theorem append_one (w : World) (v : Value) (x : UInt8) (h : OneB w v x) (v2 : Value) (l : List UInt8) (hl : Sl bv w v2 l) (hlen : l.length ≤ 140737488350000) :
    ∃ v' w', (Builtin.append_ #[34, 34] 34 #[v, v2]).run Try.prog w = .ok v' w' ∧ Sl bv w' v' (x :: l) ∧ Below w.heap.size w w' := by
  obtain ⟨v', w', hr, ho, hb⟩ := append_own1 w v x 0 h (fun _ _ => Nat.zero_le _) (Nat.zero_le _) v2 l hl hlen
  exact ⟨v', w', hr, own_sl ho, hb⟩

theorem bs1 (x : UInt8) (W : World) : (Instr.buildSlice 34 1 #[(0, bv x)]).run Try.prog W = .ok (.slice (some ⟨W.heap.size, 0, none⟩) 1 1) (W.alloc (.cells #[bv x] 5)) := by unfold bv; go_simp
theorem run_buildSlice1 {o : Oper} {ρ : Operand → Value} {x : UInt8} {y : Operand} (ho : o.op = .buildSlice 34 1 #[(0, y)]) (hy : ρ y = bv x) (W : World) : (execOp ρ o).run Try.prog W = .ok (.value (.slice (some ⟨W.heap.size, 0, none⟩) 1 1)) (W.alloc (.cells #[bv x] 5)) := by
  unfold execOp
  simp only [ho]
  rw [show (#[(0, y)] : Array (Nat × Operand)).map (fun x => match x with | (i, x) => (i, ρ x)) = #[(0, bv x)] from by simp [hy]]
  simp [bs1]
theorem run_loadu8_op {o : Oper} {ρ : Operand → Value} {w : World} {ty : TypeId} {x : Operand} {ad : Addr} {n : UInt8} (ho : o.op = .load ty x) (hx : ρ x = .pointer (some ad)) (hu : Try.prog.underlying ty = some (.int .u8)) (hc : w.cell? ad = some (bv n)) : (execOp ρ o).run Try.prog w = .ok (.value (bv n)) w := by
  unfold execOp
  have ha : (isAgg ty).run Try.prog w = .ok false w := by unfold isAgg; rw [Sem.run_bind, run_underlying hu w]; simp
  simp [ho, hx, Instr.loadAt, Instr.sureAddr, loadVar, ha, hc, go_sem]
theorem run_loadsl_op {o : Oper} {ρ : Operand → Value} {w : World} {ty e : TypeId} {x : Operand} {ad : Addr} {A : Option Addr} {n c : Nat} (ho : o.op = .load ty x) (hx : ρ x = .pointer (some ad)) (hu : Try.prog.underlying ty = some (.slice e)) (hc : w.cell? ad = some (.slice A n c)) : (execOp ρ o).run Try.prog w = .ok (.value (.slice A n c)) w := by
  unfold execOp
  have ha : (isAgg ty).run Try.prog w = .ok false w := by unfold isAgg; rw [Sem.run_bind, run_underlying hu w]; simp
  simp [ho, hx, Instr.loadAt, Instr.sureAddr, loadVar, ha, hc, go_sem]
theorem run_fieldAddr_op {o : Oper} {ρ : Operand → Value} {w : World} {ty : TypeId} {x : Operand} {g q k : Nat} {v : Value} (ho : o.op = .fieldAddr ty x k) (hx : ρ x = .pointer (some ⟨g, q, none⟩)) (hr : (Instr.fieldAt ty (.pointer (some ⟨g, q, none⟩)) k).run Try.prog w = .ok v w) : (execOp ρ o).run Try.prog w = .ok (.value v) w := by
  unfold execOp
  simp [ho, hx, hr]
theorem at_rec0 (g : Nat) (w : World) : (Instr.fieldAt 37 (.pointer (some ⟨g, 0, none⟩)) 0).run Try.prog w = .ok (.pointer (some ⟨g, 0, none⟩)) w := by go_simp
theorem at_rec1 (g : Nat) (w : World) : (Instr.fieldAt 37 (.pointer (some ⟨g, 0, none⟩)) 1).run Try.prog w = .ok (.pointer (some ⟨g, 1, none⟩)) w := by go_simp
theorem idx_row (b o k n c : Nat) (h : k < n) (w : World) : (Instr.indexAt 42 (.slice (some ⟨b, o, none⟩) n c) (.int .i64 (k : Int))).run Try.prog w = .ok (.pointer (some ⟨b, o + k, none⟩)) w := by
  have h1 : (k : Int) < (n : Int) := by omega
  go_simp

theorem below_drewN' {B : Nat} {a w : World} (h : Below B a w) (n : Nat) : Below B a (w.drewN n) := ⟨h.os, h.tape, h.output, h.size, h.block⟩

set_option maxRecDepth 100000 in
set_option maxHeartbeats 2000000 in
theorem jsame_any (v1 v2 : Value) (l : List (UInt8 × List UInt8)) (base : Nat) (w : World) (h1 : RecsAt w v1 l) (h2 : RowsFrom w base v2 (l.map payJ)) (hll : l.length ≤ 1000000) (hsm : ∀ r ∈ l, r.2.length ≤ 1000000) :
    Calls Try.prog 16 #[v1, v2] w fun e w' => e = .returned (.bool true) ∧ Below w.heap.size w w' := by
  obtain ⟨A1, c1, rfl, hlc1, hx1⟩ := h1.at_
  obtain ⟨A2, c2, rfl, hlc2, hx2⟩ := h2.at_
  rw [List.length_map] at hlc2 ⊢
  have hx2 : ∀ k (hk : k < l.length), ∃ b o, A2 = some ⟨b, o, none⟩ ∧ b < w.heap.size ∧ ∃ A3 n3 c3, w.cell? ⟨b, o + k, none⟩ = some (.slice A3 n3 c3) ∧ Sl bv w (.slice A3 n3 c3) (payJ (l[k]'hk)) := by
    intro k hk
    obtain ⟨b, o, hA, hb, A3, n3, c3, hc, hs, _⟩ := hx2 k (by rw [List.length_map]; exact hk)
    rw [List.getElem_map] at hs
    exact ⟨b, o, hA, hb, A3, n3, c3, hc, hs⟩
  have HX1 := Lib.hid hx1
  have HX2 := Lib.hid hx2
  have HSM := Lib.hid hsm
  clear hx1 hx2 h1 h2 hsm
  have hll1 : ((l.length : Int) == (l.length : Int)) = true := beq_self_eq_true _
  have hll2 : ((l.length : Int) != (l.length : Int)) = false := by rw [bne, hll1]; rfl
  go_enter Try.func16, Try.ntmps16
  go_wp2
  clear hll1 hll2
  go_loopw [14] (fun i wr => ∃ k : Nat, k ≤ l.length ∧ i = .int .i64 k ∧ Below w.heap.size w wr) (fun i _ => l.length - (intOf i).toNat)
  case atStart => exact ⟨0, Nat.zero_le _, rfl, Below.refl _ _⟩
  case round =>
    obtain ⟨k, hk, rfl, hbw⟩ := hrel
    have HBW := Lib.hid hbw
    by_cases hlt : k < l.length
    · obtain ⟨b1, o1, rfl, hbl1, B1, n1, d1, hr1, hs1, -⟩ := HX1.out k hlt
      obtain ⟨b2, o2, rfl, hbl2, B2, n2, d2, hc2, hs2⟩ := HX2.out k hlt
      have hsm := HSM.out (l[k]'hlt) (List.getElem_mem hlt)
      obtain ⟨kk, dd, hkd⟩ : ∃ kk dd, l[k]'hlt = (kk, dd) := ⟨_, _, rfl⟩
      rw [hkd] at hr1 hs1 hs2 hsm
      simp only [payJ] at hr1 hs1 hs2 hsm
      have k10 := (hbw.cell (p := ⟨b1, o1 + k * 2 + 0, none⟩) hbl1).trans (hr1 0 _ rfl)
      have k11 := (hbw.cell (p := ⟨b1, o1 + k * 2 + 1, none⟩) hbl1).trans (hr1 1 _ rfl)
      rw [Nat.add_zero] at k10
      have hbA : Below w.heap.size w (wr.alloc (.cells #[bv kk, .slice B1 n1 d1] 37)) := hbw.alloc hbw.size _
      have hNB := Blk.new wr 37 #[bv kk, .slice B1 n1 d1]
      have k20 := (hbA.cell (p := ⟨b2, o2 + k, none⟩) hbl2).trans hc2
      have HBA := Lib.hid hbA
      have HNB := Lib.hid hNB
      have HLT := Lib.hid hlt
      have hblA : b2 < (wr.alloc (.cells #[bv kk, .slice B1 n1 d1] 37)).heap.size := Nat.lt_of_lt_of_le hbl2 hbA.size
      have HS1 := Lib.hid (hs1.below hbA)
      have HS2 := Lib.hid (hs2.below hbA)
      have K20 := Lib.hid k20
      have HBL := Lib.hid hblA
      clear hr1 hs1 hs2 hc2 hbw hkd hbA hNB k20 hblA
      unfold bv at k10
      go_upto_region 6 with fail
      rw [show Value.int .u8 ((kk.toNat : Nat) : Int) = bv kk from rfl]
      clear k10 k11
      generalize wr.alloc (.cells #[bv kk, .slice B1 n1 d1] 37) = W7 at *
      generalize wr.heap.size = gk at *
      obtain ⟨X, hX⟩ : ∃ X : ByteArray, X = ⟨(kk :: dd).toArray⟩ := ⟨_, rfl⟩
      refine wp_region_any (by kernel_rfl) ?_
      refine wpAny_below (fun i => pOfC (([(some (.pointer (some ⟨gk, 0, none⟩)), none, none), (some (bv kk), none, none), (none, none, some (kk)), (some (.pointer (some ⟨gk, 1, none⟩)), none, none), (some (.slice B1 n1 d1), none, none), (none, some (kk :: dd), none), (some (.string ⟨(kk :: dd).toArray⟩), none, none), (some (.slice (some ⟨b2, o2, none⟩) l.length c2), none, none), (some (.int .i64 k), none, none), (some (.pointer (some ⟨b2, o2 + k, none⟩)), none, none), (some (.slice B2 n2 d2), none, none), (some (.string ⟨(kk :: dd).toArray⟩), none, none), (some (.bool false), none, none)] : List (Option Value × Option (List UInt8) × Option UInt8)).getD i (none, none, none))) _ W7 (by kernel_rfl) (by kernel_rfl) (by kernel_rfl) (fun i v w w' => pOfC_stable _ i v w w') ?_ ?_
      · refine ⟨?_, ?_, ?_, ?_, ?_, ?_, ?_, ?_, ?_, ?_, ?_, ?_, ?_, trivial⟩
        · intro a W hI hun haft hi
          have e6 : a.eval (.tmp 6) = .pointer (some ⟨gk, 0, none⟩) := hun 6 (by kernel_rfl)
          exact b_same hi hI rfl _ (run_fieldAddr_op rfl e6 (at_rec0 _ _)) rfl
        · intro a W hI hun haft hi
          have f0 : a.eval (.tmp 19) = .pointer (some ⟨gk, 0, none⟩) := haft ⟨0, .data⟩ (by simp) rfl _ _ rfl rfl
          exact b_same hi hI rfl _ (run_loadu8_op rfl f0 Try.underlying5 ((Blk.below HNB.out hI HNB.out.lt).cell 0)) rfl
        · intro a W hI hun haft hi
          have f1 : a.eval (.tmp 20) = bv kk := haft ⟨1, .data⟩ (by simp) rfl _ _ rfl rfl
          refine b_val hi hI rfl _ _ (run_buildSlice1 rfl f1 W) ((Below.refl _ _).alloc (Nat.le_refl _) _) (OneB.new W (kk))
        · intro a W hI hun haft hi
          have e6 : a.eval (.tmp 6) = .pointer (some ⟨gk, 0, none⟩) := hun 6 (by kernel_rfl)
          exact b_same hi hI rfl _ (run_fieldAddr_op rfl e6 (at_rec1 _ _)) rfl
        · intro a W hI hun haft hi
          have f3 : a.eval (.tmp 22) = .pointer (some ⟨gk, 1, none⟩) := haft ⟨3, .data⟩ (by simp) rfl _ _ rfl rfl
          exact b_same hi hI rfl _ (run_loadsl_op rfl f3 Try.underlying34 ((Blk.below HNB.out hI HNB.out.lt).cell 1)) rfl
        · intro a W hI hun haft hi
          have f2 : OneB W (a.eval (.tmp 21)) (kk) := haft ⟨2, .data⟩ (by simp) rfl _ _ rfl rfl
          have f4 : a.eval (.tmp 23) = .slice B1 n1 d1 := haft ⟨4, .data⟩ (by simp) rfl _ _ rfl rfl
          obtain ⟨v', w', hr, hs, hb⟩ := append_one W _ (kk) f2 _ (dd) (Sl.below HS1.out hI) (by omega)
          exact b_val hi hI rfl v' w' (run_append_op (vs := a.eval (.tmp 21)) rfl rfl f4 hr) hb hs
        · intro a W hI hun haft hi
          have f5 : Sl bv W (a.eval (.tmp 24)) (kk :: dd) := haft ⟨5, .data⟩ (by simp) rfl _ _ rfl rfl
          exact b_same hi hI rfl _ (run_convert_op rfl rfl (bytes_str W _ _ f5)) rfl
        · intro a W hI hun haft hi
          have e1 : a.eval (.tmp 1) = .slice (some ⟨b2, o2, none⟩) l.length c2 := hun 1 (by kernel_rfl)
          exact b_same hi hI rfl _ (run_move_op rfl e1) rfl
        · intro a W hI hun haft hi
          have e5 : a.eval (.tmp 5) = .int .i64 k := hun 5 (by kernel_rfl)
          exact b_same hi hI rfl _ (run_move_op rfl e5) rfl
        · intro a W hI hun haft hi
          have f7 : a.eval (.tmp 26) = .slice (some ⟨b2, o2, none⟩) l.length c2 := haft ⟨7, .data⟩ (by simp) rfl _ _ rfl rfl
          have f8 : a.eval (.tmp 27) = .int .i64 k := haft ⟨8, .data⟩ (by simp) rfl _ _ rfl rfl
          exact b_same hi hI rfl _ (run_indexAddr_op rfl f7 f8 (idx_row _ _ _ _ _ HLT.out _)) rfl
        · intro a W hI hun haft hi
          have f9 : a.eval (.tmp 28) = .pointer (some ⟨b2, o2 + k, none⟩) := haft ⟨9, .data⟩ (by simp) rfl _ _ rfl rfl
          exact b_same hi hI rfl _ (run_loadsl_op rfl f9 Try.underlying34 ((Below.cell hI HBL.out).trans K20.out)) rfl
        · intro a W hI hun haft hi
          have f10 : a.eval (.tmp 29) = .slice B2 n2 d2 := haft ⟨10, .data⟩ (by simp) rfl _ _ rfl rfl
          exact b_same hi hI rfl _ (run_convert_op rfl f10 (bytes_str W _ _ (Sl.below HS2.out hI))) rfl
        · intro a W hI hun haft hi
          have f6 : a.eval (.tmp 25) = .string ⟨(kk :: dd).toArray⟩ := haft ⟨6, .data⟩ (by simp) rfl _ _ rfl rfl
          have f11 : a.eval (.tmp 30) = .string ⟨(kk :: dd).toArray⟩ := haft ⟨11, .data⟩ (by simp) rfl _ _ rfl rfl
          exact b_same hi hI rfl (.bool false) (run_bin_op rfl f6 f11 (by go_simp) (run_nes _ _)) rfl
      · intro vals W hI hp
        have hl12 : vals 12 = .bool false := hp 12 (by decide)
        have HI := Lib.hid hI
        clear hp hI
        simp only [layN, List.size_toArray, List.length_cons, List.length_nil, List.range, List.range.loop, if_true, List.getElem?_toArray, List.getElem?_cons_zero, List.getElem?_cons_succ, Act.put, List.setIfInBounds_toArray, List.set_cons_zero, List.set_cons_succ, Nat.zero_add, Nat.reduceAdd, hl12]
        clear hl12
        go_wp2
        go_roundw
        case rel => exact ⟨k + 1, HLT.out, by go_num, HBA.out.trans (HI.out.mono HBA.out.size)⟩
        case measure => have := HLT.out; simp [intOf]; omega
    · have hkk : k = l.length := by omega
      subst hkk
      go_wp2
      go_ret
      exact ⟨rfl, HBW.out⟩

end Go.Proofs.Ytkdfedcmhcchiaa
