/-
  A message in memory; message.replica, parts: the contracts, by walks. message.parts: the contract, by a walk. Conditions: lengths.
-/
import Derived.Test.YtalaidlnhoonfaaQMk
import Derived.Test.YtalaidlnhoonfaaQNa
import Derived.Lib.AppendZeros
import Derived.Test.YtalaidlnhoonfaaEvRefElem
import Derived.Test.YtalaidlnhoonfaaOrderLate
import Derived.Deep.DeepCutAuto
namespace Go.Proofs.Ytalaidlnhoonfaa
open Go.RowKit

/-- A message's numbers. -/
structure Mg where
  k : Int
  f : Int
  t : Int
  v : Nat → Int
/-- A message's cells; the last one is the slice of its events. -/
def mC (m : Mg) (s : Value) : Array Value := #[.int .i64 m.k, .int .i64 m.f, .int .i64 m.t, .int .i64 (m.v 0), .int .i64 (m.v 1), .int .i64 (m.v 2), .int .i64 (m.v 3), .int .i64 (m.v 4), .int .i64 (m.v 5), .int .i64 (m.v 6), .int .i64 (m.v 7), .int .i64 (m.v 8), .int .i64 (m.v 9), .int .i64 (m.v 10), .int .i64 (m.v 11), .int .i64 (m.v 12), .int .i64 (m.v 13), .int .i64 (m.v 14), .int .i64 (m.v 15), s]
def mV (m : Mg) (s : Value) : Value := .agg (mC m s)
/-- Its parts, in order. -/
def Mg.p (m : Mg) (i : Nat) : Int := if i = 0 then m.k else if i = 1 then m.f else if i = 2 then m.t else m.v (i - 3)
def Mg.put (m : Mg) (i : Nat) (x : Int) : Mg := if i = 0 then { m with k := x } else if i = 1 then { m with f := x } else if i = 2 then { m with t := x } else { m with v := fun j => if j = i - 3 then x else m.v j }
theorem nineteen {i : Nat} (h : i < 19) : i = 0 ∨ i = 1 ∨ i = 2 ∨ i = 3 ∨ i = 4 ∨ i = 5 ∨ i = 6 ∨ i = 7 ∨ i = 8 ∨ i = 9 ∨ i = 10 ∨ i = 11 ∨ i = 12 ∨ i = 13 ∨ i = 14 ∨ i = 15 ∨ i = 16 ∨ i = 17 ∨ i = 18 := by omega
theorem mC_at (m : Mg) (s : Value) (i : Nat) (h : i < 19) : (mC m s)[i]? = some (.int .i64 (m.p i)) := by
  rcases nineteen h with rfl | rfl | rfl | rfl | rfl | rfl | rfl | rfl | rfl | rfl | rfl | rfl | rfl | rfl | rfl | rfl | rfl | rfl | rfl <;> rfl
theorem mC_put (m : Mg) (s : Value) (i : Nat) (x : Int) (h : i < 19) : (mC m s).setIfInBounds i (.int .i64 x) = mC (m.put i x) s := by
  rcases nineteen h with rfl | rfl | rfl | rfl | rfl | rfl | rfl | rfl | rfl | rfl | rfl | rfl | rfl | rfl | rfl | rfl | rfl | rfl | rfl <;> rfl
theorem mC_last (m : Mg) (s : Value) : (mC m s)[19]? = some s := rfl
theorem mC_ev (m : Mg) (s s' : Value) : (mC m s).setIfInBounds 19 s' = mC m s' := rfl
theorem mC_one (m : Mg) (A : Option Addr) (n c : Nat) : (mC m (.slice A n c)).all (·.oneCell') = true := by simp [mC, Value.oneCell']
def m0 : Mg := ⟨0, 0, 0, fun _ => 0⟩
theorem zeroM : (Try.prog.info? 26).map (fun i => (i.zero, i.size)) = some (some (.agg (mC m0 (.slice none 0 0))), 20) := by kernel_rfl
theorem sizeM (m : Mg) (s : Value) : (Try.prog.info? 26).map (·.size) = some (mC m s).size := (zero_of_info zeroM).2
/-- A message's block. -/
def MB (w : World) (g : Nat) (m : Mg) (s : Value) : Prop := Blk w g 26 (mC m s)
section
variable {w w' : World} {g : Nat} {m : Mg} {s : Value}
theorem MB.keep (h : MB w g m s) (hb : Below w.heap.size w w') : MB w' g m s := Blk.below h hb (Blk.lt h)
theorem MB.new_ (w : World) (m : Mg) (s : Value) : MB (w.alloc (.cells (mC m s) 26)) w.heap.size m s := Blk.new w _ _
theorem MB.lt (h : MB w g m s) : g < w.heap.size := Blk.lt h
theorem MB.at_ (h : MB w g m s) (i : Nat) (hi : i < 19) : w.cell? ⟨g, i, none⟩ = some (.int .i64 (m.p i)) := (Blk.cell h i).trans (mC_at m s i hi)
theorem MB.ev (h : MB w g m s) : w.cell? ⟨g, 19, none⟩ = some s := (Blk.cell h 19).trans rfl
end
def repB (i : Int) : Bool := decide (0 ≤ i ∧ i < 16)
theorem replica_any (i : Int) (w : World) : Calls Try.prog 21 #[.int .i64 i] w (Gives w (.bool (repB i))) := by
  unfold repB
  by_cases h1 : 0 ≤ i
  · have d1 : decide (0 ≤ i) = true := by simpa using h1
    by_cases h2 : i < 16
    · have d2 : decide (i < 16) = true := by simpa using h2
      have HR := Lib.hid (show decide (0 ≤ i ∧ i < 16) = true from decide_eq_true ⟨h1, h2⟩)
      rw [HR.out]
      clear h1 h2
      go_enter Try.func21, Try.ntmps21
      go_wp2
      go_ret
      exact ⟨rfl, Below.refl _ _⟩
    · have d2 : decide (i < 16) = false := by simpa using h2
      have HR := Lib.hid (show decide (0 ≤ i ∧ i < 16) = false from decide_eq_false (by omega))
      rw [HR.out]
      clear h1 h2
      go_enter Try.func21, Try.ntmps21
      go_wp2
      go_ret
      exact ⟨rfl, Below.refl _ _⟩
  · have d1 : decide (0 ≤ i) = false := by simpa using h1
    have HR := Lib.hid (show decide (0 ≤ i ∧ i < 16) = false from decide_eq_false (by omega))
    rw [HR.out]
    clear h1
    go_enter Try.func21, Try.ntmps21
    go_wp2
    go_ret
    exact ⟨rfl, Below.refl _ _⟩
theorem rep_is (i : Int) (b : Bool) (h : repB i = b) (w : World) : Calls Try.prog 21 #[.int .i64 i] w (Gives w (.bool b)) := by subst h; exact replica_any i w

end Go.Proofs.Ytalaidlnhoonfaa

namespace Go.Proofs.Ytalaidlnhoonfaa
open Go.RowKit

section
variable {P : Program}
theorem run_nilCheck_op {o : Oper} {ρ : Operand → Value} {w : World} {x : Operand} {ad : Addr} (ho : o.op = .nilCheck x) (hx : ρ x = .pointer (some ad)) : (execOp ρ o).run P w = .ok (.value (.pointer (some ad))) w := by
  unfold execOp
  simp [ho, hx, go_sem]
theorem run_loadsl_op {o : Oper} {ρ : Operand → Value} {w : World} {ty e : TypeId} {x : Operand} {ad : Addr} {A : Option Addr} {n c : Nat} (ho : o.op = .load ty x) (hx : ρ x = .pointer (some ad)) (hu : P.underlying ty = some (.slice e)) (hc : w.cell? ad = some (.slice A n c)) :
    (execOp ρ o).run P w = .ok (.value (.slice A n c)) w := by
  unfold execOp
  have ha : (isAgg ty).run P w = .ok false w := by unfold isAgg; rw [Sem.run_bind, run_underlying hu w]; simp
  simp [ho, hx, Instr.loadAt, Instr.sureAddr, loadVar, ha, hc, go_sem]
theorem run_buildSlice_op {o : Oper} {ρ : Operand → Value} {w w' : World} {t : TypeId} {len : Nat} {xs : Array (Nat × Operand)} {vs : Array (Nat × Value)} {v : Value} (ho : o.op = .buildSlice t len xs) (hx : xs.map (fun (i, x) => (i, ρ x)) = vs) (hr : (Instr.buildSlice t len vs).run P w = .ok v w') : (execOp ρ o).run P w = .ok (.value v) w' := by
  unfold execOp
  simp only [ho]
  rw [show (xs.map fun x => match x with | (i, x) => (i, ρ x)) = vs from hx]
  simp [hr]
end
/-- A pointer to a message's part. -/
def pf (g i : Nat) : Value := .pointer (some ⟨g, i, none⟩)
def ptrL (g n : Nat) : List Value := (List.range n).map (pf g)
theorem infoPt : (Try.prog.info? 74).map (fun i => (i.zero, i.size, i.bytes)) = some (some (.pointer none), 1, 8) := by kernel_rfl
theorem bs3 (g : Nat) (w : World) : (Instr.buildSlice 71 3 #[(0, pf g 0), (1, pf g 1), (2, pf g 2)]).run Try.prog w = .ok (.slice (some ⟨w.heap.size, 0, none⟩) 3 3) (w.alloc (.cells #[pf g 0, pf g 1, pf g 2] 74)) := by
  unfold pf; go_simp
theorem bs1 (g i : Nat) (w : World) : (Instr.buildSlice 71 1 #[(0, pf g i)]).run Try.prog w = .ok (.slice (some ⟨w.heap.size, 0, none⟩) 1 1) (w.alloc (.cells #[pf g i] 74)) := by
  unfold pf; go_simp
theorem own3 (g : Nat) (w : World) : (w.alloc (.cells #[pf g 0, pf g 1, pf g 2] 74)).ownsRow w.heap.size 74 1 (.slice (some ⟨w.heap.size, 0, none⟩) 3 3) 3 (ptrL g 3) :=
  ⟨by simp [ptrL], .inr ⟨w.heap.size, 3, #[pf g 0, pf g 1, pf g 2], rfl, Nat.le_refl _, heap_alloc_new w _, Nat.le_refl _, by decide, by simp, by simp [ptrL, List.range, List.range.loop]⟩⟩
theorem sl1 (g i : Nat) (w : World) : Sl (pf g) (w.alloc (.cells #[pf g i] 74)) (.slice (some ⟨w.heap.size, 0, none⟩) 1 1) [i] := ⟨_, _, rfl, Nat.le_refl _, fun _ => ⟨w.heap.size, 0, rfl, by simp, fun j u hj => by
  have hj0 : j = 0 := by have := (List.getElem?_eq_some_iff.1 hj).1; simp at this; exact this
  subst hj0
  have hu : u = i := by simpa using hj.symm
  subst hu
  exact (Blk.cell (Blk.new w _ _) 0).trans rfl⟩⟩
theorem at_vec3 (g k : Nat) (h : k < 16) (w : World) : (Instr.indexAt 23 (.pointer (some ⟨g, 3, none⟩)) (.int .i64 k)).run Try.prog w = .ok (.pointer (some ⟨g, 3 + k, none⟩)) w := by
  have h2 : (k : Int) < 16 := by omega
  go_simp
def pPt (R g : Nat) (i : Nat) (v : Value) (w : World) : Prop :=
  match i with
  | 2 => v = pf g 0
  | 5 => v = pf g 1
  | 8 => v = pf g 2
  | 9 => w.ownsRow R 74 1 v 3 (ptrL g 3)
  | 10 => w.ownsRow R 74 1 v 3 (ptrL g 3)
  | _ => v = pf g 0
theorem own_belowP {w w' : World} {B n : Nat} {e : TypeId} {v : Value} {xs : List Value} (h : w.ownsRow B e 1 v n xs) (hb : Below w.heap.size w w') : w'.ownsRow B e 1 v n xs :=
  h.kept (row := none) ⟨hb.os, hb.tape, hb.output, hb.size, fun i hi _ => hb.block i hi⟩ (by cases hv : v.ownBlock <;> simp)
theorem own_baseP {w : World} {B B' n : Nat} {e : TypeId} {v : Value} {xs : List Value} (h : w.ownsRow B e 1 v n xs) (hb : B' ≤ B) : w.ownsRow B' e 1 v n xs := by
  refine ⟨h.1, ?_⟩
  rcases h.2 with hn | ⟨g, cap, cur, rfl, hg, rest⟩
  · exact .inl hn
  · exact .inr ⟨g, cap, cur, rfl, Nat.le_trans hb hg, rest⟩
theorem pPt_keep {R g i : Nat} {v : Value} {w w' : World} (hb : Below w.heap.size w w') (h : pPt R g i v w) : pPt R g i v w' := by
  unfold pPt at *
  split at h <;> first | exact h | exact own_belowP h hb
theorem at_msg0 (g : Nat) (w : World) : (Instr.fieldAt 26 (.pointer (some ⟨g, 0, none⟩)) 0).run Try.prog w = .ok (pf g 0) w := by unfold pf; go_simp
theorem at_msg1 (g : Nat) (w : World) : (Instr.fieldAt 26 (.pointer (some ⟨g, 0, none⟩)) 1).run Try.prog w = .ok (pf g 1) w := by unfold pf; go_simp
theorem at_msg2 (g : Nat) (w : World) : (Instr.fieldAt 26 (.pointer (some ⟨g, 0, none⟩)) 2).run Try.prog w = .ok (pf g 2) w := by unfold pf; go_simp
theorem ptrL_next (g n : Nat) : ptrL g (n + 1) = ptrL g n ++ [n].map (pf g) := by simp [ptrL, List.range_succ]

set_option maxRecDepth 100000 in
set_option maxHeartbeats 2000000 in
theorem parts_any (g : Nat) (w : World) : Calls Try.prog 37 #[.pointer (some ⟨g, 0, none⟩)] w fun e w' => ∃ v, e = .returned v ∧ w'.ownsRow w.heap.size 74 1 v 19 (ptrL g 19) ∧ Below w.heap.size w w' := by
  obtain ⟨p, hp⟩ : ∃ p, w.heap.size = p := ⟨_, rfl⟩
  have HP := Lib.hid hp
  obtain ⟨i0, hi, hz0, hz1, hz2⟩ := info_parts infoPt
  have HI0 := Lib.hid hi
  have HZ0 := Lib.hid hz0
  have HZ1 := Lib.hid hz1
  have HZ2 := Lib.hid hz2
  rw [hp]
  clear hp hi hz0 hz1 hz2
  go_enter Try.func37, Try.ntmps37
  go_upto_region 1 with fail
  try simp only [Act.put]
  refine wp_region_any (by kernel_rfl) ?_
  refine wpAny_below (fun i uq W => pPt p g i uq W) _ w (by kernel_rfl) (by kernel_rfl) (by kernel_rfl) (fun i v w w' hb h => pPt_keep hb h) ?_ ?_
  · refine ⟨?_, ?_, ?_, ?_, ?_, ?_, ?_, ?_, ?_, ?_, ?_, trivial⟩
    · intro a W hI hun haft hi
      have e0 : a.eval (.tmp 0) = pf g 0 := hun 0 (by kernel_rfl)
      exact b_same hi hI rfl _ (run_move_op rfl e0) rfl
    · intro a W hI hun haft hi
      have f0 : a.eval (.tmp 5) = pf g 0 := haft ⟨0, .data⟩ (by simp) rfl _ _ rfl rfl
      exact b_same hi hI rfl _ (run_nilCheck_op rfl f0) rfl
    · intro a W hI hun haft hi
      have f1 : a.eval (.tmp 6) = pf g 0 := haft ⟨1, .data⟩ (by simp) rfl _ _ rfl rfl
      exact b_same hi hI rfl _ (run_fieldAddr_any rfl f1 (at_msg0 g W)) rfl
    · intro a W hI hun haft hi
      have e0 : a.eval (.tmp 0) = pf g 0 := hun 0 (by kernel_rfl)
      exact b_same hi hI rfl _ (run_move_op rfl e0) rfl
    · intro a W hI hun haft hi
      have f3 : a.eval (.tmp 8) = pf g 0 := haft ⟨3, .data⟩ (by simp) rfl _ _ rfl rfl
      exact b_same hi hI rfl _ (run_nilCheck_op rfl f3) rfl
    · intro a W hI hun haft hi
      have f4 : a.eval (.tmp 9) = pf g 0 := haft ⟨4, .data⟩ (by simp) rfl _ _ rfl rfl
      exact b_same hi hI rfl _ (run_fieldAddr_any rfl f4 (at_msg1 g W)) rfl
    · intro a W hI hun haft hi
      have e0 : a.eval (.tmp 0) = pf g 0 := hun 0 (by kernel_rfl)
      exact b_same hi hI rfl _ (run_move_op rfl e0) rfl
    · intro a W hI hun haft hi
      have f6 : a.eval (.tmp 11) = pf g 0 := haft ⟨6, .data⟩ (by simp) rfl _ _ rfl rfl
      exact b_same hi hI rfl _ (run_nilCheck_op rfl f6) rfl
    · intro a W hI hun haft hi
      have f7 : a.eval (.tmp 12) = pf g 0 := haft ⟨7, .data⟩ (by simp) rfl _ _ rfl rfl
      exact b_same hi hI rfl _ (run_fieldAddr_any rfl f7 (at_msg2 g W)) rfl
    · intro a W hI hun haft hi
      have f2 : a.eval (.tmp 7) = pf g 0 := haft ⟨2, .data⟩ (by simp) rfl _ _ rfl rfl
      have f5 : a.eval (.tmp 10) = pf g 1 := haft ⟨5, .data⟩ (by simp) rfl _ _ rfl rfl
      have f8 : a.eval (.tmp 13) = pf g 2 := haft ⟨8, .data⟩ (by simp) rfl _ _ rfl rfl
      exact b_val hi hI rfl _ _ (run_buildSlice_op (vs := #[(0, pf g 0), (1, pf g 1), (2, pf g 2)]) rfl (by simp only [List.map_toArray, List.map_cons, List.map_nil, f2, f5, f8]) (bs3 g W)) ((Below.refl _ _).alloc (Nat.le_refl _) _) (own_baseP (own3 g W) (by have := hI.size; have := HP.out; omega))
    · intro a W hI hun haft hi
      have f9 : W.ownsRow p 74 1 (a.eval (.tmp 14)) 3 (ptrL g 3) := haft ⟨9, .data⟩ (by simp) rfl _ _ rfl rfl
      exact b_same hi hI rfl _ (run_assign_op rfl rfl) f9
  · intro vals W hI hq
    have ho : W.ownsRow p 74 1 (vals 10) 3 (ptrL g 3) := hq 10 (by decide)
    obtain ⟨v3, hv3⟩ : ∃ v3, vals 10 = v3 := ⟨_, rfl⟩
    rw [hv3] at ho
    have HV3 := Lib.hid hv3
    have HO := Lib.hid ho
    have HB := Lib.hid hI
    clear hq hI ho hv3
    simp only [layN, List.size_toArray, List.length_cons, List.length_nil, List.range, List.range.loop, if_true, List.getElem?_toArray, List.getElem?_cons_zero, List.getElem?_cons_succ, Act.put, List.setIfInBounds_toArray, List.set_cons_zero, List.set_cons_succ, Nat.zero_add, Nat.reduceAdd, HV3.out]
    go_wp2_with fail
    go_loopw [3, 15] (fun v3 v15 wr => ∃ k : Nat, v15 = .int .i64 k ∧ k ≤ 16 ∧ wr.ownsRow p 74 1 v3 (3 + k) (ptrL g (3 + k)) ∧ Below w.heap.size w wr) (fun _ v15 _ => 16 - (intOf v15).toNat)
    case atStart => exact ⟨0, rfl, Nat.zero_le _, HO.out, HB.out⟩
    case round =>
      obtain ⟨k, rfl, hk, ho, hb⟩ := hrel
      obtain ⟨wo, rfl⟩ : ∃ wo, wo = wr := ⟨_, rfl⟩
      by_cases hlt : k < 16
      · have hpw : p ≤ wo.heap.size := by have := hb.size; have := HP.out; omega
        obtain ⟨X, hX⟩ : ∃ X, X = wo.alloc (.cells #[pf g (3 + k)] 74) := ⟨_, rfl⟩
        have hbX : Below wo.heap.size wo X := by rw [hX]; exact (Below.refl _ _).alloc (Nat.le_refl _) _
        have hsl : Sl (pf g) X (.slice (some ⟨wo.heap.size, 0, none⟩) 1 1) [3 + k] := by rw [hX]; exact sl1 g (3 + k) wo
        obtain ⟨v', w', hr, ho', hg⟩ := run_append_sl (P := Try.prog) X p 71 71 74 i0 _ 8 Try.underlying71 HI0.out HZ0.out HZ1.out HZ2.out rfl u3 (3 + k) _ (own_belowP ho hbX) _ [3 + k] hsl (fun _ => rfl) (by simp; omega) (by simp; omega) (Nat.le_trans hpw hbX.size)
        have HR := Lib.hid hr
        have HO' := Lib.hid (show w'.ownsRow p 74 1 v' (3 + (k + 1)) (ptrL g (3 + (k + 1))) by
          have := ho'
          rw [← ptrL_next] at this
          exact this)
        have HB' := Lib.hid (show Below w.heap.size w w' from ((hb.trans (hbX.mono hb.size)).grown hg (by have := hb.size; have := hbX.size; omega) (fun q e => by have := ((own_belowP ho hbX).lt q e).1; have := HP.out; omega)))
        have HXe := Lib.hid hX
        have HAt := Lib.hid (at_vec3 g k hlt wo)
        have HBs := Lib.hid (bs1 g (3 + k) wo)
        have hw := IntWalk.i64_in ((k : Int) + 1) (by omega)
        have hjm : ¬ 9223372036854775807 < k + 1 := by omega
        rw [hX] at HR
        clear ho hb hX hbX hsl hr ho' hg hpw
        go_wp2_with (first
          | (refine wpList_val (o := ⟨some 23, _, _, _, _, _⟩) rfl (pf g (3 + k)) wo (run_indexAddr_op rfl rfl rfl HAt.out) ?_)
          | (refine wpList_val (o := ⟨some 24, _, _, _, _, _⟩) rfl (.slice (some ⟨wo.heap.size, 0, none⟩) 1 1) (wo.alloc (.cells #[pf g (3 + k)] 74)) (run_buildSlice_op (vs := #[(0, pf g (3 + k))]) rfl (by simp only [List.map_toArray, List.map_cons, List.map_nil]; rfl) HBs.out) ?_)
          | (at_builtin; refine Lib.wpList_append_run (o := ⟨some 25, _, _, _, _, _⟩) _ rfl _ _ _ _ rfl _ _ rfl rfl _ _ HR.out ?_)
          | fail)
        go_roundw
        case rel => exact ⟨k + 1, by go_num, by omega, HO'.out, HB'.out⟩
        case measure => simp [intOf] <;> omega
      · have hkN : k = 16 := by omega
        subst hkN
        have HOE := Lib.hid ho
        have HBE := Lib.hid hb
        clear ho hb
        go_wp2
        go_ret
        exact ⟨_, rfl, HOE.out, by first | exact HBE.out | (rw [← HP.out]; exact HBE.out)⟩

end Go.Proofs.Ytalaidlnhoonfaa
