/-
  strings.Builder's writers at this program (copyCheck's own body is told anew: its panic is no part of the road): copyCheck, WriteByte, WriteRune, by walks. Conditions: the builder is one of the call's own.
-/
import Derived.Test.YtmmphgapginmjaaGreatDoorValCmp
import Derived.Lib.OthersKept
import Derived.Lib.AppendZeros
namespace Go.Proofs.YtmmphgapginmjaaGreatDoor
open Go.RowKit

def Own (B b : Nat) (p : Value) (bs : List Value) (w : World) : Prop := Lib.BuilderAt 57 5 B b p bs w
def selfP (b : Nat) : Value := .pointer (some ⟨b, 0, none⟩)
def Kept (b : Nat) (w w' : World) : Prop := Lib.OthersKept 5 (some b) w w'
/-- What a writer leaves: the builder used, holding bs; below B nothing turned; what is neither it nor a row of bytes stands. -/
def Wrote (B b : Nat) (bs : List Value) (w w' : World) : Prop := Own B b (selfP b) bs w' ∧ Below B w w' ∧ Kept b w w'

set_option maxHeartbeats 1000000 in
set_option maxRecDepth 100000 in
theorem copy_used (B b : Nat) (bs : List Value) (w : World) (h : Own B b (selfP b) bs w) : Calls Tryz.prog 56 #[selfP b] w fun e w' => e = .returned (.tuple #[]) ∧ Wrote B b bs w w' := by
  have h0 : w.cell? ⟨b, 0, none⟩ = some (.pointer (some ⟨b, 0, none⟩)) := Lib.BuilderAt.cell0 h
  obtain ⟨j, hj, _⟩ := Option.map_eq_some_iff.1 Tryz.Builder_Extra_169.sizeBuilder
  unfold selfP
  go_enter Tryz.func56, Tryz.ntmps56
  go_wp2
  rw [Lib.run_neq_ptr_same _ _ Tryz.underlying54 hj]
  go_wp2
  go_end0
  exact ⟨rfl, h, Below.refl _ _, Lib.OthersKept.refl _ _ _⟩

set_option maxHeartbeats 1000000 in
set_option maxRecDepth 100000 in
theorem copy_fresh (B b : Nat) (bs : List Value) (w : World) (h : Own B b (.pointer none) bs w) : Calls Tryz.prog 56 #[selfP b] w fun e w' => e = .returned (.tuple #[]) ∧ Wrote B b bs w w' := by
  have h0 : w.cell? ⟨b, 0, none⟩ = some (.pointer none) := Lib.BuilderAt.cell0 h
  have hsh := Lib.BuilderAt.shape h
  have hfz := Lib.BuilderAt.frozen0 h
  obtain ⟨j, hj, hjs⟩ := Option.map_eq_some_iff.1 Tryz.Builder_Extra_169.sizeBuilder
  unfold selfP
  go_enter Tryz.func56, Tryz.ntmps56
  go_wp2
  rw [Lib.run_to_unsafe _ ⟨b, 0, none⟩ Tryz.underlying54 Tryz.underlying89 hj (by rw [hjs]; decide) hsh (Nat.zero_lt_succ 1)]
  simp only [Result.andThen]
  rw [Oper.upon_value]
  go_wp2
  rw [run_callFunc_extern Tryz.func73 (by kernel_rfl) (by kernel_rfl) (by kernel_rfl) (e := Extern.AbiNoEscape.same) (by kernel_rfl)]
  rw [Lib.run_noEscape]
  simp only [Result.andThen]
  rw [Oper.upon_value]
  go_wp2
  rw [Lib.run_from_unsafe _ ⟨b, 0, none⟩ Tryz.underlying89 Tryz.underlying54 hj hsh Tryz.Builder_Extra_169.liesBuilder]
  simp only [Result.andThen]
  rw [Oper.upon_value]
  go_wp2
  go_end0
  exact ⟨rfl, Lib.BuilderAt.used h _, (Below.refl B w).setCell (p := ⟨b, 0, none⟩) h.1 _, (Lib.OthersKept.refl _ _ w).setCell ⟨b, 0, none⟩ rfl _⟩

theorem copy_any (B b : Nat) (bs : List Value) (w : World) (h : Lib.IsBuilder 57 5 B b bs w) : Calls Tryz.prog 56 #[selfP b] w fun e w' => e = .returned (.tuple #[]) ∧ Wrote B b bs w w' :=
  h.elim (copy_fresh B b bs w) (copy_used B b bs w)

theorem own_put {B b : Nat} {w w1 w2 : World} {v v' : Value} {bs bs' : List Value} {o : Obj} (hW : Below B w w1 ∧ Kept b w w1) (hBw : B ≤ w.heap.size) (hB : B ≤ b)
    (hbk : w1.heap[b]? = some (.cells #[selfP b, v] 57 (0, 0))) (hne : v.ownBlock ≠ some b) (hown : w1.ownsRow B 5 1 v bs.length bs) (hg : (w1.alloc o).grownBy w2 v.ownBlock) (hown' : w2.ownsRow B 5 1 v' bs'.length bs') :
    w2.cell? ⟨b, 0, none⟩ = some (selfP b) ∧ w2.cell? ⟨b, 1, none⟩ = some v ∧ w2.frozen? ⟨b, 1, none⟩ = false ∧ Wrote B b bs' w (w2.setCell ⟨b, 1, none⟩ v') := by
  have hlt : b < w1.heap.size := (Array.getElem?_eq_some_iff.1 hbk).1
  have hsz := hW.1.size
  have hb2 : w2.heap[b]? = some (.cells #[selfP b, v] 57 (0, 0)) := by
    rw [hg.block b (by simp; omega) (fun e => hne e.symm), Below.heap_alloc w1 _ b hlt]
    exact hbk
  refine ⟨by rw [Lib.cell_of_heap hb2]; rfl, by rw [Lib.cell_of_heap hb2]; rfl, Lib.frozen_of_heap hb2 1, ?_, ?_, ?_⟩
  · exact Lib.BuilderAt.put (p := selfP b) (bs' := bs') hB hb2 hown' (by decide)
  · refine ((hW.1.alloc (by omega) o).grown hg (by simp; omega) (fun k hk => (hown.lt k hk).1)).setCell (p := ⟨b, 1, none⟩) hB _
  · refine ((Lib.OthersKept.alloc hW.2 o).grown hg (fun g hg' => ?_)).setCell ⟨b, 1, none⟩ rfl _
    exact Lib.ownsRowF_kind (World.ownsRowF_of (hown.alloc o)) g hg'

set_option maxRecDepth 100000 in
/-- Bytes, laid in a block of their own for an append, go in behind a row of the call's own. -/
theorem run_append_byte (w : World) (B : Nat) (v : Value) (n : Nat) (xs : List Value) (c : Int) (ty : TypeId) (hown : w.ownsRow B 5 1 v n xs) (hn : n + 1 ≤ 140737488355328) (hB : B ≤ w.heap.size) :
    ∃ v' w', (Builtin.append_ #[55, 55] ty #[v, .slice (some ⟨w.heap.size, 0, none⟩) 1 1]).run Tryz.prog (w.alloc (.cells #[.int .u8 c] 5)) = .ok v' w' ∧ w'.ownsRow B 5 1 v' (n + 1) (xs ++ [.int .u8 c]) ∧ (w.alloc (.cells #[.int .u8 c] 5)).grownBy w' v.ownBlock := by
  obtain ⟨i0, hi, hz0, hz1, hz2⟩ : ∃ i0 : TypeInfo, Tryz.prog.info? 5 = some i0 ∧ i0.zero = some (.int .u8 0) ∧ i0.size = 1 ∧ i0.bytes = 1 := ⟨_, rfl, rfl, rfl, rfl⟩
  have hlit : Sl (fun x : Int => Value.int .u8 x) (w.alloc (.cells #[.int .u8 c] 5)) (.slice (some ⟨w.heap.size, 0, none⟩) 1 1) [c] := by
    refine ⟨_, _, rfl, Nat.le_refl _, fun _ => ⟨_, 0, rfl, by simp, fun j u hu => ?_⟩⟩
    rw [(Blk.new w _ #[.int .u8 c]).cell (0 + j)]
    match j, hu with
    | 0, hu => simp at hu; subst hu; rfl
  obtain ⟨v', w', h1, h2, h3⟩ := run_append_sl (P := Tryz.prog) (w.alloc (.cells #[.int .u8 c] 5)) B 55 ty 5 i0 (.int .u8 0) 1 Tryz.underlying55 hi hz0 hz1 hz2 rfl v n xs (hown.alloc _) _ [c] hlit (fun _ => rfl) (by simp; omega) (by simp; omega) (by simp; omega)
  exact ⟨v', w', h1, by simpa using h2, h3⟩

set_option maxHeartbeats 1000000 in
set_option maxRecDepth 100000 in
theorem byte_any (B b : Nat) (bs : List Value) (c : Int) (w : World) (h : Lib.IsBuilder 57 5 B b bs w) (hlen : bs.length + 1 ≤ 140737488355328) (hBw : B ≤ w.heap.size) :
    Calls Tryz.prog 71 #[selfP b, .int .u8 c] w fun e w' => e = .returned .nilIface ∧ Wrote B b (bs ++ [.int .u8 c]) w w' := by
  unfold selfP
  go_enter Tryz.func71, Tryz.ntmps71
  go_wp2_with fail
  refine (copy_any B b bs _ h).mono ?_
  rintro e w1 ⟨rfl, h1, hb1, hk1⟩
  obtain ⟨hB, v, hbk, hown, hne⟩ := h1
  have c0 : w1.cell? ⟨b, 0, none⟩ = some (.pointer (some ⟨b, 0, none⟩)) := by rw [Lib.cell_of_heap hbk]; rfl
  have c1 : w1.cell? ⟨b, 1, none⟩ = some v := by rw [Lib.cell_of_heap hbk]; rfl
  obtain ⟨v', w2, hr, hown', hg⟩ := run_append_byte w1 B v bs.length bs c 55 hown hlen (by have := hb1.size; omega)
  obtain ⟨d0, d1, f1, hW⟩ := own_put (bs' := bs ++ [.int .u8 c]) ⟨hb1, hk1⟩ hBw hB hbk hne hown hg (by simpa using hown')
  unfold selfP at d0
  obtain ⟨ao', cap', rfl⟩ : ∃ ao' cap', v' = .slice ao' (bs.length + 1) cap' := by
    rcases hown'.2 with ⟨hv, h0⟩ | ⟨g, cap, cur, hv, _⟩
    · omega
    · exact ⟨_, _, hv⟩
  clear hown hbk hne
  have HO := Lib.hid hown'
  have HG := Lib.hid hg
  have HR := Lib.hid hr
  clear hown' hg hr
  go_wp2_with (at_builtin; refine Lib.wpList_append_run _ rfl _ _ _ _ rfl _ _ rfl rfl _ _ HR.out ?_)
  go_ret
  exact ⟨rfl, hW⟩

set_option maxHeartbeats 1000000 in
set_option maxRecDepth 100000 in
theorem rune_any (B b : Nat) (bs : List Value) (r : Int) (hr0 : -2147483648 ≤ r) (hr1 : r ≤ 2147483647) (w : World) (h : Lib.IsBuilder 57 5 B b bs w) (hlen : bs.length + 4 ≤ 140737488355328) (hBw : B ≤ w.heap.size) :
    Calls Tryz.prog 72 #[selfP b, .int .i32 r] w fun e w' => (∃ v, e = .returned v) ∧ Wrote B b (bs ++ Lib.runeCells r) w w' := by
  unfold selfP
  go_enter Tryz.func72, Tryz.ntmps72
  go_wp2_with fail
  refine (copy_any B b bs _ h).mono ?_
  rintro e w1 ⟨rfl, h1, hb1, hk1⟩
  obtain ⟨hB, v, hbk, hown, hne⟩ := h1
  obtain ⟨ao, cap, rfl⟩ : ∃ ao cap, v = .slice ao bs.length cap := by
    rcases hown.2 with ⟨hv, h0⟩ | ⟨g, cap, cur, hv, _⟩
    · exact ⟨none, 0, by rw [hv, h0]⟩
    · exact ⟨_, _, hv⟩
  have c0 : w1.cell? ⟨b, 0, none⟩ = some (.pointer (some ⟨b, 0, none⟩)) := by rw [Lib.cell_of_heap hbk]; rfl
  have c1 : w1.cell? ⟨b, 1, none⟩ = some (.slice ao bs.length cap) := by rw [Lib.cell_of_heap hbk]; rfl
  have hk4 := Lib.runeCells_le r
  go_wp2_with fail
  refine (Tryz.utf8_AppendRune_plain B _ bs.length bs r hr0 hr1 _ hown hlen (by have := hb1.size; omega)).mono ?_
  rintro e w2 ⟨v', rfl, hown', o, hg⟩
  obtain ⟨d0, d1, f1, hW⟩ := own_put (bs' := bs ++ Lib.runeCells r) ⟨hb1, hk1⟩ hBw hB hbk hne hown hg (by simpa using hown')
  obtain ⟨ao', cap', rfl⟩ : ∃ ao' cap', v' = .slice ao' (bs.length + (Lib.runeCells r).length) cap' := by
    rcases hown'.2 with ⟨hv, h0⟩ | ⟨g, cap, cur, hv, _⟩
    · exact ⟨none, 0, by rw [hv, h0]⟩
    · exact ⟨_, _, hv⟩
  unfold selfP at d0
  clear hown hbk hne
  have HO := Lib.hid hown'
  have HG := Lib.hid hg
  clear hown' hg
  go_wp2
  go_ret2
  exact ⟨⟨_, rfl⟩, hW⟩

end Go.Proofs.YtmmphgapginmjaaGreatDoor
