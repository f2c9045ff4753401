/-
  value.names, value.held, value.Right, value.Elem, value.Compare, value.OfLink, value.Link, value.inner: the contracts, by walks. value.held, value.Right, value.Elem, value.Link, value.OfLink, value.Compare, value.inner: the contracts, by walks. Conditions: lengths.
-/
import Derived.Test.YtdgglhlofnigkaaGreatDoorRows
import Derived.Test.YtdgglhlofnigkaaGreatDoorJWords
import Derived.Test.YtdgglhlofnigkaaGreatDoorJEVOps
import Derived.Test.YtdgglhlofnigkaaGreatDoorValName
import Derived.Test.YtdgglhlofnigkaaGreatDoorShelf
import Derived.Handy
namespace Go.Proofs.YtdgglhlofnigkaaGreatDoor
open Lib (hid)
open Go.RowKit
def CutOk (w : World) : Prop := 0 < w.heap.size ∧ ∃ m : Int, w.cell? ⟨0, 0, none⟩ = some (.int .i64 m)
theorem CutOk.below {w w' : World} (h : CutOk w) (hb : Below w.heap.size w w') : CutOk w' := by
 obtain ⟨h0, m, hm⟩ := h
 exact ⟨Nat.lt_of_lt_of_le h0 hb.size, m, (hb.cell (p := ⟨0, 0, none⟩) h0).trans hm⟩
theorem CutOk.alloc {w : World} (h : CutOk w) (o : Obj) : CutOk (w.alloc o) := h.below ((Below.refl _ _).alloc (Nat.le_refl _) o)
theorem CutOk.drewN {w : World} (h : CutOk w) (n : Nat) : CutOk (w.drewN n) := h
def sv (l : List UInt8) : Value := .string ⟨l.toArray⟩
def lkV (a b c : List UInt8) : Value := .agg #[sv a, sv b, sv c]
def nmA (l : List UInt8) : List UInt8 := (Lib.cut l [62]).1
def nmK (l : List UInt8) : List UInt8 := (Lib.cut (Lib.cut l [62]).2.1 [62]).1
def nmT (l : List UInt8) : List UInt8 := (Lib.cut (Lib.cut l [62]).2.1 [62]).2.1
def nmB (l : List UInt8) : Bool := nameB (nmA l) && nameB (nmK l) && nameB (nmT l)
def nmV (l : List UInt8) : Value := .tuple #[if nmB l then lkV (nmA l) (nmT l) (nmK l) else lkV [] [] [], .bool (nmB l)]
theorem cut_len (l s : List UInt8) : (Lib.cut l s).1.length ≤ l.length ∧ (Lib.cut l s).2.1.length ≤ l.length := by
 unfold Lib.cut
 split <;> simp
 omega
theorem cut_any (s : ByteArray) (w : World) (hs : s.size < 4294967281) (hw : CutOk w) : Calls Tryz.prog 148 #[.string s, .string ⟨#[62]⟩] w fun e w' => e = .returned (.tuple #[.string ⟨(Lib.cut s.data.toList [62]).1.toArray⟩, .string ⟨(Lib.cut s.data.toList [62]).2.1.toArray⟩, .bool (Lib.cut s.data.toList [62]).2.2]) ∧ ∃ n, w' = w.drewN n := by
 obtain ⟨_, m, hm⟩ := hw
 exact Tryz.strings_Cut s ⟨#[62]⟩ m w hs hm
def In1 (w : World) (o : Obj) (w' : World) : Prop := Below (w.heap.size + 1) (w.alloc o) w'
theorem In1.drew (w : World) (o : Obj) (n : Nat) : In1 w o ((w.alloc o).drewN n) := ⟨rfl, rfl, rfl, by show (w.alloc o).heap.size ≤ (w.alloc o).heap.size; exact Nat.le_refl _, fun _ _ => rfl⟩
theorem In1.drew' {w w' : World} {o : Obj} (h : In1 w o w') (n : Nat) : In1 w o (w'.drewN n) := ⟨h.os, h.tape, h.output, h.size, h.block⟩
theorem In1.then_ {w w' w'' : World} {o : Obj} (h : In1 w o w') (k : Below w'.heap.size w' w'') : In1 w o w'' :=
 Below.trans h (k.mono (by have := h.size; simp at this; omega))
theorem In1.below {w w' : World} {o : Obj} (h : In1 w o w') : Below w.heap.size w w' := ((Below.refl _ _).alloc (Nat.le_refl _) o).trans (h.mono (Nat.le_succ _))
theorem In1.blk {w w' : World} {t : TypeId} {cs : Array Value} (h : In1 w (.cells cs t) w') : Blk w' w.heap.size t cs := (Blk.new w t cs).below h (Nat.lt_succ_self _)
theorem In1.three {w w' : World} {t : TypeId} {a b c : Value} (h : In1 w (.cells #[a, b, c] t) w') :
  w'.cell? ⟨w.heap.size, 0, none⟩ = some a ∧ w'.cell? ⟨w.heap.size, 1, none⟩ = some b ∧ w'.cell? ⟨w.heap.size, 2, none⟩ = some c ∧
  w'.frozen? ⟨w.heap.size, 0, none⟩ = false ∧ w'.frozen? ⟨w.heap.size, 1, none⟩ = false ∧ w'.frozen? ⟨w.heap.size, 2, none⟩ = false ∧ w.heap.size < w'.heap.size :=
 ⟨by rw [h.blk.cell]; rfl, by rw [h.blk.cell]; rfl, by rw [h.blk.cell]; rfl, h.blk.free 0, h.blk.free 1, h.blk.free 2, h.blk.lt⟩
theorem set3_below {w w' : World} (h : Below w.heap.size w w') (a b c : Value) : Below w.heap.size w (((w'.setCell ⟨w.heap.size, 0, none⟩ a).setCell ⟨w.heap.size, 1, none⟩ b).setCell ⟨w.heap.size, 2, none⟩ c) :=
 ((h.setCell (Nat.le_refl _) a).setCell (Nat.le_refl _) b).setCell (Nat.le_refl _) c
theorem set3_blk {w w' : World} {t : TypeId} {a b c : Value} (h : In1 w (.cells #[a, b, c] t) w') (x y z : Value) : Blk (((w'.setCell ⟨w.heap.size, 0, none⟩ x).setCell ⟨w.heap.size, 1, none⟩ y).setCell ⟨w.heap.size, 2, none⟩ z) w.heap.size t #[x, y, z] := by
 simpa using ((h.blk.set_ 0 x).set_ 1 y).set_ 2 z
theorem ret_cell {P : Program} {fn : Func} {p u : Tmp} {ty : TypeId} (h : fn.results = #[.cell p ty, .tmp u]) (tmps : Array Value) (w : World) (g : Nat) (t : TypeId) (cs : Array Value) (d : TypeDesc) (v : Value)
  (hp : tmps.getD p undef = .pointer (some ⟨g, 0, none⟩)) (hg : Blk w g t cs)
  (hu : P.underlying ty = some d) (hd : (match d with | .struct _ | .array _ _ => true | _ => false) = true) (hi : (P.info? ty).map (·.size) = some cs.size) (hv : tmps.getD u undef = v) :
  (results fn tmps).run P w = .ok (.tuple #[.agg cs, v]) w := by
 rw [results_cell_tmp h, hp, hv]
 simp [asAddr, Result.andThen, run_loadVar_row w g t ty cs (0, 0) d hg hu hd hi]
theorem size_mk (l : List UInt8) : (ByteArray.mk l.toArray).size = l.length := by simp [ByteArray.size]
set_option maxHeartbeats 1000000 in
theorem names_any (s : ByteArray) (w : World) (hs : s.size < 4294967281) (hw : CutOk w) : Calls Tryz.prog 119 #[.string s] w (Gives w (nmV s.data.toList)) := by
 have hlen : s.data.toList.length = s.size := by rw [Array.length_toList]; rfl
 obtain ⟨h1, h2⟩ := cut_len s.data.toList [62]
 obtain ⟨h3, h4⟩ := cut_len (Lib.cut s.data.toList [62]).2.1 [62]
 have hA : Hid (nmA s.data.toList = (Lib.cut s.data.toList [62]).1) := hid rfl
 have hK : Hid (nmK s.data.toList = (Lib.cut (Lib.cut s.data.toList [62]).2.1 [62]).1) := hid rfl
 have hT : Hid (nmT s.data.toList = (Lib.cut (Lib.cut s.data.toList [62]).2.1 [62]).2.1) := hid rfl
 have hB : Hid (nmB s.data.toList = (nameB (nmA s.data.toList) && nameB (nmK s.data.toList) && nameB (nmT s.data.toList))) := hid rfl
 have hV : Hid (nmV s.data.toList = .tuple #[if nmB s.data.toList then lkV (nmA s.data.toList) (nmT s.data.toList) (nmK s.data.toList) else lkV [] [] [], .bool (nmB s.data.toList)]) := hid rfl
 have hL1 : Hid ((ByteArray.mk (Lib.cut s.data.toList [62]).2.1.toArray).size < 4294967281) := hid (by rw [size_mk]; omega)
 have hL2 : Hid ((ByteArray.mk (Lib.cut s.data.toList [62]).1.toArray).size ≤ 9223372036854775807) := hid (by rw [size_mk]; omega)
 have hL3 : Hid ((ByteArray.mk (Lib.cut (Lib.cut s.data.toList [62]).2.1 [62]).1.toArray).size ≤ 9223372036854775807) := hid (by rw [size_mk]; omega)
 have hL4 : Hid ((ByteArray.mk (Lib.cut (Lib.cut s.data.toList [62]).2.1 [62]).2.1.toArray).size ≤ 9223372036854775807) := hid (by rw [size_mk]; omega)
 clear hlen h1 h2 h3 h4
 go_enter Tryz.func119, Tryz.ntmps119
 go_wp2_with fail
 refine (cut_any s _ hs (hw.alloc _)).mono ?_
 rintro e w1 ⟨rfl, n1, rfl⟩
 go_wp2_with fail
 refine (cut_any _ _ hL1.out ((hw.alloc _).drewN n1)).mono ?_
 rintro e w1 ⟨rfl, n2, rfl⟩
 go_wp2_with fail
 refine (name_any _ _ hL2.out).mono ?_
 rintro e w3 ⟨rfl, hb3⟩
 have k3 := (In1.drew _ _ (n1 + n2)).then_ hb3
 clear hb3
 have hVF : nmB s.data.toList = false → Hid (.tuple #[lkV [] [] [], .bool false] = nmV s.data.toList) := fun h => hid (by rw [hV.out, h]; rfl)
 cases q1 : nameB (Lib.cut s.data.toList [62]).1 with
 | false =>
  have HF := hVF (by rw [hB.out, hA.out, q1]; rfl)
  have HQ := hid q1
  clear q1
  obtain ⟨c0, c1, c2, f0, f1, f2, hlt⟩ := k3.three
  have hb := k3.below
  go_wp2_with fail
  (try simp only [Exit.inBlock, Exit.then])
  refine bodyPost_ret (ret_cell rfl _ _ _ _ _ _ (.bool false) rfl (set3_blk k3 _ _ _) Tryz.underlying36 rfl (by kernel_rfl) rfl) rfl ?_
  exact ⟨by rw [← HF.out]; rfl, set3_below hb _ _ _⟩
 | true =>
  have HQ := hid q1
  clear q1
  go_wp2_with fail
  refine (name_any _ _ hL3.out).mono ?_
  rintro e w4 ⟨rfl, hb4⟩
  have k4 := k3.then_ hb4
  clear hb4 k3
  cases q2 : nameB (Lib.cut (Lib.cut s.data.toList [62]).2.1 [62]).1 with
  | false =>
   have HF := hVF (by rw [hB.out, hA.out, hK.out, q2, Bool.and_false]; rfl)
   have HQ2 := hid q2
   clear q2
   obtain ⟨c0, c1, c2, f0, f1, f2, hlt⟩ := k4.three
   have hb := k4.below
   go_wp2_with fail
   (try simp only [Exit.inBlock, Exit.then])
   refine bodyPost_ret (ret_cell rfl _ _ _ _ _ _ (.bool false) rfl (set3_blk k4 _ _ _) Tryz.underlying36 rfl (by kernel_rfl) rfl) rfl ?_
   exact ⟨by rw [← HF.out]; rfl, set3_below hb _ _ _⟩
  | true =>
   have HQ2 := hid q2
   clear q2
   go_wp2_with fail
   refine (name_any _ _ hL4.out).mono ?_
   rintro e w5 ⟨rfl, hb5⟩
   have k5 := k4.then_ hb5
   clear hb5 k4
   obtain ⟨c0, c1, c2, f0, f1, f2, hlt⟩ := k5.three
   have hb := k5.below
   cases q3 : nameB (Lib.cut (Lib.cut s.data.toList [62]).2.1 [62]).2.1 with
   | false =>
    have HF := hVF (by rw [hB.out, hT.out, q3, Bool.and_false])
    have HQ3 := hid q3
    clear q3
    go_wp2_with fail
    (try simp only [Exit.inBlock, Exit.then])
    refine bodyPost_ret (ret_cell rfl _ _ _ _ _ _ (.bool false) rfl (set3_blk k5 _ _ _) Tryz.underlying36 rfl (by kernel_rfl) rfl) rfl ?_
    exact ⟨by rw [← HF.out]; rfl, set3_below hb _ _ _⟩
   | true =>
    have HF : Hid (.tuple #[lkV (nmA s.data.toList) (nmT s.data.toList) (nmK s.data.toList), .bool true] = nmV s.data.toList) := hid (by
     rw [hV.out, show nmB s.data.toList = true by rw [hB.out, hA.out, hK.out, hT.out, HQ.out, HQ2.out, q3]; rfl]; rfl)
    have HQ3 := hid q3
    clear q3
    go_wp2_with fail
    (try simp only [Exit.inBlock, Exit.then])
    refine bodyPost_ret (ret_cell rfl _ _ _ _ _ _ (.bool true) rfl (set3_blk k5 _ _ _) Tryz.underlying36 rfl (by kernel_rfl) rfl) rfl ?_
    exact ⟨by rw [← HF.out, hA.out, hK.out, hT.out]; rfl, set3_below hb _ _ _⟩
end Go.Proofs.YtdgglhlofnigkaaGreatDoor

namespace Go.Proofs.YtdgglhlofnigkaaGreatDoor
open Lib (hid)
open Go.RowKit
def valV (k n : Int) (s : ByteArray) : Value := .agg #[.int .i64 k, .int .i64 n, .string s]
def rightB (k n : Int) (l : List UInt8) : Bool :=
 if k = 0 then n == 0 && l.isEmpty else if k = 1 then (n == 0 || n == 1) && l.isEmpty
 else if k = 2 then decide (-1099511627776 ≤ n) && decide (n ≤ 1099511627776) && l.isEmpty
 else if k = 3 then n == 0 && plainB l else if k = 4 then n == 0 && nameB l else if k = 5 then n == 0 && nmB l else false
def heldB (l : List UInt8) (b : Bool) : Bool := if b then nameB l else l.isEmpty
theorem In1.of {w w' : World} {o : Obj} (h : Below (w.alloc o).heap.size (w.alloc o) w') : In1 w o w' := h.mono (by simp)
theorem alloc_below (w : World) (o : Obj) : Below w.heap.size w (w.alloc o) := (Below.refl _ _).alloc (Nat.le_refl _) o
theorem alloc_then {w w' : World} {o : Obj} (h : Below (w.alloc o).heap.size (w.alloc o) w') : Below w.heap.size w w' := (alloc_below w o).trans (h.mono (by simp))
set_option maxHeartbeats 400000 in
theorem held_any (s : ByteArray) (b : Bool) (w : World) (hs : s.size ≤ 9223372036854775807) : Calls Tryz.prog 126 #[.string s, .bool b] w (Gives w (.bool (heldB s.data.toList b))) := by
 cases b with
 | true =>
  go_enter Tryz.func126, Tryz.ntmps126
  go_wp2_with fail
  refine (name_any _ _ hs).mono ?_
  rintro e w3 ⟨rfl, hb3⟩
  go_wp2_with fail
  go_ret
  exact ⟨rfl, hb3⟩
 | false =>
  have HL : Hid (s.toList = s.data.toList) := hid (Lib.toList_data s)
  go_enter Tryz.func126, Tryz.ntmps126
  go_wp2_with fail
  go_ret
  exact ⟨by rw [HL.out]; rfl, Below.refl _ _⟩
set_option maxHeartbeats 2000000 in
theorem right_wide (k n : Int) (s : ByteArray) (w : World) (hs : s.size ≤ 9223372036854775807) (h5 : k = 5 → s.size < 4294967281) (hw : CutOk w) : Calls Tryz.prog 85 #[valV k n s] w (Gives w (.bool (rightB k n s.data.toList))) := by
 have H5 := hid h5
 clear h5
 have HL : Hid (s.toList = s.data.toList) := hid (Lib.toList_data s)
 unfold valV
 by_cases k0 : k = 0
 ·subst k0
  have HR : Hid (rightB 0 n s.data.toList = (n == 0 && s.toList.isEmpty)) := hid (by rw [HL.out]; rfl)
  go_enter Tryz.func85, Tryz.ntmps85
  go_wp2
  all_goals go_ret
  all_goals exact ⟨by rw [HR.out]; simp [*], alloc_below _ _⟩
 by_cases k1 : k = 1
 ·subst k1
  clear k0
  have HR : Hid (rightB 1 n s.data.toList = ((n == 0 || n == 1) && s.toList.isEmpty)) := hid (by rw [HL.out]; rfl)
  go_enter Tryz.func85, Tryz.ntmps85
  go_wp2
  all_goals go_ret
  all_goals exact ⟨by rw [HR.out]; simp [*], alloc_below _ _⟩
 by_cases k2 : k = 2
 ·subst k2
  clear k0 k1
  have HR : Hid (rightB 2 n s.data.toList = (decide (-1099511627776 ≤ n) && decide (n ≤ 1099511627776) && s.toList.isEmpty)) := hid (by rw [HL.out]; rfl)
  go_enter Tryz.func85, Tryz.ntmps85
  go_wp2
  all_goals go_ret
  all_goals exact ⟨by rw [HR.out]; simp [*] <;> (intros; omega), alloc_below _ _⟩
 by_cases k3 : k = 3
 ·subst k3
  clear k0 k1 k2
  have HR : Hid (rightB 3 n s.data.toList = (n == 0 && plainB s.data.toList)) := hid rfl
  cases hn : (n == 0) with
  | false =>
   go_enter Tryz.func85, Tryz.ntmps85
   go_wp2
   go_ret
   exact ⟨by rw [HR.out, hn]; rfl, alloc_below _ _⟩
  | true =>
   go_enter Tryz.func85, Tryz.ntmps85
   go_wp2_with fail
   refine (plain_any _ _ (by omega)).mono ?_
   rintro e w3 ⟨rfl, hb3⟩
   go_wp2
   go_ret
   exact ⟨by rw [HR.out, hn]; rfl, alloc_then hb3⟩
 by_cases k4 : k = 4
 ·subst k4
  clear k0 k1 k2 k3
  have HR : Hid (rightB 4 n s.data.toList = (n == 0 && nameB s.data.toList)) := hid rfl
  cases hn : (n == 0) with
  | false =>
   go_enter Tryz.func85, Tryz.ntmps85
   go_wp2
   go_ret
   exact ⟨by rw [HR.out, hn]; rfl, alloc_below _ _⟩
  | true =>
   go_enter Tryz.func85, Tryz.ntmps85
   go_wp2_with fail
   refine (name_any _ _ (by omega)).mono ?_
   rintro e w3 ⟨rfl, hb3⟩
   go_wp2
   go_ret
   exact ⟨by rw [HR.out, hn]; rfl, alloc_then hb3⟩
 by_cases k5 : k = 5
 ·subst k5
  clear k0 k1 k2 k3 k4
  have HR : Hid (rightB 5 n s.data.toList = (n == 0 && nmB s.data.toList)) := hid rfl
  go_enter Tryz.func85, Tryz.ntmps85
  go_wp2_with fail
  refine (names_any _ _ (H5.out (by first | rfl | trivial)) (hw.alloc _)).mono ?_
  rintro e w3 ⟨rfl, hb3⟩
  obtain ⟨c0, c1, c2, f0, f1, f2, hlt⟩ := (In1.of hb3).three
  unfold nmV
  cases hq : nmB s.data.toList <;> cases hn : (n == 0)
  all_goals
   have HQ := hid hq
   clear hq
   simp only [Bool.false_eq_true, ↓reduceIte, lkV, sv]
   go_wp2
   go_ret
   exact ⟨by rw [HR.out, HQ.out, hn]; rfl, (alloc_then hb3).alloc (Nat.le_of_lt hlt) _⟩
 ·have HR : Hid (rightB k n s.data.toList = false) := hid (by simp [rightB, k0, k1, k2, k3, k4, k5])
  have b0 : (k == 0) = false := beq_eq_false_iff_ne.2 k0
  have b1 : (k == 1) = false := beq_eq_false_iff_ne.2 k1
  have b2 : (k == 2) = false := beq_eq_false_iff_ne.2 k2
  have b3 : (k == 3) = false := beq_eq_false_iff_ne.2 k3
  have b4 : (k == 4) = false := beq_eq_false_iff_ne.2 k4
  have b5 : (k == 5) = false := beq_eq_false_iff_ne.2 k5
  clear k0 k1 k2 k3 k4 k5
  go_enter Tryz.func85, Tryz.ntmps85
  go_wp2
  go_ret
  exact ⟨by rw [HR.out]; rfl, alloc_below _ _⟩
theorem right_any (k n : Int) (s : ByteArray) (w : World) (hs : s.size < 4294967281) (hw : CutOk w) : Calls Tryz.prog 85 #[valV k n s] w (Gives w (.bool (rightB k n s.data.toList))) := right_wide k n s w (by omega) (fun _ => hs) hw
end Go.Proofs.YtdgglhlofnigkaaGreatDoor
