/-
  vector.Join's, Meet's and clamped's closures, and vector.of of each: the contracts, by walks. vector.Dot, Join, Meet, clamped: the contracts, by walks. Conditions: lengths.
-/
import Derived.Test.YtmhechlfpaciiaaJWords
import Derived.RegionTactic
import Derived.BigQuiet
import Derived.Deep.QuietTactic
import Derived.Deep.RegionHeld3
namespace Go.Proofs.Ytmhechlfpaciiaa
open Go.RowKit

theorem zeroV : (Try.prog.info? 27).map (fun i => (i.zero, i.size)) = some (some (.agg (vA fun _ => 0)), 16) := by kernel_rfl
theorem sizeV (f : Nat → Int) : (Try.prog.info? 27).map (·.size) = some (vA f).size := by rw [vA_size]; exact (zero_of_info zeroV).2
theorem sizeI : (Try.prog.info? 3).map (·.size) = some 1 := by kernel_rfl
/-- An array's place. -/
def pv (g : Nat) : Value := .pointer (some ⟨g, 0, none⟩)
/-- A vector's block. -/
def VB (w : World) (g : Nat) (f : Nat → Int) : Prop := Blk w g 27 (vA f)
theorem VB.cell_ {w : World} {g : Nat} {f : Nat → Int} (h : VB w g f) (i : Nat) (hi : i < 16) : w.cell? ⟨g, i, none⟩ = some (.int .i64 (f i)) := by
  have := Blk.cell h i
  rw [vA_at f i hi] at this
  exact this
theorem VB.keep {w w' : World} {g : Nat} {f : Nat → Int} (h : VB w g f) (hb : Below w.heap.size w w') : VB w' g f := Blk.below h hb (Blk.lt h)
theorem VB.alloc_ {w : World} {g : Nat} {f : Nat → Int} (h : VB w g f) (o : Obj) : VB (w.alloc o) g f := h.keep ((Below.refl _ _).alloc (Nat.le_refl _) o)
theorem VB.new_ {w : World} {g : Nat} (f : Nat → Int) (hg : g = w.heap.size) : VB (w.alloc (.cells (vA f) 27)) g f := by subst hg; exact Blk.new w _ _
theorem VB.of_eq {w : World} {g : Nat} {f f' : Nat → Int} (h : VB w g f) (e : ∀ i, i < 16 → f i = f' i) : VB w g f' := by
  unfold VB at h ⊢; rw [← vA_congr e]; exact h
theorem VB.put {w : World} {g : Nat} {f : Nat → Int} (h : VB w g f) (k : Nat) (x : Int) : VB (w.setCell ⟨g, k, none⟩ (.int .i64 x)) g (fun i => if i = k then x else f i) := by
  have := Blk.set_ h k (iv x)
  rw [vA_set] at this
  exact this
theorem run_eqV (w : World) (f g : Nat → Int) : (binOp .eql 27 (.agg (vA f)) (.agg (vA g))).run Try.prog w = .ok (.bool (eqV f g)) w :=
  run_eql_arr Try.prog w 27 3 f g Try.underlying27 Try.underlying3 sizeI

theorem ret_int {k : IntKind} {a b : Int} (h : a = b) : Ending.returned (.int k a) = .returned (.int k b) := by rw [h]
theorem below_drewN (B : Nat) (w : World) (n : Nat) : Below B w (w.drewN n) := by
  induction n with
  | zero => exact Below.refl _ _
  | succ n ih => exact ih.drew

set_option maxHeartbeats 400000 in
theorem clamp1 (w : World) (i a : Nat) (f : Nat → Int) (hi : i < 16) (ha : VB w a f) : Calls Try.prog 102 #[.int .i64 i, pv a] w fun e w' => e = .returned (.int .i64 (clampV f i)) ∧ Below w.heap.size w w' := by
  have c1 := ha.cell_ i hi
  unfold pv clampV
  generalize f i = x at *
  go_enter Try.func102, Try.ntmps102
  go_wp2
  all_goals go_ret
  all_goals exact ⟨ret_int (by omega), Below.refl _ _⟩

/-- A vector of which the first k numbers are f's, the others 0. -/
def partV (f : Nat → Int) (k i : Nat) : Int := if i < k then f i else 0
theorem partV_succ (f : Nat → Int) (k : Nat) (i : Nat) (_ : i < 16) : (if i = k then f k else partV f k i) = partV f (k + 1) i := by
  unfold partV
  by_cases e : i = k
  · subst e; rw [if_pos rfl, if_pos (by omega)]
  · rw [if_neg e]
    by_cases h : i < k
    · rw [if_pos h, if_pos (by omega)]
    · rw [if_neg h, if_neg (by omega)]
theorem partV_full (f : Nat → Int) (i : Nat) (h : i < 16) : partV f 16 i = f i := by unfold partV; rw [if_pos h]
theorem setRow_other (w : World) (g k : Nat) (c : Array Value) (h : k ≠ g) : (w.setRow g c).heap[k]? = w.heap[k]? := by
  simp only [World.setRow]
  rw [Array.getElem?_modify, if_neg (fun e => h e.symm)]
theorem setRow_VB (w : World) (g : Nat) (f f' : Nat → Int) (h : VB w g f) : VB (w.setRow g (vA f')) g f' := by
  unfold VB Blk at *
  simp only [World.setRow]
  rw [Array.getElem?_modify, if_pos rfl, h]; rfl
theorem setRow_below (w : World) (g B : Nat) (c : Array Value) (h : B ≤ g) : Below B w (w.setRow g c) :=
  ⟨rfl, rfl, rfl, by simp [World.setRow], fun k hk => setRow_other w g k c (by omega)⟩

set_option maxRecDepth 100000 in
set_option maxHeartbeats 1000000 in
theorem of_clamp (w : World) (a : Nat) (f : Nat → Int) (ha : VB w a f) : Calls Try.prog 98 #[.func (.func 102) #[] #[pv a]] w fun e w' => e = .returned (.agg (vA (clampV f))) ∧ Below w.heap.size w w' := by
  have hz := (zero_of_info zeroV).1
  obtain ⟨N, hN⟩ : ∃ N, N = clampV f := ⟨_, rfl⟩
  unfold pv
  go_enter Try.func98, Try.ntmps98
  go_wp2
  have HZ := Lib.hid hz; clear hz
  have HA := Lib.hid ha; clear ha
  have HN := Lib.hid hN; clear hN
  go_loopw [4, 5] (fun _ i wr => ∃ k : Nat, k ≤ 16 ∧ i = .int .i64 k ∧ VB wr (w.heap.size + 1) (partV N k) ∧ VB wr w.heap.size (fun _ => 0) ∧ Below w.heap.size w wr) (fun _ i _ => 16 - (intOf i).toNat)
  case atStart =>
    refine ⟨0, by omega, rfl, ?_, (Blk.new w _ _).alloc _, ((Below.refl _ _).alloc (Nat.le_refl _) _).alloc (by simp) _⟩
    have := Blk.new (w.alloc (.cells (vA fun _ => 0) 27)) 27 (vA fun _ => 0)
    have e : vA (partV N 0) = vA fun _ => 0 := vA_congr fun i _ => by simp [partV]
    unfold VB
    rw [e]
    simpa using this
  case round =>
    obtain ⟨k, hk, rfl, hb1, hb0, hbl⟩ := hrel
    by_cases hlt : k < 16
    · have HB1 := Lib.hid hb1
      have HB0 := Lib.hid hb0
      have HBL := Lib.hid hbl
      clear hb1 hb0 hbl
      go_wp2_with fail
      refine (clamp1 wr k a f hlt (Blk.below HA.out HBL.out (Blk.lt HA.out))).mono ?_
      rintro e w1 ⟨rfl, hb2⟩
      have c1 := (HB1.out.keep hb2).cell_ k hlt
      have f1 := Blk.free (HB1.out.keep hb2) k
      have hset := ((HB1.out.keep hb2).put k (N k)).of_eq (partV_succ N k)
      have hb0' := Blk.far (HB0.out.keep hb2) (p := ⟨w.heap.size + 1, k, none⟩) (by simp) (.int .i64 (N k))
      have hbl' := (HBL.out.trans (hb2.mono HBL.out.size)).setCell (p := ⟨w.heap.size + 1, k, none⟩) (by simp) (.int .i64 (N k))
      rw [← HN.out]
      have HS := Lib.hid hset
      have HT := Lib.hid hb0'
      have HU := Lib.hid hbl'
      clear hset hb0' hbl' hb2
      generalize partV N k k = z at *
      go_wp2
      go_roundw
      case rel => exact ⟨k + 1, by omega, by go_num, HS.out, HT.out, HU.out⟩
      case measure => simp [intOf]; omega
    · have hkk : k = 16 := by omega
      subst hkk
      have hb1' := hb1.of_eq (partV_full N)
      have hrow := setRow_VB wr w.heap.size _ N hb0
      have hbl' := hbl.trans (setRow_below wr w.heap.size w.heap.size (vA N) (Nat.le_refl _))
      have HB1 := Lib.hid hb1'
      have HB0 := Lib.hid hb0
      have HR := Lib.hid hrow
      have HL := Lib.hid hbl'
      clear hb1 hb1' hb0 hrow hbl' hbl hlt hk
      go_wp2_with (first
        | (refine wpList_load_row rfl 27 (.tmp 3) rfl (w.heap.size + 1) rfl _ _ _ _ HB1.out Try.underlying27 rfl (sizeV _) ?_)
        | (refine wpList_store_row rfl 27 (.tmp 2) (.tmp 14) rfl w.heap.size (vA N) rfl rfl _ _ HB0.out (sizeV _) (by rw [vA_size, vA_size]) (vA_one _) ?_))
      rw [← HN.out]
      exact bodyPost_ret (v := .agg (vA N)) (results_cell_row (P := Try.prog) Try.results98 _ _ w.heap.size _ (vA N) _ _ rfl HR.out Try.underlying27 rfl (sizeV _)) rfl ⟨rfl, HL.out⟩



end Go.Proofs.Ytmhechlfpaciiaa

namespace Go.Proofs.Ytmhechlfpaciiaa
open Go.RowKit

/-- A dot. -/
def dv (r c : Int) : Value := .agg #[.int .i64 r, .int .i64 c]
/-- May a dot be? -/
def dotB (r c : Int) : Bool := decide (0 ≤ r ∧ r < 16 ∧ 1 ≤ c ∧ c ≤ 1048576)
theorem ret_bool {a b : Bool} (h : a = b) : Ending.returned (.bool a) = .returned (.bool b) := by rw [h]

set_option maxHeartbeats 400000 in
theorem dot_any (r c : Int) (w : World) : Calls Try.prog 79 #[dv r c] w fun e w' => e = .returned (.bool (dotB r c)) ∧ Below w.heap.size w w' := by
  unfold dv
  by_cases h1 : 0 ≤ r
  · by_cases h2 : r < 16
    · by_cases h3 : 1 ≤ c
      · have hd : decide (1 ≤ c) = true := by simpa using h3
        go_enter Try.func79, Try.ntmps79
        go_wp2
        go_ret
        exact ⟨ret_bool (decide_eq_decide.2 ⟨fun h => ⟨h1, h2, h3, h⟩, fun h => h.2.2.2⟩), (Below.refl _ _).alloc (Nat.le_refl _) _⟩
      · have hd : decide (1 ≤ c) = false := by simpa using h3
        go_enter Try.func79, Try.ntmps79
        go_wp2
        go_ret
        exact ⟨ret_bool (decide_eq_false (by omega)).symm, (Below.refl _ _).alloc (Nat.le_refl _) _⟩
    · have hd : decide (r < 16) = false := by simpa using h2
      go_enter Try.func79, Try.ntmps79
      go_wp2
      go_ret
      exact ⟨ret_bool (decide_eq_false (by omega)).symm, (Below.refl _ _).alloc (Nat.le_refl _) _⟩
  · have hd : decide (0 ≤ r) = false := by simpa using h1
    go_enter Try.func79, Try.ntmps79
    go_wp2
    go_ret
    exact ⟨ret_bool (decide_eq_false (by omega)).symm, (Below.refl _ _).alloc (Nat.le_refl _) _⟩
theorem dotB_iff (r c : Int) : dotB r c = true ↔ ∃ n : Nat, r = n ∧ n < 16 ∧ 1 ≤ c ∧ c ≤ 1048576 := by
  unfold dotB
  rw [decide_eq_true_eq]
  exact ⟨fun ⟨h1, h2, h3, h4⟩ => ⟨r.toNat, by omega, by omega, h3, h4⟩, fun ⟨n, h1, h2, h3, h4⟩ => ⟨by omega, by omega, h3, h4⟩⟩

set_option maxRecDepth 100000 in
set_option maxHeartbeats 1000000 in
theorem clamp_any (f : Nat → Int) (w : World) : Calls Try.prog 86 #[.agg (vA f)] w fun e w' => e = .returned (.agg (vA (clampV f))) ∧ Below w.heap.size w w' := by
  have hz := (zero_of_info zeroV).1
  go_enter Try.func86, Try.ntmps86
  go_wp2_with fail
  have b1 : VB ((w.alloc (.cells (vA f) 27)).alloc (.cells (vA fun _ => 0) 27)) w.heap.size f := (VB.new_ f rfl).alloc_ _
  have b3 : VB ((w.alloc (.cells (vA f) 27)).alloc (.cells (vA fun _ => 0) 27)) (w.heap.size + 1) (fun _ => 0) := VB.new_ _ (by simp)
  have hb : Below w.heap.size w ((w.alloc (.cells (vA f) 27)).alloc (.cells (vA fun _ => 0) 27)) := ((Below.refl _ _).alloc (Nat.le_refl _) _).alloc (by simp) _
  refine (of_clamp _ _ f b1).mono ?_
  rintro e w1 ⟨rfl, hb1⟩
  have B3 := Lib.hid (b3.keep hb1)
  have hrow := setRow_VB w1 (w.heap.size + 1) _ (clampV f) B3.out
  have hb2 := (hb.trans (hb1.mono hb.size)).trans (setRow_below w1 (w.heap.size + 1) w.heap.size (vA (clampV f)) (by omega))
  have HR := Lib.hid hrow
  have HB2 := Lib.hid hb2
  have HZ := Lib.hid hz
  clear hrow hb2 hb hb1 b1 b3 hz
  go_wp2_with (first
    | (refine wpList_store_row rfl 27 (.tmp 2) (.tmp 4) rfl (w.heap.size + 1) (vA (clampV f)) rfl rfl _ _ B3.out (sizeV _) (by rw [vA_size, vA_size]) (vA_one _) ?_))
  exact bodyPost_ret (v := .agg (vA (clampV f))) (results_cell_row (P := Try.prog) Try.results86 _ _ (w.heap.size + 1) _ (vA (clampV f)) _ _ rfl HR.out Try.underlying27 rfl (sizeV _)) rfl ⟨rfl, HB2.out⟩



end Go.Proofs.Ytmhechlfpaciiaa
