/-
  vector.Sum, Add: the contracts, by walks. Conditions: none.
-/
import Derived.Test.YtcgbiikphcgoaaaVecRel
namespace Go.Proofs.Ytcgbiikphcgoaaa
open Go.RowKit

/-- The first k numbers together, at most 2^62. -/
def sumN (f : Nat → Int) : Nat → Int
  | 0 => 0
  | k + 1 => sumN f k + min (max (f k) 0) (4611686018427387904 - sumN f k)
theorem sumN_in (f : Nat → Int) (k : Nat) : 0 ≤ sumN f k ∧ sumN f k ≤ 4611686018427387904 := by
  induction k with
  | zero => simp [sumN]
  | succ k ih => simp only [sumN]; omega

theorem index_V (f : Nat → Int) (k : Nat) (h : k < 16) (w : World) : (Instr.index 23 (.agg (vA f)) (.int .i64 k)).run Try.prog w = .ok (.int .i64 (f k)) w := by
  have h2 : (0 : Int) ≤ k ∧ (k : Int) < 16 := by omega
  have h3 := vA_at f k h
  have hs : (Go.sizeOf 3).run Try.prog w = .ok 1 w := by
    have hz := sizeI
    cases hq : Try.prog.info? 3 with
    | none => simp [hq] at hz
    | some i => simp [hq] at hz; simp [sizeOf, typeInfo, hq, hz]
  simp only [Instr.index, asIntOf, Sem.run_bind, Sem.run_pure, Result.andThen_ok, run_underlying Try.underlying23 w]
  simp [h2, hs, part, Sem.run_bind, h3, iv]
theorem int_val {a b : Int} (h : a = b) : Value.int .i64 a = Value.int .i64 b := by rw [h]

set_option maxRecDepth 100000 in
set_option maxHeartbeats 1000000 in
theorem sum_any (f : Nat → Int) (w : World) : Calls Try.prog 17 #[.agg (vA f)] w fun e w' => e = .returned (.int .i64 (sumN f 16)) ∧ Below w.heap.size w w' := by
  obtain ⟨X, hX⟩ : ∃ X, X = w.alloc (.cells (vA f) 23) := ⟨_, rfl⟩
  have hv1 : VB X w.heap.size f := by rw [hX]; exact VB.new_ f rfl
  have hb : Below w.heap.size w X := by rw [hX]; exact (Below.refl _ _).alloc (Nat.le_refl _) _
  have HX := Lib.hid hX
  have H1 := Lib.hid hv1
  have HB := Lib.hid hb
  clear hX hv1 hb
  go_enter Try.func17, Try.ntmps17
  go_upto_region 1 with fail
  rw [← HX.out]
  go_wp2_with (refine wpList_load_row rfl 23 (.tmp 1) rfl w.heap.size rfl _ _ _ _ H1.out Try.underlying23 rfl (sizeV f) ?_)
  go_loop [3, 5, 7] (fun s _ i => ∃ k : Nat, k ≤ 16 ∧ i = .int .i64 k ∧ s = .int .i64 (sumN f k)) (fun _ _ i => 16 - (intOf i).toNat)
  case atStart => exact ⟨0, by omega, rfl, rfl⟩
  case round =>
    obtain ⟨k, hk, rfl, rfl⟩ := hrel
    by_cases hlt : k < 16
    · have hx := index_V f k hlt X
      have hs := sumN_in f k
      have hsn : sumN f (k + 1) = sumN f k + min (max (f k) 0) (4611686018427387904 - sumN f k) := rfl
      have HSN := Lib.hid hsn
      clear hsn
      generalize f k = x at *
      generalize sumN f k = s at *
      obtain ⟨hs0, hs1⟩ := hs
      have hw1 := IntWalk.i64_in (4611686018427387904 - s) (by omega)
      have hs2 : s ≤ 9223372036854775807 := by omega
      have HS1 := Lib.hid hs1
      clear hs1
      go_wp2
      all_goals go_round
      case rel => exact ⟨k + 1, by omega, by go_num, by rw [HSN.out]; have := HS1.out; apply int_val; (repeat' split) <;> omega⟩
      case measure => simp [intOf]; omega
    · have hkk : k = 16 := by omega
      subst hkk
      go_wp2
      go_ret
      exact ⟨rfl, HB.out⟩

/-- A vector that knows a dot, too. -/
def addV (f : Nat → Int) (r c : Int) (i : Nat) : Int := if dotB r c = true ∧ (i : Int) = r then max (f i) c else f i

set_option maxRecDepth 100000 in
set_option maxHeartbeats 2000000 in
theorem add_any (f : Nat → Int) (r c : Int) (w : World) : Calls Try.prog 11 #[.agg (vA f), dv r c] w fun e w' => e = .returned (.agg (vA (addV f r c))) ∧ Below w.heap.size w w' := by
  have hz := (zero_of_info zeroV).1
  obtain ⟨X, hX⟩ : ∃ X, X = ((w.alloc (.cells (vA f) 23)).alloc (.cells #[.int .i64 r, .int .i64 c] 28)).alloc (.cells (vA fun _ => 0) 23) := ⟨_, rfl⟩
  have hv : VB X w.heap.size f := by rw [hX]; exact ((VB.new_ f rfl).alloc_ _).alloc_ _
  have hd : Blk X (w.heap.size + 1) 28 #[.int .i64 r, .int .i64 c] := by
    rw [hX]
    have := (Blk.new (w.alloc (.cells (vA f) 23)) 28 #[.int .i64 r, .int .i64 c]).alloc (.cells (vA fun _ => 0) 23)
    simpa using this
  have h0 : VB X (w.heap.size + 1 + 1) (fun _ => 0) := by rw [hX]; exact VB.new_ _ (by simp)
  have hb : Below w.heap.size w X := by rw [hX]; exact (((Below.refl _ _).alloc (Nat.le_refl _) _).alloc (by simp) _).alloc (by simp; omega) _
  have HX := Lib.hid hX
  have HV := Lib.hid hv
  have HD := Lib.hid hd
  have H0 := Lib.hid h0
  have HB := Lib.hid hb
  clear hX hv hd hb h0
  obtain ⟨D, hD⟩ : ∃ D, dotB r c = D := ⟨_, rfl⟩
  have HDot := Lib.hid hD
  have hdv := dot_is r c D hD
  have hdc : dv r c = .agg #[.int .i64 r, .int .i64 c] := rfl
  rw [hdc] at hdv
  have HDV := Lib.hid hdv
  unfold dv
  clear hdv hdc
  cases D
  · clear hD
    go_enter Try.func11, Try.ntmps11
    go_upto_region 1 with fail
    have HZ := Lib.hid hz
    clear hz
    rw [← HX.out]
    have c0 := Blk.cell HD.out 0
    have c1 := Blk.cell HD.out 1
    simp at c0 c1
    go_wp2_with fail
    refine (HDV.out _).mono ?_
    rintro e w1 ⟨rfl, hb1⟩
    have K1 := Lib.hid (HV.out.keep hb1)
    have K0 := Lib.hid (H0.out.keep hb1)
    have hb2 := (HB.out.trans (hb1.mono HB.out.size)).trans (setRow_below w1 (w.heap.size + 1 + 1) w.heap.size (vA f) (by omega))
    have HB2 := Lib.hid hb2
    have HR := Lib.hid (setRow_VB w1 (w.heap.size + 1 + 1) _ f K0.out)
    have e1 : vA f = vA (addV f r c) := vA_congr fun i _ => by unfold addV; rw [HDot.out]; simp
    have HE := Lib.hid e1
    clear hb1 hb2 e1 c0 c1
    go_wp2_with (first
      | (refine wpList_load_row rfl 23 (.tmp 2) rfl w.heap.size rfl _ _ _ _ K1.out Try.underlying23 rfl (sizeV f) ?_)
      | (refine wpList_store_row rfl 23 (.tmp 4) (.tmp 17) rfl (w.heap.size + 1 + 1) (vA f) rfl rfl _ _ K0.out (sizeV _) (by rw [vA_size, vA_size]) (vA_one _) ?_))
    rw [← HE.out]
    exact bodyPost_ret (v := .agg (vA f)) (results_cell_row (P := Try.prog) Try.results11 _ _ (w.heap.size + 1 + 1) _ (vA f) _ _ rfl HR.out Try.underlying23 rfl (sizeV _)) rfl ⟨rfl, HB2.out⟩
  · obtain ⟨n, hr, hn, h1, h2⟩ := (dotB_iff r c).1 hD
    clear hD
    subst hr
    go_enter Try.func11, Try.ntmps11
    go_upto_region 1 with fail
    have HZ := Lib.hid hz
    clear hz
    rw [← HX.out]
    have c0 := Blk.cell HD.out 0
    have c1 := Blk.cell HD.out 1
    simp at c0 c1
    go_wp2_with fail
    refine (HDV.out _).mono ?_
    rintro e w1 ⟨rfl, hb1⟩
    clear c0 c1
    have k1 := HV.out.keep hb1
    have k0 := H0.out.keep hb1
    have kd := Blk.below HD.out hb1 (Blk.lt HD.out)
    have hbb := HB.out.trans (hb1.mono HB.out.size)
    have c0 := Blk.cell kd 0
    have c1 := Blk.cell kd 1
    have cv := k1.cell_ n hn
    have fv := Blk.free k1 n
    simp at c0 c1
    have K1 := Lib.hid k1
    have K0 := Lib.hid k0
    have HBB := Lib.hid hbb
    clear k1 k0 kd hbb hb1
    go_wp2
    go_region
    have k2 : VB ((w1.setCell ⟨w.heap.size, n, none⟩ (.int .i64 (if f n < c then c else f n))).drew) w.heap.size (addV f n c) := (K1.out.put n (if f n < c then c else f n)).of_eq fun i _ => by
      unfold addV
      rw [HDot.out]
      by_cases e : i = n
      · subst e; simp; split <;> omega
      · rw [if_neg e, if_neg (fun h => e (by omega))]
    have k0 : VB ((w1.setCell ⟨w.heap.size, n, none⟩ (.int .i64 (if f n < c then c else f n))).drew) (w.heap.size + 1 + 1) (fun _ => 0) := Blk.far K0.out (p := ⟨w.heap.size, n, none⟩) (by simp; omega) _
    have hb3 : Below w.heap.size w ((w1.setCell ⟨w.heap.size, n, none⟩ (.int .i64 (if f n < c then c else f n))).drew) := (HBB.out.setCell (p := ⟨w.heap.size, n, none⟩) (by simp) _).drew
    generalize (w1.setCell ⟨w.heap.size, n, none⟩ (.int .i64 (if f n < c then c else f n))).drew = w2 at *
    generalize (if f n < c then c else f n) = y
    have HR := Lib.hid (setRow_VB w2 (w.heap.size + 1 + 1) _ (addV f n c) k0)
    have HB2 := Lib.hid (hb3.trans (setRow_below w2 (w.heap.size + 1 + 1) w.heap.size (vA (addV f n c)) (by omega)))
    have K2 := Lib.hid k2
    have K3 := Lib.hid k0
    clear k2 k0 hb3 c0 c1 cv fv
    go_wp2_with (first
      | (refine wpList_load_row rfl 23 (.tmp 2) rfl w.heap.size rfl _ _ _ _ K2.out Try.underlying23 rfl (sizeV _) ?_)
      | (refine wpList_store_row rfl 23 (.tmp 4) (.tmp 17) rfl (w.heap.size + 1 + 1) (vA (addV f n c)) rfl rfl _ _ K3.out (sizeV _) (by rw [vA_size, vA_size]) (vA_one _) ?_))
    exact bodyPost_ret (v := .agg (vA (addV f n c))) (results_cell_row (P := Try.prog) Try.results11 _ _ (w.heap.size + 1 + 1) _ (vA (addV f n c)) _ _ rfl HR.out Try.underlying23 rfl (sizeV _)) rfl ⟨rfl, HB2.out⟩

end Go.Proofs.Ytcgbiikphcgoaaa
