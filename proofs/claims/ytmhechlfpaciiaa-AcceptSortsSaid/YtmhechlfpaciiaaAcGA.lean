/-
  vector.Join, Below, Sum, Add at the store's seat: the contracts, by walks. accept.One: the contract, by a walk. accept.All: what it takes; its closure, and it: the contracts, by walks. accept.All: the contract, by a walk. Conditions: lengths, CutOk.
-/
import Derived.Test.YtmhechlfpaciiaaJEVAsk
import Derived.Test.YtmhechlfpaciiaaJEvRight
import Derived.Test.YtmhechlfpaciiaaStGB
import Derived.Test.YtmhechlfpaciiaaStGC
import Derived.Test.YtmhechlfpaciiaaStK
namespace Go.Proofs.Ytmhechlfpaciiaa
open Go.RowKit

theorem run_below (f g : Nat → Int) (w : World) : (binOp .eql 27 (.agg (vA (joinV f g))) (.agg (vA g))).run Try.prog w = .ok (.bool (leV f g)) w := by
  rw [run_eqV, leV_join]

set_option maxHeartbeats 400000 in
theorem join1 (w : World) (i a b : Nat) (f g : Nat → Int) (hi : i < 16) (ha : VB w a f) (hb : VB w b g) : Calls Try.prog 99 #[.int .i64 i, pv a, pv b] w fun e w' => e = .returned (.int .i64 (joinV f g i)) ∧ Below w.heap.size w w' := by
  have c1 := ha.cell_ i hi
  have c2 := hb.cell_ i hi
  unfold pv joinV
  generalize f i = x at *
  generalize g i = y at *
  go_enter Try.func99, Try.ntmps99
  go_wp2
  go_quiet (fail)
  all_goals go_wp2
  all_goals go_ret
  all_goals (first | exact ⟨ret_int (by omega), below_drewN _ _ _⟩)

set_option maxRecDepth 100000 in
set_option maxHeartbeats 1000000 in
theorem of_join (w : World) (a b : Nat) (f g : Nat → Int) (ha : VB w a f) (hb : VB w b g) : Calls Try.prog 98 #[.func (.func 99) #[] #[pv a, pv b]] w fun e w' => e = .returned (.agg (vA (joinV f g))) ∧ Below w.heap.size w w' := by
  have hz := (zero_of_info zeroV).1
  obtain ⟨N, hN⟩ : ∃ N, N = joinV f g := ⟨_, rfl⟩
  unfold pv
  go_enter Try.func98, Try.ntmps98
  go_wp2
  have HZ := Lib.hid hz; clear hz
  have HA := Lib.hid ha; have HB := Lib.hid hb; clear ha hb
  have HN := Lib.hid hN; clear hN
  go_loopw [4, 5] (fun _ i wr => ∃ k : Nat, k ≤ 16 ∧ i = .int .i64 k ∧ VB wr (w.heap.size + 1) (partV N k) ∧ VB wr w.heap.size (fun _ => 0) ∧ Below w.heap.size w wr) (fun _ i _ => 16 - (intOf i).toNat)
  case atStart =>
    refine ⟨0, by omega, rfl, ?_, (Blk.new w _ _).alloc _, ((Below.refl _ _).alloc (Nat.le_refl _) _).alloc (by simp) _⟩
    have := Blk.new (w.alloc (.cells (vA fun _ => 0) 27)) 27 (vA fun _ => 0)
    have e : vA (partV N 0) = vA fun _ => 0 := vA_congr fun i _ => by simp [partV]
    unfold VB
    rw [e]
    simpa using this
  case round =>
    obtain ⟨k, hk, rfl, hb1, hb0, hbl⟩ := hrel
    by_cases hlt : k < 16
    · have HB1 := Lib.hid hb1
      have HB0 := Lib.hid hb0
      have HBL := Lib.hid hbl
      clear hb1 hb0 hbl
      go_wp2_with fail
      refine (join1 wr k a b f g hlt (Blk.below HA.out HBL.out (Blk.lt HA.out)) (Blk.below HB.out HBL.out (Blk.lt HB.out))).mono ?_
      rintro e w1 ⟨rfl, hb2⟩
      have c1 := (HB1.out.keep hb2).cell_ k hlt
      have f1 := Blk.free (HB1.out.keep hb2) k
      have hset := ((HB1.out.keep hb2).put k (N k)).of_eq (partV_succ N k)
      have hb0' := Blk.far (HB0.out.keep hb2) (p := ⟨w.heap.size + 1, k, none⟩) (by simp) (.int .i64 (N k))
      have hbl' := (HBL.out.trans (hb2.mono HBL.out.size)).setCell (p := ⟨w.heap.size + 1, k, none⟩) (by simp) (.int .i64 (N k))
      rw [← HN.out]
      have HS := Lib.hid hset
      have HT := Lib.hid hb0'
      have HU := Lib.hid hbl'
      clear hset hb0' hbl' hb2
      generalize partV N k k = z at *
      go_wp2
      go_roundw
      case rel => exact ⟨k + 1, by omega, by go_num, HS.out, HT.out, HU.out⟩
      case measure => simp [intOf]; omega
    · have hkk : k = 16 := by omega
      subst hkk
      have hb1' := hb1.of_eq (partV_full N)
      have hrow := setRow_VB wr w.heap.size _ N hb0
      have hbl' := hbl.trans (setRow_below wr w.heap.size w.heap.size (vA N) (Nat.le_refl _))
      have HB1 := Lib.hid hb1'
      have HB0 := Lib.hid hb0
      have HR := Lib.hid hrow
      have HL := Lib.hid hbl'
      clear hb1 hb1' hb0 hrow hbl' hbl hlt hk
      go_wp2_with (first
        | (refine wpList_load_row rfl 27 (.tmp 3) rfl (w.heap.size + 1) rfl _ _ _ _ HB1.out Try.underlying27 rfl (sizeV _) ?_)
        | (refine wpList_store_row rfl 27 (.tmp 2) (.tmp 14) rfl w.heap.size (vA N) rfl rfl _ _ HB0.out (sizeV _) (by rw [vA_size, vA_size]) (vA_one _) ?_))
      rw [← HN.out]
      exact bodyPost_ret (v := .agg (vA N)) (results_cell_row (P := Try.prog) Try.results98 _ _ w.heap.size _ (vA N) _ _ rfl HR.out Try.underlying27 rfl (sizeV _)) rfl ⟨rfl, HL.out⟩

set_option maxRecDepth 100000 in
set_option maxHeartbeats 1000000 in
theorem join_any (f g : Nat → Int) (w : World) : Calls Try.prog 83 #[.agg (vA f), .agg (vA g)] w fun e w' => e = .returned (.agg (vA (joinV f g))) ∧ Below w.heap.size w w' := by
  have hz := (zero_of_info zeroV).1
  go_enter Try.func83, Try.ntmps83
  go_wp2_with fail
  have b1 : VB (((w.alloc (.cells (vA f) 27)).alloc (.cells (vA g) 27)).alloc (.cells (vA fun _ => 0) 27)) w.heap.size f := ((VB.new_ f rfl).alloc_ _).alloc_ _
  have b2 : VB (((w.alloc (.cells (vA f) 27)).alloc (.cells (vA g) 27)).alloc (.cells (vA fun _ => 0) 27)) (w.heap.size + 1) g := (VB.new_ g (by simp)).alloc_ _
  have b3 : VB (((w.alloc (.cells (vA f) 27)).alloc (.cells (vA g) 27)).alloc (.cells (vA fun _ => 0) 27)) (w.heap.size + 1 + 1) (fun _ => 0) := VB.new_ _ (by simp)
  have hb : Below w.heap.size w (((w.alloc (.cells (vA f) 27)).alloc (.cells (vA g) 27)).alloc (.cells (vA fun _ => 0) 27)) := (((Below.refl _ _).alloc (Nat.le_refl _) _).alloc (by simp) _).alloc (by simp; omega) _
  refine (of_join _ _ _ f g b1 b2).mono ?_
  rintro e w1 ⟨rfl, hb1⟩
  have B3 := Lib.hid (b3.keep hb1)
  have hrow := setRow_VB w1 (w.heap.size + 1 + 1) _ (joinV f g) B3.out
  have hb2 := (hb.trans (hb1.mono hb.size)).trans (setRow_below w1 (w.heap.size + 1 + 1) w.heap.size (vA (joinV f g)) (by omega))
  have HR := Lib.hid hrow
  have HB2 := Lib.hid hb2
  have HZ := Lib.hid hz
  clear hrow hb2 hb hb1 b1 b2 b3 hz
  go_wp2_with (first
    | (refine wpList_store_row rfl 27 (.tmp 4) (.tmp 6) rfl (w.heap.size + 1 + 1) (vA (joinV f g)) rfl rfl _ _ B3.out (sizeV _) (by rw [vA_size, vA_size]) (vA_one _) ?_))
  exact bodyPost_ret (v := .agg (vA (joinV f g))) (results_cell_row (P := Try.prog) Try.results83 _ _ (w.heap.size + 1 + 1) _ (vA (joinV f g)) _ _ rfl HR.out Try.underlying27 rfl (sizeV _)) rfl ⟨rfl, HB2.out⟩

set_option maxRecDepth 100000 in
set_option maxHeartbeats 1000000 in
theorem below_any (f g : Nat → Int) (w : World) : Calls Try.prog 59 #[.agg (vA f), .agg (vA g)] w fun e w' => e = .returned (.bool (leV f g)) ∧ Below w.heap.size w w' := by
  obtain ⟨X, hX⟩ : ∃ X, X = (w.alloc (.cells (vA f) 27)).alloc (.cells (vA g) 27) := ⟨_, rfl⟩
  have hv1 : VB X w.heap.size f := by rw [hX]; exact (VB.new_ f rfl).alloc_ _
  have hv2 : VB X (w.heap.size + 1) g := by rw [hX]; exact VB.new_ g (by simp)
  have hb : Below w.heap.size w X := by rw [hX]; exact ((Below.refl _ _).alloc (Nat.le_refl _) _).alloc (by simp) _
  have HX := Lib.hid hX
  have H1 := Lib.hid hv1
  have H2 := Lib.hid hv2
  have HB := Lib.hid hb
  clear hX hv1 hv2 hb
  go_enter Try.func59, Try.ntmps59
  go_upto_region 1 with fail
  rw [← HX.out]
  refine wp_region_any (by kernel_rfl) ?_
  refine wpAny_below (fun i v _ => v = ([.agg (vA f), .agg (vA g), .agg (vA (joinV f g)), .agg (vA g), .bool (leV f g), .bool (leV f g)] : List Value).getD i undef) _ X (by kernel_rfl) (by kernel_rfl) (by kernel_rfl) (fun i v w w' _ h => h) ?_ ?_
  · refine ⟨?_, ?_, ?_, ?_, ?_, ?_, trivial⟩
    · intro a W hI hun haft hi
      have e2 : a.eval (.tmp 2) = .pointer (some ⟨w.heap.size, 0, none⟩) := hun 2 (by kernel_rfl)
      exact b_same hi hI rfl _ (run_load_op rfl e2 (Blk.below H1.out hI (Blk.lt H1.out)) Try.underlying27 rfl (sizeV f)) rfl
    · intro a W hI hun haft hi
      have e3 : a.eval (.tmp 3) = .pointer (some ⟨w.heap.size + 1, 0, none⟩) := hun 3 (by kernel_rfl)
      exact b_same hi hI rfl _ (run_load_op rfl e3 (Blk.below H2.out hI (Blk.lt H2.out)) Try.underlying27 rfl (sizeV g)) rfl
    · intro a W hI hun haft hi
      have f0 : a.eval (.tmp 5) = .agg (vA f) := haft ⟨0, .data⟩ (by simp) rfl _ _ rfl rfl
      have f1 : a.eval (.tmp 6) = .agg (vA g) := haft ⟨1, .data⟩ (by simp) rfl _ _ rfl rfl
      refine b_call hi hI rfl _ _ (run_call_op (args := #[.agg (vA f), .agg (vA g)]) rfl (by simp [f0, f1]) (by kernel_rfl)) ?_
      exact (join_any f g W).mono fun e w' H => ⟨_, H.1, rfl, H.2⟩
    · intro a W hI hun haft hi
      have e3 : a.eval (.tmp 3) = .pointer (some ⟨w.heap.size + 1, 0, none⟩) := hun 3 (by kernel_rfl)
      exact b_same hi hI rfl _ (run_load_op rfl e3 (Blk.below H2.out hI (Blk.lt H2.out)) Try.underlying27 rfl (sizeV g)) rfl
    · intro a W hI hun haft hi
      have f2 : a.eval (.tmp 7) = .agg (vA (joinV f g)) := haft ⟨2, .data⟩ (by simp) rfl _ _ rfl rfl
      have f3 : a.eval (.tmp 8) = .agg (vA g) := haft ⟨3, .data⟩ (by simp) rfl _ _ rfl rfl
      exact b_same hi hI rfl (.bool (leV f g)) (run_bin_op rfl f2 f3 (guardV _ _ _ _ _) (run_below f g _)) rfl
    · intro a W hI hun haft hi
      have f4 : a.eval (.tmp 9) = .bool (leV f g) := haft ⟨4, .data⟩ (by simp) rfl _ _ rfl rfl
      exact b_same hi hI rfl _ (run_assign_op rfl f4) rfl
  · intro vals W hI hp
    have hl5 : vals 5 = .bool (leV f g) := hp 5 (by decide)
    have HI := Lib.hid hI
    clear hp hI
    simp only [layN, List.size_toArray, List.length_cons, List.length_nil, List.range, List.range.loop, if_true, List.getElem?_toArray, List.getElem?_cons_zero, List.getElem?_cons_succ, Act.put, List.setIfInBounds_toArray, List.set_cons_zero, List.set_cons_succ, Nat.zero_add, Nat.reduceAdd, hl5]
    clear hl5
    go_wp2
    go_ret
    exact ⟨rfl, HB.out.trans (HI.out.mono HB.out.size)⟩

/-- The first k numbers together, at most 2^62. -/
def sumN (f : Nat → Int) : Nat → Int
  | 0 => 0
  | k + 1 => sumN f k + min (max (f k) 0) (4611686018427387904 - sumN f k)
theorem sumN_in (f : Nat → Int) (k : Nat) : 0 ≤ sumN f k ∧ sumN f k ≤ 4611686018427387904 := by
  induction k with
  | zero => simp [sumN]
  | succ k ih => simp only [sumN]; omega

theorem int_val {a b : Int} (h : a = b) : Value.int .i64 a = Value.int .i64 b := by rw [h]

set_option maxRecDepth 100000 in
set_option maxHeartbeats 1000000 in
theorem sum_any (f : Nat → Int) (w : World) : Calls Try.prog 85 #[.agg (vA f)] w fun e w' => e = .returned (.int .i64 (sumN f 16)) ∧ Below w.heap.size w w' := by
  obtain ⟨X, hX⟩ : ∃ X, X = w.alloc (.cells (vA f) 27) := ⟨_, rfl⟩
  have hv1 : VB X w.heap.size f := by rw [hX]; exact VB.new_ f rfl
  have hb : Below w.heap.size w X := by rw [hX]; exact (Below.refl _ _).alloc (Nat.le_refl _) _
  have HX := Lib.hid hX
  have H1 := Lib.hid hv1
  have HB := Lib.hid hb
  clear hX hv1 hb
  go_enter Try.func85, Try.ntmps85
  go_upto_region 1 with fail
  rw [← HX.out]
  go_wp2_with (refine wpList_load_row rfl 27 (.tmp 1) rfl w.heap.size rfl _ _ _ _ H1.out Try.underlying27 rfl (sizeV f) ?_)
  go_loop [3, 5, 7] (fun s _ i => ∃ k : Nat, k ≤ 16 ∧ i = .int .i64 k ∧ s = .int .i64 (sumN f k)) (fun _ _ i => 16 - (intOf i).toNat)
  case atStart => exact ⟨0, by omega, rfl, rfl⟩
  case round =>
    obtain ⟨k, hk, rfl, rfl⟩ := hrel
    by_cases hlt : k < 16
    · have hx := index_V f k hlt X
      have hs := sumN_in f k
      have hsn : sumN f (k + 1) = sumN f k + min (max (f k) 0) (4611686018427387904 - sumN f k) := rfl
      have HSN := Lib.hid hsn
      clear hsn
      generalize f k = x at *
      generalize sumN f k = s at *
      obtain ⟨hs0, hs1⟩ := hs
      have hw1 := IntWalk.i64_in (4611686018427387904 - s) (by omega)
      have hs2 : s ≤ 9223372036854775807 := by omega
      have HS1 := Lib.hid hs1
      clear hs1
      go_wp2
      all_goals go_round
      case rel => exact ⟨k + 1, by omega, by go_num, by first | (rw [HSN.out]; have := HS1.out; apply int_val; (repeat' split) <;> omega) | (rw [HSN.out]) | (have := HS1.out; have := HSN.out; apply int_val; omega)⟩
      case measure => simp [intOf]; omega
    · have hkk : k = 16 := by omega
      subst hkk
      go_wp2
      go_ret
      exact ⟨rfl, HB.out⟩

/-- A vector that knows a dot, too. -/
def addV (f : Nat → Int) (r c : Int) (i : Nat) : Int := if dotB r c = true ∧ (i : Int) = r then max (f i) c else f i

set_option maxRecDepth 100000 in
set_option maxHeartbeats 2000000 in
theorem add_any (f : Nat → Int) (r c : Int) (w : World) : Calls Try.prog 61 #[.agg (vA f), dv r c] w fun e w' => e = .returned (.agg (vA (addV f r c))) ∧ Below w.heap.size w w' := by
  have hz := (zero_of_info zeroV).1
  obtain ⟨X, hX⟩ : ∃ X, X = ((w.alloc (.cells (vA f) 27)).alloc (.cells #[.int .i64 r, .int .i64 c] 33)).alloc (.cells (vA fun _ => 0) 27) := ⟨_, rfl⟩
  have hv : VB X w.heap.size f := by rw [hX]; exact ((VB.new_ f rfl).alloc_ _).alloc_ _
  have hd : Blk X (w.heap.size + 1) 33 #[.int .i64 r, .int .i64 c] := by
    rw [hX]
    have := (Blk.new (w.alloc (.cells (vA f) 27)) 33 #[.int .i64 r, .int .i64 c]).alloc (.cells (vA fun _ => 0) 27)
    simpa using this
  have h0 : VB X (w.heap.size + 1 + 1) (fun _ => 0) := by rw [hX]; exact VB.new_ _ (by simp)
  have hb : Below w.heap.size w X := by rw [hX]; exact (((Below.refl _ _).alloc (Nat.le_refl _) _).alloc (by simp) _).alloc (by simp; omega) _
  have HX := Lib.hid hX
  have HV := Lib.hid hv
  have HD := Lib.hid hd
  have H0 := Lib.hid h0
  have HB := Lib.hid hb
  clear hX hv hd hb h0
  obtain ⟨D, hD⟩ : ∃ D, dotB r c = D := ⟨_, rfl⟩
  have HDot := Lib.hid hD
  have hdv := dot_is r c D hD
  have hdc : dv r c = .agg #[.int .i64 r, .int .i64 c] := rfl
  rw [hdc] at hdv
  have HDV := Lib.hid hdv
  unfold dv
  clear hdv hdc
  cases D
  · clear hD
    go_enter Try.func61, Try.ntmps61
    go_upto_region 1 with fail
    have HZ := Lib.hid hz
    clear hz
    rw [← HX.out]
    have c0 := Blk.cell HD.out 0
    have c1 := Blk.cell HD.out 1
    simp at c0 c1
    go_wp2_with fail
    refine (HDV.out _).mono ?_
    rintro e w1 ⟨rfl, hb1⟩
    have K1 := Lib.hid (HV.out.keep hb1)
    have K0 := Lib.hid (H0.out.keep hb1)
    have hb2 := (HB.out.trans (hb1.mono HB.out.size)).trans (setRow_below w1 (w.heap.size + 1 + 1) w.heap.size (vA f) (by omega))
    have HB2 := Lib.hid hb2
    have HR := Lib.hid (setRow_VB w1 (w.heap.size + 1 + 1) _ f K0.out)
    have e1 : vA f = vA (addV f r c) := vA_congr fun i _ => by unfold addV; rw [HDot.out]; simp
    have HE := Lib.hid e1
    clear hb1 hb2 e1 c0 c1
    go_wp2_with (first
      | (refine wpList_load_row rfl 27 (.tmp 2) rfl w.heap.size rfl _ _ _ _ K1.out Try.underlying27 rfl (sizeV f) ?_)
      | (refine wpList_store_row rfl 27 (.tmp 4) (.tmp 17) rfl (w.heap.size + 1 + 1) (vA f) rfl rfl _ _ K0.out (sizeV _) (by rw [vA_size, vA_size]) (vA_one _) ?_))
    rw [← HE.out]
    exact bodyPost_ret (v := .agg (vA f)) (results_cell_row (P := Try.prog) Try.results61 _ _ (w.heap.size + 1 + 1) _ (vA f) _ _ rfl HR.out Try.underlying27 rfl (sizeV _)) rfl ⟨rfl, HB2.out⟩
  · obtain ⟨n, hr, hn, h1, h2⟩ := (dotB_iff r c).1 hD
    clear hD
    subst hr
    go_enter Try.func61, Try.ntmps61
    go_upto_region 1 with fail
    have HZ := Lib.hid hz
    clear hz
    rw [← HX.out]
    have c0 := Blk.cell HD.out 0
    have c1 := Blk.cell HD.out 1
    simp at c0 c1
    go_wp2_with fail
    refine (HDV.out _).mono ?_
    rintro e w1 ⟨rfl, hb1⟩
    clear c0 c1
    have k1 := HV.out.keep hb1
    have k0 := H0.out.keep hb1
    have kd := Blk.below HD.out hb1 (Blk.lt HD.out)
    have hbb := HB.out.trans (hb1.mono HB.out.size)
    have c0 := Blk.cell kd 0
    have c1 := Blk.cell kd 1
    have cv := k1.cell_ n hn
    have fv := Blk.free k1 n
    simp at c0 c1
    have K1 := Lib.hid k1
    have K0 := Lib.hid k0
    have HBB := Lib.hid hbb
    clear k1 k0 kd hbb hb1
    go_wp2
    go_region
    have k2 : VB ((w1.setCell ⟨w.heap.size, n, none⟩ (.int .i64 (max (f n) c))).drew) w.heap.size (addV f n c) := (K1.out.put n (max (f n) c)).of_eq fun i _ => by
      unfold addV
      rw [HDot.out]
      by_cases e : i = n
      · subst e; simp
      · rw [if_neg e, if_neg (fun h => e (by omega))]
    have k0 : VB ((w1.setCell ⟨w.heap.size, n, none⟩ (.int .i64 (max (f n) c))).drew) (w.heap.size + 1 + 1) (fun _ => 0) := Blk.far K0.out (p := ⟨w.heap.size, n, none⟩) (by simp; omega) _
    have hb3 : Below w.heap.size w ((w1.setCell ⟨w.heap.size, n, none⟩ (.int .i64 (max (f n) c))).drew) := (HBB.out.setCell (p := ⟨w.heap.size, n, none⟩) (by simp) _).drew
    generalize (w1.setCell ⟨w.heap.size, n, none⟩ (.int .i64 (max (f n) c))).drew = w2 at *
    generalize (max (f n) c) = y
    have HR := Lib.hid (setRow_VB w2 (w.heap.size + 1 + 1) _ (addV f n c) k0)
    have HB2 := Lib.hid (hb3.trans (setRow_below w2 (w.heap.size + 1 + 1) w.heap.size (vA (addV f n c)) (by omega)))
    have K2 := Lib.hid k2
    have K3 := Lib.hid k0
    clear k2 k0 hb3 c0 c1 cv fv
    go_wp2_with (first
      | (refine wpList_load_row rfl 27 (.tmp 2) rfl w.heap.size rfl _ _ _ _ K2.out Try.underlying27 rfl (sizeV _) ?_)
      | (refine wpList_store_row rfl 27 (.tmp 4) (.tmp 17) rfl (w.heap.size + 1 + 1) (vA (addV f n c)) rfl rfl _ _ K3.out (sizeV _) (by rw [vA_size, vA_size]) (vA_one _) ?_))
    exact bodyPost_ret (v := .agg (vA (addV f n c))) (results_cell_row (P := Try.prog) Try.results61 _ _ (w.heap.size + 1 + 1) _ (vA (addV f n c)) _ _ rfl HR.out Try.underlying27 rfl (sizeV _)) rfl ⟨rfl, HB2.out⟩

end Go.Proofs.Ytmhechlfpaciiaa

namespace Go.Proofs.Ytmhechlfpaciiaa
open Go.RowKit Go.MapKept

/-- What One tells. -/
def oneI (f : Nat → Int) (e : Ev) : Int := if okB e = false then 1 else if knowsB f e.r e.c then 5 else if nextB f e.r e.c && leV e.p f then 0 else 8
theorem oneI_bad {f : Nat → Int} {e : Ev} (h : okB e = false) : oneI f e = 1 := by unfold oneI; rw [if_pos h]
theorem oneI_known {f : Nat → Int} {e : Ev} (h : okB e = true) (h2 : knowsB f e.r e.c = true) : oneI f e = 5 := by unfold oneI; rw [if_neg (by rw [h]; decide), if_pos h2]
theorem oneI_rest {f : Nat → Int} {e : Ev} (h : okB e = true) (h2 : knowsB f e.r e.c = false) : oneI f e = if nextB f e.r e.c && leV e.p f then 0 else 8 := by unfold oneI; rw [if_neg (by rw [h]; decide), if_neg (by rw [h2]; decide)]
theorem oneI_cases (f : Nat → Int) (e : Ev) : oneI f e = 0 ∨ oneI f e = 1 ∨ oneI f e = 5 ∨ oneI f e = 8 := by
  unfold oneI
  repeat' split
  all_goals simp
theorem right_false8 (e : Ev) (hl : Lens e) (h : okB e = false) (w : World) (hw : CutOk w) : Calls Try.prog 39 #[evV e] w (Gives w (.int .i64 1)) := doright_is e hl false h w hw
theorem right_true8 (e : Ev) (hl : Lens e) (h : okB e = true) (w : World) (hw : CutOk w) : Calls Try.prog 39 #[evV e] w (Gives w (.int .i64 0)) := doright_is e hl true h w hw
theorem knows_is8 (f : Nat → Int) (r c : Int) (b : Bool) (h : knowsB f r c = b) (w : World) : Calls Try.prog 57 #[.agg (vA f), dv r c] w (Gives w (.bool b)) := by
  have := knows_any f r c w; rwa [h] at this
theorem below_is8 (f g : Nat → Int) (b : Bool) (h : leV f g = b) (w : World) : Calls Try.prog 59 #[.agg (vA f), .agg (vA g)] w (Gives w (.bool b)) := by
  have := below_any f g w; rwa [h] at this

set_option maxRecDepth 100000 in
set_option maxHeartbeats 2000000 in
theorem one_any (f : Nat → Int) (e : Ev) (w : World) (hl : Lens e) (hw : CutOk w) : Calls Try.prog 28 #[.agg (vA f), evV e] w (Gives w (.int .i64 (oneI f e))) := by
  obtain ⟨g, hg⟩ : ∃ g, w.heap.size = g := ⟨_, rfl⟩
  obtain ⟨X, hX⟩ : ∃ X, X = (w.alloc (.cells (vA f) 27)).alloc (.cells (evC e) 39) := ⟨_, rfl⟩
  have hv : VB X g f := by rw [hX, ← hg]; exact (VB.new_ f rfl).alloc_ _
  have hk : EB X (g + 1) e := by
    rw [hX, ← hg]
    have := EB.new_ (w.alloc (.cells (vA f) 27)) e
    simpa using this
  have hy : Below w.heap.size w X := by rw [hX]; exact ((Below.refl _ _).alloc (Nat.le_refl _) _).alloc (by simp) _
  have HX := Lib.hid hX
  have HG := Lib.hid hg
  have HV := Lib.hid hv
  have K := Lib.hid hk
  have HY := Lib.hid hy
  have HW := Lib.hid (hw.below hy)
  have HL := Lib.hid hl
  clear hX hg hv hk hy hl hw
  cases ho : okB e
  · have HOk := Lib.hid ho
    rw [oneI_bad ho]
    clear ho
    unfold evV at *
    go_enter Try.func28, Try.ntmps28
    go_upto_region 1 with fail
    rw [← HX.out, HG.out]
    go_wp2_with (first | (refine wpList_load_if rfl 39 (.tmp 3) rfl (g + 1) rfl _ _ _ _ K.out Try.underlying39 rfl (sizeE _) ?_) | fail)
    refine (right_false8 e HL.out HOk.out _ HW.out).mono ?_
    rintro x w1 ⟨rfl, hb⟩
    have Y1 := Lib.hid (HY.out.trans (hb.mono HY.out.size))
    have K1 := Lib.hid (EB.keep K.out hb)
    have V1 := Lib.hid (VB.keep HV.out hb)
    clear hb
    go_wp2
    go_ret
    exact ⟨rfl, Y1.out⟩
  · have HOk := Lib.hid ho
    cases hk : knowsB f e.r e.c
    · have HKn := Lib.hid hk
      rw [oneI_rest ho hk]
      clear ho hk
      cases hn : nextB f e.r e.c
      · have HNx := Lib.hid hn
        clear hn
        rw [Bool.false_and, if_neg Bool.false_ne_true]
        unfold evV at *
        go_enter Try.func28, Try.ntmps28
        go_upto_region 1 with fail
        rw [← HX.out, HG.out]
        go_wp2_with (first | (refine wpList_load_if rfl 39 (.tmp 3) rfl (g + 1) rfl _ _ _ _ K.out Try.underlying39 rfl (sizeE _) ?_) | fail)
        refine (right_true8 e HL.out HOk.out _ HW.out).mono ?_
        rintro x w1 ⟨rfl, hb⟩
        have Y1 := Lib.hid (HY.out.trans (hb.mono HY.out.size))
        have K1 := Lib.hid (EB.keep K.out hb)
        have V1 := Lib.hid (VB.keep HV.out hb)
        clear hb
        go_wp2_with (first
          | (refine wpList_load_if rfl 27 (.tmp 2) rfl g rfl _ _ _ _ V1.out Try.underlying27 rfl (sizeV _) ?_)
          | (refine wpList_load_midif rfl 33 (.tmp 11) rfl (g + 1) 0 rfl _ _ K1.out.dot Try.underlying33 rfl (by kernel_rfl) ?_)
          | fail)
        refine (knows_is8 f e.r e.c false HKn.out w1).mono ?_
        rintro x w2 ⟨rfl, hb⟩
        have Y2 := Lib.hid (Y1.out.trans (hb.mono Y1.out.size))
        have K2 := Lib.hid (EB.keep K1.out hb)
        have V2 := Lib.hid (VB.keep V1.out hb)
        clear hb
        go_wp2_with (first
          | (refine wpList_load_if rfl 27 (.tmp 2) rfl g rfl _ _ _ _ V2.out Try.underlying27 rfl (sizeV _) ?_)
          | (refine wpList_load_midif rfl 33 (.tmp 16) rfl (g + 1) 0 rfl _ _ K2.out.dot Try.underlying33 rfl (by kernel_rfl) ?_)
          | fail)
        refine (vnext_is f e.r e.c false HNx.out w2).mono ?_
        rintro x w3 ⟨rfl, hb⟩
        have Y3 := Lib.hid (Y2.out.trans (hb.mono Y2.out.size))
        have K3 := Lib.hid (EB.keep K2.out hb)
        have V3 := Lib.hid (VB.keep V2.out hb)
        clear hb
        go_wp2
        go_ret
        exact ⟨rfl, Y3.out⟩
      · have HNx := Lib.hid hn
        clear hn
        rw [Bool.true_and]
        cases hbe : leV e.p f
        · have HBe := Lib.hid hbe
          clear hbe
          rw [if_neg Bool.false_ne_true]
          unfold evV at *
          go_enter Try.func28, Try.ntmps28
          go_upto_region 1 with fail
          rw [← HX.out, HG.out]
          go_wp2_with (first | (refine wpList_load_if rfl 39 (.tmp 3) rfl (g + 1) rfl _ _ _ _ K.out Try.underlying39 rfl (sizeE _) ?_) | fail)
          refine (right_true8 e HL.out HOk.out _ HW.out).mono ?_
          rintro x w1 ⟨rfl, hb⟩
          have Y1 := Lib.hid (HY.out.trans (hb.mono HY.out.size))
          have K1 := Lib.hid (EB.keep K.out hb)
          have V1 := Lib.hid (VB.keep HV.out hb)
          clear hb
          go_wp2_with (first
            | (refine wpList_load_if rfl 27 (.tmp 2) rfl g rfl _ _ _ _ V1.out Try.underlying27 rfl (sizeV _) ?_)
            | (refine wpList_load_midif rfl 33 (.tmp 11) rfl (g + 1) 0 rfl _ _ K1.out.dot Try.underlying33 rfl (by kernel_rfl) ?_)
            | fail)
          refine (knows_is8 f e.r e.c false HKn.out w1).mono ?_
          rintro x w2 ⟨rfl, hb⟩
          have Y2 := Lib.hid (Y1.out.trans (hb.mono Y1.out.size))
          have K2 := Lib.hid (EB.keep K1.out hb)
          have V2 := Lib.hid (VB.keep V1.out hb)
          clear hb
          go_wp2_with (first
            | (refine wpList_load_if rfl 27 (.tmp 2) rfl g rfl _ _ _ _ V2.out Try.underlying27 rfl (sizeV _) ?_)
            | (refine wpList_load_midif rfl 33 (.tmp 16) rfl (g + 1) 0 rfl _ _ K2.out.dot Try.underlying33 rfl (by kernel_rfl) ?_)
            | fail)
          refine (vnext_is f e.r e.c true HNx.out w2).mono ?_
          rintro x w3 ⟨rfl, hb⟩
          have Y3 := Lib.hid (Y2.out.trans (hb.mono Y2.out.size))
          have K3 := Lib.hid (EB.keep K2.out hb)
          have V3 := Lib.hid (VB.keep V2.out hb)
          clear hb
          go_wp2_with (first
            | (refine wpList_load_if rfl 27 (.tmp 2) rfl g rfl _ _ _ _ V3.out Try.underlying27 rfl (sizeV _) ?_)
            | (refine wpList_load_midif rfl 27 (.tmp 21) rfl (g + 1) 2 rfl _ _ K3.out.past Try.underlying27 rfl (sizeV _) ?_)
            | fail)
          refine (below_is8 e.p f false HBe.out w3).mono ?_
          rintro x w4 ⟨rfl, hb⟩
          have Y4 := Lib.hid (Y3.out.trans (hb.mono Y3.out.size))
          clear hb
          go_wp2
          go_ret
          exact ⟨rfl, Y4.out⟩
        · have HBe := Lib.hid hbe
          clear hbe
          rw [if_pos rfl]
          unfold evV at *
          go_enter Try.func28, Try.ntmps28
          go_upto_region 1 with fail
          rw [← HX.out, HG.out]
          go_wp2_with (first | (refine wpList_load_if rfl 39 (.tmp 3) rfl (g + 1) rfl _ _ _ _ K.out Try.underlying39 rfl (sizeE _) ?_) | fail)
          refine (right_true8 e HL.out HOk.out _ HW.out).mono ?_
          rintro x w1 ⟨rfl, hb⟩
          have Y1 := Lib.hid (HY.out.trans (hb.mono HY.out.size))
          have K1 := Lib.hid (EB.keep K.out hb)
          have V1 := Lib.hid (VB.keep HV.out hb)
          clear hb
          go_wp2_with (first
            | (refine wpList_load_if rfl 27 (.tmp 2) rfl g rfl _ _ _ _ V1.out Try.underlying27 rfl (sizeV _) ?_)
            | (refine wpList_load_midif rfl 33 (.tmp 11) rfl (g + 1) 0 rfl _ _ K1.out.dot Try.underlying33 rfl (by kernel_rfl) ?_)
            | fail)
          refine (knows_is8 f e.r e.c false HKn.out w1).mono ?_
          rintro x w2 ⟨rfl, hb⟩
          have Y2 := Lib.hid (Y1.out.trans (hb.mono Y1.out.size))
          have K2 := Lib.hid (EB.keep K1.out hb)
          have V2 := Lib.hid (VB.keep V1.out hb)
          clear hb
          go_wp2_with (first
            | (refine wpList_load_if rfl 27 (.tmp 2) rfl g rfl _ _ _ _ V2.out Try.underlying27 rfl (sizeV _) ?_)
            | (refine wpList_load_midif rfl 33 (.tmp 16) rfl (g + 1) 0 rfl _ _ K2.out.dot Try.underlying33 rfl (by kernel_rfl) ?_)
            | fail)
          refine (vnext_is f e.r e.c true HNx.out w2).mono ?_
          rintro x w3 ⟨rfl, hb⟩
          have Y3 := Lib.hid (Y2.out.trans (hb.mono Y2.out.size))
          have K3 := Lib.hid (EB.keep K2.out hb)
          have V3 := Lib.hid (VB.keep V2.out hb)
          clear hb
          go_wp2_with (first
            | (refine wpList_load_if rfl 27 (.tmp 2) rfl g rfl _ _ _ _ V3.out Try.underlying27 rfl (sizeV _) ?_)
            | (refine wpList_load_midif rfl 27 (.tmp 21) rfl (g + 1) 2 rfl _ _ K3.out.past Try.underlying27 rfl (sizeV _) ?_)
            | fail)
          refine (below_is8 e.p f true HBe.out w3).mono ?_
          rintro x w4 ⟨rfl, hb⟩
          have Y4 := Lib.hid (Y3.out.trans (hb.mono Y3.out.size))
          clear hb
          go_wp2
          go_ret
          exact ⟨rfl, Y4.out⟩
    · have HKn := Lib.hid hk
      rw [oneI_known ho hk]
      clear ho hk
      unfold evV at *
      go_enter Try.func28, Try.ntmps28
      go_upto_region 1 with fail
      rw [← HX.out, HG.out]
      go_wp2_with (first | (refine wpList_load_if rfl 39 (.tmp 3) rfl (g + 1) rfl _ _ _ _ K.out Try.underlying39 rfl (sizeE _) ?_) | fail)
      refine (right_true8 e HL.out HOk.out _ HW.out).mono ?_
      rintro x w1 ⟨rfl, hb⟩
      have Y1 := Lib.hid (HY.out.trans (hb.mono HY.out.size))
      have K1 := Lib.hid (EB.keep K.out hb)
      have V1 := Lib.hid (VB.keep HV.out hb)
      clear hb
      go_wp2_with (first
        | (refine wpList_load_if rfl 27 (.tmp 2) rfl g rfl _ _ _ _ V1.out Try.underlying27 rfl (sizeV _) ?_)
        | (refine wpList_load_midif rfl 33 (.tmp 11) rfl (g + 1) 0 rfl _ _ K1.out.dot Try.underlying33 rfl (by kernel_rfl) ?_)
        | fail)
      refine (knows_is8 f e.r e.c true HKn.out w1).mono ?_
      rintro x w2 ⟨rfl, hb⟩
      have Y2 := Lib.hid (Y1.out.trans (hb.mono Y1.out.size))
      have K2 := Lib.hid (EB.keep K1.out hb)
      have V2 := Lib.hid (VB.keep V1.out hb)
      clear hb
      go_wp2
      go_ret
      exact ⟨rfl, Y2.out⟩

end Go.Proofs.Ytmhechlfpaciiaa

namespace Go.Proofs.Ytmhechlfpaciiaa
open Go.RowKit Go.MapKept Go.Sort

theorem oneI_may {f : Nat → Int} {e : Ev} : oneI f e = 0 ↔ mayC f e = true := by
  cases ho : okB e
  · rw [oneI_bad ho]; unfold mayC; rw [ho]; simp
  · obtain ⟨n, hn, hn2, hn3, hn4⟩ := ok_dot ho
    have hd : dotB e.r e.c = true := (dotB_iff _ _).2 ⟨n, hn, hn2, hn3, hn4⟩
    rw [show (mayC f e = true) = ((f e.r.toNat = e.c - 1) ∧ ∀ i, i < 16 → e.p i ≤ f i) from by unfold mayC; rw [ho]; simp]
    cases hk : knowsB f e.r e.c
    · rw [oneI_rest ho hk]
      have hk' : ¬ e.c ≤ f e.r.toNat := by unfold knowsB at hk; rw [hd] at hk; simpa using hk
      unfold nextB
      rw [hd]
      simp only [Bool.true_and]
      cases hl : leV e.p f
      · have : ¬ ∀ i, i < 16 → e.p i ≤ f i := fun h => by rw [(leV_iff _ _).2 h] at hl; cases hl
        simp [this]
      · have := (leV_iff _ _).1 hl
        simp
        exact fun _ => this
    · rw [oneI_known ho hk]
      have hk' : e.c ≤ f e.r.toNat := by unfold knowsB at hk; rw [hd] at hk; simpa using hk
      constructor
      · intro h; cases h
      · rintro ⟨h, _⟩; omega
/-- The vector that knows an event's dot, too. -/
def setD (f : Nat → Int) (e : Ev) : Nat → Int := fun i => if i = e.r.toNat then e.c else f i
theorem add_set {f : Nat → Int} {e : Ev} (h : oneI f e = 0) : vA (addV f e.r e.c) = vA (setD f e) := by
  have hm := oneI_may.1 h
  unfold mayC at hm
  simp only [Bool.and_eq_true, beq_iff_eq] at hm
  obtain ⟨n, hn, hn2, hn3, hn4⟩ := ok_dot hm.1.1
  have hd : dotB e.r e.c = true := (dotB_iff _ _).2 ⟨n, hn, hn2, hn3, hn4⟩
  refine vA_congr fun i _ => ?_
  unfold addV setD
  rw [hd]
  have h2 := hm.1.2
  rw [hn, Int.toNat_natCast] at h2 ⊢
  by_cases hi : i = n
  · subst hi; simp; omega
  · have : ¬ ((i : Int) = n) := by omega
    simp [hi, this]
/-- What All comes to. -/
def allA : List Ev → List Ev → (Nat → Int) → List Ev × (Nat → Int) × Int
  | [], D, f => (D, f, 0)
  | e :: l, D, f => if oneI f e = 0 then allA l (D ++ [e]) (setD f e) else if oneI f e = 5 then allA l D f else (D, f, oneI f e)
theorem allA_len : ∀ (l D : List Ev) (f : Nat → Int), (allA l D f).1.length ≤ D.length + l.length
  | [], D, f => by simp [allA]
  | e :: l, D, f => by
    have h1 := allA_len l (D ++ [e]) (setD f e)
    have h2 := allA_len l D f
    simp only [allA, List.length_cons]
    simp only [List.length_append, List.length_cons, List.length_nil] at h1
    repeat' split
    all_goals (try dsimp only)
    all_goals omega
theorem allA_mem : ∀ (l D : List Ev) (f : Nat → Int) (e : Ev), e ∈ (allA l D f).1 → e ∈ D ∨ e ∈ l
  | [], D, f, e, h => .inl h
  | x :: l, D, f, e, h => by
    simp only [allA] at h
    split at h
    · rcases allA_mem l _ _ e h with h | h
      · rcases List.mem_append.1 h with h | h
        · exact .inl h
        · exact .inr (by rw [List.mem_singleton.1 h]; exact List.mem_cons_self ..)
      · exact .inr (List.mem_cons_of_mem _ h)
    · split at h
      · rcases allA_mem l _ _ e h with h | h
        · exact .inl h
        · exact .inr (List.mem_cons_of_mem _ h)
      · exact .inl h
theorem one_is8 (f : Nat → Int) (e : Ev) (c : Int) (h : oneI f e = c) (hl : Lens e) (w : World) (hw : CutOk w) : Calls Try.prog 28 #[.agg (vA f), evV e] w (Gives w (.int .i64 c)) := by
  have := one_any f e w hl hw; rwa [h] at this
theorem add_is8 (f : Nat → Int) (e : Ev) (h : oneI f e = 0) (w : World) : Calls Try.prog 61 #[.agg (vA f), dv e.r e.c] w (Gives w (.agg (vA (setD f e)))) := by
  have := add_any f e.r e.c w; rwa [add_set h] at this
/-- What the closure has, between two calls. -/
structure TakeI (B vb tb : Nat) (w : World) (f : Nat → Int) (u : Value) (row : List Ev) : Prop where
  v : VB w vb f
  t : Blk w tb 22 #[u]
  o : OwnK encE B 39 27 w u row
  vB : B ≤ vb
  tB : B ≤ tb
theorem TakeI.keep {B vb tb : Nat} {w w' : World} {f : Nat → Int} {u : Value} {row : List Ev} (h : TakeI B vb tb w f u row) (hb : Below w.heap.size w w') : TakeI B vb tb w' f u row :=
  ⟨VB.keep h.v hb, h.t.below hb h.t.lt, h.o.keep hb, h.vB, h.tB⟩
theorem tb_ne_vb {B vb tb : Nat} {w : World} {f : Nat → Int} {u : Value} {row : List Ev} (h : TakeI B vb tb w f u row) : tb ≠ vb := by
  intro e
  have h1 := h.t
  have h2 := h.v
  rw [e] at h1
  have h3 : w.heap[vb]? = _ := h1
  rw [show w.heap[vb]? = _ from h2] at h3
  simp only [Option.some.injEq, Obj.cells.injEq] at h3
  exact absurd h3.2.1 (by decide)

/-- Nothing else turns. -/
def TakeK (vb tb : Nat) (u : Value) (w w' : World) : Prop := ∀ k, k < w.heap.size → k ≠ vb → k ≠ tb → u.ownBlock ≠ some k → w'.heap[k]? = w.heap[k]?
theorem TakeK.of_below {vb tb : Nat} {u : Value} {w w' : World} (h : Below w.heap.size w w') : TakeK vb tb u w w' := fun k hk _ _ _ => h.block k hk

set_option maxRecDepth 100000 in
set_option maxHeartbeats 2000000 in
theorem take_any (e : Ev) (B vb tb : Nat) (w : World) (f : Nat → Int) (u : Value) (row : List Ev) (h : TakeI B vb tb w f u row) (hB : B ≤ w.heap.size) (hr : row.length ≤ 100000) (hl : Lens e) (hw : CutOk w) :
    Calls Try.prog 60 #[evV e, .pointer (some ⟨vb, 0, none⟩), .pointer (some ⟨tb, 0, none⟩)] w fun x w' =>
      x = .returned (.int .i64 (if oneI f e = 5 then 0 else oneI f e)) ∧ (∃ u', TakeI B vb tb w' (if oneI f e = 0 then setD f e else f) u' (if oneI f e = 0 then row ++ [e] else row)) ∧ Below B w w' ∧ TakeK vb tb u w w' := by
  obtain ⟨g, hg⟩ : ∃ g, w.heap.size = g := ⟨_, rfl⟩
  obtain ⟨X, hX⟩ : ∃ X, X = w.alloc (.cells (evC e) 39) := ⟨_, rfl⟩
  have hk : EB X g e := by rw [hX, ← hg]; exact EB.new_ w e
  have hy : Below w.heap.size w X := by rw [hX]; exact (Below.refl _ _).alloc (Nat.le_refl _) _
  have HX := Lib.hid hX
  have HG := Lib.hid hg
  have K := Lib.hid hk
  have HY := Lib.hid hy
  have HW := Lib.hid (hw.below hy)
  have HL := Lib.hid hl
  have HT := Lib.hid (h.keep hy)
  have HB := Lib.hid hB
  have HR := Lib.hid hr
  have HgT := Lib.hid (show ∀ q, u.ownBlock = some q → q < g from fun q hq => by rw [← hg]; exact (h.o.lt q hq).2)
  have HgV := Lib.hid (show vb < g by rw [← hg]; exact Blk.lt h.v)
  have HgB := Lib.hid (show tb < g by rw [← hg]; exact Blk.lt h.t)
  clear hX hg hk hy hl hw h hB hr
  rcases oneI_cases f e with ho | ho | ho | ho
  · have HO := Lib.hid ho
    rw [ho, if_neg (show ¬ (0 : Int) = 5 by decide), if_pos (show (0 : Int) = 0 from rfl), if_pos (show (0 : Int) = 0 from rfl)]
    clear ho
    unfold evV at *
    go_enter Try.func60, Try.ntmps60
    go_upto_region 1 with fail
    rw [← HX.out, HG.out]
    go_wp2_with (first
      | (refine' wpList_load_if ?q1 27 (.tmp 1) ?q2 vb ?q3 _ _ _ _ ?q4 Try.underlying27 ?q5 ?q6 ?_; (case q2 => rfl); (case q1 => rfl); (case q3 => rfl); (case q4 => exact HT.out.v); (case q5 => rfl); (case q6 => exact (sizeV _)))
      | (refine' wpList_load_if ?q1 39 (.tmp 3) ?q2 g ?q3 _ _ _ _ ?q4 Try.underlying39 ?q5 ?q6 ?_; (case q2 => rfl); (case q1 => rfl); (case q3 => rfl); (case q4 => exact K.out); (case q5 => rfl); (case q6 => exact (sizeE _)))
      | fail)
    refine (one_is8 f e 0 HO.out HL.out _ HW.out).mono ?_
    rintro x w1 ⟨rfl, hb⟩
    have Y1 := Lib.hid (HY.out.trans (hb.mono HY.out.size))
    have K1 := Lib.hid (EB.keep K.out hb)
    have T1 := Lib.hid (HT.out.keep hb)
    clear hb
    have hba : Below w1.heap.size w1 (w1.alloc (.cells (evC e) 39)) := (Below.refl _ _).alloc (Nat.le_refl _) _
    have hsl : SlK encE 27 (w1.alloc (.cells (evC e) 39)) (.slice (some ⟨w1.heap.size, 0, none⟩) 1 1) [e] := ⟨_, _, rfl, Nat.le_refl _, fun _ => ⟨w1.heap.size, 0, rfl, by simp, fun q y hq => by
      have hq0 : q = 0 := by have := (List.getElem?_eq_some_iff.1 hq).1; simp at this; exact this
      subst hq0
      have hy : y = e := by simpa using hq.symm
      subst hy
      intro i u hu
      rw [Blk.cell (Blk.new w1 _ _)]
      simpa [encE] using hu⟩⟩
    have hBw : B ≤ w1.heap.size := Nat.le_trans HB.out Y1.out.size
    obtain ⟨u', w2, hr2, ho2, hg2, _⟩ := append_ev B (w1.alloc (.cells (evC e) 39)) u row (T1.out.o.keep hba) _ [e] hsl (by have := HR.out; simp; omega) (Nat.le_trans hBw hba.size)
    have HA := Lib.hid hr2
    have hne : ∀ q, (∃ t cs, t ≠ 39 ∧ Blk (w1.alloc (.cells (evC e) 39)) q t cs) → some q ≠ u.ownBlock := fun q ⟨t, cs, h1, h2⟩ h => own_ne_blk (T1.out.o.keep hba) h2 h1 h.symm
    have hv2 : VB w2 vb f := (hg2.block vb (Nat.lt_of_lt_of_le (Blk.lt T1.out.v) hba.size) (hne vb ⟨_, _, by decide, VB.keep T1.out.v hba⟩)).trans (VB.keep T1.out.v hba)
    have ht2 : Blk w2 tb 22 #[u] := (hg2.block tb (Nat.lt_of_lt_of_le (Blk.lt T1.out.t) hba.size) (hne tb ⟨_, _, by decide, T1.out.t.below hba T1.out.t.lt⟩)).trans (T1.out.t.below hba T1.out.t.lt)
    have he2 : EB w2 g e := (hg2.block g (Nat.lt_of_lt_of_le (Blk.lt K1.out) hba.size) (fun h => absurd (HgT.out g h.symm) (Nat.lt_irrefl _))).trans (EB.keep K1.out hba)
    have hb2 : Below B w w2 := ((Y1.out.mono HB.out).trans (hba.mono hBw)).grown hg2 (Nat.le_trans hBw hba.size) (fun q hq => (T1.out.o.lt q hq).1)
    have hk2 : TakeK vb tb u w (w2.setCell ⟨tb, 0, none⟩ u') := fun k hk h1 h2 h3 => (Below.heap_setCell w2 ⟨tb, 0, none⟩ u' k h2).trans ((hg2.block k (Nat.lt_of_lt_of_le (Nat.lt_of_lt_of_le hk Y1.out.size) hba.size) (fun h => h3 h.symm)).trans ((hba.block k (Nat.lt_of_lt_of_le hk Y1.out.size)).trans (Y1.out.block k hk)))
    have HKs := Lib.hid hk2
    obtain ⟨A2, c2, hu2, _, _⟩ := ho2.read encE_len
    obtain ⟨n2, hn2⟩ : ∃ n2, (row ++ [e]).length = n2 := ⟨_, rfl⟩
    rw [hn2] at hu2
    clear hn2
    have hts : Blk (w2.setCell ⟨tb, 0, none⟩ u') tb 22 #[u'] := by
      have := ht2.set_ 0 u'
      simpa using this
    have hvs : VB (w2.setCell ⟨tb, 0, none⟩ u') vb f := Blk.far hv2 (fun h => tb_ne_vb T1.out h.symm) _
    have hes : EB (w2.setCell ⟨tb, 0, none⟩ u') g e := Blk.far he2 (fun h => by have := HgB.out; simp only at h; omega) _
    have hos : OwnK encE B 39 27 (w2.setCell ⟨tb, 0, none⟩ u') u' (row ++ [e]) := ho2.same fun q hq => Below.heap_setCell _ _ _ _ fun h => own_ne_blk ho2 ht2 (by decide) (by rw [hq, h])
    have hbs : Below B w (w2.setCell ⟨tb, 0, none⟩ u') := hb2.setCell (p := ⟨tb, 0, none⟩) T1.out.tB u'
    have HTs := Lib.hid hts
    have HVs := Lib.hid hvs
    have HEs := Lib.hid hes
    have HOs := Lib.hid hos
    have HBs := Lib.hid hbs
    have ct : w2.cell? ⟨tb, 0, none⟩ = some u := (Blk.cell ht2 0).trans rfl
    have ft : w2.frozen? ⟨tb, 0, none⟩ = false := Blk.free ht2 0
    have ct1 : w1.cell? ⟨tb, 0, none⟩ = some u := (Blk.cell T1.out.t 0).trans rfl
    obtain ⟨A1, c1, hu1, _, _⟩ := T1.out.o.read encE_len
    obtain ⟨n1, hn1⟩ : ∃ n1, row.length = n1 := ⟨_, rfl⟩
    rw [hn1] at hu1
    clear hn1
    subst hu1 hu2
    clear hk2 hba hsl hBw hr2 ho2 hg2 hne hv2 ht2 he2 hb2 hts hvs hes hos hbs
    go_upto_region 6 with (first
      | (refine' wpList_load_if ?q1 39 (.tmp 3) ?q2 g ?q3 _ _ _ _ ?q4 Try.underlying39 ?q5 ?q6 ?_; (case q2 => rfl); (case q1 => rfl); (case q3 => rfl); (case q4 => exact K1.out); (case q5 => rfl); (case q6 => exact (sizeE _)))
      | (refine wpList_val (o := ⟨some 15, _, _, _, _, _⟩) rfl (.slice (some ⟨w1.heap.size, 0, none⟩) 1 1) (w1.alloc (.cells (evC e) 39)) (run_buildSlice_op (vs := #[(0, .agg (evC e))]) rfl (by simp only [List.map_toArray, List.map_cons, List.map_nil]; rfl) (bsEv e w1)) ?_)
      | (at_builtin; refine Lib.wpList_append_run (o := ⟨some 16, _, _, _, _, _⟩) _ rfl _ _ _ _ rfl _ _ rfl rfl _ _ HA.out ?_)
      | fail)
    clear ct ft ct1
    obtain ⟨w3, hw3⟩ : ∃ w3, w2.setCell ⟨tb, 0, none⟩ (.slice A2 n2 c2) = w3 := ⟨_, rfl⟩
    rw [hw3] at HTs HVs HEs HOs HBs HKs ⊢
    clear hw3
    go_wp2_with (first
      | (refine' wpList_load_if ?q1 27 (.tmp 1) ?q2 vb ?q3 _ _ _ _ ?q4 Try.underlying27 ?q5 ?q6 ?_; (case q2 => rfl); (case q1 => rfl); (case q3 => rfl); (case q4 => exact HVs.out); (case q5 => rfl); (case q6 => exact (sizeV _)))
      | (refine' wpList_load_midif ?q1 33 (.tmp 18) ?q2 g 0 ?q3 _ _ ?q4 Try.underlying33 ?q5 ?q6 ?_; (case q2 => rfl); (case q1 => rfl); (case q3 => rfl); (case q4 => exact HEs.out.dot); (case q5 => rfl); (case q6 => exact (by kernel_rfl)))
      | fail)
    refine (add_is8 f e HO.out w3).mono ?_
    rintro x w4 ⟨rfl, hb⟩
    have hv4 := VB.keep HVs.out hb
    have HV4 := Lib.hid hv4
    have HR4 := Lib.hid (setRow_VB w4 vb f (setD f e) hv4)
    have HT4 := Lib.hid (show Blk (w4.setRow vb (vA (setD f e))) tb 22 _ from (setRow_other w4 vb tb _ (tb_ne_vb T1.out)).trans (HTs.out.below hb HTs.out.lt))
    have hne4 := own_ne_blk (HOs.out.keep hb) hv4 (by decide)
    have HO4 := Lib.hid ((HOs.out.keep hb).same (w' := w4.setRow vb (vA (setD f e))) fun q hq => setRow_other w4 vb q _ (fun h => hne4 (by rw [hq, h])))
    have HB4 := Lib.hid ((HBs.out.trans (hb.mono (Nat.le_trans HB.out HBs.out.size))).trans (setRow_below w4 vb B (vA (setD f e)) T1.out.vB))
    have HK4 := Lib.hid (show TakeK vb tb _ w (w4.setRow vb (vA (setD f e))) from fun k hk h1 h2 h3 => (setRow_other w4 vb k _ h1).trans ((hb.block k (Nat.lt_of_lt_of_le hk HBs.out.size)).trans (HKs.out k hk h1 h2 h3)))
    clear hb hv4 hne4
    go_wp2_with (first
      | (refine wpList_store_row (o := ⟨none, _, _, _, _, _⟩) rfl 27 (.tmp 1) (.tmp 20) rfl vb (vA (setD f e)) rfl rfl _ _ HV4.out (sizeV _) (by rw [vA_size, vA_size]) (vA_one _) ?_)
      | fail)
    go_ret
    exact ⟨rfl, ⟨_, HR4.out, HT4.out, HO4.out, T1.out.vB, T1.out.tB⟩, HB4.out, HK4.out⟩
  · have HO := Lib.hid ho
    rw [ho, if_neg (show ¬ (1 : Int) = 5 by decide), if_neg (show ¬ (1 : Int) = 0 by decide), if_neg (show ¬ (1 : Int) = 0 by decide)]
    clear ho
    unfold evV at *
    go_enter Try.func60, Try.ntmps60
    go_upto_region 1 with fail
    rw [← HX.out, HG.out]
    go_wp2_with (first
      | (refine' wpList_load_if ?q1 27 (.tmp 1) ?q2 vb ?q3 _ _ _ _ ?q4 Try.underlying27 ?q5 ?q6 ?_; (case q2 => rfl); (case q1 => rfl); (case q3 => rfl); (case q4 => exact HT.out.v); (case q5 => rfl); (case q6 => exact (sizeV _)))
      | (refine' wpList_load_if ?q1 39 (.tmp 3) ?q2 g ?q3 _ _ _ _ ?q4 Try.underlying39 ?q5 ?q6 ?_; (case q2 => rfl); (case q1 => rfl); (case q3 => rfl); (case q4 => exact K.out); (case q5 => rfl); (case q6 => exact (sizeE _)))
      | fail)
    refine (one_is8 f e 1 HO.out HL.out _ HW.out).mono ?_
    rintro x w1 ⟨rfl, hb⟩
    have Y1 := Lib.hid (HY.out.trans (hb.mono HY.out.size))
    have K1 := Lib.hid (EB.keep K.out hb)
    have T1 := Lib.hid (HT.out.keep hb)
    clear hb
    go_wp2
    go_ret
    exact ⟨rfl, ⟨u, T1.out⟩, Y1.out.mono HB.out, TakeK.of_below Y1.out⟩
  · have HO := Lib.hid ho
    rw [ho, if_pos (show (5 : Int) = 5 from rfl), if_neg (show ¬ (5 : Int) = 0 by decide), if_neg (show ¬ (5 : Int) = 0 by decide)]
    clear ho
    unfold evV at *
    go_enter Try.func60, Try.ntmps60
    go_upto_region 1 with fail
    rw [← HX.out, HG.out]
    go_wp2_with (first
      | (refine' wpList_load_if ?q1 27 (.tmp 1) ?q2 vb ?q3 _ _ _ _ ?q4 Try.underlying27 ?q5 ?q6 ?_; (case q2 => rfl); (case q1 => rfl); (case q3 => rfl); (case q4 => exact HT.out.v); (case q5 => rfl); (case q6 => exact (sizeV _)))
      | (refine' wpList_load_if ?q1 39 (.tmp 3) ?q2 g ?q3 _ _ _ _ ?q4 Try.underlying39 ?q5 ?q6 ?_; (case q2 => rfl); (case q1 => rfl); (case q3 => rfl); (case q4 => exact K.out); (case q5 => rfl); (case q6 => exact (sizeE _)))
      | fail)
    refine (one_is8 f e 5 HO.out HL.out _ HW.out).mono ?_
    rintro x w1 ⟨rfl, hb⟩
    have Y1 := Lib.hid (HY.out.trans (hb.mono HY.out.size))
    have K1 := Lib.hid (EB.keep K.out hb)
    have T1 := Lib.hid (HT.out.keep hb)
    clear hb
    go_wp2
    go_ret
    exact ⟨rfl, ⟨u, T1.out⟩, Y1.out.mono HB.out, TakeK.of_below Y1.out⟩
  · have HO := Lib.hid ho
    rw [ho, if_neg (show ¬ (8 : Int) = 5 by decide), if_neg (show ¬ (8 : Int) = 0 by decide), if_neg (show ¬ (8 : Int) = 0 by decide)]
    clear ho
    unfold evV at *
    go_enter Try.func60, Try.ntmps60
    go_upto_region 1 with fail
    rw [← HX.out, HG.out]
    go_wp2_with (first
      | (refine' wpList_load_if ?q1 27 (.tmp 1) ?q2 vb ?q3 _ _ _ _ ?q4 Try.underlying27 ?q5 ?q6 ?_; (case q2 => rfl); (case q1 => rfl); (case q3 => rfl); (case q4 => exact HT.out.v); (case q5 => rfl); (case q6 => exact (sizeV _)))
      | (refine' wpList_load_if ?q1 39 (.tmp 3) ?q2 g ?q3 _ _ _ _ ?q4 Try.underlying39 ?q5 ?q6 ?_; (case q2 => rfl); (case q1 => rfl); (case q3 => rfl); (case q4 => exact K.out); (case q5 => rfl); (case q6 => exact (sizeE _)))
      | fail)
    refine (one_is8 f e 8 HO.out HL.out _ HW.out).mono ?_
    rintro x w1 ⟨rfl, hb⟩
    have Y1 := Lib.hid (HY.out.trans (hb.mono HY.out.size))
    have K1 := Lib.hid (EB.keep K.out hb)
    have T1 := Lib.hid (HT.out.keep hb)
    clear hb
    go_wp2
    go_ret
    exact ⟨rfl, ⟨u, T1.out⟩, Y1.out.mono HB.out, TakeK.of_below Y1.out⟩

end Go.Proofs.Ytmhechlfpaciiaa

namespace Go.Proofs.Ytmhechlfpaciiaa
open Go.RowKit Go.MapKept Go.Sort

/-- What a function returns whose first result is a temporary, the second has a place in memory, the third is a temporary. -/
theorem ret_cell3 {P : Program} {fn : Func} {p u q : Tmp} {ty : TypeId} (h : fn.results = #[.tmp u, .cell p ty, .tmp q]) (tmps : Array Value) (w : World) (g : Nat) (t : TypeId) (cs : Array Value) (d : TypeDesc) (v c : Value)
    (hp : tmps.getD p undef = .pointer (some ⟨g, 0, none⟩)) (hg : Blk w g t cs)
    (hu : P.underlying ty = some d) (hd : (match d with | .struct _ | .array _ _ => true | _ => false) = true) (hi : (P.info? ty).map (·.size) = some cs.size) (hv : tmps.getD u undef = v) (hc : tmps.getD q undef = c) :
    (results fn tmps).run P w = .ok (.tuple #[v, .agg cs, c]) w := by
  have hp' : tmps[p]?.getD undef = .pointer (some ⟨g, 0, none⟩) := by rw [← Array.getD_eq_getD_getElem?]; exact hp
  have hv' : tmps[u]?.getD undef = v := by rw [← Array.getD_eq_getD_getElem?]; exact hv
  have hc' : tmps[q]?.getD undef = c := by rw [← Array.getD_eq_getD_getElem?]; exact hc
  unfold results
  rw [h]
  simp [hp', hv', hc', asAddr, Result.andThen, run_loadVar_row w g t ty cs (0, 0) d hg hu hd hi]
theorem run_nei8 {a b : Int} {q : Bool} (h : (a == b) = q) (w : World) : (binOp .neq 40 (.int .i64 a) (.int .i64 b)).run Try.prog w = .ok (.bool !q) w := by subst h; go_simp; rfl
section
variable {P : Program} {ops : Array Oper} {Q : Exit → Act → World → Prop} {md : Region.Mode}
/-- THE RULE where something turns: I throughout; what an operation left stays, whatever step does. -/
theorem wpAny_keep (I : World → Prop) (p : Nat → Value → World → Prop) (step : World → World → Prop) (a0 : Act) (w1 : World)
    (hap : apartB ops = true) (hah : aheadB md ops = true) (hin : (List.range ops.size).all (fun i => match ops[i]? with | some o => (match o.dst with | some d => decide (d < a0.tmps.size) | none => true) | none => true) = true)
    (h0 : I w1.drew) (hst : ∀ i v w w', step w w' → p i v w → p i v w')
    (hop : AllIdx (fun i o => ∀ (a : Act) (w : World), I w → (∀ d : Tmp, (ops.all fun o => o.dst != some d) = true → a.eval (.tmp d) = a0.eval (.tmp d)) →
      (∀ e ∈ o.after, Region.binds md e = true → ∀ oj d, ops[e.on]? = some oj → oj.dst = some d → p e.on (a.eval (.tmp d)) w) → ops[i]? = some o → wpOp P ops Q i (fun a' w' => (∃ v, a' = a.put o.dst v ∧ p i v w') ∧ step w w' ∧ I w') a w) 0 ops.toList)
    (hend : ∀ vals w, I w → (∀ i, i < ops.size → p i (vals i) w) → Q .normal (layN ops (fun _ => true) vals (List.range ops.size) a0) w) :
    wpAny P md ops Q ops.size (Array.replicate ops.size false) a0 w1.drew := by
  refine wpAny_each I p step a0 w1.drew hap hah hin h0 hst ?_ hend
  intro i o hi a w hI _ hun haft
  have h1 := allIdx_get ops.toList 0 i o hop (by simpa using hi)
  rw [Nat.zero_add] at h1
  refine h1 a w hI (fun d hd => hun d fun j oj hj => ?_) haft hi
  obtain ⟨hjl, rfl⟩ := Array.getElem?_eq_some_iff.1 hj
  rw [Array.all_eq_true] at hd
  simpa using hd j hjl
end
/-- What the drawn return keeps. -/
def AllR (w0 : World) (rb : Nat) (vb tb : Nat) (f : Nat → Int) (u : Value) (row : List Ev) (w : World) : Prop := TakeI w0.heap.size vb tb w f u row ∧ (∃ r, VB w rb r) ∧ w0.heap.size ≤ rb ∧ rb ≠ vb ∧ rb ≠ tb ∧ Below w0.heap.size w0 w
theorem AllR.below {w0 : World} {rb vb tb : Nat} {f : Nat → Int} {u : Value} {row : List Ev} {w w' : World} (h : AllR w0 rb vb tb f u row w) (hb : Below w.heap.size w w') : AllR w0 rb vb tb f u row w' := by
  obtain ⟨h1, ⟨r, h2⟩, h3, h4, h5, h6⟩ := h
  exact ⟨h1.keep hb, ⟨r, VB.keep h2 hb⟩, h3, h4, h5, h6.trans (hb.mono h6.size)⟩
theorem AllR.store {w0 : World} {rb vb tb : Nat} {f : Nat → Int} {u : Value} {row : List Ev} {w : World} (h : AllR w0 rb vb tb f u row w) : ∃ r, VB w rb r ∧ AllR w0 rb vb tb f u row (w.setRow rb (vA f)) ∧ VB (w.setRow rb (vA f)) rb f := by
  obtain ⟨h1, ⟨r, h2⟩, h3, h4, h5, h6⟩ := h
  have hne := own_ne_blk h1.o h2 (by decide)
  have hw : AllR w0 rb vb tb f u row (w.setRow rb (vA f)) := ⟨⟨(setRow_other w rb vb _ (fun e => h4 e.symm)).trans h1.v, (setRow_other w rb tb _ (fun e => h5 e.symm)).trans h1.t, h1.o.same (fun q hq => setRow_other w rb q _ (fun e => hne (by rw [hq, e]))), h1.vB, h1.tB⟩, ⟨f, setRow_VB w rb _ f h2⟩, h3, h4, h5, h6.trans (setRow_below w rb _ _ h3)⟩
  exact ⟨r, h2, hw, setRow_VB w rb _ f h2⟩

/-- What the drawn returns leave. -/
def PR10 (g : Nat) (h : Nat → Int) (Au : Option Addr) (nu cu : Nat) : Nat → Value → World → Prop
  | 0, v, _ => v = .slice Au nu cu | 1, v, _ => v = .agg (vA h) | 2, v, _ => v = .slice Au nu cu | 3, _, W => VB W (g + 1) h | 4, v, _ => v = .int .i64 0 | _, _, _ => True
theorem PR10_keep (g : Nat) (h : Nat → Int) (Au : Option Addr) (nu cu : Nat) (i : Nat) (v : Value) (W W' : World) (hs : VB W (g + 1) h → VB W' (g + 1) h) (hp : PR10 g h Au nu cu i v W) : PR10 g h Au nu cu i v W' := by
  match i, hp with
  | 0, hp => exact hp
  | 1, hp => exact hp
  | 2, hp => exact hp
  | 3, hp => exact hs hp
  | 4, hp => exact hp
  | _ + 5, _ => exact trivial
def PR8 (g : Nat) (h : Nat → Int) (Au : Option Addr) (nu cu : Nat) (c : Int) : Nat → Value → World → Prop
  | 0, v, _ => v = .slice Au nu cu | 1, v, _ => v = .agg (vA h) | 2, v, _ => v = .int .i64 c | 3, v, _ => v = .slice Au nu cu | 4, _, W => VB W (g + 1) h | 5, v, _ => v = .int .i64 c | _, _, _ => True
theorem PR8_keep (g : Nat) (h : Nat → Int) (Au : Option Addr) (nu cu : Nat) (c : Int) (i : Nat) (v : Value) (W W' : World) (hs : VB W (g + 1) h → VB W' (g + 1) h) (hp : PR8 g h Au nu cu c i v W) : PR8 g h Au nu cu c i v W' := by
  match i, hp with
  | 0, hp => exact hp
  | 1, hp => exact hp
  | 2, hp => exact hp
  | 3, hp => exact hp
  | 4, hp => exact hs hp
  | 5, hp => exact hp
  | _ + 6, _ => exact trivial

set_option maxRecDepth 100000 in
set_option maxHeartbeats 3000000 in
theorem all8_any (l : List Ev) (A : Option Addr) (N c : Nat) (f : Nat → Int) (w : World) (hs : SlK encE 27 w (.slice A N c) l) (hN : l.length = N) (hN2 : N ≤ 10000) (hl : ∀ e ∈ l, Lens e) (hw : CutOk w) :
    Calls Try.prog 30 #[.agg (vA f), .slice A N c] w fun x w' => ∃ v, x = .returned (.tuple #[v, .agg (vA (allA l [] f).2.1), .int .i64 (allA l [] f).2.2]) ∧ OwnK encE w.heap.size 39 27 w' v (allA l [] f).1 ∧ Below w.heap.size w w' := by
  obtain ⟨g, hg⟩ : ∃ g, w.heap.size = g := ⟨_, rfl⟩
  obtain ⟨X, hX⟩ : ∃ X, X = ((w.alloc (.cells (vA f) 27)).alloc (.cells (vA fun _ => 0) 27)).alloc (.cells #[.slice none 0 0] 22) := ⟨_, rfl⟩
  have hv : VB X g f := by rw [hX, ← hg]; exact ((VB.new_ f rfl).alloc_ _).alloc_ _
  have hr : VB X (g + 1) (fun _ => 0) := by rw [hX, ← hg]; exact (VB.new_ _ (by simp)).alloc_ _
  have ht : Blk X (g + 2) 22 #[.slice none 0 0] := by
    rw [hX, ← hg]
    have := Blk.new ((w.alloc (.cells (vA f) 27)).alloc (.cells (vA fun _ => 0) 27)) 22 #[.slice none 0 0]
    simpa using this
  have hy : Below w.heap.size w X := by rw [hX]; exact (((Below.refl _ _).alloc (Nat.le_refl _) _).alloc (by simp) _).alloc (by simp; omega) _
  have HX := Lib.hid hX
  have HG := Lib.hid hg
  have HS := Lib.hid hs
  have HN := Lib.hid hN
  have HN2 := Lib.hid hN2
  have HL := Lib.hid hl
  have HW := Lib.hid hw
  have HI0 := Lib.hid (show AllR w (g + 1) g (g + 2) f (.slice none 0 0) [] X from ⟨⟨hv, ht, OwnK.nil_ _ _ _ _ _, by omega, by omega⟩, ⟨_, hr⟩, by omega, by omega, by omega, hy⟩)
  have HZe := Lib.hid (zero_of_info zeroE).1
  obtain ⟨R, hR⟩ : ∃ R, allA l [] f = R := ⟨_, rfl⟩
  have HR := Lib.hid hR
  rw [hR]
  have hz := (zero_of_info zeroV).1
  clear hX hg hv hr ht hy hs hN hN2 hl hw hR
  go_enter Try.func30, Try.ntmps30
  go_upto_region 3 with fail
  rw [← HX.out, HG.out]
  clear hz
  go_wp2_with fail
  go_loopw [15] (fun v15 wr => ∃ (j : Nat) (D : List Ev) (h : Nat → Int) (u : Value), v15 = .int .i64 j ∧ j ≤ N ∧ D.length ≤ j ∧ allA (l.drop j) D h = R ∧ AllR w (g + 1) g (g + 2) h u D wr) (fun v15 _ => N - (intOf v15).toNat)
  case atStart => exact ⟨0, [], f, _, rfl, Nat.zero_le _, Nat.le_refl _, HR.out, HI0.out⟩
  case round =>
    obtain ⟨j, D, h, u, rfl, hj, hDj, hrest, hinv⟩ := hrel
    obtain ⟨wo, rfl⟩ : ∃ wo, wo = wr := ⟨_, rfl⟩
    have HIv := Lib.hid hinv
    have HRs := Lib.hid hrest
    have HDj := Lib.hid hDj
    clear hinv hrest hDj
    by_cases hlt : j < N
    · obtain ⟨e, he⟩ : ∃ e, l[j]? = some e := ⟨l[j]'(by rw [HN.out]; exact hlt), List.getElem?_eq_getElem _⟩
      have hd : l.drop j = e :: l.drop (j + 1) := by
        have hjl : j < l.length := by rw [HN.out]; exact hlt
        rw [List.drop_eq_getElem_cons hjl]
        congr 1
        rw [List.getElem?_eq_getElem hjl] at he
        exact Option.some.inj he
      have hbo : Below w.heap.size w wo := HIv.out.2.2.2.2.2
      obtain ⟨gs, o, rfl, _, hce⟩ := (HS.out.below hbo).ev he
      have HCe := Lib.hid hce
      have HAt := Lib.hid (at_Ev gs o c N j hlt wo)
      have HLe := Lib.hid (HL.out e (List.mem_of_getElem? he))
      have HAl := Lib.hid fun c => World.setRow_alloc_new wo (evC ev0) c 39
      have HZz := Lib.hid (show Blk (wo.alloc (.cells (evC ev0) 39)) wo.heap.size 39 (evC ev0) from Blk.new _ _ _)
      obtain ⟨Y, hY⟩ : ∃ Y, Y = wo.alloc (.cells (evC e) 39) := ⟨_, rfl⟩
      have hbY : Below wo.heap.size wo Y := by rw [hY]; exact (Below.refl _ _).alloc (Nat.le_refl _) _
      have hBY : EB Y wo.heap.size e := by rw [hY]; exact Blk.new _ _ _
      have HYe := Lib.hid hY
      have HBY := Lib.hid hBY
      have hIY : AllR w (g + 1) g (g + 2) h u D Y := HIv.out.below hbY
      have HIY := Lib.hid hIY
      have HRs' := Lib.hid (by have := HRs.out; rw [hd] at this; exact this : allA (e :: l.drop (j + 1)) D h = R)
      have HTk := Lib.hid (take_any e w.heap.size g (g + 2) Y h u D hIY.1 hIY.2.2.2.2.2.size (by have := HDj.out; have := HN2.out; omega) HLe.out (HW.out.below hIY.2.2.2.2.2))
      have hz := HZe.out
      clear hd hbo hce he hY hbY hBY hIY HRs
      have hw := IntWalk.i64_in ((j : Int) + 1) (by have := HN2.out; omega)
      have hjm : ¬ 9223372036854775807 < j + 1 := by have := HN2.out; omega
      have HW1 := Lib.hid hw
      have HJ1 := Lib.hid hjm
      clear hw hjm
      go_wp2_with (first
        | (refine wpList_val (o := ⟨some 17, _, _, _, _, _⟩) rfl (.pointer (some ⟨gs, o + j * 27, none⟩)) wo (run_indexAddr_op rfl rfl rfl HAt.out) ?_)
        | (refine' wpList_load_midif ?q1 39 (.tmp 17) ?q2 gs (o + j * 27) ?q3 (encE e) _ ?q4 Try.underlying39 ?q5 ?q6 ?_; (case q2 => rfl); (case q1 => rfl); (case q3 => rfl); (case q4 => exact HCe.out); (case q5 => rfl); (case q6 => exact (sizeE e)))
        | (refine wpList_store_row (o := ⟨none, _, _, _, _, _⟩) rfl 39 (.tmp 10) (.tmp 18) rfl wo.heap.size (evC e) rfl rfl _ _ HZz.out (sizeE e) rfl (by kernel_rfl) ?_; rw [HAl.out, ← HYe.out])
        | (refine' wpList_load_if ?q1 39 (.tmp 10) ?q2 wo.heap.size ?q3 _ _ _ _ ?q4 Try.underlying39 ?q5 ?q6 ?_; (case q2 => rfl); (case q1 => rfl); (case q3 => rfl); (case q4 => exact HBY.out); (case q5 => rfl); (case q6 => exact (sizeE e)))
        | fail)
      clear hz
      refine HTk.out.mono ?_
      rintro x w2 ⟨rfl, ⟨u', ht2⟩, hb2, hk2⟩
      obtain ⟨h1, ⟨r0, h2⟩, h3, h4, h5, h6⟩ := HIY.out
      have hr2 : VB w2 (g + 1) r0 := (hk2 (g + 1) (Blk.lt h2) h4 h5 (own_ne_blk h1.o h2 (by decide))).trans h2
      have hI2 : AllR w (g + 1) g (g + 2) (if oneI h e = 0 then setD h e else h) u' (if oneI h e = 0 then D ++ [e] else D) w2 := ⟨ht2, ⟨r0, hr2⟩, h3, h4, h5, h6.trans hb2⟩
      have HI2 := Lib.hid hI2
      clear ht2 hb2 hk2 h1 h2 h3 h4 h5 h6 hr2 hI2
      rcases oneI_cases h e with ho | ho | ho | ho
      · rw [ho, if_neg (show ¬ (0 : Int) = 5 by decide)]
        rw [ho, if_pos (show (0 : Int) = 0 from rfl), if_pos (show (0 : Int) = 0 from rfl)] at HI2
        have HRs2 := Lib.hid (by have := HRs'.out; simp only [allA] at this; rw [ho, if_pos (show (0 : Int) = 0 from rfl)] at this; exact this : allA (l.drop (j + 1)) (D ++ [e]) (setD h e) = R)
        clear ho
        have hjm := HJ1.out
        have hw := HW1.out
        go_wp2
        go_roundw
        case rel => exact ⟨j + 1, D ++ [e], _, u', by go_num, by omega, by have := HDj.out; simp; omega, HRs2.out, HI2.out⟩
        case measure => simp [intOf] <;> omega
      · rw [ho, if_neg (show ¬ (1 : Int) = 5 by decide)]
        rw [ho, if_neg (show ¬ (1 : Int) = 0 by decide), if_neg (show ¬ (1 : Int) = 0 by decide)] at HI2
        have HRs2 := Lib.hid (by have := HRs'.out; simp only [allA] at this; rw [ho, if_neg (show ¬ (1 : Int) = 0 by decide), if_neg (show ¬ (1 : Int) = 5 by decide)] at this; exact this.symm : R = (D, h, 1))
        clear ho
        obtain ⟨Au, cu, hu, _, _⟩ := HI2.out.1.o.read encE_len
        obtain ⟨nu, hnu⟩ : ∃ nu, D.length = nu := ⟨_, rfl⟩
        rw [hnu] at hu
        subst hu
        have HIv := HI2
        clear hnu
        go_upto_region 8 with fail
        refine wp_region_any (by kernel_rfl) ?_
        refine wpAny_keep (AllR w (g + 1) g (g + 2) h (.slice Au nu cu) D) (PR8 g h Au nu cu 1) (fun W W' => VB W (g + 1) h → VB W' (g + 1) h) _ w2 (by kernel_rfl) (by kernel_rfl) (by kernel_rfl) (HIv.out.below ((Below.refl _ _).drew)) (PR8_keep g h Au nu cu 1) ?_ ?_
        · refine ⟨?_, ?_, ?_, ?_, ?_, ?_, trivial⟩
          · intro a W hI hun haft hi
            have e7 : a.eval (.tmp 7) = .pointer (some ⟨g + 2, 0, none⟩) := hun 7 (by kernel_rfl)
            exact wpOp_val hi rfl _ _ (run_loadsl_op rfl e7 Try.underlying22 ((Blk.cell hI.1.t 0).trans rfl)) ⟨⟨_, rfl, rfl⟩, fun h => h, hI⟩
          · intro a W hI hun haft hi
            have e2 : a.eval (.tmp 2) = .pointer (some ⟨g, 0, none⟩) := hun 2 (by kernel_rfl)
            exact wpOp_val hi rfl _ _ (run_load_op rfl e2 hI.1.v Try.underlying27 rfl (sizeV _)) ⟨⟨_, rfl, rfl⟩, fun h => h, hI⟩
          · intro a W hI hun haft hi
            have e11 : a.eval (.tmp 11) = .int .i64 1 := hun 11 (by kernel_rfl)
            exact wpOp_val hi rfl _ _ (run_move_op rfl e11) ⟨⟨_, rfl, rfl⟩, fun h => h, hI⟩
          · intro a W hI hun haft hi
            have f0 : a.eval (.tmp 24) = .slice Au nu cu := haft ⟨0, .data⟩ (by simp) rfl _ _ rfl rfl
            exact wpOp_val hi rfl _ _ (run_assign_op rfl f0) ⟨⟨_, rfl, rfl⟩, fun h => h, hI⟩
          · intro a W hI hun haft hi
            have e5 : a.eval (.tmp 5) = .pointer (some ⟨g + 1, 0, none⟩) := hun 5 (by kernel_rfl)
            have f1 : a.eval (.tmp 25) = .agg (vA h) := haft ⟨1, .data⟩ (by simp) rfl _ _ rfl rfl
            obtain ⟨r, q1, q2, q3⟩ := hI.store
            exact l_skip rfl rfl _ (run_storerow_op rfl e5 f1 q1 (sizeV _) (by rw [vA_size, vA_size]) (vA_one _)) ⟨⟨undef, rfl, q3⟩, fun _ => q3, q2⟩
          · intro a W hI hun haft hi
            have f2 : a.eval (.tmp 26) = .int .i64 1 := haft ⟨2, .data⟩ (by simp) rfl _ _ rfl rfl
            exact wpOp_val hi rfl _ _ (run_assign_op rfl f2) ⟨⟨_, rfl, rfl⟩, fun h => h, hI⟩
        · intro vals W hI hp
          have hl0 : vals 0 = .slice Au nu cu := hp 0 (by decide)
          have hl1 : vals 1 = .agg (vA h) := hp 1 (by decide)
          have hl2 : vals 2 = .int .i64 1 := hp 2 (by decide)
          have hl3 : vals 3 = .slice Au nu cu := hp 3 (by decide)
          have hl5 : vals 5 = .int .i64 1 := hp 5 (by decide)
          have hV : VB W (g + 1) h := hp 4 (by decide)
          have HV := Lib.hid hV
          have HI := Lib.hid hI
          clear hp hI hV
          simp only [layN, List.size_toArray, List.length_cons, List.length_nil, List.range, List.range.loop, if_true, List.getElem?_toArray, List.getElem?_cons_zero, List.getElem?_cons_succ, Act.put, List.setIfInBounds_toArray, List.set_cons_zero, List.set_cons_succ, Nat.zero_add, Nat.reduceAdd, hl0, hl1, hl2, hl3, hl5]
          clear hl0 hl1 hl2 hl3 hl5
          go_wp2_with fail
          refine bodyPost_ret (ret_cell3 rfl _ _ _ _ _ _ (.slice Au nu cu) (.int .i64 1) rfl HV.out Try.underlying27 rfl (sizeV _) rfl rfl) rfl ?_
          rw [HRs2.out]
          exact ⟨_, rfl, HI.out.1.o, HI.out.2.2.2.2.2⟩
      · rw [ho, if_pos (show (5 : Int) = 5 from rfl)]
        rw [ho, if_neg (show ¬ (5 : Int) = 0 by decide), if_neg (show ¬ (5 : Int) = 0 by decide)] at HI2
        have HRs2 := Lib.hid (by have := HRs'.out; simp only [allA] at this; rw [ho, if_neg (show ¬ (5 : Int) = 0 by decide), if_pos (show (5 : Int) = 5 from rfl)] at this; exact this : allA (l.drop (j + 1)) D h = R)
        clear ho
        have hjm := HJ1.out
        have hw := HW1.out
        go_wp2
        go_roundw
        case rel => exact ⟨j + 1, D, _, u', by go_num, by omega, by have := HDj.out; omega, HRs2.out, HI2.out⟩
        case measure => simp [intOf] <;> omega
      · rw [ho, if_neg (show ¬ (8 : Int) = 5 by decide)]
        rw [ho, if_neg (show ¬ (8 : Int) = 0 by decide), if_neg (show ¬ (8 : Int) = 0 by decide)] at HI2
        have HRs2 := Lib.hid (by have := HRs'.out; simp only [allA] at this; rw [ho, if_neg (show ¬ (8 : Int) = 0 by decide), if_neg (show ¬ (8 : Int) = 5 by decide)] at this; exact this.symm : R = (D, h, 8))
        clear ho
        obtain ⟨Au, cu, hu, _, _⟩ := HI2.out.1.o.read encE_len
        obtain ⟨nu, hnu⟩ : ∃ nu, D.length = nu := ⟨_, rfl⟩
        rw [hnu] at hu
        subst hu
        have HIv := HI2
        clear hnu
        go_upto_region 8 with fail
        refine wp_region_any (by kernel_rfl) ?_
        refine wpAny_keep (AllR w (g + 1) g (g + 2) h (.slice Au nu cu) D) (PR8 g h Au nu cu 8) (fun W W' => VB W (g + 1) h → VB W' (g + 1) h) _ w2 (by kernel_rfl) (by kernel_rfl) (by kernel_rfl) (HIv.out.below ((Below.refl _ _).drew)) (PR8_keep g h Au nu cu 8) ?_ ?_
        · refine ⟨?_, ?_, ?_, ?_, ?_, ?_, trivial⟩
          · intro a W hI hun haft hi
            have e7 : a.eval (.tmp 7) = .pointer (some ⟨g + 2, 0, none⟩) := hun 7 (by kernel_rfl)
            exact wpOp_val hi rfl _ _ (run_loadsl_op rfl e7 Try.underlying22 ((Blk.cell hI.1.t 0).trans rfl)) ⟨⟨_, rfl, rfl⟩, fun h => h, hI⟩
          · intro a W hI hun haft hi
            have e2 : a.eval (.tmp 2) = .pointer (some ⟨g, 0, none⟩) := hun 2 (by kernel_rfl)
            exact wpOp_val hi rfl _ _ (run_load_op rfl e2 hI.1.v Try.underlying27 rfl (sizeV _)) ⟨⟨_, rfl, rfl⟩, fun h => h, hI⟩
          · intro a W hI hun haft hi
            have e11 : a.eval (.tmp 11) = .int .i64 8 := hun 11 (by kernel_rfl)
            exact wpOp_val hi rfl _ _ (run_move_op rfl e11) ⟨⟨_, rfl, rfl⟩, fun h => h, hI⟩
          · intro a W hI hun haft hi
            have f0 : a.eval (.tmp 24) = .slice Au nu cu := haft ⟨0, .data⟩ (by simp) rfl _ _ rfl rfl
            exact wpOp_val hi rfl _ _ (run_assign_op rfl f0) ⟨⟨_, rfl, rfl⟩, fun h => h, hI⟩
          · intro a W hI hun haft hi
            have e5 : a.eval (.tmp 5) = .pointer (some ⟨g + 1, 0, none⟩) := hun 5 (by kernel_rfl)
            have f1 : a.eval (.tmp 25) = .agg (vA h) := haft ⟨1, .data⟩ (by simp) rfl _ _ rfl rfl
            obtain ⟨r, q1, q2, q3⟩ := hI.store
            exact l_skip rfl rfl _ (run_storerow_op rfl e5 f1 q1 (sizeV _) (by rw [vA_size, vA_size]) (vA_one _)) ⟨⟨undef, rfl, q3⟩, fun _ => q3, q2⟩
          · intro a W hI hun haft hi
            have f2 : a.eval (.tmp 26) = .int .i64 8 := haft ⟨2, .data⟩ (by simp) rfl _ _ rfl rfl
            exact wpOp_val hi rfl _ _ (run_assign_op rfl f2) ⟨⟨_, rfl, rfl⟩, fun h => h, hI⟩
        · intro vals W hI hp
          have hl0 : vals 0 = .slice Au nu cu := hp 0 (by decide)
          have hl1 : vals 1 = .agg (vA h) := hp 1 (by decide)
          have hl2 : vals 2 = .int .i64 8 := hp 2 (by decide)
          have hl3 : vals 3 = .slice Au nu cu := hp 3 (by decide)
          have hl5 : vals 5 = .int .i64 8 := hp 5 (by decide)
          have hV : VB W (g + 1) h := hp 4 (by decide)
          have HV := Lib.hid hV
          have HI := Lib.hid hI
          clear hp hI hV
          simp only [layN, List.size_toArray, List.length_cons, List.length_nil, List.range, List.range.loop, if_true, List.getElem?_toArray, List.getElem?_cons_zero, List.getElem?_cons_succ, Act.put, List.setIfInBounds_toArray, List.set_cons_zero, List.set_cons_succ, Nat.zero_add, Nat.reduceAdd, hl0, hl1, hl2, hl3, hl5]
          clear hl0 hl1 hl2 hl3 hl5
          go_wp2_with fail
          refine bodyPost_ret (ret_cell3 rfl _ _ _ _ _ _ (.slice Au nu cu) (.int .i64 8) rfl HV.out Try.underlying27 rfl (sizeV _) rfl rfl) rfl ?_
          rw [HRs2.out]
          exact ⟨_, rfl, HI.out.1.o, HI.out.2.2.2.2.2⟩
    · have hjN : j = N := by omega
      subst hjN
      have hd : l.drop j = [] := List.drop_of_length_le (Nat.le_of_eq HN.out)
      have HRs2 := Lib.hid (by have := HRs.out; rw [hd] at this; simp only [allA] at this; exact this.symm : R = (D, h, 0))
      obtain ⟨Au, cu, hu, _, _⟩ := HIv.out.1.o.read encE_len
      obtain ⟨nu, hnu⟩ : ∃ nu, D.length = nu := ⟨_, rfl⟩
      rw [hnu] at hu
      subst hu
      clear hd hnu
      go_upto_region 10 with fail
      refine wp_region_any (by kernel_rfl) ?_
      refine wpAny_keep (AllR w (g + 1) g (g + 2) h (.slice Au nu cu) D) (PR10 g h Au nu cu) (fun W W' => VB W (g + 1) h → VB W' (g + 1) h) _ wo (by kernel_rfl) (by kernel_rfl) (by kernel_rfl) (HIv.out.below ((Below.refl _ _).drew)) (PR10_keep g h Au nu cu) ?_ ?_
      · refine ⟨?_, ?_, ?_, ?_, ?_, trivial⟩
        · intro a W hI hun haft hi
          have e7 : a.eval (.tmp 7) = .pointer (some ⟨g + 2, 0, none⟩) := hun 7 (by kernel_rfl)
          exact wpOp_val hi rfl _ _ (run_loadsl_op rfl e7 Try.underlying22 ((Blk.cell hI.1.t 0).trans rfl)) ⟨⟨_, rfl, rfl⟩, fun h => h, hI⟩
        · intro a W hI hun haft hi
          have e2 : a.eval (.tmp 2) = .pointer (some ⟨g, 0, none⟩) := hun 2 (by kernel_rfl)
          exact wpOp_val hi rfl _ _ (run_load_op rfl e2 hI.1.v Try.underlying27 rfl (sizeV _)) ⟨⟨_, rfl, rfl⟩, fun h => h, hI⟩
        · intro a W hI hun haft hi
          have f0 : a.eval (.tmp 28) = .slice Au nu cu := haft ⟨0, .data⟩ (by simp) rfl _ _ rfl rfl
          exact wpOp_val hi rfl _ _ (run_assign_op rfl f0) ⟨⟨_, rfl, rfl⟩, fun h => h, hI⟩
        · intro a W hI hun haft hi
          have e5 : a.eval (.tmp 5) = .pointer (some ⟨g + 1, 0, none⟩) := hun 5 (by kernel_rfl)
          have f1 : a.eval (.tmp 29) = .agg (vA h) := haft ⟨1, .data⟩ (by simp) rfl _ _ rfl rfl
          obtain ⟨r, q1, q2, q3⟩ := hI.store
          exact l_skip rfl rfl _ (run_storerow_op rfl e5 f1 q1 (sizeV _) (by rw [vA_size, vA_size]) (vA_one _)) ⟨⟨undef, rfl, q3⟩, fun _ => q3, q2⟩
        · intro a W hI hun haft hi
          exact wpOp_val hi rfl _ _ (run_assign_op rfl rfl) ⟨⟨_, rfl, rfl⟩, fun h => h, hI⟩
      · intro vals W hI hp
        have hl0 : vals 0 = .slice Au nu cu := hp 0 (by decide)
        have hl1 : vals 1 = .agg (vA h) := hp 1 (by decide)
        have hl2 : vals 2 = .slice Au nu cu := hp 2 (by decide)
        have hl4 : vals 4 = .int .i64 0 := hp 4 (by decide)
        have hV : VB W (g + 1) h := hp 3 (by decide)
        have HV := Lib.hid hV
        have HI := Lib.hid hI
        clear hp hI hV
        simp only [layN, List.size_toArray, List.length_cons, List.length_nil, List.range, List.range.loop, if_true, List.getElem?_toArray, List.getElem?_cons_zero, List.getElem?_cons_succ, Act.put, List.setIfInBounds_toArray, List.set_cons_zero, List.set_cons_succ, Nat.zero_add, Nat.reduceAdd, hl0, hl1, hl2, hl4]
        clear hl0 hl1 hl2 hl4
        go_wp2_with fail
        refine bodyPost_ret (ret_cell3 rfl _ _ _ _ _ _ (.slice Au nu cu) (.int .i64 0) rfl HV.out Try.underlying27 rfl (sizeV _) rfl rfl) rfl ?_
        rw [HRs2.out]
        exact ⟨_, rfl, HI.out.1.o, HI.out.2.2.2.2.2⟩

end Go.Proofs.Ytmhechlfpaciiaa
