/-
  hedgerowlaw01.ValueOrders: the walk. Conditions: the world holds the library's tables (WOk); no text longer than a string may be.
-/
import Derived.Test.YteeelihflflkdaaDoorValFixed
import Derived.Test.YteeelihflflkdaaDoorValRefCmp
import Derived.Test.YteeelihflflkdaaDoorValOrdMath
namespace Go.Proofs.YteeelihflflkdaaDoor
open Go.RowKit

theorem three_boxes (w : World) (o1 o2 o3 : Obj) : Below w.heap.size w (((w.alloc o1).alloc o2).alloc o3) :=
  (((Below.refl _ _).alloc (Nat.le_refl _) o1).alloc (by simp) o2).alloc (by simp; omega) o3

set_option maxHeartbeats 4000000 in
set_option maxRecDepth 100000 in
theorem orders_walk (k1 n1 : Int) (s1 : ByteArray) (k2 n2 : Int) (s2 : ByteArray) (k3 n3 : Int) (s3 : ByteArray) (w : World) (hw : WOk w) (z1 : s1.size ≤ 140737488355328) (z2 : s2.size ≤ 140737488355328) (z3 : s3.size ≤ 140737488355328) :
    Calls Tryd.prog 5 #[valV k1 n1 s1, valV k2 n2 s2, valV k3 n3 s3] w (Law w) := by
  have HB : Hid (∀ o1 o2 o3 : Obj, Below w.heap.size w (((w.alloc o1).alloc o2).alloc o3)) := Lib.hid (three_boxes w)
  have HW : Hid (∀ o1 o2 o3 : Obj, WOk (((w.alloc o1).alloc o2).alloc o3)) := Lib.hid (fun o1 o2 o3 => ((hw.alloc o1).alloc o2).alloc o3)
  have e1 : wrap64 ((s1.size : Int) + (s2.size : Int)) = ((s1.size + s2.size : Nat) : Int) := by rw [IntWalk.wrap64_in _ ⟨by omega, by omega⟩]; omega
  have e2 : wrap64 (((s1.size + s2.size : Nat) : Int) + (s3.size : Int)) = ((s1.size + s2.size + s3.size : Nat) : Int) := by rw [IntWalk.wrap64_in _ ⟨by omega, by omega⟩]; omega
  unfold valV
  go_enter Tryd.func5, Tryd.ntmps5
  go_wp2_with fail
  refine (fixed_any _ (HW.out _ _ _)).mono ?_
  rintro e w1 ⟨rfl, hb1⟩
  have b0 : Below w.heap.size w w1 := (HB.out _ _ _).trans (hb1.mono (HB.out _ _ _).size)
  have W1 : WOk w1 := hw.below b0
  have B1 : Blk w1 w.heap.size 23 #[.int .i64 k1, .int .i64 n1, .string s1] := (((Blk.new w _ _).alloc _).alloc _).below hb1 (by simp; omega)
  have B2 : Blk w1 (w.heap.size + 1) 23 #[.int .i64 k2, .int .i64 n2, .string s2] := ((show Blk _ (w.heap.size + 1) _ _ by simpa using Blk.new (w.alloc _) 23 #[.int .i64 k2, .int .i64 n2, .string s2]).alloc _).below hb1 (by simp)
  have B3 : Blk w1 (w.heap.size + 1 + 1) 23 #[.int .i64 k3, .int .i64 n3, .string s3] := (show Blk _ (w.heap.size + 1 + 1) _ _ by simpa using Blk.new ((w.alloc _).alloc _) 23 #[.int .i64 k3, .int .i64 n3, .string s3]).below hb1 (by simp)
  clear hb1 hw
  have HB1 := Lib.hid B1
  have HB2 := Lib.hid B2
  have HB3 := Lib.hid B3
  obtain ⟨_, _, c12, _⟩ := B1.three
  obtain ⟨_, _, c22, _⟩ := B2.three
  obtain ⟨_, _, c32, _⟩ := B3.three
  clear B1 B2 B3
  by_cases h6 : s1.size + s2.size + s3.size > 600
  · have h6' : (600 : Int) < ((s1.size + s2.size + s3.size : Nat) : Int) := by omega
    have H := Lib.hid h6
    clear h6
    go_wp2
    go_ret
    exact ⟨rfl, b0⟩
  have h6' : ¬ (600 : Int) < ((s1.size + s2.size + s3.size : Nat) : Int) := by omega
  have H6 := Lib.hid h6
  clear h6
  go_upto_region 5 with fail
  go_cut [7, 8, 9] (fun x y z wx => x = .int .i64 (cmpB k1 n1 s1.data.toList k2 n2 s2.data.toList) ∧ y = .int .i64 (cmpB k2 n2 s2.data.toList k3 n3 s3.data.toList) ∧ z = .int .i64 (cmpB k1 n1 s1.data.toList k3 n3 s3.data.toList) ∧ Below w1.heap.size w1 wx)
  case first =>
    have B1 := HB1.out
    have B2 := HB2.out
    have B3 := HB3.out
    refine wp_region_any (by kernel_rfl) ?_
    refine wpAny_below (fun i v _ => v = ([valV k1 n1 s1, valV k2 n2 s2, .int .i64 (cmpB k1 n1 s1.data.toList k2 n2 s2.data.toList), valV k2 n2 s2, valV k3 n3 s3, .int .i64 (cmpB k2 n2 s2.data.toList k3 n3 s3.data.toList), valV k1 n1 s1, valV k3 n3 s3, .int .i64 (cmpB k1 n1 s1.data.toList k3 n3 s3.data.toList), .int .i64 (cmpB k1 n1 s1.data.toList k2 n2 s2.data.toList), .int .i64 (cmpB k2 n2 s2.data.toList k3 n3 s3.data.toList), .int .i64 (cmpB k1 n1 s1.data.toList k3 n3 s3.data.toList)] : List Value).getD i undef) _ w1 (by kernel_rfl) (by kernel_rfl) (by kernel_rfl) (fun i v w w' _ h => h) ?_ ?_
    · refine ⟨?_, ?_, ?_, ?_, ?_, ?_, ?_, ?_, ?_, ?_, ?_, ?_, trivial⟩
      · intro a W hI hun haft hi
        exact b_same hi hI rfl _ (run_load_op rfl (hun 3 (by kernel_rfl)) (B1.below hI B1.lt) Tryd.underlying23 rfl (by kernel_rfl)) rfl
      · intro a W hI hun haft hi
        exact b_same hi hI rfl _ (run_load_op rfl (hun 4 (by kernel_rfl)) (B2.below hI B2.lt) Tryd.underlying23 rfl (by kernel_rfl)) rfl
      · intro a W hI hun haft hi
        have f0 : a.eval (.tmp 24) = valV k1 n1 s1 := haft ⟨0, .data⟩ (by simp) rfl _ _ rfl rfl
        have f1 : a.eval (.tmp 25) = valV k2 n2 s2 := haft ⟨1, .data⟩ (by simp) rfl _ _ rfl rfl
        refine b_call hi hI rfl _ _ (run_call_op (args := #[valV k1 n1 s1, valV k2 n2 s2]) rfl (by simp [f0, f1]) (enterCompare _ _)) ?_
        exact (compare_any k1 n1 s1 k2 n2 s2 W).mono fun e w' H => ⟨_, H.1, rfl, H.2⟩
      · intro a W hI hun haft hi
        exact b_same hi hI rfl _ (run_load_op rfl (hun 4 (by kernel_rfl)) (B2.below hI B2.lt) Tryd.underlying23 rfl (by kernel_rfl)) rfl
      · intro a W hI hun haft hi
        exact b_same hi hI rfl _ (run_load_op rfl (hun 5 (by kernel_rfl)) (B3.below hI B3.lt) Tryd.underlying23 rfl (by kernel_rfl)) rfl
      · intro a W hI hun haft hi
        have f3 : a.eval (.tmp 27) = valV k2 n2 s2 := haft ⟨3, .data⟩ (by simp) rfl _ _ rfl rfl
        have f4 : a.eval (.tmp 28) = valV k3 n3 s3 := haft ⟨4, .data⟩ (by simp) rfl _ _ rfl rfl
        refine b_call hi hI rfl _ _ (run_call_op (args := #[valV k2 n2 s2, valV k3 n3 s3]) rfl (by simp [f3, f4]) (enterCompare _ _)) ?_
        exact (compare_any k2 n2 s2 k3 n3 s3 W).mono fun e w' H => ⟨_, H.1, rfl, H.2⟩
      · intro a W hI hun haft hi
        exact b_same hi hI rfl _ (run_load_op rfl (hun 3 (by kernel_rfl)) (B1.below hI B1.lt) Tryd.underlying23 rfl (by kernel_rfl)) rfl
      · intro a W hI hun haft hi
        exact b_same hi hI rfl _ (run_load_op rfl (hun 5 (by kernel_rfl)) (B3.below hI B3.lt) Tryd.underlying23 rfl (by kernel_rfl)) rfl
      · intro a W hI hun haft hi
        have f6 : a.eval (.tmp 30) = valV k1 n1 s1 := haft ⟨6, .data⟩ (by simp) rfl _ _ rfl rfl
        have f7 : a.eval (.tmp 31) = valV k3 n3 s3 := haft ⟨7, .data⟩ (by simp) rfl _ _ rfl rfl
        refine b_call hi hI rfl _ _ (run_call_op (args := #[valV k1 n1 s1, valV k3 n3 s3]) rfl (by simp [f6, f7]) (enterCompare _ _)) ?_
        exact (compare_any k1 n1 s1 k3 n3 s3 W).mono fun e w' H => ⟨_, H.1, rfl, H.2⟩
      · intro a W hI hun haft hi
        have f2 : a.eval (.tmp 26) = .int .i64 (cmpB k1 n1 s1.data.toList k2 n2 s2.data.toList) := haft ⟨2, .data⟩ (by simp) rfl _ _ rfl rfl
        exact b_same hi hI rfl _ (run_assign_op rfl f2) rfl
      · intro a W hI hun haft hi
        have f5 : a.eval (.tmp 29) = .int .i64 (cmpB k2 n2 s2.data.toList k3 n3 s3.data.toList) := haft ⟨5, .data⟩ (by simp) rfl _ _ rfl rfl
        exact b_same hi hI rfl _ (run_assign_op rfl f5) rfl
      · intro a W hI hun haft hi
        have f8 : a.eval (.tmp 32) = .int .i64 (cmpB k1 n1 s1.data.toList k3 n3 s3.data.toList) := haft ⟨8, .data⟩ (by simp) rfl _ _ rfl rfl
        exact b_same hi hI rfl _ (run_assign_op rfl f8) rfl
    · intro vals W hI hp
      have hl0 : vals 9 = .int .i64 (cmpB k1 n1 s1.data.toList k2 n2 s2.data.toList) := hp 9 (by decide)
      have hl1 : vals 10 = .int .i64 (cmpB k2 n2 s2.data.toList k3 n3 s3.data.toList) := hp 10 (by decide)
      have hl2 : vals 11 = .int .i64 (cmpB k1 n1 s1.data.toList k3 n3 s3.data.toList) := hp 11 (by decide)
      have HL := Lib.hid (And.intro hl0 (And.intro hl1 hl2))
      clear hp hl0 hl1 hl2
      simp only [layN, List.size_toArray, List.length_cons, List.length_nil, List.range, List.range.loop, if_true, List.getElem?_toArray, List.getElem?_cons_zero, List.getElem?_cons_succ, Act.put, List.setIfInBounds_toArray, List.set_cons_zero, List.set_cons_succ, Nat.zero_add, Nat.reduceAdd]
      go_wp2_with fail
      go_meet
      exact ⟨HL.out.1, HL.out.2.1, HL.out.2.2, hI⟩
  case rest =>
    obtain ⟨rfl, rfl, rfl, hbc⟩ := hcut
    have b2 := b0.trans (hbc.mono b0.size)
    have B1 := HB1.out.below hbc HB1.out.lt
    have B2 := HB2.out.below hbc HB2.out.lt
    clear hbc b0 HB HW W1
    obtain ⟨c10, c11, c12', _⟩ := B1.three
    obtain ⟨c20, c21, c22', _⟩ := B2.three
    have hz := cmp_zero k1 n1 s1.data.toList k2 n2 s2.data.toList
    have ht := cmp_trans k1 n1 s1.data.toList k2 n2 s2.data.toList k3 n3 s3.data.toList
    rw [← Lib.toList_data s1, ← Lib.toList_data s2] at hz
    generalize hab : cmpB k1 n1 s1.data.toList k2 n2 s2.data.toList = ab at *
    have HAB := Lib.hid hab
    have hzab : cmpB k1 n1 s1.toList k2 n2 s2.toList = ab := by rw [Lib.toList_data, Lib.toList_data]; exact hab
    rw [hzab] at hz
    generalize cmpB k2 n2 s2.data.toList k3 n3 s3.data.toList = bc at *
    generalize cmpB k1 n1 s1.data.toList k3 n3 s3.data.toList = ac at *
    have HZ := Lib.hid hz
    have HT := Lib.hid ht
    clear hab hzab hz ht
    go_wp2_with fail
    refine (refcmp_any k1 n1 s1 k2 n2 s2 _ (by omega)).mono ?_
    rintro e w3 ⟨rfl, hb3⟩
    rw [HAB.out]
    have b3 := b2.trans (hb3.mono b2.size)
    have B1 := B1.below hb3 B1.lt
    have B2 := B2.below hb3 B2.lt
    clear hb3 b2 c10 c11 c12' c20 c21 c22'
    obtain ⟨c10, c11, c12', _⟩ := B1.three
    obtain ⟨c20, c21, c22', _⟩ := B2.three
    go_wp2_with fail
    refine (compare_any k2 n2 s2 k1 n1 s1 _).mono ?_
    rintro e w4 ⟨rfl, hb4⟩
    have b4 := b3.trans (hb4.mono b3.size)
    have B1 := B1.below hb4 B1.lt
    have B2 := B2.below hb4 B2.lt
    clear hb4 b3 c10 c11 c12' c20 c21 c22'
    obtain ⟨c10, c11, c12', _⟩ := B1.three
    obtain ⟨c20, c21, c22', _⟩ := B2.three
    have hr := cmp_rng k1 n1 s1.data.toList k2 n2 s2.data.toList
    have hanti := cmp_anti k1 n1 s1.data.toList k2 n2 s2.data.toList
    rw [HAB.out] at hr hanti
    generalize cmpB k2 n2 s2.data.toList k1 n1 s1.data.toList = ba at *
    have hneg : wrap64 (-ba) = ab := by rw [IntWalk.wrap64_in _ ⟨by omega, by omega⟩]; omega
    clear hr hanti
    go_wp2
    all_goals go_ret
    all_goals refine ⟨congrArg (fun b => Ending.returned (.bool b)) (?_ : _ = true), b4⟩
    all_goals have hz := HZ.out
    all_goals have ht := HT.out
    all_goals clear HZ HT HAB HB1 HB2 HB3 c12 c22 c32 c10 c11 c12' c20 c21 c22' B1 B2 e1 e2 hneg h6' H6
    all_goals first | rfl | (simp_all; done) | (simp_all; omega) | skip

end Go.Proofs.YteeelihflflkdaaDoor
