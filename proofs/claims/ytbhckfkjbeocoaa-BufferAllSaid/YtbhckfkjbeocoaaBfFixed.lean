/-
  hedgerowlaw13.fixed: true, by a walk. Conditions: none.
-/
import Derived.Test.YtbhckfkjbeocoaaBfMath
namespace Go.Proofs.Ytbhckfkjbeocoaa
open Go.RowKit

/-- The event of the law's fixed calls; the vector. -/
def evF : Ev := ⟨0, 1, fun _ => 0, 0, 0, ⟨#[]⟩, ⟨#[]⟩, ⟨#[]⟩, ⟨#[]⟩, 0, 0, ⟨#[]⟩⟩
def v1F : Nat → Int := fun i => if i = 0 then 1 else 0
theorem mkDF (w : World) : (Instr.build 29 #[(1, .int .i64 1)]).run Try.prog w = .ok (.agg #[.int .i64 0, .int .i64 1]) w := by kernel_rfl
theorem mkEF (w : World) : (Instr.build 35 #[(0, .agg #[.int .i64 0, .int .i64 1])]).run Try.prog w = .ok (.agg (evC evF)) w := by kernel_rfl
theorem mkV0 (w : World) : (Instr.build 27 #[]).run Try.prog w = .ok (.agg (vA zeF)) w := by kernel_rfl
theorem mkV1 (w : World) : (Instr.build 27 #[(0, .int .i64 1)]).run Try.prog w = .ok (.agg (vA v1F)) w := by kernel_rfl
def fF : Nat → Nat → Int := fun _ _ => 0
theorem f_ack : ackF fF 1 v1F 1 = v1F := by
  funext i
  show max (0 : Int) (v1F i) = v1F i
  unfold v1F
  split <;> omega
theorem f_stable0 : stF 2 0 fF 16 = zeF := by
  have := stable_part (k := 2) (m := 1) (by decide) (by decide) (by decide)
  rwa [ackM_one] at this
theorem f_stable1 : stF 2 0 (ackF fF 1 v1F) 16 = v1F := by
  have e : ∀ j, stF 2 0 (ackF fF 1 v1F) (j + 2) = v1F := by
    intro j
    induction j with
    | zero =>
      funext i
      show meetV topV (ackF fF 1 v1F 1) i = v1F i
      rw [f_ack]
      show min (4611686018427387904 : Int) (v1F i) = v1F i
      unfold v1F
      split <;> omega
    | succ j ih =>
      show (if peerB ((2 : Nat) : Int) 0 ((j + 2 : Nat) : Int) = true then _ else stF 2 0 (ackF fF 1 v1F) (j + 2)) = _
      rw [if_neg (by rw [peer_one]; simp), ih]
  exact e 14
theorem f_add : addL 2 0 fF [] evF = [evF] := by
  have := add_zero (k := 2) (by decide) (by decide) [] evF
  rwa [ackM_one] at this
theorem f_lack1 : lackL v1F [evF] = [] := by decide
theorem peer21 : peerB 2 0 (1 : Nat) = true := by decide
theorem peer20 : peerB 2 0 0 = false := by decide
theorem eqV_v1 (w : World) : (binOp .eql 27 (.agg (vA v1F)) (.agg (vA v1F))).run Try.prog w = .ok (.bool true) w := by rw [run_eqV, eqV_self]

set_option maxRecDepth 100000 in
set_option maxHeartbeats 4000000 in
theorem fixed13_any (w : World) : Calls Try.prog 4 #[] w fun x w' => x = .returned (.bool true) ∧ Below w.heap.size w w' := by
  have HZe := Lib.hid (zero_of_info zeroE).1
  have HZv := Lib.hid (zero_of_info zeroV).1
  obtain ⟨P, hP⟩ : ∃ P, w.heap.size = P := ⟨_, rfl⟩
  rw [hP]
  go_enter Try.func4, Try.ntmps4
  go_wp2_with fail
  refine (bnew_any 2 0 w (by decide)).mono ?_
  rintro x w1 ⟨rfl, hb1, hw1⟩
  rw [hP] at hb1 hw1 ⊢
  clear hP
  have HB1 := Lib.hid hb1
  have HW1 := Lib.hid hw1
  have HP1 := Lib.hid hw1.size
  have HPl := Lib.hid (hb1.lt)
  clear hb1 hw1
  have HAl := Lib.hid fun c => World.setRow_alloc_new w1 (evC ev0) c 35
  have HZz := Lib.hid (show Blk (w1.alloc (.cells (evC ev0) 35)) w1.heap.size 35 (evC ev0) from Blk.new _ _ _)
  obtain ⟨X, hX⟩ : ∃ X, X = w1.alloc (.cells (evC evF) 35) := ⟨_, rfl⟩
  have hbX : Below w1.heap.size w1 X := by rw [hX]; exact (Below.refl _ _).alloc (Nat.le_refl _) _
  have HEX := Lib.hid (show EB X w1.heap.size evF by rw [hX]; exact EB.new_ _ _)
  have HBX := Lib.hid (HB1.out.keep hbX)
  have HWX := Lib.hid (HW1.out.trans (hbX.mono (Nat.le_of_lt HPl.out)))
  have HX := Lib.hid hX
  clear hX hbX
  have hz := HZe.out
  go_wp2_with (first
    | (refine wpList_val (o := ⟨some 10, _, _, _, _, _⟩) rfl (.agg #[.int .i64 0, .int .i64 1]) w1 (by kernel_rfl) ?_)
    | (refine wpList_val (o := ⟨some 11, _, _, _, _, _⟩) rfl (.agg (evC evF)) w1 (by kernel_rfl) ?_)
    | (refine wpList_store_row (o := ⟨none, _, _, _, _, _⟩) rfl 35 (.tmp 2) (.tmp 11) rfl w1.heap.size (evC evF) rfl rfl _ _ HZz.out (sizeE evF) rfl (by kernel_rfl) ?_; rw [HAl.out, ← HX.out])
    | (refine wpList_load_if rfl 35 (.tmp 2) rfl w1.heap.size rfl _ _ _ _ HEX.out Try.underlying35 rfl (sizeE evF) ?_)
    | fail)
  clear hz
  refine (badd_any (f := fF) [] evF P X HBX.out (OwnK.nil_ _ _ _ _ _) (Nat.le_refl _) (by decide)).mono ?_
  rintro x w2 ⟨rfl, u2, hb2, ho2, hw2⟩
  rw [f_add] at ho2
  obtain ⟨A2, c2, rfl⟩ := own_form ho2
  have HB2 := Lib.hid hb2
  have HO2 := Lib.hid ho2
  have HW2 := Lib.hid (HWX.out.trans (hw2.below (Nat.le_refl _) (OwnK.nil_ encE P _ _ _) HBX.out.lt))
  clear hb2 ho2 hw2
  go_wp2_with fail
  refine (blen_any w2 HB2.out).mono ?_
  rintro x w3 ⟨rfl, hw3⟩
  have HB3 := Lib.hid (HB2.out.keep hw3)
  have HO3 := Lib.hid (HO2.out.keep hw3)
  have HW3 := Lib.hid (HW2.out.trans (hw3.mono (Nat.le_of_lt HB2.out.lt)))
  clear hw3
  go_wp2_with (first
    | (refine wpList_val (o := ⟨some 18, _, _, _, _, _⟩) rfl (.agg (vA zeF)) w3 (by kernel_rfl) ?_)
    | fail)
  refine (blacks_any [evF] P zeF 5 w3 HB3.out HO3.out (by decide) (by decide)).mono ?_
  rintro x w4 ⟨u4, rfl, ho4, hw4⟩
  rw [lack_zero] at ho4
  obtain ⟨A4, c4, rfl⟩ := own_form ho4
  have HB4 := Lib.hid (HB3.out.keep hw4)
  have HO4 := Lib.hid (HO3.out.keep hw4)
  have HO4' := Lib.hid (HO3.out.keep hw4)
  have HW4 := Lib.hid (HW3.out.trans (hw4.mono (Nat.le_of_lt HB3.out.lt)))
  clear hw4 ho4
  go_wp2_with (first
    | (refine wpList_val (o := ⟨some 21, _, _, _, _, _⟩) rfl (.agg (vA v1F)) w4 (by kernel_rfl) ?_)
    | fail)
  refine (back_any (p := 1) [evF] v1F P w4 HB4.out HO4.out (Nat.le_refl _) (by decide) (by decide) peer21).mono ?_
  rintro x w5 ⟨rfl, u5, hb5, ho5, hw5⟩
  rw [f_stable1, f_lack1] at ho5
  obtain ⟨A5, c5, rfl⟩ := own_form ho5
  have HB5 := Lib.hid hb5
  have HW5 := Lib.hid (HW4.out.trans (hw5.below (Nat.le_refl _) HO4'.out HB4.out.lt))
  clear hb5 ho5 hw5
  go_wp2_with fail
  refine (acked_any (p := 1) w5 HB5.out (by decide) peer21).mono ?_
  rintro x w6 ⟨rfl, hw6⟩
  rw [f_ack]
  have HB6 := Lib.hid (HB5.out.keep hw6)
  have HW6 := Lib.hid (HW5.out.trans (hw6.mono (Nat.le_of_lt HB5.out.lt)))
  clear hw6
  have HAl6 := Lib.hid fun c => World.setRow_alloc_new w6 (vA fun _ => 0) c 27
  have HZz6 := Lib.hid (show Blk (w6.alloc (.cells (vA fun _ => 0) 27)) w6.heap.size 27 (vA fun _ => 0) from Blk.new _ _ _)
  obtain ⟨Y, hY⟩ : ∃ Y, Y = w6.alloc (.cells (vA v1F) 27) := ⟨_, rfl⟩
  have hbY : Below w6.heap.size w6 Y := by rw [hY]; exact (Below.refl _ _).alloc (Nat.le_refl _) _
  have HVY := Lib.hid (show VB Y w6.heap.size v1F by rw [hY]; exact VB.new_ _ rfl)
  have HBY := Lib.hid (HB6.out.keep hbY)
  have HWY := Lib.hid (HW6.out.trans (hbY.mono (Nat.le_of_lt HB6.out.lt)))
  have HY := Lib.hid hY
  clear hY hbY
  have hz := HZv.out
  go_upto_region 8 with (first
    | (refine wpList_store_row (o := ⟨none, _, _, _, _, _⟩) rfl 27 (.tmp 6) (.tmp 26) rfl w6.heap.size (vA v1F) rfl rfl _ _ HZz6.out (sizeV _) (by rw [vA_size, vA_size]) (vA_one _) ?_; rw [HAl6.out, ← HY.out])
    | fail)
  clear hz
  go_wp2_with fail
  refine (blen_any Y HBY.out).mono ?_
  rintro x w7 ⟨rfl, hw7⟩
  have HB7 := Lib.hid (HBY.out.keep hw7)
  have HV7 := Lib.hid (VB.keep HVY.out hw7)
  have HW7 := Lib.hid (HWY.out.trans (hw7.mono (Nat.le_of_lt HBY.out.lt)))
  clear hw7
  go_wp2_with (first
    | (refine wpList_load_if rfl 27 (.tmp 6) rfl w6.heap.size rfl _ _ _ _ HV7.out Try.underlying27 rfl (sizeV _) ?_)
    | (refine wpList_val (o := ⟨some 49, _, _, _, _, _⟩) rfl (.agg (vA v1F)) w7 (by kernel_rfl) ?_)
    | (refine wpList_val (o := ⟨some 50, _, _, _, _, _⟩) rfl (.bool true) w7 (run_bin_op rfl rfl rfl (by kernel_rfl) (eqV_v1 w7)) ?_)
    | fail)
  refine (back_none 0 v1F w7 HB7.out peer20).mono ?_
  rintro x w8 ⟨rfl, hw8⟩
  have HB8 := Lib.hid (HB7.out.keep hw8)
  have HV8 := Lib.hid (VB.keep HV7.out hw8)
  have HW8 := Lib.hid (HW7.out.trans (hw8.mono (Nat.le_of_lt HB7.out.lt)))
  clear hw8
  go_wp2_with (first
    | (refine wpList_load_if rfl 27 (.tmp 6) rfl w6.heap.size rfl _ _ _ _ HV8.out Try.underlying27 rfl (sizeV _) ?_)
    | fail)
  refine (back_nil 0 v1F w8).mono ?_
  rintro x w9 ⟨rfl, hw9⟩
  have HB9 := Lib.hid (HB8.out.keep hw9)
  have HW9 := Lib.hid (HW8.out.trans (hw9.mono (Nat.le_of_lt HB8.out.lt)))
  clear hw9
  go_wp2_with fail
  refine (bnew_none w9).mono ?_
  rintro x w10 ⟨rfl, hw10⟩
  have HB10 := Lib.hid (HB9.out.keep hw10)
  have HW10 := Lib.hid (HW9.out.trans (hw10.mono (Nat.le_of_lt HB9.out.lt)))
  clear hw10
  go_wp2_with fail
  refine (stable_is v1F f_stable1 w10 HB10.out).mono ?_
  rintro x w11 ⟨rfl, hw11⟩
  have HW11 := Lib.hid (HW10.out.trans (hw11.mono (Nat.le_of_lt HB10.out.lt)))
  clear hw11
  go_wp2_with (first
    | (refine wpList_val (o := ⟨some 71, _, _, _, _, _⟩) rfl (.agg (vA v1F)) w11 (by kernel_rfl) ?_)
    | (refine wpList_val (o := ⟨some 72, _, _, _, _, _⟩) rfl (.bool true) w11 (run_bin_op rfl rfl rfl (by kernel_rfl) (eqV_v1 w11)) ?_)
    | fail)
  go_ret
  exact ⟨rfl, HW11.out⟩

end Go.Proofs.Ytbhckfkjbeocoaa
