/-
  hedgerowref01.Parse: the contract, by a walk. Conditions: the text's length.
-/
import Derived.Test.YtdabanocofimmaaGreatDoorJLxDigits
import Derived.Test.YtdabanocofimmaaGreatDoorJValRefNum
namespace Go.Proofs.YtdabanocofimmaaGreatDoor
open Go.RowKit

theorem drop_two (I : ByteArray) (k : Nat) (h : k + 1 < I.size) : I.data.toList.drop k = I[k]'(by omega) :: I[k + 1]'h :: I.data.toList.drop (k + 2) := by
  have hl : I.data.toList.length = I.size := by rw [Array.length_toList]; rfl
  rw [List.drop_eq_getElem_cons (by omega), List.drop_eq_getElem_cons (i := k + 1) (by omega)]
  rfl
theorem drop_one' (I : ByteArray) (k : Nat) (h : k < I.size) : I.data.toList.drop k = I[k]'h :: I.data.toList.drop (k + 1) := by
  have hl : I.data.toList.length = I.size := by rw [Array.length_toList]; rfl
  rw [List.drop_eq_getElem_cons (by omega)]
  rfl
def firstL (s : ByteArray) (cs : List (Int × Int × List UInt8)) : Value := match cs.find? (fits s) with | some c => .tuple #[valV c.1 c.2.1 ⟨c.2.2.toArray⟩, .bool true] | none => noneV
def refV (s : ByteArray) : Value := firstL s (candL s)

theorem firstL_no (s : ByteArray) (c : Int × Int × List UInt8) (cs : List (Int × Int × List UInt8)) (h : fits s c = false) : firstL s (c :: cs) = firstL s cs := by unfold firstL; rw [List.find?_cons, h]
theorem firstL_yes (s : ByteArray) (c : Int × Int × List UInt8) (cs : List (Int × Int × List UInt8)) (h : fits s c = true) : firstL s (c :: cs) = .tuple #[valV c.1 c.2.1 ⟨c.2.2.toArray⟩, .bool true] := by unfold firstL; rw [List.find?_cons, h]

set_option maxHeartbeats 16000000 in
set_option maxRecDepth 100000 in
theorem refparse_any (s : ByteArray) (w : World) (h0 : 0 < s.size) (hs : s.size ≤ 200) : Calls Tryz.prog 69 #[.string s] w (Gives w (refV s)) := by
  have h0' : (0 : Int) < (s.size : Int) := by omega
  have h2' : ¬ (200 : Int) < (s.size : Int) := by omega
  have he : s.toList.isEmpty = false := by
    rw [Lib.toList_data]
    cases hl : s.data.toList with
    | nil => exfalso; have : s.data.toList.length = s.size := by rw [Array.length_toList]; rfl
             rw [hl] at this; simp at this; omega
    | cons a t => rfl
  have HS := Lib.hid hs
  by_cases h1 : 1 < s.size
  · have h1' : (1 : Int) < (s.size : Int) := by omega
    have hI : Hid (innerS s = s.extract 1 (s.size - 1)) := Lib.hid (by unfold innerS; rw [if_neg (by omega)])
    have hIs : (s.extract 1 (s.size - 1)).size ≤ 200 := by rw [ByteArray.size_extract]; omega
    go_enter Tryz.func69, Tryz.ntmps69
    go_wp2
    clear h0' h2' he h1' h1
    generalize s.extract 1 (s.size - 1) = I at *
    go_loopw [5, 6] (fun b i wr => ∃ (k : Nat) (B : List UInt8), k ≤ I.size ∧ i = .int .i64 k ∧ b = .string ⟨B.toArray⟩ ∧ B ++ bareL (I.data.toList.drop k) = bareL I.data.toList ∧ B.length ≤ k ∧ w.alloc (.cells #[.int .i64 0, .int .i64 0, .string ⟨#[]⟩] 47) = wr) (fun _ i _ => I.size - (intOf i).toNat)
    case atStart => exact ⟨0, [], by omega, rfl, rfl, rfl, by simp, rfl⟩
    case round =>
      obtain ⟨k, B, hk, rfl, rfl, hB, hBl, rfl⟩ := hrel
      have HBB := Lib.hid hB
      have hBs : (ByteArray.mk B.toArray).size ≤ 200 := by rw [size_mk]; omega
      clear hB
      by_cases hlt : k < I.size
      · have g1 : (k : Int) < (I.size : Int) := by omega
        have hw1 : wrap64 ((k : Int) + 1) = k + 1 := IntWalk.wrap64_in _ ⟨by omega, by omega⟩
        have hw2 : wrap64 ((k : Int) + 1 + 1) = k + 1 + 1 := IntWalk.wrap64_in _ ⟨by omega, by omega⟩
        by_cases hx : I[k]'hlt = 92
        · have t1 : (((I[k]'hlt).toNat : Int) == 92) = true := by rw [hx]; rfl
          have HX := Lib.hid hx
          clear hx
          by_cases hl2 : k + 1 < I.size
          · have g2 : (k : Int) + 1 < (I.size : Int) := by omega
            have hE : (I.extract (k + 1) (k + 2)).size ≤ 200 := by rw [ByteArray.size_extract]; omega
            have HE := Lib.hid (ext_one I (k + 1) hl2 B)
            have HD := Lib.hid (drop_two I k hl2)
            go_wp2
            refine ⟨⟨k + 2, B ++ [I[k + 1]'hl2], by omega, by go_num, congrArg Value.string HE.out, ?_, by simp; omega, by first | trivial | rfl⟩, by simp [intOf]; omega⟩
            rw [← HBB.out, HD.out, bareL, if_pos HX.out, List.append_assoc]; rfl
          · have g2 : ¬ (k : Int) + 1 < (I.size : Int) := by omega
            have hE : (I.extract k (k + 1)).size ≤ 200 := by rw [ByteArray.size_extract]; omega
            have HE := Lib.hid (ext_one I k hlt B)
            have HD := Lib.hid (drop_one' I k hlt)
            go_wp2
            refine ⟨⟨k + 1, B ++ [I[k]'hlt], by omega, by go_num, congrArg Value.string HE.out, ?_, by simp; omega, by first | trivial | rfl⟩, by simp [intOf]; omega⟩
            have hz : I.data.toList.drop (k + 1) = [] := List.drop_of_length_le (by rw [Array.length_toList]; show I.size ≤ k + 1; omega)
            rw [← HBB.out, HD.out, hz, List.append_assoc]; rfl
        · have t1 : (((I[k]'hlt).toNat : Int) == 92) = false := by
            rw [beq_eq_false_iff_ne]; intro e; exact hx (UInt8.toNat_inj.1 (by show (I[k]'hlt).toNat = 92; omega))
          have HX := Lib.hid hx
          have hE : (I.extract k (k + 1)).size ≤ 200 := by rw [ByteArray.size_extract]; omega
          have HE := Lib.hid (ext_one I k hlt B)
          have HD := Lib.hid (drop_one' I k hlt)
          clear hx
          go_wp2
          refine ⟨⟨k + 1, B ++ [I[k]'hlt], by omega, by go_num, congrArg Value.string HE.out, ?_, by simp; omega, by first | trivial | rfl⟩, by simp [intOf]; omega⟩
          rw [← HBB.out, HD.out, bare_cons _ _ HX.out, List.append_assoc]; rfl
      · have g1 : ¬ (k : Int) < (I.size : Int) := by omega
        have hBe : B = bareL I.data.toList := by
          have hz : I.data.toList.drop k = [] := List.drop_of_length_le (by rw [Array.length_toList]; show I.size ≤ k; omega)
          rw [← HBB.out, hz]; simp [bareL]
        have HBE := Lib.hid hBe
        clear HBB hBe
        go_wp2_with fail
        refine (refnum_any s _ h0 (by have := HS.out; omega)).mono ?_
        rintro e w2 ⟨rfl, rfl⟩
        have HC : Hid (candL s = [(0, 0, []), (1, 0, []), (1, 1, []), (2, numR s.data.toList, []), (3, 0, B), (4, 0, I.data.toList), (5, 0, I.data.toList)]) := Lib.hid (by
          unfold candL; rw [hI.out, ← HBE.out])
        clear HBE hI
        generalize numR s.data.toList = nr at *
        go_wp2
        go_loopw [65] (fun j wr => ∃ m : Nat, m ≤ 7 ∧ j = .int .i64 m ∧ refV s = firstL s ((candL s).drop m) ∧ In1 w (.cells #[.int .i64 0, .int .i64 0, .string ⟨#[]⟩] 47) wr ∧ Blk wr (w.heap.size + 1) 47 #[.int .i64 0, .int .i64 0, .string ⟨#[]⟩, .int .i64 1, .int .i64 0, .string ⟨#[]⟩, .int .i64 1, .int .i64 1, .string ⟨#[]⟩, .int .i64 2, .int .i64 nr, .string ⟨#[]⟩, .int .i64 3, .int .i64 0, .string ⟨B.toArray⟩, .int .i64 4, .int .i64 0, .string I, .int .i64 5, .int .i64 0, .string I]) (fun j _ => 7 - (intOf j).toNat)
        case atStart => exact ⟨0, by omega, rfl, rfl, In1.then_ (Below.refl _ _) (alloc_below _ _), by simpa using Blk.new (w.alloc (.cells #[.int .i64 0, .int .i64 0, .string ⟨#[]⟩] 47)) 47 #[.int .i64 0, .int .i64 0, .string ⟨#[]⟩, .int .i64 1, .int .i64 0, .string ⟨#[]⟩, .int .i64 1, .int .i64 1, .string ⟨#[]⟩, .int .i64 2, .int .i64 nr, .string ⟨#[]⟩, .int .i64 3, .int .i64 0, .string ⟨B.toArray⟩, .int .i64 4, .int .i64 0, .string I, .int .i64 5, .int .i64 0, .string I]⟩
        case round =>
          obtain ⟨m, hm, rfl, hf, hR, hG⟩ := hrel
          rw [HC.out] at hf
          have HRI := Lib.hid hR
          have HGB := Lib.hid hG
          obtain ⟨c0, c1, c2, f0, f1, f2, hltw⟩ := hR.three
          have HCC := HC
          clear HC
          by_cases q : m = 0
          · subst q
            have l0 : wr.cell? ⟨w.heap.size + 1, 0, none⟩ = some (.int .i64 0) := by rw [hG.cell]; rfl
            have l1 : wr.cell? ⟨w.heap.size + 1, 1, none⟩ = some (.int .i64 0) := by rw [hG.cell]; rfl
            have l2 : wr.cell? ⟨w.heap.size + 1, 2, none⟩ = some (.string (⟨#[]⟩ : ByteArray)) := by rw [hG.cell]; rfl
            have HF := Lib.hid hf
            have hNo : fits s (0, 0, []) = false → Hid (refV s = firstL s ((candL s).drop 1)) := fun h => Lib.hid (by rw [HF.out, HCC.out]; exact firstL_no s _ _ h)
            have hYes : fits s (0, 0, []) = true → Hid (refV s = .tuple #[valV 0 0 (⟨#[]⟩ : ByteArray), .bool true]) := fun h => Lib.hid (by rw [HF.out]; exact firstL_yes s _ _ h)
            clear hf hR hG hm
            go_wp2_with fail
            refine (refright_any 0 0 (⟨#[]⟩ : ByteArray) _ (by first | omega | (rw [size_mk]; omega) | decide)).mono ?_
            rintro e w3 ⟨rfl, hb3⟩
            have B3 : Blk w3 wr.heap.size 47 #[.int .i64 0, .int .i64 0, .string (⟨#[]⟩ : ByteArray)] := (Blk.new wr _ _).below hb3 (by simp)
            have hb3' := alloc_then hb3
            have hne : w.heap.size ≠ wr.heap.size := by omega
            have HRI3 := Lib.hid (HRI.out.then_ hb3')
            have HGB3 := Lib.hid (HGB.out.below hb3' HGB.out.lt)
            clear c0 c1 c2 f0 f1 f2 hltw l0 l1 l2 hb3 hb3' HRI HGB
            have HB3 := Lib.hid B3
            obtain ⟨v0, v1, v2, x0, x1, x2, hltv⟩ := B3.three
            clear B3
            cases hr : rightB 0 0 (⟨#[]⟩ : ByteArray).data.toList with
            | false =>
              have HN := hNo (by unfold fits; rw [show rightB ((0, 0, []) : Int × Int × List UInt8).1 ((0, 0, []) : Int × Int × List UInt8).2.1 ((0, 0, []) : Int × Int × List UInt8).2.2 = false from hr]; rfl)
              clear hNo hYes hr
              go_wp2
              exact ⟨⟨1, by omega, by go_num, HN.out, HRI3.out, HGB3.out⟩, by simp [intOf]⟩
            | true =>
              have HRR := Lib.hid hr
              clear hr
              go_wp2_with fail
              refine (reftext_any 0 0 (⟨#[]⟩ : ByteArray) _ (by first | omega | (rw [size_mk]; omega) | decide)).mono ?_
              rintro e w4 ⟨rfl, hb4⟩
              obtain ⟨X, hX⟩ : ∃ X, X = textB 0 0 (⟨#[]⟩ : ByteArray).data.toList := ⟨_, rfl⟩
              have HX := Lib.hid hX
              rw [← hX]
              unfold sv
              have HRI4 := Lib.hid (HRI3.out.then_ hb4)
              have HGB4 := Lib.hid (HGB3.out.below hb4 HGB3.out.lt)
              have B4 := HB3.out.below hb4 HB3.out.lt
              clear v0 v1 v2 x0 x1 x2 hltv hb4 HRI3 HGB3 HB3 hX
              obtain ⟨v0, v1, v2, x0, x1, x2, hltv⟩ := B4.three
              clear B4
              by_cases hT : X = s.data.toList
              · have hq : (X == s.toList) = true := by rw [Lib.toList_data, hT]; exact beq_self_eq_true _
                have HY := hYes (by unfold fits; rw [show rightB ((0, 0, []) : Int × Int × List UInt8).1 ((0, 0, []) : Int × Int × List UInt8).2.1 ((0, 0, []) : Int × Int × List UInt8).2.2 = true from HRR.out]; show (true && decide (textB 0 0 (⟨#[]⟩ : ByteArray).data.toList = s.data.toList)) = true; rw [← HX.out, decide_eq_true hT]; rfl)
                clear hNo hYes hT HX HRR
                obtain ⟨c0, c1, c2, f0, f1, f2, hltw⟩ := HRI4.out.three
                go_wp2
                (try simp only [Exit.inBlock, Exit.then])
                refine bodyPost_ret (ret_cell rfl _ _ _ _ _ _ (.bool true) rfl (set3_blk HRI4.out _ _ _) Tryz.underlying47 rfl (by kernel_rfl) rfl) rfl ?_
                exact ⟨by rw [HY.out]; rfl, set3_below HRI4.out.below _ _ _⟩
              · have hq : (X == s.toList) = false := by rw [Lib.toList_data]; exact beq_eq_false_iff_ne.2 hT
                have HN := hNo (by unfold fits; rw [show rightB ((0, 0, []) : Int × Int × List UInt8).1 ((0, 0, []) : Int × Int × List UInt8).2.1 ((0, 0, []) : Int × Int × List UInt8).2.2 = true from HRR.out]; show (true && decide (textB 0 0 (⟨#[]⟩ : ByteArray).data.toList = s.data.toList)) = false; rw [← HX.out, decide_eq_false hT]; rfl)
                clear hNo hYes hT HX HRR
                go_wp2
                exact ⟨⟨1, by omega, by go_num, HN.out, HRI4.out, HGB4.out⟩, by simp [intOf]⟩
          by_cases q : m = 1
          · subst q
            have l0 : wr.cell? ⟨w.heap.size + 1, 3, none⟩ = some (.int .i64 1) := by rw [hG.cell]; rfl
            have l1 : wr.cell? ⟨w.heap.size + 1, 4, none⟩ = some (.int .i64 0) := by rw [hG.cell]; rfl
            have l2 : wr.cell? ⟨w.heap.size + 1, 5, none⟩ = some (.string (⟨#[]⟩ : ByteArray)) := by rw [hG.cell]; rfl
            have HF := Lib.hid hf
            have hNo : fits s (1, 0, []) = false → Hid (refV s = firstL s ((candL s).drop 2)) := fun h => Lib.hid (by rw [HF.out, HCC.out]; exact firstL_no s _ _ h)
            have hYes : fits s (1, 0, []) = true → Hid (refV s = .tuple #[valV 1 0 (⟨#[]⟩ : ByteArray), .bool true]) := fun h => Lib.hid (by rw [HF.out]; exact firstL_yes s _ _ h)
            clear hf hR hG hm
            go_wp2_with fail
            refine (refright_any 1 0 (⟨#[]⟩ : ByteArray) _ (by first | omega | (rw [size_mk]; omega) | decide)).mono ?_
            rintro e w3 ⟨rfl, hb3⟩
            have B3 : Blk w3 wr.heap.size 47 #[.int .i64 1, .int .i64 0, .string (⟨#[]⟩ : ByteArray)] := (Blk.new wr _ _).below hb3 (by simp)
            have hb3' := alloc_then hb3
            have hne : w.heap.size ≠ wr.heap.size := by omega
            have HRI3 := Lib.hid (HRI.out.then_ hb3')
            have HGB3 := Lib.hid (HGB.out.below hb3' HGB.out.lt)
            clear c0 c1 c2 f0 f1 f2 hltw l0 l1 l2 hb3 hb3' HRI HGB
            have HB3 := Lib.hid B3
            obtain ⟨v0, v1, v2, x0, x1, x2, hltv⟩ := B3.three
            clear B3
            cases hr : rightB 1 0 (⟨#[]⟩ : ByteArray).data.toList with
            | false =>
              have HN := hNo (by unfold fits; rw [show rightB ((1, 0, []) : Int × Int × List UInt8).1 ((1, 0, []) : Int × Int × List UInt8).2.1 ((1, 0, []) : Int × Int × List UInt8).2.2 = false from hr]; rfl)
              clear hNo hYes hr
              go_wp2
              exact ⟨⟨2, by omega, by go_num, HN.out, HRI3.out, HGB3.out⟩, by simp [intOf]⟩
            | true =>
              have HRR := Lib.hid hr
              clear hr
              go_wp2_with fail
              refine (reftext_any 1 0 (⟨#[]⟩ : ByteArray) _ (by first | omega | (rw [size_mk]; omega) | decide)).mono ?_
              rintro e w4 ⟨rfl, hb4⟩
              obtain ⟨X, hX⟩ : ∃ X, X = textB 1 0 (⟨#[]⟩ : ByteArray).data.toList := ⟨_, rfl⟩
              have HX := Lib.hid hX
              rw [← hX]
              unfold sv
              have HRI4 := Lib.hid (HRI3.out.then_ hb4)
              have HGB4 := Lib.hid (HGB3.out.below hb4 HGB3.out.lt)
              have B4 := HB3.out.below hb4 HB3.out.lt
              clear v0 v1 v2 x0 x1 x2 hltv hb4 HRI3 HGB3 HB3 hX
              obtain ⟨v0, v1, v2, x0, x1, x2, hltv⟩ := B4.three
              clear B4
              by_cases hT : X = s.data.toList
              · have hq : (X == s.toList) = true := by rw [Lib.toList_data, hT]; exact beq_self_eq_true _
                have HY := hYes (by unfold fits; rw [show rightB ((1, 0, []) : Int × Int × List UInt8).1 ((1, 0, []) : Int × Int × List UInt8).2.1 ((1, 0, []) : Int × Int × List UInt8).2.2 = true from HRR.out]; show (true && decide (textB 1 0 (⟨#[]⟩ : ByteArray).data.toList = s.data.toList)) = true; rw [← HX.out, decide_eq_true hT]; rfl)
                clear hNo hYes hT HX HRR
                obtain ⟨c0, c1, c2, f0, f1, f2, hltw⟩ := HRI4.out.three
                go_wp2
                (try simp only [Exit.inBlock, Exit.then])
                refine bodyPost_ret (ret_cell rfl _ _ _ _ _ _ (.bool true) rfl (set3_blk HRI4.out _ _ _) Tryz.underlying47 rfl (by kernel_rfl) rfl) rfl ?_
                exact ⟨by rw [HY.out]; rfl, set3_below HRI4.out.below _ _ _⟩
              · have hq : (X == s.toList) = false := by rw [Lib.toList_data]; exact beq_eq_false_iff_ne.2 hT
                have HN := hNo (by unfold fits; rw [show rightB ((1, 0, []) : Int × Int × List UInt8).1 ((1, 0, []) : Int × Int × List UInt8).2.1 ((1, 0, []) : Int × Int × List UInt8).2.2 = true from HRR.out]; show (true && decide (textB 1 0 (⟨#[]⟩ : ByteArray).data.toList = s.data.toList)) = false; rw [← HX.out, decide_eq_false hT]; rfl)
                clear hNo hYes hT HX HRR
                go_wp2
                exact ⟨⟨2, by omega, by go_num, HN.out, HRI4.out, HGB4.out⟩, by simp [intOf]⟩
          by_cases q : m = 2
          · subst q
            have l0 : wr.cell? ⟨w.heap.size + 1, 6, none⟩ = some (.int .i64 1) := by rw [hG.cell]; rfl
            have l1 : wr.cell? ⟨w.heap.size + 1, 7, none⟩ = some (.int .i64 1) := by rw [hG.cell]; rfl
            have l2 : wr.cell? ⟨w.heap.size + 1, 8, none⟩ = some (.string (⟨#[]⟩ : ByteArray)) := by rw [hG.cell]; rfl
            have HF := Lib.hid hf
            have hNo : fits s (1, 1, []) = false → Hid (refV s = firstL s ((candL s).drop 3)) := fun h => Lib.hid (by rw [HF.out, HCC.out]; exact firstL_no s _ _ h)
            have hYes : fits s (1, 1, []) = true → Hid (refV s = .tuple #[valV 1 1 (⟨#[]⟩ : ByteArray), .bool true]) := fun h => Lib.hid (by rw [HF.out]; exact firstL_yes s _ _ h)
            clear hf hR hG hm
            go_wp2_with fail
            refine (refright_any 1 1 (⟨#[]⟩ : ByteArray) _ (by first | omega | (rw [size_mk]; omega) | decide)).mono ?_
            rintro e w3 ⟨rfl, hb3⟩
            have B3 : Blk w3 wr.heap.size 47 #[.int .i64 1, .int .i64 1, .string (⟨#[]⟩ : ByteArray)] := (Blk.new wr _ _).below hb3 (by simp)
            have hb3' := alloc_then hb3
            have hne : w.heap.size ≠ wr.heap.size := by omega
            have HRI3 := Lib.hid (HRI.out.then_ hb3')
            have HGB3 := Lib.hid (HGB.out.below hb3' HGB.out.lt)
            clear c0 c1 c2 f0 f1 f2 hltw l0 l1 l2 hb3 hb3' HRI HGB
            have HB3 := Lib.hid B3
            obtain ⟨v0, v1, v2, x0, x1, x2, hltv⟩ := B3.three
            clear B3
            cases hr : rightB 1 1 (⟨#[]⟩ : ByteArray).data.toList with
            | false =>
              have HN := hNo (by unfold fits; rw [show rightB ((1, 1, []) : Int × Int × List UInt8).1 ((1, 1, []) : Int × Int × List UInt8).2.1 ((1, 1, []) : Int × Int × List UInt8).2.2 = false from hr]; rfl)
              clear hNo hYes hr
              go_wp2
              exact ⟨⟨3, by omega, by go_num, HN.out, HRI3.out, HGB3.out⟩, by simp [intOf]⟩
            | true =>
              have HRR := Lib.hid hr
              clear hr
              go_wp2_with fail
              refine (reftext_any 1 1 (⟨#[]⟩ : ByteArray) _ (by first | omega | (rw [size_mk]; omega) | decide)).mono ?_
              rintro e w4 ⟨rfl, hb4⟩
              obtain ⟨X, hX⟩ : ∃ X, X = textB 1 1 (⟨#[]⟩ : ByteArray).data.toList := ⟨_, rfl⟩
              have HX := Lib.hid hX
              rw [← hX]
              unfold sv
              have HRI4 := Lib.hid (HRI3.out.then_ hb4)
              have HGB4 := Lib.hid (HGB3.out.below hb4 HGB3.out.lt)
              have B4 := HB3.out.below hb4 HB3.out.lt
              clear v0 v1 v2 x0 x1 x2 hltv hb4 HRI3 HGB3 HB3 hX
              obtain ⟨v0, v1, v2, x0, x1, x2, hltv⟩ := B4.three
              clear B4
              by_cases hT : X = s.data.toList
              · have hq : (X == s.toList) = true := by rw [Lib.toList_data, hT]; exact beq_self_eq_true _
                have HY := hYes (by unfold fits; rw [show rightB ((1, 1, []) : Int × Int × List UInt8).1 ((1, 1, []) : Int × Int × List UInt8).2.1 ((1, 1, []) : Int × Int × List UInt8).2.2 = true from HRR.out]; show (true && decide (textB 1 1 (⟨#[]⟩ : ByteArray).data.toList = s.data.toList)) = true; rw [← HX.out, decide_eq_true hT]; rfl)
                clear hNo hYes hT HX HRR
                obtain ⟨c0, c1, c2, f0, f1, f2, hltw⟩ := HRI4.out.three
                go_wp2
                (try simp only [Exit.inBlock, Exit.then])
                refine bodyPost_ret (ret_cell rfl _ _ _ _ _ _ (.bool true) rfl (set3_blk HRI4.out _ _ _) Tryz.underlying47 rfl (by kernel_rfl) rfl) rfl ?_
                exact ⟨by rw [HY.out]; rfl, set3_below HRI4.out.below _ _ _⟩
              · have hq : (X == s.toList) = false := by rw [Lib.toList_data]; exact beq_eq_false_iff_ne.2 hT
                have HN := hNo (by unfold fits; rw [show rightB ((1, 1, []) : Int × Int × List UInt8).1 ((1, 1, []) : Int × Int × List UInt8).2.1 ((1, 1, []) : Int × Int × List UInt8).2.2 = true from HRR.out]; show (true && decide (textB 1 1 (⟨#[]⟩ : ByteArray).data.toList = s.data.toList)) = false; rw [← HX.out, decide_eq_false hT]; rfl)
                clear hNo hYes hT HX HRR
                go_wp2
                exact ⟨⟨3, by omega, by go_num, HN.out, HRI4.out, HGB4.out⟩, by simp [intOf]⟩
          by_cases q : m = 3
          · subst q
            have l0 : wr.cell? ⟨w.heap.size + 1, 9, none⟩ = some (.int .i64 2) := by rw [hG.cell]; rfl
            have l1 : wr.cell? ⟨w.heap.size + 1, 10, none⟩ = some (.int .i64 nr) := by rw [hG.cell]; rfl
            have l2 : wr.cell? ⟨w.heap.size + 1, 11, none⟩ = some (.string (⟨#[]⟩ : ByteArray)) := by rw [hG.cell]; rfl
            have HF := Lib.hid hf
            have hNo : fits s (2, nr, []) = false → Hid (refV s = firstL s ((candL s).drop 4)) := fun h => Lib.hid (by rw [HF.out, HCC.out]; exact firstL_no s _ _ h)
            have hYes : fits s (2, nr, []) = true → Hid (refV s = .tuple #[valV 2 nr (⟨#[]⟩ : ByteArray), .bool true]) := fun h => Lib.hid (by rw [HF.out]; exact firstL_yes s _ _ h)
            clear hf hR hG hm
            go_wp2_with fail
            refine (refright_any 2 nr (⟨#[]⟩ : ByteArray) _ (by first | omega | (rw [size_mk]; omega) | decide)).mono ?_
            rintro e w3 ⟨rfl, hb3⟩
            have B3 : Blk w3 wr.heap.size 47 #[.int .i64 2, .int .i64 nr, .string (⟨#[]⟩ : ByteArray)] := (Blk.new wr _ _).below hb3 (by simp)
            have hb3' := alloc_then hb3
            have hne : w.heap.size ≠ wr.heap.size := by omega
            have HRI3 := Lib.hid (HRI.out.then_ hb3')
            have HGB3 := Lib.hid (HGB.out.below hb3' HGB.out.lt)
            clear c0 c1 c2 f0 f1 f2 hltw l0 l1 l2 hb3 hb3' HRI HGB
            have HB3 := Lib.hid B3
            obtain ⟨v0, v1, v2, x0, x1, x2, hltv⟩ := B3.three
            clear B3
            cases hr : rightB 2 nr (⟨#[]⟩ : ByteArray).data.toList with
            | false =>
              have HN := hNo (by unfold fits; rw [show rightB ((2, nr, []) : Int × Int × List UInt8).1 ((2, nr, []) : Int × Int × List UInt8).2.1 ((2, nr, []) : Int × Int × List UInt8).2.2 = false from hr]; rfl)
              clear hNo hYes hr
              go_wp2
              exact ⟨⟨4, by omega, by go_num, HN.out, HRI3.out, HGB3.out⟩, by simp [intOf]⟩
            | true =>
              have HRR := Lib.hid hr
              clear hr
              go_wp2_with fail
              refine (reftext_any 2 nr (⟨#[]⟩ : ByteArray) _ (by first | omega | (rw [size_mk]; omega) | decide)).mono ?_
              rintro e w4 ⟨rfl, hb4⟩
              obtain ⟨X, hX⟩ : ∃ X, X = textB 2 nr (⟨#[]⟩ : ByteArray).data.toList := ⟨_, rfl⟩
              have HX := Lib.hid hX
              rw [← hX]
              unfold sv
              have HRI4 := Lib.hid (HRI3.out.then_ hb4)
              have HGB4 := Lib.hid (HGB3.out.below hb4 HGB3.out.lt)
              have B4 := HB3.out.below hb4 HB3.out.lt
              clear v0 v1 v2 x0 x1 x2 hltv hb4 HRI3 HGB3 HB3 hX
              obtain ⟨v0, v1, v2, x0, x1, x2, hltv⟩ := B4.three
              clear B4
              by_cases hT : X = s.data.toList
              · have hq : (X == s.toList) = true := by rw [Lib.toList_data, hT]; exact beq_self_eq_true _
                have HY := hYes (by unfold fits; rw [show rightB ((2, nr, []) : Int × Int × List UInt8).1 ((2, nr, []) : Int × Int × List UInt8).2.1 ((2, nr, []) : Int × Int × List UInt8).2.2 = true from HRR.out]; show (true && decide (textB 2 nr (⟨#[]⟩ : ByteArray).data.toList = s.data.toList)) = true; rw [← HX.out, decide_eq_true hT]; rfl)
                clear hNo hYes hT HX HRR
                obtain ⟨c0, c1, c2, f0, f1, f2, hltw⟩ := HRI4.out.three
                go_wp2
                (try simp only [Exit.inBlock, Exit.then])
                refine bodyPost_ret (ret_cell rfl _ _ _ _ _ _ (.bool true) rfl (set3_blk HRI4.out _ _ _) Tryz.underlying47 rfl (by kernel_rfl) rfl) rfl ?_
                exact ⟨by rw [HY.out]; rfl, set3_below HRI4.out.below _ _ _⟩
              · have hq : (X == s.toList) = false := by rw [Lib.toList_data]; exact beq_eq_false_iff_ne.2 hT
                have HN := hNo (by unfold fits; rw [show rightB ((2, nr, []) : Int × Int × List UInt8).1 ((2, nr, []) : Int × Int × List UInt8).2.1 ((2, nr, []) : Int × Int × List UInt8).2.2 = true from HRR.out]; show (true && decide (textB 2 nr (⟨#[]⟩ : ByteArray).data.toList = s.data.toList)) = false; rw [← HX.out, decide_eq_false hT]; rfl)
                clear hNo hYes hT HX HRR
                go_wp2
                exact ⟨⟨4, by omega, by go_num, HN.out, HRI4.out, HGB4.out⟩, by simp [intOf]⟩
          by_cases q : m = 4
          · subst q
            have l0 : wr.cell? ⟨w.heap.size + 1, 12, none⟩ = some (.int .i64 3) := by rw [hG.cell]; rfl
            have l1 : wr.cell? ⟨w.heap.size + 1, 13, none⟩ = some (.int .i64 0) := by rw [hG.cell]; rfl
            have l2 : wr.cell? ⟨w.heap.size + 1, 14, none⟩ = some (.string (⟨B.toArray⟩ : ByteArray)) := by rw [hG.cell]; rfl
            have HF := Lib.hid hf
            have hNo : fits s (3, 0, B) = false → Hid (refV s = firstL s ((candL s).drop 5)) := fun h => Lib.hid (by rw [HF.out, HCC.out]; exact firstL_no s _ _ h)
            have hYes : fits s (3, 0, B) = true → Hid (refV s = .tuple #[valV 3 0 (⟨B.toArray⟩ : ByteArray), .bool true]) := fun h => Lib.hid (by rw [HF.out]; exact firstL_yes s _ _ h)
            clear hf hR hG hm
            go_wp2_with fail
            refine (refright_any 3 0 (⟨B.toArray⟩ : ByteArray) _ (by first | omega | (rw [size_mk]; omega) | decide)).mono ?_
            rintro e w3 ⟨rfl, hb3⟩
            have B3 : Blk w3 wr.heap.size 47 #[.int .i64 3, .int .i64 0, .string (⟨B.toArray⟩ : ByteArray)] := (Blk.new wr _ _).below hb3 (by simp)
            have hb3' := alloc_then hb3
            have hne : w.heap.size ≠ wr.heap.size := by omega
            have HRI3 := Lib.hid (HRI.out.then_ hb3')
            have HGB3 := Lib.hid (HGB.out.below hb3' HGB.out.lt)
            clear c0 c1 c2 f0 f1 f2 hltw l0 l1 l2 hb3 hb3' HRI HGB
            have HB3 := Lib.hid B3
            obtain ⟨v0, v1, v2, x0, x1, x2, hltv⟩ := B3.three
            clear B3
            cases hr : rightB 3 0 (⟨B.toArray⟩ : ByteArray).data.toList with
            | false =>
              have HN := hNo (by unfold fits; rw [show rightB ((3, 0, B) : Int × Int × List UInt8).1 ((3, 0, B) : Int × Int × List UInt8).2.1 ((3, 0, B) : Int × Int × List UInt8).2.2 = false from hr]; rfl)
              clear hNo hYes hr
              go_wp2
              exact ⟨⟨5, by omega, by go_num, HN.out, HRI3.out, HGB3.out⟩, by simp [intOf]⟩
            | true =>
              have HRR := Lib.hid hr
              clear hr
              go_wp2_with fail
              refine (reftext_any 3 0 (⟨B.toArray⟩ : ByteArray) _ (by first | omega | (rw [size_mk]; omega) | decide)).mono ?_
              rintro e w4 ⟨rfl, hb4⟩
              obtain ⟨X, hX⟩ : ∃ X, X = textB 3 0 (⟨B.toArray⟩ : ByteArray).data.toList := ⟨_, rfl⟩
              have HX := Lib.hid hX
              rw [← hX]
              unfold sv
              have HRI4 := Lib.hid (HRI3.out.then_ hb4)
              have HGB4 := Lib.hid (HGB3.out.below hb4 HGB3.out.lt)
              have B4 := HB3.out.below hb4 HB3.out.lt
              clear v0 v1 v2 x0 x1 x2 hltv hb4 HRI3 HGB3 HB3 hX
              obtain ⟨v0, v1, v2, x0, x1, x2, hltv⟩ := B4.three
              clear B4
              by_cases hT : X = s.data.toList
              · have hq : (X == s.toList) = true := by rw [Lib.toList_data, hT]; exact beq_self_eq_true _
                have HY := hYes (by unfold fits; rw [show rightB ((3, 0, B) : Int × Int × List UInt8).1 ((3, 0, B) : Int × Int × List UInt8).2.1 ((3, 0, B) : Int × Int × List UInt8).2.2 = true from HRR.out]; show (true && decide (textB 3 0 (⟨B.toArray⟩ : ByteArray).data.toList = s.data.toList)) = true; rw [← HX.out, decide_eq_true hT]; rfl)
                clear hNo hYes hT HX HRR
                obtain ⟨c0, c1, c2, f0, f1, f2, hltw⟩ := HRI4.out.three
                go_wp2
                (try simp only [Exit.inBlock, Exit.then])
                refine bodyPost_ret (ret_cell rfl _ _ _ _ _ _ (.bool true) rfl (set3_blk HRI4.out _ _ _) Tryz.underlying47 rfl (by kernel_rfl) rfl) rfl ?_
                exact ⟨by rw [HY.out]; rfl, set3_below HRI4.out.below _ _ _⟩
              · have hq : (X == s.toList) = false := by rw [Lib.toList_data]; exact beq_eq_false_iff_ne.2 hT
                have HN := hNo (by unfold fits; rw [show rightB ((3, 0, B) : Int × Int × List UInt8).1 ((3, 0, B) : Int × Int × List UInt8).2.1 ((3, 0, B) : Int × Int × List UInt8).2.2 = true from HRR.out]; show (true && decide (textB 3 0 (⟨B.toArray⟩ : ByteArray).data.toList = s.data.toList)) = false; rw [← HX.out, decide_eq_false hT]; rfl)
                clear hNo hYes hT HX HRR
                go_wp2
                exact ⟨⟨5, by omega, by go_num, HN.out, HRI4.out, HGB4.out⟩, by simp [intOf]⟩
          by_cases q : m = 5
          · subst q
            have l0 : wr.cell? ⟨w.heap.size + 1, 15, none⟩ = some (.int .i64 4) := by rw [hG.cell]; rfl
            have l1 : wr.cell? ⟨w.heap.size + 1, 16, none⟩ = some (.int .i64 0) := by rw [hG.cell]; rfl
            have l2 : wr.cell? ⟨w.heap.size + 1, 17, none⟩ = some (.string I) := by rw [hG.cell]; rfl
            have HF := Lib.hid hf
            have hNo : fits s (4, 0, I.data.toList) = false → Hid (refV s = firstL s ((candL s).drop 6)) := fun h => Lib.hid (by rw [HF.out, HCC.out]; exact firstL_no s _ _ h)
            have hYes : fits s (4, 0, I.data.toList) = true → Hid (refV s = .tuple #[valV 4 0 I, .bool true]) := fun h => Lib.hid (by rw [HF.out]; exact firstL_yes s _ _ h)
            clear hf hR hG hm
            go_wp2_with fail
            refine (refright_any 4 0 I _ (by first | omega | (rw [size_mk]; omega) | decide)).mono ?_
            rintro e w3 ⟨rfl, hb3⟩
            have B3 : Blk w3 wr.heap.size 47 #[.int .i64 4, .int .i64 0, .string I] := (Blk.new wr _ _).below hb3 (by simp)
            have hb3' := alloc_then hb3
            have hne : w.heap.size ≠ wr.heap.size := by omega
            have HRI3 := Lib.hid (HRI.out.then_ hb3')
            have HGB3 := Lib.hid (HGB.out.below hb3' HGB.out.lt)
            clear c0 c1 c2 f0 f1 f2 hltw l0 l1 l2 hb3 hb3' HRI HGB
            have HB3 := Lib.hid B3
            obtain ⟨v0, v1, v2, x0, x1, x2, hltv⟩ := B3.three
            clear B3
            cases hr : rightB 4 0 I.data.toList with
            | false =>
              have HN := hNo (by unfold fits; rw [show rightB ((4, 0, I.data.toList) : Int × Int × List UInt8).1 ((4, 0, I.data.toList) : Int × Int × List UInt8).2.1 ((4, 0, I.data.toList) : Int × Int × List UInt8).2.2 = false from hr]; rfl)
              clear hNo hYes hr
              go_wp2
              exact ⟨⟨6, by omega, by go_num, HN.out, HRI3.out, HGB3.out⟩, by simp [intOf]⟩
            | true =>
              have HRR := Lib.hid hr
              clear hr
              go_wp2_with fail
              refine (reftext_any 4 0 I _ (by first | omega | (rw [size_mk]; omega) | decide)).mono ?_
              rintro e w4 ⟨rfl, hb4⟩
              obtain ⟨X, hX⟩ : ∃ X, X = textB 4 0 I.data.toList := ⟨_, rfl⟩
              have HX := Lib.hid hX
              rw [← hX]
              unfold sv
              have HRI4 := Lib.hid (HRI3.out.then_ hb4)
              have HGB4 := Lib.hid (HGB3.out.below hb4 HGB3.out.lt)
              have B4 := HB3.out.below hb4 HB3.out.lt
              clear v0 v1 v2 x0 x1 x2 hltv hb4 HRI3 HGB3 HB3 hX
              obtain ⟨v0, v1, v2, x0, x1, x2, hltv⟩ := B4.three
              clear B4
              by_cases hT : X = s.data.toList
              · have hq : (X == s.toList) = true := by rw [Lib.toList_data, hT]; exact beq_self_eq_true _
                have HY := hYes (by unfold fits; rw [show rightB ((4, 0, I.data.toList) : Int × Int × List UInt8).1 ((4, 0, I.data.toList) : Int × Int × List UInt8).2.1 ((4, 0, I.data.toList) : Int × Int × List UInt8).2.2 = true from HRR.out]; show (true && decide (textB 4 0 I.data.toList = s.data.toList)) = true; rw [← HX.out, decide_eq_true hT]; rfl)
                clear hNo hYes hT HX HRR
                obtain ⟨c0, c1, c2, f0, f1, f2, hltw⟩ := HRI4.out.three
                go_wp2
                (try simp only [Exit.inBlock, Exit.then])
                refine bodyPost_ret (ret_cell rfl _ _ _ _ _ _ (.bool true) rfl (set3_blk HRI4.out _ _ _) Tryz.underlying47 rfl (by kernel_rfl) rfl) rfl ?_
                exact ⟨by rw [HY.out]; rfl, set3_below HRI4.out.below _ _ _⟩
              · have hq : (X == s.toList) = false := by rw [Lib.toList_data]; exact beq_eq_false_iff_ne.2 hT
                have HN := hNo (by unfold fits; rw [show rightB ((4, 0, I.data.toList) : Int × Int × List UInt8).1 ((4, 0, I.data.toList) : Int × Int × List UInt8).2.1 ((4, 0, I.data.toList) : Int × Int × List UInt8).2.2 = true from HRR.out]; show (true && decide (textB 4 0 I.data.toList = s.data.toList)) = false; rw [← HX.out, decide_eq_false hT]; rfl)
                clear hNo hYes hT HX HRR
                go_wp2
                exact ⟨⟨6, by omega, by go_num, HN.out, HRI4.out, HGB4.out⟩, by simp [intOf]⟩
          by_cases q : m = 6
          · subst q
            have l0 : wr.cell? ⟨w.heap.size + 1, 18, none⟩ = some (.int .i64 5) := by rw [hG.cell]; rfl
            have l1 : wr.cell? ⟨w.heap.size + 1, 19, none⟩ = some (.int .i64 0) := by rw [hG.cell]; rfl
            have l2 : wr.cell? ⟨w.heap.size + 1, 20, none⟩ = some (.string I) := by rw [hG.cell]; rfl
            have HF := Lib.hid hf
            have hNo : fits s (5, 0, I.data.toList) = false → Hid (refV s = firstL s ((candL s).drop 7)) := fun h => Lib.hid (by rw [HF.out, HCC.out]; exact firstL_no s _ _ h)
            have hYes : fits s (5, 0, I.data.toList) = true → Hid (refV s = .tuple #[valV 5 0 I, .bool true]) := fun h => Lib.hid (by rw [HF.out]; exact firstL_yes s _ _ h)
            clear hf hR hG hm
            go_wp2_with fail
            refine (refright_any 5 0 I _ (by first | omega | (rw [size_mk]; omega) | decide)).mono ?_
            rintro e w3 ⟨rfl, hb3⟩
            have B3 : Blk w3 wr.heap.size 47 #[.int .i64 5, .int .i64 0, .string I] := (Blk.new wr _ _).below hb3 (by simp)
            have hb3' := alloc_then hb3
            have hne : w.heap.size ≠ wr.heap.size := by omega
            have HRI3 := Lib.hid (HRI.out.then_ hb3')
            have HGB3 := Lib.hid (HGB.out.below hb3' HGB.out.lt)
            clear c0 c1 c2 f0 f1 f2 hltw l0 l1 l2 hb3 hb3' HRI HGB
            have HB3 := Lib.hid B3
            obtain ⟨v0, v1, v2, x0, x1, x2, hltv⟩ := B3.three
            clear B3
            cases hr : rightB 5 0 I.data.toList with
            | false =>
              have HN := hNo (by unfold fits; rw [show rightB ((5, 0, I.data.toList) : Int × Int × List UInt8).1 ((5, 0, I.data.toList) : Int × Int × List UInt8).2.1 ((5, 0, I.data.toList) : Int × Int × List UInt8).2.2 = false from hr]; rfl)
              clear hNo hYes hr
              go_wp2
              exact ⟨⟨7, by omega, by go_num, HN.out, HRI3.out, HGB3.out⟩, by simp [intOf]⟩
            | true =>
              have HRR := Lib.hid hr
              clear hr
              go_wp2_with fail
              refine (reftext_any 5 0 I _ (by first | omega | (rw [size_mk]; omega) | decide)).mono ?_
              rintro e w4 ⟨rfl, hb4⟩
              obtain ⟨X, hX⟩ : ∃ X, X = textB 5 0 I.data.toList := ⟨_, rfl⟩
              have HX := Lib.hid hX
              rw [← hX]
              unfold sv
              have HRI4 := Lib.hid (HRI3.out.then_ hb4)
              have HGB4 := Lib.hid (HGB3.out.below hb4 HGB3.out.lt)
              have B4 := HB3.out.below hb4 HB3.out.lt
              clear v0 v1 v2 x0 x1 x2 hltv hb4 HRI3 HGB3 HB3 hX
              obtain ⟨v0, v1, v2, x0, x1, x2, hltv⟩ := B4.three
              clear B4
              by_cases hT : X = s.data.toList
              · have hq : (X == s.toList) = true := by rw [Lib.toList_data, hT]; exact beq_self_eq_true _
                have HY := hYes (by unfold fits; rw [show rightB ((5, 0, I.data.toList) : Int × Int × List UInt8).1 ((5, 0, I.data.toList) : Int × Int × List UInt8).2.1 ((5, 0, I.data.toList) : Int × Int × List UInt8).2.2 = true from HRR.out]; show (true && decide (textB 5 0 I.data.toList = s.data.toList)) = true; rw [← HX.out, decide_eq_true hT]; rfl)
                clear hNo hYes hT HX HRR
                obtain ⟨c0, c1, c2, f0, f1, f2, hltw⟩ := HRI4.out.three
                go_wp2
                (try simp only [Exit.inBlock, Exit.then])
                refine bodyPost_ret (ret_cell rfl _ _ _ _ _ _ (.bool true) rfl (set3_blk HRI4.out _ _ _) Tryz.underlying47 rfl (by kernel_rfl) rfl) rfl ?_
                exact ⟨by rw [HY.out]; rfl, set3_below HRI4.out.below _ _ _⟩
              · have hq : (X == s.toList) = false := by rw [Lib.toList_data]; exact beq_eq_false_iff_ne.2 hT
                have HN := hNo (by unfold fits; rw [show rightB ((5, 0, I.data.toList) : Int × Int × List UInt8).1 ((5, 0, I.data.toList) : Int × Int × List UInt8).2.1 ((5, 0, I.data.toList) : Int × Int × List UInt8).2.2 = true from HRR.out]; show (true && decide (textB 5 0 I.data.toList = s.data.toList)) = false; rw [← HX.out, decide_eq_false hT]; rfl)
                clear hNo hYes hT HX HRR
                go_wp2
                exact ⟨⟨7, by omega, by go_num, HN.out, HRI4.out, HGB4.out⟩, by simp [intOf]⟩
          · obtain rfl : m = 7 := by omega
            have HF : Hid (refV s = noneV) := Lib.hid hf
            clear hf hR hG
            go_wp2
            (try simp only [Exit.inBlock, Exit.then])
            refine bodyPost_ret (ret_cell rfl _ _ _ _ _ _ (.bool false) rfl (set3_blk HRI.out _ _ _) Tryz.underlying47 rfl (by kernel_rfl) rfl) rfl ?_
            exact ⟨by rw [HF.out]; rfl, set3_below HRI.out.below _ _ _⟩
  · have h1' : ¬ (1 : Int) < (s.size : Int) := by omega
    have hI : Hid (innerS s = ⟨#[]⟩) := Lib.hid (by unfold innerS; rw [if_pos (by omega)])
    go_enter Tryz.func69, Tryz.ntmps69
    go_wp2
    clear h0' h2' he h1' h1
    go_loopw [5, 6] (fun b i wr => i = .int .i64 0 ∧ b = .string ⟨#[]⟩ ∧ w.alloc (.cells #[.int .i64 0, .int .i64 0, .string ⟨#[]⟩] 47) = wr) (fun _ _ _ => 0)
    case atStart => exact ⟨rfl, rfl, rfl⟩
    case round =>
      obtain ⟨rfl, rfl, rfl⟩ := hrel
      go_wp2_with fail
      refine (refnum_any s _ h0 (by have := HS.out; omega)).mono ?_
      rintro e w2 ⟨rfl, rfl⟩
      have HC : Hid (candL s = [(0, 0, []), (1, 0, []), (1, 1, []), (2, numR s.data.toList, []), (3, 0, []), (4, 0, []), (5, 0, [])]) := Lib.hid (by
        unfold candL; rw [hI.out]; rfl)
      clear hI
      generalize numR s.data.toList = nr at *
      go_wp2
      go_loopw [65] (fun j wr => ∃ m : Nat, m ≤ 7 ∧ j = .int .i64 m ∧ refV s = firstL s ((candL s).drop m) ∧ In1 w (.cells #[.int .i64 0, .int .i64 0, .string ⟨#[]⟩] 47) wr ∧ Blk wr (w.heap.size + 1) 47 #[.int .i64 0, .int .i64 0, .string ⟨#[]⟩, .int .i64 1, .int .i64 0, .string ⟨#[]⟩, .int .i64 1, .int .i64 1, .string ⟨#[]⟩, .int .i64 2, .int .i64 nr, .string ⟨#[]⟩, .int .i64 3, .int .i64 0, .string ⟨#[]⟩, .int .i64 4, .int .i64 0, .string (⟨#[]⟩ : ByteArray), .int .i64 5, .int .i64 0, .string (⟨#[]⟩ : ByteArray)]) (fun j _ => 7 - (intOf j).toNat)
      case atStart => exact ⟨0, by omega, rfl, rfl, In1.then_ (Below.refl _ _) (alloc_below _ _), by simpa using Blk.new (w.alloc (.cells #[.int .i64 0, .int .i64 0, .string ⟨#[]⟩] 47)) 47 #[.int .i64 0, .int .i64 0, .string ⟨#[]⟩, .int .i64 1, .int .i64 0, .string ⟨#[]⟩, .int .i64 1, .int .i64 1, .string ⟨#[]⟩, .int .i64 2, .int .i64 nr, .string ⟨#[]⟩, .int .i64 3, .int .i64 0, .string ⟨#[]⟩, .int .i64 4, .int .i64 0, .string (⟨#[]⟩ : ByteArray), .int .i64 5, .int .i64 0, .string (⟨#[]⟩ : ByteArray)]⟩
      case round =>
        obtain ⟨m, hm, rfl, hf, hR, hG⟩ := hrel
        rw [HC.out] at hf
        have HRI := Lib.hid hR
        have HGB := Lib.hid hG
        obtain ⟨c0, c1, c2, f0, f1, f2, hltw⟩ := hR.three
        have HCC := HC
        clear HC
        by_cases q : m = 0
        · subst q
          have l0 : wr.cell? ⟨w.heap.size + 1, 0, none⟩ = some (.int .i64 0) := by rw [hG.cell]; rfl
          have l1 : wr.cell? ⟨w.heap.size + 1, 1, none⟩ = some (.int .i64 0) := by rw [hG.cell]; rfl
          have l2 : wr.cell? ⟨w.heap.size + 1, 2, none⟩ = some (.string (⟨#[]⟩ : ByteArray)) := by rw [hG.cell]; rfl
          have HF := Lib.hid hf
          have hNo : fits s (0, 0, []) = false → Hid (refV s = firstL s ((candL s).drop 1)) := fun h => Lib.hid (by rw [HF.out, HCC.out]; exact firstL_no s _ _ h)
          have hYes : fits s (0, 0, []) = true → Hid (refV s = .tuple #[valV 0 0 (⟨#[]⟩ : ByteArray), .bool true]) := fun h => Lib.hid (by rw [HF.out]; exact firstL_yes s _ _ h)
          clear hf hR hG hm
          go_wp2_with fail
          refine (refright_any 0 0 (⟨#[]⟩ : ByteArray) _ (by first | omega | (rw [size_mk]; omega) | decide)).mono ?_
          rintro e w3 ⟨rfl, hb3⟩
          have B3 : Blk w3 wr.heap.size 47 #[.int .i64 0, .int .i64 0, .string (⟨#[]⟩ : ByteArray)] := (Blk.new wr _ _).below hb3 (by simp)
          have hb3' := alloc_then hb3
          have hne : w.heap.size ≠ wr.heap.size := by omega
          have HRI3 := Lib.hid (HRI.out.then_ hb3')
          have HGB3 := Lib.hid (HGB.out.below hb3' HGB.out.lt)
          clear c0 c1 c2 f0 f1 f2 hltw l0 l1 l2 hb3 hb3' HRI HGB
          have HB3 := Lib.hid B3
          obtain ⟨v0, v1, v2, x0, x1, x2, hltv⟩ := B3.three
          clear B3
          cases hr : rightB 0 0 (⟨#[]⟩ : ByteArray).data.toList with
          | false =>
            have HN := hNo (by unfold fits; rw [show rightB ((0, 0, []) : Int × Int × List UInt8).1 ((0, 0, []) : Int × Int × List UInt8).2.1 ((0, 0, []) : Int × Int × List UInt8).2.2 = false from hr]; rfl)
            clear hNo hYes hr
            go_wp2
            exact ⟨⟨1, by omega, by go_num, HN.out, HRI3.out, HGB3.out⟩, by simp [intOf]⟩
          | true =>
            have HRR := Lib.hid hr
            clear hr
            go_wp2_with fail
            refine (reftext_any 0 0 (⟨#[]⟩ : ByteArray) _ (by first | omega | (rw [size_mk]; omega) | decide)).mono ?_
            rintro e w4 ⟨rfl, hb4⟩
            obtain ⟨X, hX⟩ : ∃ X, X = textB 0 0 (⟨#[]⟩ : ByteArray).data.toList := ⟨_, rfl⟩
            have HX := Lib.hid hX
            rw [← hX]
            unfold sv
            have HRI4 := Lib.hid (HRI3.out.then_ hb4)
            have HGB4 := Lib.hid (HGB3.out.below hb4 HGB3.out.lt)
            have B4 := HB3.out.below hb4 HB3.out.lt
            clear v0 v1 v2 x0 x1 x2 hltv hb4 HRI3 HGB3 HB3 hX
            obtain ⟨v0, v1, v2, x0, x1, x2, hltv⟩ := B4.three
            clear B4
            by_cases hT : X = s.data.toList
            · have hq : (X == s.toList) = true := by rw [Lib.toList_data, hT]; exact beq_self_eq_true _
              have HY := hYes (by unfold fits; rw [show rightB ((0, 0, []) : Int × Int × List UInt8).1 ((0, 0, []) : Int × Int × List UInt8).2.1 ((0, 0, []) : Int × Int × List UInt8).2.2 = true from HRR.out]; show (true && decide (textB 0 0 (⟨#[]⟩ : ByteArray).data.toList = s.data.toList)) = true; rw [← HX.out, decide_eq_true hT]; rfl)
              clear hNo hYes hT HX HRR
              obtain ⟨c0, c1, c2, f0, f1, f2, hltw⟩ := HRI4.out.three
              go_wp2
              (try simp only [Exit.inBlock, Exit.then])
              refine bodyPost_ret (ret_cell rfl _ _ _ _ _ _ (.bool true) rfl (set3_blk HRI4.out _ _ _) Tryz.underlying47 rfl (by kernel_rfl) rfl) rfl ?_
              exact ⟨by rw [HY.out]; rfl, set3_below HRI4.out.below _ _ _⟩
            · have hq : (X == s.toList) = false := by rw [Lib.toList_data]; exact beq_eq_false_iff_ne.2 hT
              have HN := hNo (by unfold fits; rw [show rightB ((0, 0, []) : Int × Int × List UInt8).1 ((0, 0, []) : Int × Int × List UInt8).2.1 ((0, 0, []) : Int × Int × List UInt8).2.2 = true from HRR.out]; show (true && decide (textB 0 0 (⟨#[]⟩ : ByteArray).data.toList = s.data.toList)) = false; rw [← HX.out, decide_eq_false hT]; rfl)
              clear hNo hYes hT HX HRR
              go_wp2
              exact ⟨⟨1, by omega, by go_num, HN.out, HRI4.out, HGB4.out⟩, by simp [intOf]⟩
        by_cases q : m = 1
        · subst q
          have l0 : wr.cell? ⟨w.heap.size + 1, 3, none⟩ = some (.int .i64 1) := by rw [hG.cell]; rfl
          have l1 : wr.cell? ⟨w.heap.size + 1, 4, none⟩ = some (.int .i64 0) := by rw [hG.cell]; rfl
          have l2 : wr.cell? ⟨w.heap.size + 1, 5, none⟩ = some (.string (⟨#[]⟩ : ByteArray)) := by rw [hG.cell]; rfl
          have HF := Lib.hid hf
          have hNo : fits s (1, 0, []) = false → Hid (refV s = firstL s ((candL s).drop 2)) := fun h => Lib.hid (by rw [HF.out, HCC.out]; exact firstL_no s _ _ h)
          have hYes : fits s (1, 0, []) = true → Hid (refV s = .tuple #[valV 1 0 (⟨#[]⟩ : ByteArray), .bool true]) := fun h => Lib.hid (by rw [HF.out]; exact firstL_yes s _ _ h)
          clear hf hR hG hm
          go_wp2_with fail
          refine (refright_any 1 0 (⟨#[]⟩ : ByteArray) _ (by first | omega | (rw [size_mk]; omega) | decide)).mono ?_
          rintro e w3 ⟨rfl, hb3⟩
          have B3 : Blk w3 wr.heap.size 47 #[.int .i64 1, .int .i64 0, .string (⟨#[]⟩ : ByteArray)] := (Blk.new wr _ _).below hb3 (by simp)
          have hb3' := alloc_then hb3
          have hne : w.heap.size ≠ wr.heap.size := by omega
          have HRI3 := Lib.hid (HRI.out.then_ hb3')
          have HGB3 := Lib.hid (HGB.out.below hb3' HGB.out.lt)
          clear c0 c1 c2 f0 f1 f2 hltw l0 l1 l2 hb3 hb3' HRI HGB
          have HB3 := Lib.hid B3
          obtain ⟨v0, v1, v2, x0, x1, x2, hltv⟩ := B3.three
          clear B3
          cases hr : rightB 1 0 (⟨#[]⟩ : ByteArray).data.toList with
          | false =>
            have HN := hNo (by unfold fits; rw [show rightB ((1, 0, []) : Int × Int × List UInt8).1 ((1, 0, []) : Int × Int × List UInt8).2.1 ((1, 0, []) : Int × Int × List UInt8).2.2 = false from hr]; rfl)
            clear hNo hYes hr
            go_wp2
            exact ⟨⟨2, by omega, by go_num, HN.out, HRI3.out, HGB3.out⟩, by simp [intOf]⟩
          | true =>
            have HRR := Lib.hid hr
            clear hr
            go_wp2_with fail
            refine (reftext_any 1 0 (⟨#[]⟩ : ByteArray) _ (by first | omega | (rw [size_mk]; omega) | decide)).mono ?_
            rintro e w4 ⟨rfl, hb4⟩
            obtain ⟨X, hX⟩ : ∃ X, X = textB 1 0 (⟨#[]⟩ : ByteArray).data.toList := ⟨_, rfl⟩
            have HX := Lib.hid hX
            rw [← hX]
            unfold sv
            have HRI4 := Lib.hid (HRI3.out.then_ hb4)
            have HGB4 := Lib.hid (HGB3.out.below hb4 HGB3.out.lt)
            have B4 := HB3.out.below hb4 HB3.out.lt
            clear v0 v1 v2 x0 x1 x2 hltv hb4 HRI3 HGB3 HB3 hX
            obtain ⟨v0, v1, v2, x0, x1, x2, hltv⟩ := B4.three
            clear B4
            by_cases hT : X = s.data.toList
            · have hq : (X == s.toList) = true := by rw [Lib.toList_data, hT]; exact beq_self_eq_true _
              have HY := hYes (by unfold fits; rw [show rightB ((1, 0, []) : Int × Int × List UInt8).1 ((1, 0, []) : Int × Int × List UInt8).2.1 ((1, 0, []) : Int × Int × List UInt8).2.2 = true from HRR.out]; show (true && decide (textB 1 0 (⟨#[]⟩ : ByteArray).data.toList = s.data.toList)) = true; rw [← HX.out, decide_eq_true hT]; rfl)
              clear hNo hYes hT HX HRR
              obtain ⟨c0, c1, c2, f0, f1, f2, hltw⟩ := HRI4.out.three
              go_wp2
              (try simp only [Exit.inBlock, Exit.then])
              refine bodyPost_ret (ret_cell rfl _ _ _ _ _ _ (.bool true) rfl (set3_blk HRI4.out _ _ _) Tryz.underlying47 rfl (by kernel_rfl) rfl) rfl ?_
              exact ⟨by rw [HY.out]; rfl, set3_below HRI4.out.below _ _ _⟩
            · have hq : (X == s.toList) = false := by rw [Lib.toList_data]; exact beq_eq_false_iff_ne.2 hT
              have HN := hNo (by unfold fits; rw [show rightB ((1, 0, []) : Int × Int × List UInt8).1 ((1, 0, []) : Int × Int × List UInt8).2.1 ((1, 0, []) : Int × Int × List UInt8).2.2 = true from HRR.out]; show (true && decide (textB 1 0 (⟨#[]⟩ : ByteArray).data.toList = s.data.toList)) = false; rw [← HX.out, decide_eq_false hT]; rfl)
              clear hNo hYes hT HX HRR
              go_wp2
              exact ⟨⟨2, by omega, by go_num, HN.out, HRI4.out, HGB4.out⟩, by simp [intOf]⟩
        by_cases q : m = 2
        · subst q
          have l0 : wr.cell? ⟨w.heap.size + 1, 6, none⟩ = some (.int .i64 1) := by rw [hG.cell]; rfl
          have l1 : wr.cell? ⟨w.heap.size + 1, 7, none⟩ = some (.int .i64 1) := by rw [hG.cell]; rfl
          have l2 : wr.cell? ⟨w.heap.size + 1, 8, none⟩ = some (.string (⟨#[]⟩ : ByteArray)) := by rw [hG.cell]; rfl
          have HF := Lib.hid hf
          have hNo : fits s (1, 1, []) = false → Hid (refV s = firstL s ((candL s).drop 3)) := fun h => Lib.hid (by rw [HF.out, HCC.out]; exact firstL_no s _ _ h)
          have hYes : fits s (1, 1, []) = true → Hid (refV s = .tuple #[valV 1 1 (⟨#[]⟩ : ByteArray), .bool true]) := fun h => Lib.hid (by rw [HF.out]; exact firstL_yes s _ _ h)
          clear hf hR hG hm
          go_wp2_with fail
          refine (refright_any 1 1 (⟨#[]⟩ : ByteArray) _ (by first | omega | (rw [size_mk]; omega) | decide)).mono ?_
          rintro e w3 ⟨rfl, hb3⟩
          have B3 : Blk w3 wr.heap.size 47 #[.int .i64 1, .int .i64 1, .string (⟨#[]⟩ : ByteArray)] := (Blk.new wr _ _).below hb3 (by simp)
          have hb3' := alloc_then hb3
          have hne : w.heap.size ≠ wr.heap.size := by omega
          have HRI3 := Lib.hid (HRI.out.then_ hb3')
          have HGB3 := Lib.hid (HGB.out.below hb3' HGB.out.lt)
          clear c0 c1 c2 f0 f1 f2 hltw l0 l1 l2 hb3 hb3' HRI HGB
          have HB3 := Lib.hid B3
          obtain ⟨v0, v1, v2, x0, x1, x2, hltv⟩ := B3.three
          clear B3
          cases hr : rightB 1 1 (⟨#[]⟩ : ByteArray).data.toList with
          | false =>
            have HN := hNo (by unfold fits; rw [show rightB ((1, 1, []) : Int × Int × List UInt8).1 ((1, 1, []) : Int × Int × List UInt8).2.1 ((1, 1, []) : Int × Int × List UInt8).2.2 = false from hr]; rfl)
            clear hNo hYes hr
            go_wp2
            exact ⟨⟨3, by omega, by go_num, HN.out, HRI3.out, HGB3.out⟩, by simp [intOf]⟩
          | true =>
            have HRR := Lib.hid hr
            clear hr
            go_wp2_with fail
            refine (reftext_any 1 1 (⟨#[]⟩ : ByteArray) _ (by first | omega | (rw [size_mk]; omega) | decide)).mono ?_
            rintro e w4 ⟨rfl, hb4⟩
            obtain ⟨X, hX⟩ : ∃ X, X = textB 1 1 (⟨#[]⟩ : ByteArray).data.toList := ⟨_, rfl⟩
            have HX := Lib.hid hX
            rw [← hX]
            unfold sv
            have HRI4 := Lib.hid (HRI3.out.then_ hb4)
            have HGB4 := Lib.hid (HGB3.out.below hb4 HGB3.out.lt)
            have B4 := HB3.out.below hb4 HB3.out.lt
            clear v0 v1 v2 x0 x1 x2 hltv hb4 HRI3 HGB3 HB3 hX
            obtain ⟨v0, v1, v2, x0, x1, x2, hltv⟩ := B4.three
            clear B4
            by_cases hT : X = s.data.toList
            · have hq : (X == s.toList) = true := by rw [Lib.toList_data, hT]; exact beq_self_eq_true _
              have HY := hYes (by unfold fits; rw [show rightB ((1, 1, []) : Int × Int × List UInt8).1 ((1, 1, []) : Int × Int × List UInt8).2.1 ((1, 1, []) : Int × Int × List UInt8).2.2 = true from HRR.out]; show (true && decide (textB 1 1 (⟨#[]⟩ : ByteArray).data.toList = s.data.toList)) = true; rw [← HX.out, decide_eq_true hT]; rfl)
              clear hNo hYes hT HX HRR
              obtain ⟨c0, c1, c2, f0, f1, f2, hltw⟩ := HRI4.out.three
              go_wp2
              (try simp only [Exit.inBlock, Exit.then])
              refine bodyPost_ret (ret_cell rfl _ _ _ _ _ _ (.bool true) rfl (set3_blk HRI4.out _ _ _) Tryz.underlying47 rfl (by kernel_rfl) rfl) rfl ?_
              exact ⟨by rw [HY.out]; rfl, set3_below HRI4.out.below _ _ _⟩
            · have hq : (X == s.toList) = false := by rw [Lib.toList_data]; exact beq_eq_false_iff_ne.2 hT
              have HN := hNo (by unfold fits; rw [show rightB ((1, 1, []) : Int × Int × List UInt8).1 ((1, 1, []) : Int × Int × List UInt8).2.1 ((1, 1, []) : Int × Int × List UInt8).2.2 = true from HRR.out]; show (true && decide (textB 1 1 (⟨#[]⟩ : ByteArray).data.toList = s.data.toList)) = false; rw [← HX.out, decide_eq_false hT]; rfl)
              clear hNo hYes hT HX HRR
              go_wp2
              exact ⟨⟨3, by omega, by go_num, HN.out, HRI4.out, HGB4.out⟩, by simp [intOf]⟩
        by_cases q : m = 3
        · subst q
          have l0 : wr.cell? ⟨w.heap.size + 1, 9, none⟩ = some (.int .i64 2) := by rw [hG.cell]; rfl
          have l1 : wr.cell? ⟨w.heap.size + 1, 10, none⟩ = some (.int .i64 nr) := by rw [hG.cell]; rfl
          have l2 : wr.cell? ⟨w.heap.size + 1, 11, none⟩ = some (.string (⟨#[]⟩ : ByteArray)) := by rw [hG.cell]; rfl
          have HF := Lib.hid hf
          have hNo : fits s (2, nr, []) = false → Hid (refV s = firstL s ((candL s).drop 4)) := fun h => Lib.hid (by rw [HF.out, HCC.out]; exact firstL_no s _ _ h)
          have hYes : fits s (2, nr, []) = true → Hid (refV s = .tuple #[valV 2 nr (⟨#[]⟩ : ByteArray), .bool true]) := fun h => Lib.hid (by rw [HF.out]; exact firstL_yes s _ _ h)
          clear hf hR hG hm
          go_wp2_with fail
          refine (refright_any 2 nr (⟨#[]⟩ : ByteArray) _ (by first | omega | (rw [size_mk]; omega) | decide)).mono ?_
          rintro e w3 ⟨rfl, hb3⟩
          have B3 : Blk w3 wr.heap.size 47 #[.int .i64 2, .int .i64 nr, .string (⟨#[]⟩ : ByteArray)] := (Blk.new wr _ _).below hb3 (by simp)
          have hb3' := alloc_then hb3
          have hne : w.heap.size ≠ wr.heap.size := by omega
          have HRI3 := Lib.hid (HRI.out.then_ hb3')
          have HGB3 := Lib.hid (HGB.out.below hb3' HGB.out.lt)
          clear c0 c1 c2 f0 f1 f2 hltw l0 l1 l2 hb3 hb3' HRI HGB
          have HB3 := Lib.hid B3
          obtain ⟨v0, v1, v2, x0, x1, x2, hltv⟩ := B3.three
          clear B3
          cases hr : rightB 2 nr (⟨#[]⟩ : ByteArray).data.toList with
          | false =>
            have HN := hNo (by unfold fits; rw [show rightB ((2, nr, []) : Int × Int × List UInt8).1 ((2, nr, []) : Int × Int × List UInt8).2.1 ((2, nr, []) : Int × Int × List UInt8).2.2 = false from hr]; rfl)
            clear hNo hYes hr
            go_wp2
            exact ⟨⟨4, by omega, by go_num, HN.out, HRI3.out, HGB3.out⟩, by simp [intOf]⟩
          | true =>
            have HRR := Lib.hid hr
            clear hr
            go_wp2_with fail
            refine (reftext_any 2 nr (⟨#[]⟩ : ByteArray) _ (by first | omega | (rw [size_mk]; omega) | decide)).mono ?_
            rintro e w4 ⟨rfl, hb4⟩
            obtain ⟨X, hX⟩ : ∃ X, X = textB 2 nr (⟨#[]⟩ : ByteArray).data.toList := ⟨_, rfl⟩
            have HX := Lib.hid hX
            rw [← hX]
            unfold sv
            have HRI4 := Lib.hid (HRI3.out.then_ hb4)
            have HGB4 := Lib.hid (HGB3.out.below hb4 HGB3.out.lt)
            have B4 := HB3.out.below hb4 HB3.out.lt
            clear v0 v1 v2 x0 x1 x2 hltv hb4 HRI3 HGB3 HB3 hX
            obtain ⟨v0, v1, v2, x0, x1, x2, hltv⟩ := B4.three
            clear B4
            by_cases hT : X = s.data.toList
            · have hq : (X == s.toList) = true := by rw [Lib.toList_data, hT]; exact beq_self_eq_true _
              have HY := hYes (by unfold fits; rw [show rightB ((2, nr, []) : Int × Int × List UInt8).1 ((2, nr, []) : Int × Int × List UInt8).2.1 ((2, nr, []) : Int × Int × List UInt8).2.2 = true from HRR.out]; show (true && decide (textB 2 nr (⟨#[]⟩ : ByteArray).data.toList = s.data.toList)) = true; rw [← HX.out, decide_eq_true hT]; rfl)
              clear hNo hYes hT HX HRR
              obtain ⟨c0, c1, c2, f0, f1, f2, hltw⟩ := HRI4.out.three
              go_wp2
              (try simp only [Exit.inBlock, Exit.then])
              refine bodyPost_ret (ret_cell rfl _ _ _ _ _ _ (.bool true) rfl (set3_blk HRI4.out _ _ _) Tryz.underlying47 rfl (by kernel_rfl) rfl) rfl ?_
              exact ⟨by rw [HY.out]; rfl, set3_below HRI4.out.below _ _ _⟩
            · have hq : (X == s.toList) = false := by rw [Lib.toList_data]; exact beq_eq_false_iff_ne.2 hT
              have HN := hNo (by unfold fits; rw [show rightB ((2, nr, []) : Int × Int × List UInt8).1 ((2, nr, []) : Int × Int × List UInt8).2.1 ((2, nr, []) : Int × Int × List UInt8).2.2 = true from HRR.out]; show (true && decide (textB 2 nr (⟨#[]⟩ : ByteArray).data.toList = s.data.toList)) = false; rw [← HX.out, decide_eq_false hT]; rfl)
              clear hNo hYes hT HX HRR
              go_wp2
              exact ⟨⟨4, by omega, by go_num, HN.out, HRI4.out, HGB4.out⟩, by simp [intOf]⟩
        by_cases q : m = 4
        · subst q
          have l0 : wr.cell? ⟨w.heap.size + 1, 12, none⟩ = some (.int .i64 3) := by rw [hG.cell]; rfl
          have l1 : wr.cell? ⟨w.heap.size + 1, 13, none⟩ = some (.int .i64 0) := by rw [hG.cell]; rfl
          have l2 : wr.cell? ⟨w.heap.size + 1, 14, none⟩ = some (.string (⟨#[]⟩ : ByteArray)) := by rw [hG.cell]; rfl
          have HF := Lib.hid hf
          have hNo : fits s (3, 0, []) = false → Hid (refV s = firstL s ((candL s).drop 5)) := fun h => Lib.hid (by rw [HF.out, HCC.out]; exact firstL_no s _ _ h)
          have hYes : fits s (3, 0, []) = true → Hid (refV s = .tuple #[valV 3 0 (⟨#[]⟩ : ByteArray), .bool true]) := fun h => Lib.hid (by rw [HF.out]; exact firstL_yes s _ _ h)
          clear hf hR hG hm
          go_wp2_with fail
          refine (refright_any 3 0 (⟨#[]⟩ : ByteArray) _ (by first | omega | (rw [size_mk]; omega) | decide)).mono ?_
          rintro e w3 ⟨rfl, hb3⟩
          have B3 : Blk w3 wr.heap.size 47 #[.int .i64 3, .int .i64 0, .string (⟨#[]⟩ : ByteArray)] := (Blk.new wr _ _).below hb3 (by simp)
          have hb3' := alloc_then hb3
          have hne : w.heap.size ≠ wr.heap.size := by omega
          have HRI3 := Lib.hid (HRI.out.then_ hb3')
          have HGB3 := Lib.hid (HGB.out.below hb3' HGB.out.lt)
          clear c0 c1 c2 f0 f1 f2 hltw l0 l1 l2 hb3 hb3' HRI HGB
          have HB3 := Lib.hid B3
          obtain ⟨v0, v1, v2, x0, x1, x2, hltv⟩ := B3.three
          clear B3
          cases hr : rightB 3 0 (⟨#[]⟩ : ByteArray).data.toList with
          | false =>
            have HN := hNo (by unfold fits; rw [show rightB ((3, 0, []) : Int × Int × List UInt8).1 ((3, 0, []) : Int × Int × List UInt8).2.1 ((3, 0, []) : Int × Int × List UInt8).2.2 = false from hr]; rfl)
            clear hNo hYes hr
            go_wp2
            exact ⟨⟨5, by omega, by go_num, HN.out, HRI3.out, HGB3.out⟩, by simp [intOf]⟩
          | true =>
            have HRR := Lib.hid hr
            clear hr
            go_wp2_with fail
            refine (reftext_any 3 0 (⟨#[]⟩ : ByteArray) _ (by first | omega | (rw [size_mk]; omega) | decide)).mono ?_
            rintro e w4 ⟨rfl, hb4⟩
            obtain ⟨X, hX⟩ : ∃ X, X = textB 3 0 (⟨#[]⟩ : ByteArray).data.toList := ⟨_, rfl⟩
            have HX := Lib.hid hX
            rw [← hX]
            unfold sv
            have HRI4 := Lib.hid (HRI3.out.then_ hb4)
            have HGB4 := Lib.hid (HGB3.out.below hb4 HGB3.out.lt)
            have B4 := HB3.out.below hb4 HB3.out.lt
            clear v0 v1 v2 x0 x1 x2 hltv hb4 HRI3 HGB3 HB3 hX
            obtain ⟨v0, v1, v2, x0, x1, x2, hltv⟩ := B4.three
            clear B4
            by_cases hT : X = s.data.toList
            · have hq : (X == s.toList) = true := by rw [Lib.toList_data, hT]; exact beq_self_eq_true _
              have HY := hYes (by unfold fits; rw [show rightB ((3, 0, []) : Int × Int × List UInt8).1 ((3, 0, []) : Int × Int × List UInt8).2.1 ((3, 0, []) : Int × Int × List UInt8).2.2 = true from HRR.out]; show (true && decide (textB 3 0 (⟨#[]⟩ : ByteArray).data.toList = s.data.toList)) = true; rw [← HX.out, decide_eq_true hT]; rfl)
              clear hNo hYes hT HX HRR
              obtain ⟨c0, c1, c2, f0, f1, f2, hltw⟩ := HRI4.out.three
              go_wp2
              (try simp only [Exit.inBlock, Exit.then])
              refine bodyPost_ret (ret_cell rfl _ _ _ _ _ _ (.bool true) rfl (set3_blk HRI4.out _ _ _) Tryz.underlying47 rfl (by kernel_rfl) rfl) rfl ?_
              exact ⟨by rw [HY.out]; rfl, set3_below HRI4.out.below _ _ _⟩
            · have hq : (X == s.toList) = false := by rw [Lib.toList_data]; exact beq_eq_false_iff_ne.2 hT
              have HN := hNo (by unfold fits; rw [show rightB ((3, 0, []) : Int × Int × List UInt8).1 ((3, 0, []) : Int × Int × List UInt8).2.1 ((3, 0, []) : Int × Int × List UInt8).2.2 = true from HRR.out]; show (true && decide (textB 3 0 (⟨#[]⟩ : ByteArray).data.toList = s.data.toList)) = false; rw [← HX.out, decide_eq_false hT]; rfl)
              clear hNo hYes hT HX HRR
              go_wp2
              exact ⟨⟨5, by omega, by go_num, HN.out, HRI4.out, HGB4.out⟩, by simp [intOf]⟩
        by_cases q : m = 5
        · subst q
          have l0 : wr.cell? ⟨w.heap.size + 1, 15, none⟩ = some (.int .i64 4) := by rw [hG.cell]; rfl
          have l1 : wr.cell? ⟨w.heap.size + 1, 16, none⟩ = some (.int .i64 0) := by rw [hG.cell]; rfl
          have l2 : wr.cell? ⟨w.heap.size + 1, 17, none⟩ = some (.string (⟨#[]⟩ : ByteArray)) := by rw [hG.cell]; rfl
          have HF := Lib.hid hf
          have hNo : fits s (4, 0, []) = false → Hid (refV s = firstL s ((candL s).drop 6)) := fun h => Lib.hid (by rw [HF.out, HCC.out]; exact firstL_no s _ _ h)
          have hYes : fits s (4, 0, []) = true → Hid (refV s = .tuple #[valV 4 0 (⟨#[]⟩ : ByteArray), .bool true]) := fun h => Lib.hid (by rw [HF.out]; exact firstL_yes s _ _ h)
          clear hf hR hG hm
          go_wp2_with fail
          refine (refright_any 4 0 (⟨#[]⟩ : ByteArray) _ (by first | omega | (rw [size_mk]; omega) | decide)).mono ?_
          rintro e w3 ⟨rfl, hb3⟩
          have B3 : Blk w3 wr.heap.size 47 #[.int .i64 4, .int .i64 0, .string (⟨#[]⟩ : ByteArray)] := (Blk.new wr _ _).below hb3 (by simp)
          have hb3' := alloc_then hb3
          have hne : w.heap.size ≠ wr.heap.size := by omega
          have HRI3 := Lib.hid (HRI.out.then_ hb3')
          have HGB3 := Lib.hid (HGB.out.below hb3' HGB.out.lt)
          clear c0 c1 c2 f0 f1 f2 hltw l0 l1 l2 hb3 hb3' HRI HGB
          have HB3 := Lib.hid B3
          obtain ⟨v0, v1, v2, x0, x1, x2, hltv⟩ := B3.three
          clear B3
          cases hr : rightB 4 0 [] with
          | false =>
            have HN := hNo (by unfold fits; rw [show rightB ((4, 0, []) : Int × Int × List UInt8).1 ((4, 0, []) : Int × Int × List UInt8).2.1 ((4, 0, []) : Int × Int × List UInt8).2.2 = false from hr]; rfl)
            clear hNo hYes hr
            go_wp2
            exact ⟨⟨6, by omega, by go_num, HN.out, HRI3.out, HGB3.out⟩, by simp [intOf]⟩
          | true =>
            have HRR := Lib.hid hr
            clear hr
            go_wp2_with fail
            refine (reftext_any 4 0 (⟨#[]⟩ : ByteArray) _ (by first | omega | (rw [size_mk]; omega) | decide)).mono ?_
            rintro e w4 ⟨rfl, hb4⟩
            obtain ⟨X, hX⟩ : ∃ X, X = textB 4 0 [] := ⟨_, rfl⟩
            have HX := Lib.hid hX
            rw [← hX]
            unfold sv
            have HRI4 := Lib.hid (HRI3.out.then_ hb4)
            have HGB4 := Lib.hid (HGB3.out.below hb4 HGB3.out.lt)
            have B4 := HB3.out.below hb4 HB3.out.lt
            clear v0 v1 v2 x0 x1 x2 hltv hb4 HRI3 HGB3 HB3 hX
            obtain ⟨v0, v1, v2, x0, x1, x2, hltv⟩ := B4.three
            clear B4
            by_cases hT : X = s.data.toList
            · have hq : (X == s.toList) = true := by rw [Lib.toList_data, hT]; exact beq_self_eq_true _
              have HY := hYes (by unfold fits; rw [show rightB ((4, 0, []) : Int × Int × List UInt8).1 ((4, 0, []) : Int × Int × List UInt8).2.1 ((4, 0, []) : Int × Int × List UInt8).2.2 = true from HRR.out]; show (true && decide (textB 4 0 [] = s.data.toList)) = true; rw [← HX.out, decide_eq_true hT]; rfl)
              clear hNo hYes hT HX HRR
              obtain ⟨c0, c1, c2, f0, f1, f2, hltw⟩ := HRI4.out.three
              go_wp2
              (try simp only [Exit.inBlock, Exit.then])
              refine bodyPost_ret (ret_cell rfl _ _ _ _ _ _ (.bool true) rfl (set3_blk HRI4.out _ _ _) Tryz.underlying47 rfl (by kernel_rfl) rfl) rfl ?_
              exact ⟨by rw [HY.out]; rfl, set3_below HRI4.out.below _ _ _⟩
            · have hq : (X == s.toList) = false := by rw [Lib.toList_data]; exact beq_eq_false_iff_ne.2 hT
              have HN := hNo (by unfold fits; rw [show rightB ((4, 0, []) : Int × Int × List UInt8).1 ((4, 0, []) : Int × Int × List UInt8).2.1 ((4, 0, []) : Int × Int × List UInt8).2.2 = true from HRR.out]; show (true && decide (textB 4 0 [] = s.data.toList)) = false; rw [← HX.out, decide_eq_false hT]; rfl)
              clear hNo hYes hT HX HRR
              go_wp2
              exact ⟨⟨6, by omega, by go_num, HN.out, HRI4.out, HGB4.out⟩, by simp [intOf]⟩
        by_cases q : m = 6
        · subst q
          have l0 : wr.cell? ⟨w.heap.size + 1, 18, none⟩ = some (.int .i64 5) := by rw [hG.cell]; rfl
          have l1 : wr.cell? ⟨w.heap.size + 1, 19, none⟩ = some (.int .i64 0) := by rw [hG.cell]; rfl
          have l2 : wr.cell? ⟨w.heap.size + 1, 20, none⟩ = some (.string (⟨#[]⟩ : ByteArray)) := by rw [hG.cell]; rfl
          have HF := Lib.hid hf
          have hNo : fits s (5, 0, []) = false → Hid (refV s = firstL s ((candL s).drop 7)) := fun h => Lib.hid (by rw [HF.out, HCC.out]; exact firstL_no s _ _ h)
          have hYes : fits s (5, 0, []) = true → Hid (refV s = .tuple #[valV 5 0 (⟨#[]⟩ : ByteArray), .bool true]) := fun h => Lib.hid (by rw [HF.out]; exact firstL_yes s _ _ h)
          clear hf hR hG hm
          go_wp2_with fail
          refine (refright_any 5 0 (⟨#[]⟩ : ByteArray) _ (by first | omega | (rw [size_mk]; omega) | decide)).mono ?_
          rintro e w3 ⟨rfl, hb3⟩
          have B3 : Blk w3 wr.heap.size 47 #[.int .i64 5, .int .i64 0, .string (⟨#[]⟩ : ByteArray)] := (Blk.new wr _ _).below hb3 (by simp)
          have hb3' := alloc_then hb3
          have hne : w.heap.size ≠ wr.heap.size := by omega
          have HRI3 := Lib.hid (HRI.out.then_ hb3')
          have HGB3 := Lib.hid (HGB.out.below hb3' HGB.out.lt)
          clear c0 c1 c2 f0 f1 f2 hltw l0 l1 l2 hb3 hb3' HRI HGB
          have HB3 := Lib.hid B3
          obtain ⟨v0, v1, v2, x0, x1, x2, hltv⟩ := B3.three
          clear B3
          cases hr : rightB 5 0 [] with
          | false =>
            have HN := hNo (by unfold fits; rw [show rightB ((5, 0, []) : Int × Int × List UInt8).1 ((5, 0, []) : Int × Int × List UInt8).2.1 ((5, 0, []) : Int × Int × List UInt8).2.2 = false from hr]; rfl)
            clear hNo hYes hr
            go_wp2
            exact ⟨⟨7, by omega, by go_num, HN.out, HRI3.out, HGB3.out⟩, by simp [intOf]⟩
          | true =>
            have HRR := Lib.hid hr
            clear hr
            go_wp2_with fail
            refine (reftext_any 5 0 (⟨#[]⟩ : ByteArray) _ (by first | omega | (rw [size_mk]; omega) | decide)).mono ?_
            rintro e w4 ⟨rfl, hb4⟩
            obtain ⟨X, hX⟩ : ∃ X, X = textB 5 0 [] := ⟨_, rfl⟩
            have HX := Lib.hid hX
            rw [← hX]
            unfold sv
            have HRI4 := Lib.hid (HRI3.out.then_ hb4)
            have HGB4 := Lib.hid (HGB3.out.below hb4 HGB3.out.lt)
            have B4 := HB3.out.below hb4 HB3.out.lt
            clear v0 v1 v2 x0 x1 x2 hltv hb4 HRI3 HGB3 HB3 hX
            obtain ⟨v0, v1, v2, x0, x1, x2, hltv⟩ := B4.three
            clear B4
            by_cases hT : X = s.data.toList
            · have hq : (X == s.toList) = true := by rw [Lib.toList_data, hT]; exact beq_self_eq_true _
              have HY := hYes (by unfold fits; rw [show rightB ((5, 0, []) : Int × Int × List UInt8).1 ((5, 0, []) : Int × Int × List UInt8).2.1 ((5, 0, []) : Int × Int × List UInt8).2.2 = true from HRR.out]; show (true && decide (textB 5 0 [] = s.data.toList)) = true; rw [← HX.out, decide_eq_true hT]; rfl)
              clear hNo hYes hT HX HRR
              obtain ⟨c0, c1, c2, f0, f1, f2, hltw⟩ := HRI4.out.three
              go_wp2
              (try simp only [Exit.inBlock, Exit.then])
              refine bodyPost_ret (ret_cell rfl _ _ _ _ _ _ (.bool true) rfl (set3_blk HRI4.out _ _ _) Tryz.underlying47 rfl (by kernel_rfl) rfl) rfl ?_
              exact ⟨by rw [HY.out]; rfl, set3_below HRI4.out.below _ _ _⟩
            · have hq : (X == s.toList) = false := by rw [Lib.toList_data]; exact beq_eq_false_iff_ne.2 hT
              have HN := hNo (by unfold fits; rw [show rightB ((5, 0, []) : Int × Int × List UInt8).1 ((5, 0, []) : Int × Int × List UInt8).2.1 ((5, 0, []) : Int × Int × List UInt8).2.2 = true from HRR.out]; show (true && decide (textB 5 0 [] = s.data.toList)) = false; rw [← HX.out, decide_eq_false hT]; rfl)
              clear hNo hYes hT HX HRR
              go_wp2
              exact ⟨⟨7, by omega, by go_num, HN.out, HRI4.out, HGB4.out⟩, by simp [intOf]⟩
        · obtain rfl : m = 7 := by omega
          have HF : Hid (refV s = noneV) := Lib.hid hf
          clear hf hR hG
          go_wp2
          (try simp only [Exit.inBlock, Exit.then])
          refine bodyPost_ret (ret_cell rfl _ _ _ _ _ _ (.bool false) rfl (set3_blk HRI.out _ _ _) Tryz.underlying47 rfl (by kernel_rfl) rfl) rfl ?_
          exact ⟨by rw [HF.out]; rfl, set3_below HRI.out.below _ _ _⟩

end Go.Proofs.YtdabanocofimmaaGreatDoor
