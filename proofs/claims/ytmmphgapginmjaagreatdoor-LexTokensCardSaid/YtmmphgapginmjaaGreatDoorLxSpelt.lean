/-
  lex.spelt, lex.right, lex.Is: the contracts, by walks. Conditions: lengths; the world holds the library's tables (WOk).
-/
import Derived.Test.YtmmphgapginmjaaGreatDoorLxToks
import Derived.Test.YtmmphgapginmjaaGreatDoorOrder
namespace Go.Proofs.YtmmphgapginmjaaGreatDoor
open Go.RowKit

theorem wpList_val {P : Program} {ops : Array Oper} {rest : List Oper} {o : Oper} {a : Act} {w : World} {Q : Exit → Act → World → Prop} (hw : Region.wanted o (yielded ops a.tmps) = true) (v : Value) (w' : World)
    (hr : (execOp a.eval o).run P w = .ok (.value v) w') (h : wpList P ops Q rest (a.put o.dst v) w') : wpList P ops Q (o :: rest) a w :=
  wpList_step fun K hK => by
    rw [if_pos hw]
    unfold Oper.wp
    rw [hr]
    exact hK _ _ h
theorem str_inj {a b : List UInt8} : ((ByteArray.mk a.toArray).toList == (ByteArray.mk b.toArray).toList) = decide (a = b) := by
  rw [Lib.toList_data, Lib.toList_data]
  show (a.toArray.toList == b.toArray.toList) = _
  by_cases h : a = b
  · rw [decide_eq_true h, h]; exact beq_self_eq_true _
  · rw [decide_eq_false h]; exact beq_eq_false_iff_ne.2 (by simpa using h)
theorem run_eql_tk (u t : Lx.Tk) (w : World) : (binOp .eql 32 (tkV u) (tkV t)).run Tryz.prog w = .ok (.bool (decide (u = t))) w := by
  obtain ⟨a, b, c⟩ := u
  obtain ⟨a', b', c'⟩ := t
  unfold tkV
  dsimp only
  have hs := str_inj (a := c) (b := c')
  have hd : decide ((a, b, c) = (a', b', c')) = (decide (a = a') && (decide (b = b') && decide (c = c'))) := by
    rw [Bool.eq_iff_iff]
    simp [Prod.ext_iff]
  rw [hd]
  generalize (ByteArray.mk c.toArray) = X at *
  generalize (ByteArray.mk c'.toArray) = Y at *
  by_cases h1 : a = a'
  · by_cases h2 : b = b'
    · by_cases h3 : c = c'
      · rw [decide_eq_true h3] at hs
        have e1 : (a == a') = true := by rw [h1]; simp
        have e2 : (b == b') = true := by rw [h2]; simp
        rw [decide_eq_true h1, decide_eq_true h2, decide_eq_true h3]
        clear h1 h2 h3 hd
        go_simp
      · rw [decide_eq_false h3] at hs
        have e1 : (a == a') = true := by rw [h1]; simp
        have e2 : (b == b') = true := by rw [h2]; simp
        rw [decide_eq_true h1, decide_eq_true h2, decide_eq_false h3]
        clear h1 h2 h3 hd
        go_simp
    · have e1 : (a == a') = true := by rw [h1]; simp
      have e2 : (b == b') = false := beq_eq_false_iff_ne.2 h2
      rw [decide_eq_true h1, decide_eq_false h2]
      clear h1 h2 hd hs
      go_simp
  · have e1 : (a == a') = false := beq_eq_false_iff_ne.2 h1
    rw [decide_eq_false h1]
    clear h1 hd hs
    go_simp
theorem gd_tk (x y : Operand) (u t : Lx.Tk) (w : World) : (eqGuard .eql 32 x y (tkV u) (tkV t)).run Tryz.prog w = .ok () w := by
  unfold tkV; kernel_rfl

set_option maxRecDepth 100000 in
set_option maxHeartbeats 2000000 in
theorem spelt_any (t : Lx.Tk) (w : World) (hw : WOk w) (ht : t.2.2.length < 4294967281) : Calls Tryz.prog 18 #[tkV t] w (Gives w (.string ⟨(Lx.speltL t).toArray⟩)) := by
  obtain ⟨a, b, c⟩ := t
  have HW := Lib.hid hw
  have HS2 := Lib.hid (fun W hW => string_any 2 b ⟨#[]⟩ W (by decide) hW)
  have HS3 := Lib.hid (fun W hW => string_any 3 0 ⟨c.toArray⟩ W (by rw [size_mk]; exact ht) hW)
  rw [show (ByteArray.mk #[]).data.toList = [] from rfl] at HS2
  rw [show (ByteArray.mk c.toArray).data.toList = c by simp] at HS3
  unfold valV sv at HS2 HS3
  clear hw ht
  by_cases h3 : a = 3
  · have HF := Lib.hid (show Lx.speltL (a, b, c) = textB 2 b [] by unfold Lx.speltL; rw [if_pos h3])
    have e1 : (a == 3) = true := by rw [h3]; rfl
    clear h3
    unfold tkV
    go_enter Tryz.func18, Tryz.ntmps18
    go_wp2_with fail
    refine (HS2.out _ (HW.out.alloc _)).mono ?_
    rintro e w1 ⟨rfl, hb1⟩
    go_wp2
    go_ret
    exact ⟨by rw [HF.out]; rfl, alloc_then hb1⟩
  · have e1 : (a == 3) = false := beq_eq_false_iff_ne.2 h3
    by_cases h4 : a = 4
    · have HF := Lib.hid (show Lx.speltL (a, b, c) = textB 3 0 c by unfold Lx.speltL; rw [if_neg h3, if_pos h4])
      have e2 : (a == 4) = true := by rw [h4]; rfl
      clear h3 h4
      unfold tkV
      go_enter Tryz.func18, Tryz.ntmps18
      go_wp2_with fail
      refine (HS3.out _ (HW.out.alloc _)).mono ?_
      rintro e w1 ⟨rfl, hb1⟩
      go_wp2
      go_ret
      exact ⟨by rw [HF.out]; rfl, alloc_then hb1⟩
    · have HF := Lib.hid (show Lx.speltL (a, b, c) = c by unfold Lx.speltL; rw [if_neg h3, if_neg h4])
      have e2 : (a == 4) = false := beq_eq_false_iff_ne.2 h4
      clear h3 h4
      unfold tkV
      go_enter Tryz.func18, Tryz.ntmps18
      go_wp2
      go_ret
      exact ⟨by rw [HF.out]; rfl, alloc_below _ _⟩

theorem spelt_len (t : Lx.Tk) : (Lx.speltL t).length ≤ 130 + t.2.2.length := by
  unfold Lx.speltL
  have hb : ∀ k n l, (textB k n l).length ≤ 130 := by
    intro k n l
    cases hr : rightB k n l
    · unfold textB; rw [if_neg (by rw [hr]; decide)]; simp
    · exact Lx.text_len k n l hr
  split
  · have := hb 2 t.2.1 []; omega
  · split
    · have := hb 3 0 t.2.2; omega
    · omega

set_option maxRecDepth 100000 in
set_option maxHeartbeats 2000000 in
theorem lright_any (t : Lx.Tk) (w : World) (hw : WOk w) (ht : t.2.2.length < 4294967281) : Calls Tryz.prog 17 #[tkV t] w (Gives w (.bool (Lx.rightT t))) := by
  have HW := Lib.hid hw
  have HSp := Lib.hid (fun W hW => spelt_any t W hW ht)
  have HFi := Lib.hid (fun W hW => lfirst_any ⟨(Lx.speltL t).toArray⟩ W hW (by rw [size_mk]; have := spelt_len t; omega))
  rw [show (ByteArray.mk (Lx.speltL t).toArray).data.toList = Lx.speltL t by simp] at HFi
  have HR : Hid (Lx.rightT t = match Lx.firstO (Lx.speltL t) with | some (u, _) => decide (u = t) | none => false) := Lib.hid rfl
  clear hw ht
  obtain ⟨a, b, c⟩ := t
  cases hf : Lx.firstO (Lx.speltL (a, b, c)) with
  | none =>
    have HF := Lib.hid (show Lx.rightT (a, b, c) = false by rw [HR.out, hf])
    rw [hf] at HFi
    clear hf
    unfold tkV at HSp ⊢
    dsimp only at HSp ⊢
    go_enter Tryz.func17, Tryz.ntmps17
    go_wp2_with fail
    refine (HSp.out _ (HW.out.alloc _)).mono ?_
    rintro e w1 ⟨rfl, hb1⟩
    have k1 := In1.of hb1
    clear hb1
    go_wp2_with fail
    refine (HFi.out _ (HW.out.below k1.below)).mono ?_
    rintro e w2 ⟨rfl, hb2⟩
    have k2 := k1.then_ hb2
    have HB := Lib.hid (k2.below.trans ((alloc_below w2 (.cells #[.int .i64 0, .int .i64 0, .string ⟨#[]⟩] 32)).mono k2.below.size))
    clear hb2 k1 k2
    unfold rdV tkV
    dsimp only
    go_wp2_with fail
    go_ret
    exact ⟨by rw [HF.out]; rfl, HB.out⟩
  | some x =>
    obtain ⟨u, n⟩ := x
    have hn := (Lx.first_text hf).2.1
    obtain ⟨q, hq⟩ : ∃ q, decide (u = (a, b, c)) = q := ⟨_, rfl⟩
    have HF := Lib.hid (show Lx.rightT (a, b, c) = q by rw [HR.out, hf]; exact hq)
    rw [hf] at HFi
    have HEq := Lib.hid (fun W => run_eql_tk u (a, b, c) W)
    rw [hq] at HEq
    have hg : (0 : Int) < (n : Int) := by omega
    clear hf hq
    obtain ⟨ua, ub, uc⟩ := u
    unfold tkV at HSp HEq ⊢
    dsimp only at HSp HEq ⊢
    go_enter Tryz.func17, Tryz.ntmps17
    go_wp2_with fail
    refine (HSp.out _ (HW.out.alloc _)).mono ?_
    rintro e w1 ⟨rfl, hb1⟩
    have k1 := In1.of hb1
    clear hb1
    go_wp2_with fail
    refine (HFi.out _ (HW.out.below k1.below)).mono ?_
    rintro e w2 ⟨rfl, hb2⟩
    have k2 := k1.then_ hb2
    have HB := Lib.hid (k2.below.trans ((alloc_below w2 (.cells #[.int .i64 ua, .int .i64 ub, .string ⟨uc.toArray⟩] 32)).mono k2.below.size))
    obtain ⟨c0, c1, c2, f0, f1, f2, hlt⟩ := k2.three
    clear hb2 k1 k2
    unfold rdV tkV
    dsimp only
    go_wp2_with (first
      | (refine wpList_val (o := ⟨some 16, _, _, _, _, _⟩) rfl (.bool q) _ (run_bin_op rfl rfl rfl (gd_tk _ _ (ua, ub, uc) (a, b, c) _) (HEq.out _)) ?_)
      | fail)
    go_ret
    exact ⟨by rw [HF.out]; rfl, HB.out⟩

end Go.Proofs.YtmmphgapginmjaaGreatDoor
