/-
  hedgerowref18.size: the contract, by a walk (written by genlxc.py). Conditions: lengths.
-/
import Derived.Test.YtdabanocofimmaaGreatDoorJLxRefA
import Derived.Test.YtdabanocofimmaaGreatDoorJTkName
namespace Go.Proofs.YtdabanocofimmaaGreatDoor
open Go.RowKit
namespace Ot
def pN (tab : List (Option Value)) (Z : Nat → Value → World → Prop) (i : Nat) (v : Value) (W : World) : Prop := match tab.getD i none with | some u => v = u | none => Z i v W
theorem pN_keep {tab : List (Option Value)} {Z : Nat → Value → World → Prop} (hZ : ∀ i v w w', Below w.heap.size w w' → Z i v w → Z i v w') (i : Nat) (v : Value) (w w' : World) (hb : Below w.heap.size w w') (h : pN tab Z i v w) : pN tab Z i v w' := by
  unfold pN at *
  split at h
  · exact h
  · exact hZ _ _ _ _ hb h
end Ot

def vB : Bool → Value → Value
  | true, v => v
  | false, _ => undef
theorem gt_isT (a b : Int) (q : Bool) (h : decide (b < a) = q) (w : World) : (binOp .gtr 3 (.int .i64 a) (.int .i64 b)).run Tryz.prog w = .ok (.bool q) w := by
  subst h
  by_cases h : b < a
  · rw [decide_eq_true h]; go_simp
  · rw [decide_eq_false h]; go_simp
theorem run_lenS_op {o : Oper} {ρ : Operand → Value} {w : World} {x : Operand} {s : ByteArray} (ho : o.op = .call { callee := .builtin .len, args := #[x], argTypes := #[9] }) (hx : ρ x = .string s) : (execOp ρ o).run Tryz.prog w = .ok (.value (.int .i64 (s.size : Int))) w := by
  unfold execOp
  simp only [ho, resolve, invoke, builtin, List.map_toArray, List.map_cons, List.map_nil, hx]
  go_simp
theorem run_sliceTo_op {o : Oper} {ρ : Operand → Value} {w : World} {x : Operand} {s : ByteArray} {n : Nat} (ho : o.op = .slice 9 x none (some (.const (.int .i64 (n : Nat)))) none) (hx : ρ x = .string s) (hc : ρ (.const (.int .i64 (n : Nat))) = .int .i64 (n : Nat)) (hn : n ≤ s.size) : (execOp ρ o).run Tryz.prog w = .ok (.value (.string (s.extract 0 n))) w := by
  have h1 : ((n : Nat) : Int) ≤ (s.size : Int) := by omega
  have h0 : (0 : Int) ≤ ((n : Nat) : Int) := by omega
  unfold execOp
  simp only [ho, hx, Option.map_some, Option.map_none, hc]
  go_simp

set_option maxRecDepth 100000 in
set_option maxHeartbeats 4000000 in
theorem rsize_any (s : ByteArray) (w : World) (h0 : 0 < s.size) (hs : s.size ≤ 9223372036854775800) : Calls Tryz.prog 41 #[.string s] w (Gives w (.int .i64 ((Lx.sizeR s.data.toList : Nat) : Int))) := by
  obtain ⟨c, hc⟩ : ∃ c : Int, ((s[0]'h0).toNat : Int) = c := ⟨_, rfl⟩
  have hh : s.data.toList.headD 0 = s[0]'h0 := (head_at s h0).symm
  have hlen : s.data.toList.length = s.size := by rw [Array.length_toList]; rfl
  obtain ⟨R, hR⟩ : ∃ R, Lx.sizeR s.data.toList = R := ⟨_, rfl⟩
  obtain ⟨g, hg⟩ : ∃ g, decide ((1 : Int) < (s.size : Int)) = g := ⟨_, rfl⟩
  obtain ⟨q2, hq2⟩ : ∃ q, Lx.signs.contains (s.data.toList.take 2) = q := ⟨_, rfl⟩
  obtain ⟨q1, hq1⟩ : ∃ q, Lx.signs.contains (s.data.toList.take 1) = q := ⟨_, rfl⟩
  have h39 : (s[0]'h0 = 39) ↔ c = 39 := by rw [← hc]; exact ⟨fun e => by rw [e]; rfl, fun e => by apply UInt8.toNat_inj.1; show _ = 39; omega⟩
  have hgn : decide (1 < s.data.toList.length) = g := by rw [← hg, hlen]; exact decide_eq_decide.2 (by omega)
  have HR : Hid (R = if digI c = true then (Lx.runL Lx.inNums s.data.toList).length else if lettB c = true then (Lx.runL Lx.inNames s.data.toList).length
      else if c = 39 then (if Lx.qe (s.data.toList.drop 1) = 0 then 0 else Lx.qe (s.data.toList.drop 1) + 1) else if (g && q2) = true then 2 else if q1 = true then 1 else 0) := Lib.hid (by
    rw [← hR]
    unfold Lx.sizeR
    rw [hh, hgn, hq2, hq1]
    simp only [h39]
    rw [show Lx.digU (s[0]'h0) = digI c by rw [← hc]; rfl, show Lx.letU (s[0]'h0) = lettB c by rw [← hc]; rfl])
  rw [hR]
  have HIn2 := Lib.hid (show ∀ b W, Blk W b 9 (strA Lx.signs) → Calls Tryz.prog 67 #[.slice (some ⟨b, 0, none⟩) 20 20, .string (s.extract 0 2)] W (SameV W (.bool q2)) from fun b W hB => by
    have := rin_any Lx.signs (s.data.toList.take 2) b 20 W rfl (by omega) hB
    rwa [hq2, show (ByteArray.mk (s.data.toList.take 2).toArray) = s.extract 0 2 from (str_eq (by simp)).symm] at this)
  have HIn1 := Lib.hid (show ∀ b W, Blk W b 9 (strA Lx.signs) → Calls Tryz.prog 67 #[.slice (some ⟨b, 0, none⟩) 20 20, .string (s.extract 0 1)] W (SameV W (.bool q1)) from fun b W hB => by
    have := rin_any Lx.signs (s.data.toList.take 1) b 20 W rfl (by omega) hB
    rwa [hq1, show (ByteArray.mk (s.data.toList.take 1).toArray) = s.extract 0 1 from (str_eq (by simp)).symm] at this)
  have HG := Lib.hid hg
  have HG2 := Lib.hid (show g = true → 2 ≤ s.size from fun e => by rw [e] at hg; have := of_decide_eq_true hg; omega)
  have HG1 := Lib.hid (show 1 ≤ s.size from h0)
  have HR1 := Lib.hid (fun W => rrun1_any s W hs)
  have HR2 := Lib.hid (fun W => rrun2_any s W hs)
  have HTx := Lib.hid (fun W => rtext_any s W h0 hs)
  have g0 : (0 : Int) < (s.size : Int) := by omega
  have hc0 : 0 ≤ c := by omega
  clear hh hlen hR hg hq2 hq1 h39 hgn hs
  have hcase : (48 ≤ c ∧ c ≤ 57) ∨ (97 ≤ c ∧ c ≤ 122) ∨ (65 ≤ c ∧ c ≤ 90) ∨ c = 39 ∨ (c < 48 ∧ c ≠ 39) ∨ (57 < c ∧ c < 65) ∨ (90 < c ∧ c < 97) ∨ 122 < c := by omega
  clear hc0
  rcases hcase with hcs | hcs | hcs | hcs | hcs | hcs | hcs | hcs
  ·
    have k0 : (48 : Int) ≤ c := by omega
    have k1 : c ≤ 57 := by omega
    have k2 : ¬ (97 : Int) ≤ c := by omega
    have k3 : c ≤ 122 := by omega
    have k4 : ¬ (65 : Int) ≤ c := by omega
    have k5 : c ≤ 90 := by omega
    have k6 : (c == 39) = false := by rw [beq_eq_false_iff_ne]; omega
    have HF := Lib.hid (show (Lx.runL Lx.inNums s.data.toList).length = R by rw [HR.out, if_pos (by unfold digI; simp; omega)])
    clear hcs
    go_enter Tryz.func41, Tryz.ntmps41
    go_wp2_with fail
    refine (HR2.out _).mono ?_
    rintro e w1 ⟨rfl, rfl⟩
    go_wp2_with fail
    go_ret
    exact ⟨by rw [← HF.out]; rfl, Below.refl _ _⟩
  ·
    have k0 : (48 : Int) ≤ c := by omega
    have k1 : ¬ c ≤ 57 := by omega
    have k2 : (97 : Int) ≤ c := by omega
    have k3 : c ≤ 122 := by omega
    have k4 : (65 : Int) ≤ c := by omega
    have k5 : ¬ c ≤ 90 := by omega
    have k6 : (c == 39) = false := by rw [beq_eq_false_iff_ne]; omega
    have HF := Lib.hid (show (Lx.runL Lx.inNames s.data.toList).length = R by rw [HR.out, if_neg (by unfold digI; simp; omega), if_pos (by unfold lettB; simp; omega)])
    clear hcs
    go_enter Tryz.func41, Tryz.ntmps41
    go_wp2_with fail
    refine (HR1.out _).mono ?_
    rintro e w1 ⟨rfl, rfl⟩
    go_wp2_with fail
    go_ret
    exact ⟨by rw [← HF.out]; rfl, Below.refl _ _⟩
  ·
    have k0 : (48 : Int) ≤ c := by omega
    have k1 : ¬ c ≤ 57 := by omega
    have k2 : ¬ (97 : Int) ≤ c := by omega
    have k3 : c ≤ 122 := by omega
    have k4 : (65 : Int) ≤ c := by omega
    have k5 : c ≤ 90 := by omega
    have k6 : (c == 39) = false := by rw [beq_eq_false_iff_ne]; omega
    have HF := Lib.hid (show (Lx.runL Lx.inNames s.data.toList).length = R by rw [HR.out, if_neg (by unfold digI; simp; omega), if_pos (by unfold lettB; simp; omega)])
    clear hcs
    go_enter Tryz.func41, Tryz.ntmps41
    go_wp2_with fail
    refine (HR1.out _).mono ?_
    rintro e w1 ⟨rfl, rfl⟩
    go_wp2_with fail
    go_ret
    exact ⟨by rw [← HF.out]; rfl, Below.refl _ _⟩
  ·
    have k0 : ¬ (48 : Int) ≤ c := by omega
    have k1 : c ≤ 57 := by omega
    have k2 : ¬ (97 : Int) ≤ c := by omega
    have k3 : c ≤ 122 := by omega
    have k4 : ¬ (65 : Int) ≤ c := by omega
    have k5 : c ≤ 90 := by omega
    have k6 : (c == 39) = true := by rw [hcs]; rfl
    have HF := Lib.hid (show R = if Lx.qe (s.data.toList.drop 1) = 0 then 0 else Lx.qe (s.data.toList.drop 1) + 1 by rw [HR.out, if_neg (by unfold digI; simp; omega), if_neg (by unfold lettB; simp; omega), if_pos hcs])
    rw [← HF.out] at HTx
    clear hcs
    go_enter Tryz.func41, Tryz.ntmps41
    go_wp2_with fail
    refine (HTx.out _).mono ?_
    rintro e w1 ⟨rfl, rfl⟩
    go_wp2_with fail
    go_ret
    exact ⟨rfl, Below.refl _ _⟩
  · have k0 : ¬ (48 : Int) ≤ c := by omega
    have k1 : c ≤ 57 := by omega
    have k2 : ¬ (97 : Int) ≤ c := by omega
    have k3 : c ≤ 122 := by omega
    have k4 : ¬ (65 : Int) ≤ c := by omega
    have k5 : c ≤ 90 := by omega
    have k6 : (c == 39) = false := by rw [beq_eq_false_iff_ne]; omega
    have HF := Lib.hid (show R = if (g && q2) = true then 2 else if q1 = true then 1 else 0 by rw [HR.out, if_neg (by unfold digI; simp; omega), if_neg (by unfold lettB; simp; omega), if_neg (by omega)])
    clear hcs
    go_enter Tryz.func41, Tryz.ntmps41
    go_upto_region 8 with fail
    refine wp_region_any (by kernel_rfl) ?_
    refine wpAny_below (Ot.pN [some (.string s), some (.int .i64 (s.size : Int)), some (.bool g), some (.bool g), none, some (vB (g) (.string s)), some (vB (g) (.string (s.extract 0 2))), some (vB (g) (.bool q2)), some (.bool (g && q2))] (fun iq v W => match iq with | 4 => g = true → ∃ b, v = .slice (some ⟨b, 0, none⟩) 20 20 ∧ Blk W b 9 (strA Lx.signs) | _ => True)) _ w (by kernel_rfl) (by kernel_rfl) (by kernel_rfl) (fun i v w w' hb h => Ot.pN_keep (fun i v w w' hb h => by
      try dsimp only at h ⊢
      split at h
      · exact fun e => ⟨(h e).choose, (h e).choose_spec.1, Blk.below (h e).choose_spec.2 hb (Blk.lt (h e).choose_spec.2)⟩
      · trivial) i v w w' hb h) ?_ ?_
    · refine ⟨?_, ?_, ?_, ?_, ?_, ?_, ?_, ?_, ?_, trivial⟩
      · intro ac W hI hun haft hi
        have e0 : ac.eval (.tmp 0) = .string s := hun 0 (by kernel_rfl)
        exact b_same hi hI rfl _ (run_move_op rfl e0) rfl
      · intro ac W hI hun haft hi
        have f0 : ac.eval (.tmp 34) = .string s := haft ⟨0, .data⟩ (by simp) rfl _ _ rfl rfl
        exact b_same hi hI rfl _ (run_lenS_op rfl f0) rfl
      · intro ac W hI hun haft hi
        have f1 : ac.eval (.tmp 35) = .int .i64 (s.size : Int) := haft ⟨1, .data⟩ (by simp) rfl _ _ rfl rfl
        exact b_same hi hI rfl _ (run_bin_op rfl f1 rfl (guardIT _ _ _ _ _ _ _ _ _) (gt_isT _ _ _ HG.out W)) rfl
      · intro ac W hI hun haft hi
        have f2 : ac.eval (.tmp 36) = .bool g := haft ⟨2, .data⟩ (by simp) rfl _ _ rfl rfl
        exact b_same hi hI rfl _ (run_move_op rfl f2) rfl
      · intro ac W hI hun haft hi
        have fg : ac.eval (.tmp 37) = .bool g := haft ⟨3, .guard⟩ (by simp) rfl _ _ rfl rfl
        cases g
        case false => exact b_skip hi hI (guard_no rfl rfl rfl (.inl fg)) (fun h => by cases h)
        case true =>
          refine b_call hi hI (guard_ok rfl rfl rfl fg) _ _ (run_call_op (args := #[]) rfl (by simp) (by kernel_rfl)) ?_
          exact (rsigns_any W).mono fun e w' H => ⟨_, H.1, fun _ => ⟨_, rfl, by rw [H.2]; exact Blk.new _ _ _⟩, by rw [H.2]; exact alloc_below _ _⟩
      · intro ac W hI hun haft hi
        have fg : ac.eval (.tmp 37) = .bool g := haft ⟨3, .guard⟩ (by simp) rfl _ _ rfl rfl
        have e0 : ac.eval (.tmp 0) = .string s := hun 0 (by kernel_rfl)
        cases g
        case false => exact b_skip hi hI (guard_no rfl rfl rfl (.inl fg)) rfl
        case true =>
          exact b_same hi hI (guard_ok rfl rfl rfl fg) _ (run_move_op rfl e0) rfl
      · intro ac W hI hun haft hi
        have fg : ac.eval (.tmp 37) = .bool g := haft ⟨3, .guard⟩ (by simp) rfl _ _ rfl rfl
        have f5 : ac.eval (.tmp 39) = vB (g) (.string s) := haft ⟨5, .data⟩ (by simp) rfl _ _ rfl rfl
        cases g
        case false => exact b_skip hi hI (guard_no rfl rfl rfl (.inl fg)) rfl
        case true =>
          exact b_same hi hI (guard_ok rfl rfl rfl fg) _ (run_sliceTo_op (n := 2) rfl f5 rfl (HG2.out rfl)) rfl
      · intro ac W hI hun haft hi
        have fg : ac.eval (.tmp 37) = .bool g := haft ⟨3, .guard⟩ (by simp) rfl _ _ rfl rfl
        have f4 : g = true → ∃ b, (ac.eval (.tmp 38)) = .slice (some ⟨b, 0, none⟩) 20 20 ∧ Blk W b 9 (strA Lx.signs) := haft ⟨4, .data⟩ (by simp) rfl _ _ rfl rfl
        have f6 : ac.eval (.tmp 40) = vB (g) (.string (s.extract 0 2)) := haft ⟨6, .data⟩ (by simp) rfl _ _ rfl rfl
        cases g
        case false => exact b_skip hi hI (guard_no rfl rfl rfl (.inl fg)) rfl
        case true =>
          obtain ⟨b, hb, hB⟩ := f4 rfl
          refine b_call hi hI (guard_ok rfl rfl rfl fg) _ _ (run_call_op (args := #[.slice (some ⟨b, 0, none⟩) 20 20, .string (s.extract 0 2)]) rfl (by simp [hb, f6, vB]) (by kernel_rfl)) ?_
          exact (HIn2.out b W hB).mono fun e w' H => ⟨_, H.1, rfl, by rw [← H.2]; exact Below.refl _ _⟩
      · intro ac W hI hun haft hi
        have f3 : ac.eval (.tmp 37) = .bool g := haft ⟨3, .data⟩ (by simp) rfl _ _ rfl rfl
        have f7 : ac.eval (.tmp 41) = vB (g) (.bool q2) := haft ⟨7, .data⟩ (by simp) rfl _ _ rfl rfl
        cases g
        case true => exact b_same hi hI rfl _ (run_pick_op (b := true) rfl f3 f7 rfl) rfl
        case false => exact b_same hi hI rfl _ (run_pick_op (b := false) rfl f3 f7 rfl) rfl
    intro vals wa hI hp
    have h8 : vals 8 = .bool (g && q2) := hp 8 (by decide)
    have HBa := Lib.hid hI
    clear hp hI
    obtain ⟨b2, hb2⟩ : ∃ b, (g && q2) = b := ⟨_, rfl⟩
    rw [hb2] at h8 HF
    clear hb2
    simp only [layN, List.size_toArray, List.length_cons, List.length_nil, List.range, List.range.loop, if_true, List.getElem?_toArray, List.getElem?_cons_zero, List.getElem?_cons_succ, Act.put, List.setIfInBounds_toArray, List.set_cons_zero, List.set_cons_succ, Nat.zero_add, Nat.reduceAdd, h8]
    clear h8
    cases b2 with
    | true =>
      go_wp2_with fail
      go_ret
      exact ⟨by rw [HF.out]; rfl, HBa.out⟩
    | false =>
      go_upto_region 10 with fail
      refine wp_region_any (by kernel_rfl) ?_
      refine wpAny_below (Ot.pN [none, some (.string s), some (.string (s.extract 0 1)), some (.bool q1)] (fun iq v W => match iq with | 0 => true = true → ∃ b, v = .slice (some ⟨b, 0, none⟩) 20 20 ∧ Blk W b 9 (strA Lx.signs) | _ => True)) _ wa (by kernel_rfl) (by kernel_rfl) (by kernel_rfl) (fun i v w w' hb h => Ot.pN_keep (fun i v w w' hb h => by
        try dsimp only at h ⊢
        split at h
        · exact fun e => ⟨(h e).choose, (h e).choose_spec.1, Blk.below (h e).choose_spec.2 hb (Blk.lt (h e).choose_spec.2)⟩
        · trivial) i v w w' hb h) ?_ ?_
      · refine ⟨?_, ?_, ?_, ?_, trivial⟩
        · intro ac W hI hun haft hi
          refine b_call hi hI rfl _ _ (run_call_op (args := #[]) rfl (by simp) (by kernel_rfl)) ?_
          exact (rsigns_any W).mono fun e w' H => ⟨_, H.1, fun _ => ⟨_, rfl, by rw [H.2]; exact Blk.new _ _ _⟩, by rw [H.2]; exact alloc_below _ _⟩
        · intro ac W hI hun haft hi
          have e0 : ac.eval (.tmp 0) = .string s := hun 0 (by kernel_rfl)
          exact b_same hi hI rfl _ (run_move_op rfl e0) rfl
        · intro ac W hI hun haft hi
          have f1 : ac.eval (.tmp 44) = .string s := haft ⟨1, .data⟩ (by simp) rfl _ _ rfl rfl
          exact b_same hi hI rfl _ (run_sliceTo_op (n := 1) rfl f1 rfl HG1.out) rfl
        · intro ac W hI hun haft hi
          have f0 : true = true → ∃ b, (ac.eval (.tmp 43)) = .slice (some ⟨b, 0, none⟩) 20 20 ∧ Blk W b 9 (strA Lx.signs) := haft ⟨0, .data⟩ (by simp) rfl _ _ rfl rfl
          have f2 : ac.eval (.tmp 45) = .string (s.extract 0 1) := haft ⟨2, .data⟩ (by simp) rfl _ _ rfl rfl
          obtain ⟨b, hb, hB⟩ := f0 rfl
          refine b_call hi hI rfl _ _ (run_call_op (args := #[.slice (some ⟨b, 0, none⟩) 20 20, .string (s.extract 0 1)]) rfl (by simp [hb, f2]) (by kernel_rfl)) ?_
          exact (HIn1.out b W hB).mono fun e w' H => ⟨_, H.1, rfl, by rw [← H.2]; exact Below.refl _ _⟩
      intro vals2 wb hI hp
      have h3 : vals2 3 = .bool q1 := hp 3 (by decide)
      have HBb := Lib.hid (HBa.out.trans (hI.mono HBa.out.size))
      clear hp hI
      simp only [layN, List.size_toArray, List.length_cons, List.length_nil, List.range, List.range.loop, if_true, List.getElem?_toArray, List.getElem?_cons_zero, List.getElem?_cons_succ, Act.put, List.setIfInBounds_toArray, List.set_cons_zero, List.set_cons_succ, Nat.zero_add, Nat.reduceAdd, h3]
      clear h3
      cases q1 with
      | true =>
        go_wp2_with fail
        go_ret
        exact ⟨by rw [HF.out]; rfl, HBb.out⟩
      | false =>
        go_wp2_with fail
        go_ret
        exact ⟨by rw [HF.out]; rfl, HBb.out⟩
  · have k0 : (48 : Int) ≤ c := by omega
    have k1 : ¬ c ≤ 57 := by omega
    have k2 : ¬ (97 : Int) ≤ c := by omega
    have k3 : c ≤ 122 := by omega
    have k4 : ¬ (65 : Int) ≤ c := by omega
    have k5 : c ≤ 90 := by omega
    have k6 : (c == 39) = false := by rw [beq_eq_false_iff_ne]; omega
    have HF := Lib.hid (show R = if (g && q2) = true then 2 else if q1 = true then 1 else 0 by rw [HR.out, if_neg (by unfold digI; simp; omega), if_neg (by unfold lettB; simp; omega), if_neg (by omega)])
    clear hcs
    go_enter Tryz.func41, Tryz.ntmps41
    go_upto_region 8 with fail
    refine wp_region_any (by kernel_rfl) ?_
    refine wpAny_below (Ot.pN [some (.string s), some (.int .i64 (s.size : Int)), some (.bool g), some (.bool g), none, some (vB (g) (.string s)), some (vB (g) (.string (s.extract 0 2))), some (vB (g) (.bool q2)), some (.bool (g && q2))] (fun iq v W => match iq with | 4 => g = true → ∃ b, v = .slice (some ⟨b, 0, none⟩) 20 20 ∧ Blk W b 9 (strA Lx.signs) | _ => True)) _ w (by kernel_rfl) (by kernel_rfl) (by kernel_rfl) (fun i v w w' hb h => Ot.pN_keep (fun i v w w' hb h => by
      try dsimp only at h ⊢
      split at h
      · exact fun e => ⟨(h e).choose, (h e).choose_spec.1, Blk.below (h e).choose_spec.2 hb (Blk.lt (h e).choose_spec.2)⟩
      · trivial) i v w w' hb h) ?_ ?_
    · refine ⟨?_, ?_, ?_, ?_, ?_, ?_, ?_, ?_, ?_, trivial⟩
      · intro ac W hI hun haft hi
        have e0 : ac.eval (.tmp 0) = .string s := hun 0 (by kernel_rfl)
        exact b_same hi hI rfl _ (run_move_op rfl e0) rfl
      · intro ac W hI hun haft hi
        have f0 : ac.eval (.tmp 34) = .string s := haft ⟨0, .data⟩ (by simp) rfl _ _ rfl rfl
        exact b_same hi hI rfl _ (run_lenS_op rfl f0) rfl
      · intro ac W hI hun haft hi
        have f1 : ac.eval (.tmp 35) = .int .i64 (s.size : Int) := haft ⟨1, .data⟩ (by simp) rfl _ _ rfl rfl
        exact b_same hi hI rfl _ (run_bin_op rfl f1 rfl (guardIT _ _ _ _ _ _ _ _ _) (gt_isT _ _ _ HG.out W)) rfl
      · intro ac W hI hun haft hi
        have f2 : ac.eval (.tmp 36) = .bool g := haft ⟨2, .data⟩ (by simp) rfl _ _ rfl rfl
        exact b_same hi hI rfl _ (run_move_op rfl f2) rfl
      · intro ac W hI hun haft hi
        have fg : ac.eval (.tmp 37) = .bool g := haft ⟨3, .guard⟩ (by simp) rfl _ _ rfl rfl
        cases g
        case false => exact b_skip hi hI (guard_no rfl rfl rfl (.inl fg)) (fun h => by cases h)
        case true =>
          refine b_call hi hI (guard_ok rfl rfl rfl fg) _ _ (run_call_op (args := #[]) rfl (by simp) (by kernel_rfl)) ?_
          exact (rsigns_any W).mono fun e w' H => ⟨_, H.1, fun _ => ⟨_, rfl, by rw [H.2]; exact Blk.new _ _ _⟩, by rw [H.2]; exact alloc_below _ _⟩
      · intro ac W hI hun haft hi
        have fg : ac.eval (.tmp 37) = .bool g := haft ⟨3, .guard⟩ (by simp) rfl _ _ rfl rfl
        have e0 : ac.eval (.tmp 0) = .string s := hun 0 (by kernel_rfl)
        cases g
        case false => exact b_skip hi hI (guard_no rfl rfl rfl (.inl fg)) rfl
        case true =>
          exact b_same hi hI (guard_ok rfl rfl rfl fg) _ (run_move_op rfl e0) rfl
      · intro ac W hI hun haft hi
        have fg : ac.eval (.tmp 37) = .bool g := haft ⟨3, .guard⟩ (by simp) rfl _ _ rfl rfl
        have f5 : ac.eval (.tmp 39) = vB (g) (.string s) := haft ⟨5, .data⟩ (by simp) rfl _ _ rfl rfl
        cases g
        case false => exact b_skip hi hI (guard_no rfl rfl rfl (.inl fg)) rfl
        case true =>
          exact b_same hi hI (guard_ok rfl rfl rfl fg) _ (run_sliceTo_op (n := 2) rfl f5 rfl (HG2.out rfl)) rfl
      · intro ac W hI hun haft hi
        have fg : ac.eval (.tmp 37) = .bool g := haft ⟨3, .guard⟩ (by simp) rfl _ _ rfl rfl
        have f4 : g = true → ∃ b, (ac.eval (.tmp 38)) = .slice (some ⟨b, 0, none⟩) 20 20 ∧ Blk W b 9 (strA Lx.signs) := haft ⟨4, .data⟩ (by simp) rfl _ _ rfl rfl
        have f6 : ac.eval (.tmp 40) = vB (g) (.string (s.extract 0 2)) := haft ⟨6, .data⟩ (by simp) rfl _ _ rfl rfl
        cases g
        case false => exact b_skip hi hI (guard_no rfl rfl rfl (.inl fg)) rfl
        case true =>
          obtain ⟨b, hb, hB⟩ := f4 rfl
          refine b_call hi hI (guard_ok rfl rfl rfl fg) _ _ (run_call_op (args := #[.slice (some ⟨b, 0, none⟩) 20 20, .string (s.extract 0 2)]) rfl (by simp [hb, f6, vB]) (by kernel_rfl)) ?_
          exact (HIn2.out b W hB).mono fun e w' H => ⟨_, H.1, rfl, by rw [← H.2]; exact Below.refl _ _⟩
      · intro ac W hI hun haft hi
        have f3 : ac.eval (.tmp 37) = .bool g := haft ⟨3, .data⟩ (by simp) rfl _ _ rfl rfl
        have f7 : ac.eval (.tmp 41) = vB (g) (.bool q2) := haft ⟨7, .data⟩ (by simp) rfl _ _ rfl rfl
        cases g
        case true => exact b_same hi hI rfl _ (run_pick_op (b := true) rfl f3 f7 rfl) rfl
        case false => exact b_same hi hI rfl _ (run_pick_op (b := false) rfl f3 f7 rfl) rfl
    intro vals wa hI hp
    have h8 : vals 8 = .bool (g && q2) := hp 8 (by decide)
    have HBa := Lib.hid hI
    clear hp hI
    obtain ⟨b2, hb2⟩ : ∃ b, (g && q2) = b := ⟨_, rfl⟩
    rw [hb2] at h8 HF
    clear hb2
    simp only [layN, List.size_toArray, List.length_cons, List.length_nil, List.range, List.range.loop, if_true, List.getElem?_toArray, List.getElem?_cons_zero, List.getElem?_cons_succ, Act.put, List.setIfInBounds_toArray, List.set_cons_zero, List.set_cons_succ, Nat.zero_add, Nat.reduceAdd, h8]
    clear h8
    cases b2 with
    | true =>
      go_wp2_with fail
      go_ret
      exact ⟨by rw [HF.out]; rfl, HBa.out⟩
    | false =>
      go_upto_region 10 with fail
      refine wp_region_any (by kernel_rfl) ?_
      refine wpAny_below (Ot.pN [none, some (.string s), some (.string (s.extract 0 1)), some (.bool q1)] (fun iq v W => match iq with | 0 => true = true → ∃ b, v = .slice (some ⟨b, 0, none⟩) 20 20 ∧ Blk W b 9 (strA Lx.signs) | _ => True)) _ wa (by kernel_rfl) (by kernel_rfl) (by kernel_rfl) (fun i v w w' hb h => Ot.pN_keep (fun i v w w' hb h => by
        try dsimp only at h ⊢
        split at h
        · exact fun e => ⟨(h e).choose, (h e).choose_spec.1, Blk.below (h e).choose_spec.2 hb (Blk.lt (h e).choose_spec.2)⟩
        · trivial) i v w w' hb h) ?_ ?_
      · refine ⟨?_, ?_, ?_, ?_, trivial⟩
        · intro ac W hI hun haft hi
          refine b_call hi hI rfl _ _ (run_call_op (args := #[]) rfl (by simp) (by kernel_rfl)) ?_
          exact (rsigns_any W).mono fun e w' H => ⟨_, H.1, fun _ => ⟨_, rfl, by rw [H.2]; exact Blk.new _ _ _⟩, by rw [H.2]; exact alloc_below _ _⟩
        · intro ac W hI hun haft hi
          have e0 : ac.eval (.tmp 0) = .string s := hun 0 (by kernel_rfl)
          exact b_same hi hI rfl _ (run_move_op rfl e0) rfl
        · intro ac W hI hun haft hi
          have f1 : ac.eval (.tmp 44) = .string s := haft ⟨1, .data⟩ (by simp) rfl _ _ rfl rfl
          exact b_same hi hI rfl _ (run_sliceTo_op (n := 1) rfl f1 rfl HG1.out) rfl
        · intro ac W hI hun haft hi
          have f0 : true = true → ∃ b, (ac.eval (.tmp 43)) = .slice (some ⟨b, 0, none⟩) 20 20 ∧ Blk W b 9 (strA Lx.signs) := haft ⟨0, .data⟩ (by simp) rfl _ _ rfl rfl
          have f2 : ac.eval (.tmp 45) = .string (s.extract 0 1) := haft ⟨2, .data⟩ (by simp) rfl _ _ rfl rfl
          obtain ⟨b, hb, hB⟩ := f0 rfl
          refine b_call hi hI rfl _ _ (run_call_op (args := #[.slice (some ⟨b, 0, none⟩) 20 20, .string (s.extract 0 1)]) rfl (by simp [hb, f2]) (by kernel_rfl)) ?_
          exact (HIn1.out b W hB).mono fun e w' H => ⟨_, H.1, rfl, by rw [← H.2]; exact Below.refl _ _⟩
      intro vals2 wb hI hp
      have h3 : vals2 3 = .bool q1 := hp 3 (by decide)
      have HBb := Lib.hid (HBa.out.trans (hI.mono HBa.out.size))
      clear hp hI
      simp only [layN, List.size_toArray, List.length_cons, List.length_nil, List.range, List.range.loop, if_true, List.getElem?_toArray, List.getElem?_cons_zero, List.getElem?_cons_succ, Act.put, List.setIfInBounds_toArray, List.set_cons_zero, List.set_cons_succ, Nat.zero_add, Nat.reduceAdd, h3]
      clear h3
      cases q1 with
      | true =>
        go_wp2_with fail
        go_ret
        exact ⟨by rw [HF.out]; rfl, HBb.out⟩
      | false =>
        go_wp2_with fail
        go_ret
        exact ⟨by rw [HF.out]; rfl, HBb.out⟩
  · have k0 : (48 : Int) ≤ c := by omega
    have k1 : ¬ c ≤ 57 := by omega
    have k2 : ¬ (97 : Int) ≤ c := by omega
    have k3 : c ≤ 122 := by omega
    have k4 : (65 : Int) ≤ c := by omega
    have k5 : ¬ c ≤ 90 := by omega
    have k6 : (c == 39) = false := by rw [beq_eq_false_iff_ne]; omega
    have HF := Lib.hid (show R = if (g && q2) = true then 2 else if q1 = true then 1 else 0 by rw [HR.out, if_neg (by unfold digI; simp; omega), if_neg (by unfold lettB; simp; omega), if_neg (by omega)])
    clear hcs
    go_enter Tryz.func41, Tryz.ntmps41
    go_upto_region 8 with fail
    refine wp_region_any (by kernel_rfl) ?_
    refine wpAny_below (Ot.pN [some (.string s), some (.int .i64 (s.size : Int)), some (.bool g), some (.bool g), none, some (vB (g) (.string s)), some (vB (g) (.string (s.extract 0 2))), some (vB (g) (.bool q2)), some (.bool (g && q2))] (fun iq v W => match iq with | 4 => g = true → ∃ b, v = .slice (some ⟨b, 0, none⟩) 20 20 ∧ Blk W b 9 (strA Lx.signs) | _ => True)) _ w (by kernel_rfl) (by kernel_rfl) (by kernel_rfl) (fun i v w w' hb h => Ot.pN_keep (fun i v w w' hb h => by
      try dsimp only at h ⊢
      split at h
      · exact fun e => ⟨(h e).choose, (h e).choose_spec.1, Blk.below (h e).choose_spec.2 hb (Blk.lt (h e).choose_spec.2)⟩
      · trivial) i v w w' hb h) ?_ ?_
    · refine ⟨?_, ?_, ?_, ?_, ?_, ?_, ?_, ?_, ?_, trivial⟩
      · intro ac W hI hun haft hi
        have e0 : ac.eval (.tmp 0) = .string s := hun 0 (by kernel_rfl)
        exact b_same hi hI rfl _ (run_move_op rfl e0) rfl
      · intro ac W hI hun haft hi
        have f0 : ac.eval (.tmp 34) = .string s := haft ⟨0, .data⟩ (by simp) rfl _ _ rfl rfl
        exact b_same hi hI rfl _ (run_lenS_op rfl f0) rfl
      · intro ac W hI hun haft hi
        have f1 : ac.eval (.tmp 35) = .int .i64 (s.size : Int) := haft ⟨1, .data⟩ (by simp) rfl _ _ rfl rfl
        exact b_same hi hI rfl _ (run_bin_op rfl f1 rfl (guardIT _ _ _ _ _ _ _ _ _) (gt_isT _ _ _ HG.out W)) rfl
      · intro ac W hI hun haft hi
        have f2 : ac.eval (.tmp 36) = .bool g := haft ⟨2, .data⟩ (by simp) rfl _ _ rfl rfl
        exact b_same hi hI rfl _ (run_move_op rfl f2) rfl
      · intro ac W hI hun haft hi
        have fg : ac.eval (.tmp 37) = .bool g := haft ⟨3, .guard⟩ (by simp) rfl _ _ rfl rfl
        cases g
        case false => exact b_skip hi hI (guard_no rfl rfl rfl (.inl fg)) (fun h => by cases h)
        case true =>
          refine b_call hi hI (guard_ok rfl rfl rfl fg) _ _ (run_call_op (args := #[]) rfl (by simp) (by kernel_rfl)) ?_
          exact (rsigns_any W).mono fun e w' H => ⟨_, H.1, fun _ => ⟨_, rfl, by rw [H.2]; exact Blk.new _ _ _⟩, by rw [H.2]; exact alloc_below _ _⟩
      · intro ac W hI hun haft hi
        have fg : ac.eval (.tmp 37) = .bool g := haft ⟨3, .guard⟩ (by simp) rfl _ _ rfl rfl
        have e0 : ac.eval (.tmp 0) = .string s := hun 0 (by kernel_rfl)
        cases g
        case false => exact b_skip hi hI (guard_no rfl rfl rfl (.inl fg)) rfl
        case true =>
          exact b_same hi hI (guard_ok rfl rfl rfl fg) _ (run_move_op rfl e0) rfl
      · intro ac W hI hun haft hi
        have fg : ac.eval (.tmp 37) = .bool g := haft ⟨3, .guard⟩ (by simp) rfl _ _ rfl rfl
        have f5 : ac.eval (.tmp 39) = vB (g) (.string s) := haft ⟨5, .data⟩ (by simp) rfl _ _ rfl rfl
        cases g
        case false => exact b_skip hi hI (guard_no rfl rfl rfl (.inl fg)) rfl
        case true =>
          exact b_same hi hI (guard_ok rfl rfl rfl fg) _ (run_sliceTo_op (n := 2) rfl f5 rfl (HG2.out rfl)) rfl
      · intro ac W hI hun haft hi
        have fg : ac.eval (.tmp 37) = .bool g := haft ⟨3, .guard⟩ (by simp) rfl _ _ rfl rfl
        have f4 : g = true → ∃ b, (ac.eval (.tmp 38)) = .slice (some ⟨b, 0, none⟩) 20 20 ∧ Blk W b 9 (strA Lx.signs) := haft ⟨4, .data⟩ (by simp) rfl _ _ rfl rfl
        have f6 : ac.eval (.tmp 40) = vB (g) (.string (s.extract 0 2)) := haft ⟨6, .data⟩ (by simp) rfl _ _ rfl rfl
        cases g
        case false => exact b_skip hi hI (guard_no rfl rfl rfl (.inl fg)) rfl
        case true =>
          obtain ⟨b, hb, hB⟩ := f4 rfl
          refine b_call hi hI (guard_ok rfl rfl rfl fg) _ _ (run_call_op (args := #[.slice (some ⟨b, 0, none⟩) 20 20, .string (s.extract 0 2)]) rfl (by simp [hb, f6, vB]) (by kernel_rfl)) ?_
          exact (HIn2.out b W hB).mono fun e w' H => ⟨_, H.1, rfl, by rw [← H.2]; exact Below.refl _ _⟩
      · intro ac W hI hun haft hi
        have f3 : ac.eval (.tmp 37) = .bool g := haft ⟨3, .data⟩ (by simp) rfl _ _ rfl rfl
        have f7 : ac.eval (.tmp 41) = vB (g) (.bool q2) := haft ⟨7, .data⟩ (by simp) rfl _ _ rfl rfl
        cases g
        case true => exact b_same hi hI rfl _ (run_pick_op (b := true) rfl f3 f7 rfl) rfl
        case false => exact b_same hi hI rfl _ (run_pick_op (b := false) rfl f3 f7 rfl) rfl
    intro vals wa hI hp
    have h8 : vals 8 = .bool (g && q2) := hp 8 (by decide)
    have HBa := Lib.hid hI
    clear hp hI
    obtain ⟨b2, hb2⟩ : ∃ b, (g && q2) = b := ⟨_, rfl⟩
    rw [hb2] at h8 HF
    clear hb2
    simp only [layN, List.size_toArray, List.length_cons, List.length_nil, List.range, List.range.loop, if_true, List.getElem?_toArray, List.getElem?_cons_zero, List.getElem?_cons_succ, Act.put, List.setIfInBounds_toArray, List.set_cons_zero, List.set_cons_succ, Nat.zero_add, Nat.reduceAdd, h8]
    clear h8
    cases b2 with
    | true =>
      go_wp2_with fail
      go_ret
      exact ⟨by rw [HF.out]; rfl, HBa.out⟩
    | false =>
      go_upto_region 10 with fail
      refine wp_region_any (by kernel_rfl) ?_
      refine wpAny_below (Ot.pN [none, some (.string s), some (.string (s.extract 0 1)), some (.bool q1)] (fun iq v W => match iq with | 0 => true = true → ∃ b, v = .slice (some ⟨b, 0, none⟩) 20 20 ∧ Blk W b 9 (strA Lx.signs) | _ => True)) _ wa (by kernel_rfl) (by kernel_rfl) (by kernel_rfl) (fun i v w w' hb h => Ot.pN_keep (fun i v w w' hb h => by
        try dsimp only at h ⊢
        split at h
        · exact fun e => ⟨(h e).choose, (h e).choose_spec.1, Blk.below (h e).choose_spec.2 hb (Blk.lt (h e).choose_spec.2)⟩
        · trivial) i v w w' hb h) ?_ ?_
      · refine ⟨?_, ?_, ?_, ?_, trivial⟩
        · intro ac W hI hun haft hi
          refine b_call hi hI rfl _ _ (run_call_op (args := #[]) rfl (by simp) (by kernel_rfl)) ?_
          exact (rsigns_any W).mono fun e w' H => ⟨_, H.1, fun _ => ⟨_, rfl, by rw [H.2]; exact Blk.new _ _ _⟩, by rw [H.2]; exact alloc_below _ _⟩
        · intro ac W hI hun haft hi
          have e0 : ac.eval (.tmp 0) = .string s := hun 0 (by kernel_rfl)
          exact b_same hi hI rfl _ (run_move_op rfl e0) rfl
        · intro ac W hI hun haft hi
          have f1 : ac.eval (.tmp 44) = .string s := haft ⟨1, .data⟩ (by simp) rfl _ _ rfl rfl
          exact b_same hi hI rfl _ (run_sliceTo_op (n := 1) rfl f1 rfl HG1.out) rfl
        · intro ac W hI hun haft hi
          have f0 : true = true → ∃ b, (ac.eval (.tmp 43)) = .slice (some ⟨b, 0, none⟩) 20 20 ∧ Blk W b 9 (strA Lx.signs) := haft ⟨0, .data⟩ (by simp) rfl _ _ rfl rfl
          have f2 : ac.eval (.tmp 45) = .string (s.extract 0 1) := haft ⟨2, .data⟩ (by simp) rfl _ _ rfl rfl
          obtain ⟨b, hb, hB⟩ := f0 rfl
          refine b_call hi hI rfl _ _ (run_call_op (args := #[.slice (some ⟨b, 0, none⟩) 20 20, .string (s.extract 0 1)]) rfl (by simp [hb, f2]) (by kernel_rfl)) ?_
          exact (HIn1.out b W hB).mono fun e w' H => ⟨_, H.1, rfl, by rw [← H.2]; exact Below.refl _ _⟩
      intro vals2 wb hI hp
      have h3 : vals2 3 = .bool q1 := hp 3 (by decide)
      have HBb := Lib.hid (HBa.out.trans (hI.mono HBa.out.size))
      clear hp hI
      simp only [layN, List.size_toArray, List.length_cons, List.length_nil, List.range, List.range.loop, if_true, List.getElem?_toArray, List.getElem?_cons_zero, List.getElem?_cons_succ, Act.put, List.setIfInBounds_toArray, List.set_cons_zero, List.set_cons_succ, Nat.zero_add, Nat.reduceAdd, h3]
      clear h3
      cases q1 with
      | true =>
        go_wp2_with fail
        go_ret
        exact ⟨by rw [HF.out]; rfl, HBb.out⟩
      | false =>
        go_wp2_with fail
        go_ret
        exact ⟨by rw [HF.out]; rfl, HBb.out⟩
  · have k0 : (48 : Int) ≤ c := by omega
    have k1 : ¬ c ≤ 57 := by omega
    have k2 : (97 : Int) ≤ c := by omega
    have k3 : ¬ c ≤ 122 := by omega
    have k4 : (65 : Int) ≤ c := by omega
    have k5 : ¬ c ≤ 90 := by omega
    have k6 : (c == 39) = false := by rw [beq_eq_false_iff_ne]; omega
    have HF := Lib.hid (show R = if (g && q2) = true then 2 else if q1 = true then 1 else 0 by rw [HR.out, if_neg (by unfold digI; simp; omega), if_neg (by unfold lettB; simp; omega), if_neg (by omega)])
    clear hcs
    go_enter Tryz.func41, Tryz.ntmps41
    go_upto_region 8 with fail
    refine wp_region_any (by kernel_rfl) ?_
    refine wpAny_below (Ot.pN [some (.string s), some (.int .i64 (s.size : Int)), some (.bool g), some (.bool g), none, some (vB (g) (.string s)), some (vB (g) (.string (s.extract 0 2))), some (vB (g) (.bool q2)), some (.bool (g && q2))] (fun iq v W => match iq with | 4 => g = true → ∃ b, v = .slice (some ⟨b, 0, none⟩) 20 20 ∧ Blk W b 9 (strA Lx.signs) | _ => True)) _ w (by kernel_rfl) (by kernel_rfl) (by kernel_rfl) (fun i v w w' hb h => Ot.pN_keep (fun i v w w' hb h => by
      try dsimp only at h ⊢
      split at h
      · exact fun e => ⟨(h e).choose, (h e).choose_spec.1, Blk.below (h e).choose_spec.2 hb (Blk.lt (h e).choose_spec.2)⟩
      · trivial) i v w w' hb h) ?_ ?_
    · refine ⟨?_, ?_, ?_, ?_, ?_, ?_, ?_, ?_, ?_, trivial⟩
      · intro ac W hI hun haft hi
        have e0 : ac.eval (.tmp 0) = .string s := hun 0 (by kernel_rfl)
        exact b_same hi hI rfl _ (run_move_op rfl e0) rfl
      · intro ac W hI hun haft hi
        have f0 : ac.eval (.tmp 34) = .string s := haft ⟨0, .data⟩ (by simp) rfl _ _ rfl rfl
        exact b_same hi hI rfl _ (run_lenS_op rfl f0) rfl
      · intro ac W hI hun haft hi
        have f1 : ac.eval (.tmp 35) = .int .i64 (s.size : Int) := haft ⟨1, .data⟩ (by simp) rfl _ _ rfl rfl
        exact b_same hi hI rfl _ (run_bin_op rfl f1 rfl (guardIT _ _ _ _ _ _ _ _ _) (gt_isT _ _ _ HG.out W)) rfl
      · intro ac W hI hun haft hi
        have f2 : ac.eval (.tmp 36) = .bool g := haft ⟨2, .data⟩ (by simp) rfl _ _ rfl rfl
        exact b_same hi hI rfl _ (run_move_op rfl f2) rfl
      · intro ac W hI hun haft hi
        have fg : ac.eval (.tmp 37) = .bool g := haft ⟨3, .guard⟩ (by simp) rfl _ _ rfl rfl
        cases g
        case false => exact b_skip hi hI (guard_no rfl rfl rfl (.inl fg)) (fun h => by cases h)
        case true =>
          refine b_call hi hI (guard_ok rfl rfl rfl fg) _ _ (run_call_op (args := #[]) rfl (by simp) (by kernel_rfl)) ?_
          exact (rsigns_any W).mono fun e w' H => ⟨_, H.1, fun _ => ⟨_, rfl, by rw [H.2]; exact Blk.new _ _ _⟩, by rw [H.2]; exact alloc_below _ _⟩
      · intro ac W hI hun haft hi
        have fg : ac.eval (.tmp 37) = .bool g := haft ⟨3, .guard⟩ (by simp) rfl _ _ rfl rfl
        have e0 : ac.eval (.tmp 0) = .string s := hun 0 (by kernel_rfl)
        cases g
        case false => exact b_skip hi hI (guard_no rfl rfl rfl (.inl fg)) rfl
        case true =>
          exact b_same hi hI (guard_ok rfl rfl rfl fg) _ (run_move_op rfl e0) rfl
      · intro ac W hI hun haft hi
        have fg : ac.eval (.tmp 37) = .bool g := haft ⟨3, .guard⟩ (by simp) rfl _ _ rfl rfl
        have f5 : ac.eval (.tmp 39) = vB (g) (.string s) := haft ⟨5, .data⟩ (by simp) rfl _ _ rfl rfl
        cases g
        case false => exact b_skip hi hI (guard_no rfl rfl rfl (.inl fg)) rfl
        case true =>
          exact b_same hi hI (guard_ok rfl rfl rfl fg) _ (run_sliceTo_op (n := 2) rfl f5 rfl (HG2.out rfl)) rfl
      · intro ac W hI hun haft hi
        have fg : ac.eval (.tmp 37) = .bool g := haft ⟨3, .guard⟩ (by simp) rfl _ _ rfl rfl
        have f4 : g = true → ∃ b, (ac.eval (.tmp 38)) = .slice (some ⟨b, 0, none⟩) 20 20 ∧ Blk W b 9 (strA Lx.signs) := haft ⟨4, .data⟩ (by simp) rfl _ _ rfl rfl
        have f6 : ac.eval (.tmp 40) = vB (g) (.string (s.extract 0 2)) := haft ⟨6, .data⟩ (by simp) rfl _ _ rfl rfl
        cases g
        case false => exact b_skip hi hI (guard_no rfl rfl rfl (.inl fg)) rfl
        case true =>
          obtain ⟨b, hb, hB⟩ := f4 rfl
          refine b_call hi hI (guard_ok rfl rfl rfl fg) _ _ (run_call_op (args := #[.slice (some ⟨b, 0, none⟩) 20 20, .string (s.extract 0 2)]) rfl (by simp [hb, f6, vB]) (by kernel_rfl)) ?_
          exact (HIn2.out b W hB).mono fun e w' H => ⟨_, H.1, rfl, by rw [← H.2]; exact Below.refl _ _⟩
      · intro ac W hI hun haft hi
        have f3 : ac.eval (.tmp 37) = .bool g := haft ⟨3, .data⟩ (by simp) rfl _ _ rfl rfl
        have f7 : ac.eval (.tmp 41) = vB (g) (.bool q2) := haft ⟨7, .data⟩ (by simp) rfl _ _ rfl rfl
        cases g
        case true => exact b_same hi hI rfl _ (run_pick_op (b := true) rfl f3 f7 rfl) rfl
        case false => exact b_same hi hI rfl _ (run_pick_op (b := false) rfl f3 f7 rfl) rfl
    intro vals wa hI hp
    have h8 : vals 8 = .bool (g && q2) := hp 8 (by decide)
    have HBa := Lib.hid hI
    clear hp hI
    obtain ⟨b2, hb2⟩ : ∃ b, (g && q2) = b := ⟨_, rfl⟩
    rw [hb2] at h8 HF
    clear hb2
    simp only [layN, List.size_toArray, List.length_cons, List.length_nil, List.range, List.range.loop, if_true, List.getElem?_toArray, List.getElem?_cons_zero, List.getElem?_cons_succ, Act.put, List.setIfInBounds_toArray, List.set_cons_zero, List.set_cons_succ, Nat.zero_add, Nat.reduceAdd, h8]
    clear h8
    cases b2 with
    | true =>
      go_wp2_with fail
      go_ret
      exact ⟨by rw [HF.out]; rfl, HBa.out⟩
    | false =>
      go_upto_region 10 with fail
      refine wp_region_any (by kernel_rfl) ?_
      refine wpAny_below (Ot.pN [none, some (.string s), some (.string (s.extract 0 1)), some (.bool q1)] (fun iq v W => match iq with | 0 => true = true → ∃ b, v = .slice (some ⟨b, 0, none⟩) 20 20 ∧ Blk W b 9 (strA Lx.signs) | _ => True)) _ wa (by kernel_rfl) (by kernel_rfl) (by kernel_rfl) (fun i v w w' hb h => Ot.pN_keep (fun i v w w' hb h => by
        try dsimp only at h ⊢
        split at h
        · exact fun e => ⟨(h e).choose, (h e).choose_spec.1, Blk.below (h e).choose_spec.2 hb (Blk.lt (h e).choose_spec.2)⟩
        · trivial) i v w w' hb h) ?_ ?_
      · refine ⟨?_, ?_, ?_, ?_, trivial⟩
        · intro ac W hI hun haft hi
          refine b_call hi hI rfl _ _ (run_call_op (args := #[]) rfl (by simp) (by kernel_rfl)) ?_
          exact (rsigns_any W).mono fun e w' H => ⟨_, H.1, fun _ => ⟨_, rfl, by rw [H.2]; exact Blk.new _ _ _⟩, by rw [H.2]; exact alloc_below _ _⟩
        · intro ac W hI hun haft hi
          have e0 : ac.eval (.tmp 0) = .string s := hun 0 (by kernel_rfl)
          exact b_same hi hI rfl _ (run_move_op rfl e0) rfl
        · intro ac W hI hun haft hi
          have f1 : ac.eval (.tmp 44) = .string s := haft ⟨1, .data⟩ (by simp) rfl _ _ rfl rfl
          exact b_same hi hI rfl _ (run_sliceTo_op (n := 1) rfl f1 rfl HG1.out) rfl
        · intro ac W hI hun haft hi
          have f0 : true = true → ∃ b, (ac.eval (.tmp 43)) = .slice (some ⟨b, 0, none⟩) 20 20 ∧ Blk W b 9 (strA Lx.signs) := haft ⟨0, .data⟩ (by simp) rfl _ _ rfl rfl
          have f2 : ac.eval (.tmp 45) = .string (s.extract 0 1) := haft ⟨2, .data⟩ (by simp) rfl _ _ rfl rfl
          obtain ⟨b, hb, hB⟩ := f0 rfl
          refine b_call hi hI rfl _ _ (run_call_op (args := #[.slice (some ⟨b, 0, none⟩) 20 20, .string (s.extract 0 1)]) rfl (by simp [hb, f2]) (by kernel_rfl)) ?_
          exact (HIn1.out b W hB).mono fun e w' H => ⟨_, H.1, rfl, by rw [← H.2]; exact Below.refl _ _⟩
      intro vals2 wb hI hp
      have h3 : vals2 3 = .bool q1 := hp 3 (by decide)
      have HBb := Lib.hid (HBa.out.trans (hI.mono HBa.out.size))
      clear hp hI
      simp only [layN, List.size_toArray, List.length_cons, List.length_nil, List.range, List.range.loop, if_true, List.getElem?_toArray, List.getElem?_cons_zero, List.getElem?_cons_succ, Act.put, List.setIfInBounds_toArray, List.set_cons_zero, List.set_cons_succ, Nat.zero_add, Nat.reduceAdd, h3]
      clear h3
      cases q1 with
      | true =>
        go_wp2_with fail
        go_ret
        exact ⟨by rw [HF.out]; rfl, HBb.out⟩
      | false =>
        go_wp2_with fail
        go_ret
        exact ⟨by rw [HF.out]; rfl, HBb.out⟩

end Go.Proofs.YtdabanocofimmaaGreatDoor
