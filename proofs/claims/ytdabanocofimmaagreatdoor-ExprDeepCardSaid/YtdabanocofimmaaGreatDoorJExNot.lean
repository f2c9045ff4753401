/-
  (*expr.reader).not: the contract, by a walk. (*expr.reader).is: the contract, by a walk. Conditions: lengths.
-/
import Derived.Test.YtdabanocofimmaaGreatDoorJExPairs
namespace Go.Proofs.YtdabanocofimmaaGreatDoor
open Go.RowKit

theorem took {er : Int} {L : List Lx.Tk} {s : List UInt8} (h : tkOk er L s = true) : er = 0 ∧ Ex.takesL s L = some (takeS er L s) ∧ (takeS er L s).length + 1 = L.length ∧ (TkSm L → TkSm (takeS er L s)) := by
  have he : er = 0 := Classical.byContradiction fun e => by
    rw [tkOk_err e] at h
    cases h
  subst he
  have ht : takeS 0 L s = L.tail := if_pos h
  have hp : 0 < L.length := headB_pos (er := 0) (by
    unfold tkOk at h
    exact (Bool.and_eq_true_iff.1 h).1)
  rw [ht]
  exact ⟨rfl, by rw [tkOk_takes, if_pos h], by rw [List.length_tail]; omega, fun hL t m => hL t (List.mem_of_mem_tail m)⟩
theorem took_not {er : Int} {L : List Lx.Tk} {s : List UInt8} (h : tkOk er L s = false) : takeS er L s = L ∧ (er = 0 → Ex.takesL s L = none) := by
  refine ⟨if_neg (by rw [h]; decide), fun e => ?_⟩
  subst e
  rw [tkOk_takes, if_neg (by rw [h]; decide)]

set_option maxRecDepth 100000 in
set_option maxHeartbeats 4000000 in
theorem not_rule {w0 : World} {b K : Nat} (N C : Ex.P) (hNK : ∀ K2, K2 + 1 = K → RuleC w0 b 92 N K2) (hC : RuleC w0 b 107 C K) (hw : WOk w0) : RuleC w0 b 92 (Ex.notF N C) K := by
  intro w v L er row d h hL hn hK hd
  obtain ⟨S, hS⟩ : ∃ S : ByteArray, S = ⟨#[78, 79, 84]⟩ := ⟨_, rfl⟩
  have hSl : S.data.toList = Ex.kNOT := by rw [hS]; rfl
  have hT := takes_st S h.rd hw hL
  rw [hSl] at hT
  obtain ⟨L2, hL2⟩ : ∃ L2, takeS er L Ex.kNOT = L2 := ⟨_, rfl⟩
  rw [hL2] at hT
  have HS := Lib.hid hS
  cases hk : tkOk er L Ex.kNOT
  · obtain ⟨e1, e2⟩ := took_not hk
    rw [hk] at hT
    have hll : L2 = L := hL2.symm.trans e1
    subst hll
    have HT := Lib.hid hT
    have HC := Lib.hid (fun W (k : RdTo w0 b 69 [v, .int .i64 d] w L2 er W) => hC W v L2 er row d (h.move k) hL hn hK hd)
    have HG := Lib.hid (fun W (k : RdTo w0 b 69 [v, .int .i64 d] w L2 er W) (pl : Nat) w' (r : RuleTo C w0 b W v L2 er row d pl w') => (show RuleTo (Ex.notF N C) w0 b w v L2 er row d pl w' by
      obtain ⟨L3, er3, row3, h1, h2, h3, h4, h5, h6⟩ := r.from_ (.of_but k.2)
      refine ⟨L3, er3, row3, h1, h2, h3, h4, h5, fun e => ?_⟩
      unfold Ex.notF
      rw [e2 e]
      exact h6 e))
    clear h hL hn hK hd hNK hC hw hS hSl hT hL2 hk e1 e2
    go_enter Tryz.func92, Tryz.ntmps92
    go_wp2_with fail
    rw [← HS.out]
    refine HT.out.mono ?_
    rintro e w1 ⟨rfl, h1⟩
    have H1 := Lib.hid h1
    clear h1
    go_wp2_with fail
    refine (HC.out _ H1.out).mono ?_
    rintro e w2 ⟨pl, rfl, h2⟩
    have HR := Lib.hid (HG.out _ H1.out pl w2 h2)
    clear h2
    go_wp2_with fail
    go_ret
    exact ⟨pl, rfl, HR.out⟩
  · obtain ⟨e1, e2, e3, e4⟩ := took hk
    rw [hL2] at e2 e3 e4
    rw [hk] at hT
    subst e1
    obtain ⟨K2, rfl⟩ : ∃ K2, K = K2 + 1 := ⟨K - 1, by omega⟩
    have hN := hNK K2 rfl
    have HT := Lib.hid hT
    have HC := Lib.hid (fun W (k : RdTo w0 b 69 [v, .int .i64 d] w L2 0 W) => within_any _ N (ent_not b) hN (h.move k) (e4 hL) (by omega) (by omega) hd)
    have HPu := Lib.hid (fun W v3 L3 er3 (row3 : List Ex.X) (pl : Nat) (k : Est w0 b W v3 L3 er3 row3 d) (hr : row3.length + 1 ≤ 1000000) => put_any (Ex.unE 5 pl) k hr)
    have HG := Lib.hid (fun W (k : RdTo w0 b 69 [v, .int .i64 d] w L2 0 W) (pl : Nat) W2 (v3 : Value) (L3 : List Lx.Tk) (er3 : Int) (row3 : List Ex.X) (hf : Fr b v v3 W W2)
      (h3 : row3.length + 2 * L3.length ≤ row.length + 1 + 2 * L2.length) (h4 : L3.length ≤ L2.length) (h5 : TkSm L3) (h7 : match Ex.withinF N d L2 row with | .ok (p, L4, row4) => er3 = 0 ∧ pl = p ∧ L3 = L4 ∧ row3 = row4 | .error e => er3 = e ∧ e ≠ 0)
      w' (hto : EstTo w0 b W2 v3 L3 er3 (row3 ++ [Ex.unE 5 pl]) d w') => (show RuleTo (Ex.notF N C) w0 b w v L 0 row d row3.length w' by
      refine ⟨L3, er3, _, EstTo.trans (Fr.trans (.of_but k.2) hf) hto, by rw [List.length_append, List.length_singleton]; omega, by omega, h5, fun e => absurd rfl e, fun _ => ?_⟩
      unfold Ex.notF
      rw [e2]
      dsimp only
      cases hq : Ex.withinF N d L2 row with
      | error e => rw [hq] at h7; exact h7
      | ok q =>
        obtain ⟨p, L4, row4⟩ := q
        rw [hq] at h7
        obtain ⟨j1, j2, j3, j4⟩ := h7
        subst j2 j3 j4
        exact ⟨j1, rfl, rfl, rfl⟩))
    have HN := Lib.hid (show row.length + 2 * L2.length + 2 ≤ 1000000 by omega)
    clear h hL hn hK hd hN hNK hC hw hS hSl hT hL2 hk e2 e3 e4
    unfold ruleV at HC
    go_enter Tryz.func92, Tryz.ntmps92
    go_wp2_with fail
    rw [← HS.out]
    refine HT.out.mono ?_
    rintro e w1 ⟨rfl, h1⟩
    have H1 := Lib.hid h1
    clear h1
    go_wp2_with fail
    refine (HC.out _ H1.out).mono ?_
    rintro e w2 ⟨pl, rfl, L3, er3, row3, ⟨v3, k1, k2⟩, k3, k4, k5, k6, k7⟩
    have hP := HPu.out _ _ _ _ _ pl k1 (by have := HN.out; omega)
    have HR := Lib.hid (HG.out _ H1.out pl w2 v3 L3 er3 row3 k2 k3 k4 k5 (k7 rfl))
    unfold exV exC Ex.unE at hP
    dsimp only at hP
    obtain ⟨m, hm⟩ : ∃ m, row3.length = m := ⟨_, rfl⟩
    rw [hm] at hP HR
    have HP := Lib.hid hP
    clear k1 k2 k3 k4 k5 k6 k7 hP hm
    go_wp2_with (first
      | (refine wpList_build (o := ⟨some 12, _, _, _, _, _⟩) rfl _ _ rfl rfl ?_)
      | fail)
    refine HP.out.mono ?_
    rintro e w3 ⟨rfl, k1⟩
    have HT2 := Lib.hid (HR.out _ k1)
    clear k1
    go_wp2_with fail
    go_ret
    exact ⟨m, rfl, HT2.out⟩

end Go.Proofs.YtdabanocofimmaaGreatDoor

namespace Go.Proofs.YtdabanocofimmaaGreatDoor
open Go.RowKit

theorem takeS_le (er : Int) (L : List Lx.Tk) (s : List UInt8) : (takeS er L s).length ≤ L.length := by
  cases h : tkOk er L s
  · rw [(took_not h).1]
    exact Nat.le_refl _
  · have := (took h).2.2.1
    omega
theorem takeS_sm {er : Int} {L : List Lx.Tk} {s : List UInt8} (hL : TkSm L) : TkSm (takeS er L s) := by
  cases h : tkOk er L s
  · rw [(took_not h).1]
    exact hL
  · exact (took h).2.2.2 hL
theorem needE_err {er : Int} (h : er ≠ 0) (L : List Lx.Tk) (s : List UInt8) : needE er L s = er := by
  unfold needE failS
  rw [if_neg h]
  split <;> rfl
/-- What Needs comes to, by the grammar. -/
theorem need_r {L : List Lx.Tk} {s : List UInt8} (f : List Lx.Tk → Ex.Res) : Ex.needR s L f = if needE 0 L s = 0 then f (takeS 0 L s) else .error (needE 0 L s) := by
  unfold Ex.needR needE failS
  cases h : tkOk 0 L s
  · rw [(took_not h).2 rfl]
    rfl
  · rw [(took h).2.1]
    rfl
theorem need_ok {L : List Lx.Tk} {s : List UInt8} {f : List Lx.Tk → Ex.Res} {er : Int} (h : needE 0 L s = er) {pl : Nat} {row2 : List Ex.X} (hf : f (takeS 0 L s) = .ok (pl, takeS 0 L s, row2)) :
    match Ex.needR s L f with | .ok (p, L3, row3) => er = 0 ∧ pl = p ∧ takeS 0 L s = L3 ∧ row2 = row3 | .error e => er = e ∧ e ≠ 0 := by
  rw [need_r, h]
  by_cases e0 : er = 0
  · rw [if_pos e0, hf]
    exact ⟨e0, rfl, rfl, rfl⟩
  · rw [if_neg e0]
    exact ⟨rfl, e0⟩
/-- Needs of one text, which is laid for the call. -/
theorem need_new {w0 w X : World} {b p : Nat} {t : TypeId} {rest : List Value} {L : List Lx.Tk} {er : Int} (S : ByteArray) (h : Rst w0 b t rest w L er) (hw : WOk w0) (hL : TkSm L) (hp : w.heap.size = p) (hX : X = w.alloc (.cells #[.string S] 9)) :
    Calls Tryz.prog 125 #[.pointer (some ⟨b, 0, none⟩), .slice (some ⟨p, 0, none⟩) 1 1] X fun e w' => e = .returned (.tuple #[]) ∧ RdTo w0 b t rest w (takeS er L S.data.toList) (needE er L S.data.toList) w' := by
  have hbX : Below w.heap.size w X := by rw [hX]; exact (Below.refl _ _).alloc (Nat.le_refl _) _
  have hE : Blk X p 9 #[.string S] := by rw [hX, ← hp]; exact Blk.new w _ _
  have hk := h.keep hbX
  exact (needs_st S p 0 1 hk.1 hw hL ((Blk.cell hE 0).trans rfl)).mono fun e w' h2 => ⟨h2.1, hk.trans h2.2⟩

set_option maxRecDepth 100000 in
set_option maxHeartbeats 4000000 in
theorem is_any {w0 w : World} {b : Nat} {v : Value} {L : List Lx.Tk} {er : Int} {row : List Ex.X} {d : Nat} (left : Nat) (h : Est w0 b w v L er row d) (hw : WOk w0) (hL : TkSm L) (hn : row.length + 1 ≤ 1000000) :
    Calls Tryz.prog 117 #[.pointer (some ⟨b, 0, none⟩), .int .i64 left] w fun r w' => ∃ place : Nat, r = .returned (.int .i64 place) ∧ RuleTo (fun _ l r => Ex.isF left l r) w0 b w v L er row d place w' := by
  obtain ⟨S, hS⟩ : ∃ S : ByteArray, S = ⟨#[78, 79, 84]⟩ := ⟨_, rfl⟩
  obtain ⟨S2, hS2⟩ : ∃ S : ByteArray, S = ⟨#[78, 85, 76, 76]⟩ := ⟨_, rfl⟩
  have hSl : S.data.toList = Ex.kNOT := by rw [hS]; rfl
  have hSl2 : S2.data.toList = Ex.kNULL := by rw [hS2]; rfl
  have hT := takes_st S h.rd hw hL
  rw [hSl] at hT
  obtain ⟨L1, hL1⟩ : ∃ L2, takeS er L Ex.kNOT = L2 := ⟨_, rfl⟩
  rw [hL1] at hT
  have hsm : TkSm L1 := by rw [← hL1]; exact takeS_sm hL
  have hle : L1.length ≤ L.length := by rw [← hL1]; exact takeS_le _ _ _
  obtain ⟨L2, hL2⟩ : ∃ L2, takeS er L1 Ex.kNULL = L2 := ⟨_, rfl⟩
  obtain ⟨e2, hE2⟩ : ∃ e2, needE er L1 Ex.kNULL = e2 := ⟨_, rfl⟩
  have hsm2 : TkSm L2 := by rw [← hL2]; exact takeS_sm hsm
  have hle2 : L2.length ≤ L1.length := by rw [← hL2]; exact takeS_le _ _ _
  have HA := Lib.hid (fun W (k : RdTo w0 b 69 [v, .int .i64 d] w L1 er W) p X hp hX => by
    have := need_new (X := X) (p := p) S2 k.1 hw hsm hp hX
    rw [hSl2, hL2, hE2] at this
    exact this.mono fun e w' h2 => (⟨h2.1, k.trans h2.2⟩ : e = .returned (.tuple #[]) ∧ RdTo w0 b 69 [v, .int .i64 d] w L2 e2 w'))
  have HS := Lib.hid hS
  have HS2 := Lib.hid hS2
  obtain ⟨m, hm⟩ : ∃ m, row.length = m := ⟨_, rfl⟩
  have hG : ∀ (kk : Int), (er = 0 → Ex.isF left L row = Ex.needR Ex.kNULL L1 fun l2 => Ex.putE (Ex.unE kk left) l2 row) → ∀ W w', RdTo w0 b 69 [v, .int .i64 d] w L2 e2 W → EstTo w0 b W v L2 e2 (row ++ [Ex.unE kk left]) d w' → RuleTo (fun _ l r => Ex.isF left l r) w0 b w v L er row d m w' := by
    intro kk hf W w' h1 h2
    refine ⟨L2, e2, _, EstTo.trans (.of_but h1.2) h2, by rw [List.length_append, List.length_singleton]; omega, by omega, hsm2, fun e => by rw [← hE2]; exact needE_err e _ _, fun e => ?_⟩
    subst e
    dsimp only
    rw [hf rfl, ← hL2, ← hm]
    exact need_ok hE2 rfl
  have hPu : ∀ (kk : Int) W, RdTo w0 b 69 [v, .int .i64 d] w L2 e2 W → Calls Tryz.prog 105 #[.pointer (some ⟨b, 0, none⟩), exV (Ex.unE kk left)] W fun r w' => r = .returned (.int .i64 m) ∧ EstTo w0 b W v L2 e2 (row ++ [Ex.unE kk left]) d w' := fun kk W k => by
    rw [← hm]
    exact put_any (Ex.unE kk left) (h.move k) hn
  cases hk : tkOk er L Ex.kNOT
  · obtain ⟨f1, f2⟩ := took_not hk
    rw [hk] at hT
    have HG := Lib.hid (hG 6 (fun e => by unfold Ex.isF; rw [f2 e, ← hL1, f1]))
    have HPu := Lib.hid (hPu 6)
    have HT := Lib.hid hT
    clear hG hPu hT h hw hL hn hS hS2 hSl hSl2 hL1 hsm hle hL2 hE2 hsm2 hle2 hm hk f1 f2
    go_enter Tryz.func117, Tryz.ntmps117
    go_wp2_with fail
    rw [← HS.out]
    refine HT.out.mono ?_
    rintro e w1 ⟨rfl, h1⟩
    have HX := Lib.hid (HA.out w1 h1)
    have H1 := Lib.hid h1
    clear h1
    go_wp2_with fail
    obtain ⟨p, hp⟩ : ∃ p, w1.heap.size = p := ⟨_, rfl⟩
    obtain ⟨X, hX⟩ : ∃ X, X = w1.alloc (.cells #[.string S2] 9) := ⟨_, rfl⟩
    have hx := HX.out p X hp (by rw [hX])
    rw [← HS2.out, hp, ← hX]
    have HX2 := Lib.hid hx
    clear hx hX hp
    refine HX2.out.mono ?_
    rintro e w2 ⟨rfl, h2⟩
    have HT2 := Lib.hid h2
    have hP := HPu.out w2 h2
    unfold exV exC Ex.unE at hP
    dsimp only at hP
    have HP := Lib.hid hP
    clear h2 hP
    go_wp2_with (first
      | (refine wpList_build (o := ⟨some 18, _, _, _, _, _⟩) rfl _ _ rfl rfl ?_)
      | fail)
    refine HP.out.mono ?_
    rintro e w3 ⟨rfl, h3⟩
    have HR := Lib.hid (HG.out w2 w3 HT2.out h3)
    clear h3
    go_wp2_with fail
    go_ret
    exact ⟨m, rfl, HR.out⟩
  · obtain ⟨f1, f2, _, _⟩ := took hk
    rw [hk] at hT
    have HG := Lib.hid (hG 7 (fun e => by unfold Ex.isF; rw [f2, hL1]))
    have HPu := Lib.hid (hPu 7)
    have HT := Lib.hid hT
    clear hG hPu hT h hw hL hn hS hS2 hSl hSl2 hL1 hsm hle hL2 hE2 hsm2 hle2 hm hk f1 f2
    go_enter Tryz.func117, Tryz.ntmps117
    go_wp2_with fail
    rw [← HS.out]
    refine HT.out.mono ?_
    rintro e w1 ⟨rfl, h1⟩
    have HX := Lib.hid (HA.out w1 h1)
    have H1 := Lib.hid h1
    clear h1
    go_wp2_with fail
    obtain ⟨p, hp⟩ : ∃ p, w1.heap.size = p := ⟨_, rfl⟩
    obtain ⟨X, hX⟩ : ∃ X, X = w1.alloc (.cells #[.string S2] 9) := ⟨_, rfl⟩
    have hx := HX.out p X hp (by rw [hX])
    rw [← HS2.out, hp, ← hX]
    have HX2 := Lib.hid hx
    clear hx hX hp
    refine HX2.out.mono ?_
    rintro e w2 ⟨rfl, h2⟩
    have HT2 := Lib.hid h2
    have hP := HPu.out w2 h2
    unfold exV exC Ex.unE at hP
    dsimp only at hP
    have HP := Lib.hid hP
    clear h2 hP
    go_wp2_with (first
      | (refine wpList_build (o := ⟨some 18, _, _, _, _, _⟩) rfl _ _ rfl rfl ?_)
      | fail)
    refine HP.out.mono ?_
    rintro e w3 ⟨rfl, h3⟩
    have HR := Lib.hid (HG.out w2 w3 HT2.out h3)
    clear h3
    go_wp2_with fail
    go_ret
    exact ⟨m, rfl, HR.out⟩

end Go.Proofs.YtdabanocofimmaaGreatDoor
