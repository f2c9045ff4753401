/-
  (*expr.reader).prim: the contract, by walks. Conditions: lengths; the world holds the library's tables (WOk).
-/
import Derived.Test.YtdabanocofimmaaGreatDoorExPlain
namespace Go.Proofs.YtdabanocofimmaaGreatDoor
open Go.RowKit
set_option linter.unusedVariables false

theorem ent_or (b : Nat) : Ent b 40 := fun W => by go_simp
/-- Prim's contract, where it is asked. -/
def PrimC (O : Ex.P) (w0 w : World) (b : Nat) (v : Value) (L : List Lx.Tk) (er : Int) (row : List Ex.X) (d : Nat) : Prop :=
  Calls Tryz.prog 136 #[.pointer (some ⟨b, 0, none⟩)] w fun r w' => ∃ place : Nat, r = .returned (.int .i64 place) ∧ RuleTo (Ex.primF O) w0 b w v L er row d place w'
/-- A value that is put by prim. -/
theorem putv_any {w0 w w1 w' : World} {b : Nat} {v : Value} {L L2 : List Lx.Tk} {row : List Ex.X} {d : Nat} (F : Ex.P) (e : Ex.X) (h1 : RdTo w0 b 69 [v, .int .i64 d] w L2 0 w1) (h2 : EstTo w0 b w1 v L2 0 (row ++ [e]) d w') (hl : L2.length + 1 ≤ L.length) (hs : TkSm L2)
    (hF : F d L row = Ex.putE e L2 row) : RuleTo F w0 b w v L 0 row d row.length w' := by
  refine ⟨L2, 0, _, EstTo.trans (.of_but h1.2) h2, by rw [List.length_append, List.length_singleton]; omega, by omega, hs, fun e => absurd rfl e, fun _ => ?_⟩
  rw [hF]
  exact ⟨rfl, rfl, rfl, rfl⟩
theorem RuleTo.over {F G : Ex.P} {w0 w w1 w' : World} {b : Nat} {v : Value} {L L2 : List Lx.Tk} {er : Int} {row : List Ex.X} {d pl : Nat} (h1 : RdTo w0 b 69 [v, .int .i64 d] w L2 er w1) (h : RuleTo F w0 b w1 v L2 er row d pl w') (hl : L2.length ≤ L.length) (hF : er = 0 → G d L row = F d L2 row) : RuleTo G w0 b w v L er row d pl w' := by
  obtain ⟨L3, er3, row3, g1, g2, g3, g4, g5, g6⟩ := h.from_ (.of_but h1.2)
  refine ⟨L3, er3, row3, g1, by omega, by omega, g4, g5, fun e => ?_⟩
  rw [hF e]
  exact g6 e
set_option maxRecDepth 100000 in
set_option maxHeartbeats 6000000 in
theorem prim_0 {w0 w : World} {b K : Nat} {v : Value} {L : List Lx.Tk} {er : Int} {row : List Ex.X} {d : Nat} (O : Ex.P) (hO : ∀ K2, K2 + 1 = K → RuleC w0 b 40 O K2) (hK : L.length ≤ K) (h : Est w0 b w v L er row d) (hw : WOk w0) (hL : TkSm L) (hn : row.length + 2 * L.length + 2 ≤ 1000000) (hd : d ≤ 64) (h0 : tkOk er L [40] = true) : PrimC O w0 w b v L er row d := by
  obtain ⟨S0, hS0⟩ : ∃ S : ByteArray, S = ⟨#[40]⟩ := ⟨_, rfl⟩
  have hSl0 : S0.data.toList = [40] := by rw [hS0]; first | done | rfl
  have HS0 := Lib.hid hS0
  obtain ⟨e0, e1, e2, e3⟩ := took h0
  obtain ⟨L2, hL2⟩ : ∃ L2, takeS er L [40] = L2 := ⟨_, rfl⟩
  rw [hL2] at e1 e2 e3
  have sm2 := e3 hL
  subst e0
  have HT0 := Lib.hid (fun W (k : RdTo w0 b 69 [v, .int .i64 d] w L 0 W) => (by
    have := takes_st S0 k.1 hw hL
    rw [hSl0, h0, hL2] at this
    exact this.mono fun e w' h2 => (⟨h2.1, k.trans h2.2⟩ : e = .returned (.bool true) ∧ RdTo w0 b 69 [v, .int .i64 d] w L2 0 w')))
  have HP := Lib.hid (show ∀ row, Ex.primF O d L row = Ex.nextR (Ex.withinF O d L2 row) (fun p l2 row2 => Ex.needR [41] l2 fun l3 => .ok (p, l3, row2)) by
    unfold Ex.primF
    intro row
    rw [e1]
    first | done | rfl)
  have H00 := Lib.hid h.rd.refl
  obtain ⟨S9, hS9⟩ : ∃ S : ByteArray, S = ⟨#[41]⟩ := ⟨_, rfl⟩
  have hSl9 : S9.data.toList = [41] := by rw [hS9]
  have HS9 := Lib.hid hS9
  obtain ⟨K2, rfl⟩ : ∃ K2, K = K2 + 1 := ⟨K - 1, by omega⟩
  have HC := Lib.hid (fun W (k : RdTo w0 b 69 [v, .int .i64 d] w L2 0 W) => within_any _ O (ent_or b) (hO K2 rfl) (h.move k) sm2 (by omega) (by omega) hd)
  have HN := Lib.hid (fun W (v3 : Value) (L3 : List Lx.Tk) (er3 : Int) (row3 : List Ex.X) (k : Est w0 b W v3 L3 er3 row3 d) (hsm : TkSm L3) (p : Nat) (X : World) hp hX => by
    have := need_new (X := X) (p := p) S9 k.rd hw hsm hp hX
    rw [hSl9] at this
    exact this.mono fun e w' h2 => (⟨h2.1, k.to h2.2⟩ : e = .returned (.tuple #[]) ∧ EstTo w0 b W v3 (takeS er3 L3 [41]) (needE er3 L3 [41]) row3 d w'))
  have HG := Lib.hid (fun W (k : RdTo w0 b 69 [v, .int .i64 d] w L2 0 W) (pl : Nat) W2 (v3 : Value) (L3 : List Lx.Tk) (er3 : Int) (row3 : List Ex.X) (hf : Fr b v v3 W W2)
      (h3 : row3.length + 2 * L3.length ≤ row.length + 1 + 2 * L2.length) (h4 : L3.length ≤ L2.length) (h5 : TkSm L3) (h7 : match Ex.withinF O d L2 row with | .ok (p, L4, row4) => er3 = 0 ∧ pl = p ∧ L3 = L4 ∧ row3 = row4 | .error e => er3 = e ∧ e ≠ 0)
      w' (hto : EstTo w0 b W2 v3 (takeS er3 L3 [41]) (needE er3 L3 [41]) row3 d w') => (show RuleTo (Ex.primF O) w0 b w v L 0 row d pl w' by
      have hle := takeS_le er3 L3 [41]
      refine ⟨_, _, _, EstTo.trans (Fr.trans (.of_but k.2) hf) hto, by omega, by omega, takeS_sm h5, fun e => absurd rfl e, fun _ => ?_⟩
      rw [HP.out row]
      cases hq : Ex.withinF O d L2 row with
      | error e => rw [hq] at h7; obtain ⟨j1, j2⟩ := h7; subst j1; exact ⟨needE_err j2 _ _, j2⟩
      | ok q =>
        obtain ⟨p, L4, row4⟩ := q
        rw [hq] at h7
        obtain ⟨j1, j2, j3, j4⟩ := h7
        subst j1 j2 j3 j4
        exact need_ok rfl rfl))
  clear h hw hL hn hd hO hK hS9 hSl9 hS0 hSl0 h0  e1 e2 e3 hL2 sm2
  unfold PrimC
  go_enter Tryz.func136, Tryz.ntmps136
  go_wp2_with fail
  rw [← HS0.out]
  refine (HT0.out _ H00.out).mono ?_
  rintro e w1 ⟨rfl, k0⟩
  have H10 := Lib.hid k0
  clear k0
  go_wp2_with fail
  refine (HC.out _ H10.out).mono ?_
  rintro e w2 ⟨pl, rfl, L3, er3, row3, ⟨v3, k1, k2⟩, k3, k4, k5, k6, k7⟩
  have HR := Lib.hid (HG.out _ H10.out pl w2 v3 L3 er3 row3 k2 k3 k4 k5 (k7 rfl))
  have HQ := Lib.hid (HN.out w2 v3 L3 er3 row3 k1 k5)
  clear k1 k2 k3 k4 k5 k6 k7
  go_wp2_with fail
  obtain ⟨p, hp⟩ : ∃ p, w2.heap.size = p := ⟨_, rfl⟩
  obtain ⟨X, hX⟩ : ∃ X, X = w2.alloc (.cells #[.string S9] 9) := ⟨_, rfl⟩
  have HX2 := Lib.hid (HQ.out p X hp hX)
  rw [← HS9.out, hp, ← hX]
  clear hX hp
  refine HX2.out.mono ?_
  rintro e w3 ⟨rfl, h3⟩
  have HZ := Lib.hid (HR.out _ h3)
  clear h3
  go_wp2_with fail
  go_ret
  exact ⟨pl, rfl, HZ.out⟩

set_option maxRecDepth 100000 in
set_option maxHeartbeats 6000000 in
theorem prim_1 {w0 w : World} {b : Nat} {v : Value} {L : List Lx.Tk} {er : Int} {row : List Ex.X} {d : Nat} (O : Ex.P) (h : Est w0 b w v L er row d) (hw : WOk w0) (hL : TkSm L) (hn : row.length + 2 * L.length + 2 ≤ 1000000) (hd : d ≤ 64) (h0 : tkOk er L [40] = false) (h1 : tkOk er L Ex.kMANY = true) : PrimC O w0 w b v L er row d := by
  obtain ⟨S0, hS0⟩ : ∃ S : ByteArray, S = ⟨#[40]⟩ := ⟨_, rfl⟩
  have hSl0 : S0.data.toList = [40] := by rw [hS0]; first | done | rfl
  have HS0 := Lib.hid hS0
  obtain ⟨S1, hS1⟩ : ∃ S : ByteArray, S = ⟨#[77, 65, 78, 89]⟩ := ⟨_, rfl⟩
  have hSl1 : S1.data.toList = Ex.kMANY := by rw [hS1]; first | done | rfl
  have HS1 := Lib.hid hS1
  obtain ⟨f0, g0⟩ := took_not h0
  have HT0 := Lib.hid (fun W (k : RdTo w0 b 69 [v, .int .i64 d] w L er W) => (by
    have := takes_st S0 k.1 hw hL
    rw [hSl0, h0, f0] at this
    exact this.mono fun e w' h2 => (⟨h2.1, k.trans h2.2⟩ : e = .returned (.bool false) ∧ RdTo w0 b 69 [v, .int .i64 d] w L er w')))
  obtain ⟨e0, e1, e2, e3⟩ := took h1
  obtain ⟨L2, hL2⟩ : ∃ L2, takeS er L Ex.kMANY = L2 := ⟨_, rfl⟩
  rw [hL2] at e1 e2 e3
  have sm2 := e3 hL
  subst e0
  have HT1 := Lib.hid (fun W (k : RdTo w0 b 69 [v, .int .i64 d] w L 0 W) => (by
    have := takes_st S1 k.1 hw hL
    rw [hSl1, h1, hL2] at this
    exact this.mono fun e w' h2 => (⟨h2.1, k.trans h2.2⟩ : e = .returned (.bool true) ∧ RdTo w0 b 69 [v, .int .i64 d] w L2 0 w')))
  have HP := Lib.hid (show ∀ row, Ex.primF O d L row = Ex.manyF d L2 row by
    unfold Ex.primF
    intro row
    rw [g0 rfl]
    (try dsimp only)
    rw [e1]
    first | done | rfl)
  have H00 := Lib.hid h.rd.refl
  have HC := Lib.hid (fun W (k : RdTo w0 b 69 [v, .int .i64 d] w L2 0 W) => (show Calls Tryz.prog 154 #[.pointer (some ⟨b, 0, none⟩)] W fun r w' => ∃ pl : Nat, r = .returned (.int .i64 pl) ∧ RuleTo (Ex.primF O) w0 b w v L 0 row d pl w' from
    (many_any (h.move k) hw sm2 (by omega)).mono fun r w' ⟨pl, hr, h2⟩ => ⟨pl, hr, RuleTo.over k h2 (by omega) fun _ => HP.out row⟩))
  clear h hw hL hn hd hS0 hSl0 h0 hS1 hSl1 h1 f0 g0 e1 e2 e3 hL2 sm2
  unfold PrimC
  go_enter Tryz.func136, Tryz.ntmps136
  go_wp2_with fail
  rw [← HS0.out]
  refine (HT0.out _ H00.out).mono ?_
  rintro e w1 ⟨rfl, k0⟩
  have H10 := Lib.hid k0
  clear k0
  go_wp2_with fail
  rw [← HS1.out]
  refine (HT1.out _ H10.out).mono ?_
  rintro e w2 ⟨rfl, k1⟩
  have H20 := Lib.hid k1
  clear k1
  go_wp2_with fail
  refine (HC.out _ H20.out).mono ?_
  rintro e w9 ⟨pl, rfl, h3⟩
  have HZ := Lib.hid h3
  clear h3
  go_wp2_with fail
  go_ret
  exact ⟨pl, rfl, HZ.out⟩

set_option maxRecDepth 100000 in
set_option maxHeartbeats 6000000 in
theorem prim_2 {w0 w : World} {b : Nat} {v : Value} {L : List Lx.Tk} {er : Int} {row : List Ex.X} {d : Nat} (O : Ex.P) (h : Est w0 b w v L er row d) (hw : WOk w0) (hL : TkSm L) (hn : row.length + 2 * L.length + 2 ≤ 1000000) (hd : d ≤ 64) (h0 : tkOk er L [40] = false) (h1 : tkOk er L Ex.kMANY = false) (h2 : tkOk er L [45] = true) : PrimC O w0 w b v L er row d := by
  obtain ⟨S0, hS0⟩ : ∃ S : ByteArray, S = ⟨#[40]⟩ := ⟨_, rfl⟩
  have hSl0 : S0.data.toList = [40] := by rw [hS0]; first | done | rfl
  have HS0 := Lib.hid hS0
  obtain ⟨S1, hS1⟩ : ∃ S : ByteArray, S = ⟨#[77, 65, 78, 89]⟩ := ⟨_, rfl⟩
  have hSl1 : S1.data.toList = Ex.kMANY := by rw [hS1]; first | done | rfl
  have HS1 := Lib.hid hS1
  obtain ⟨S2, hS2⟩ : ∃ S : ByteArray, S = ⟨#[45]⟩ := ⟨_, rfl⟩
  have hSl2 : S2.data.toList = [45] := by rw [hS2]; first | done | rfl
  have HS2 := Lib.hid hS2
  obtain ⟨f0, g0⟩ := took_not h0
  have HT0 := Lib.hid (fun W (k : RdTo w0 b 69 [v, .int .i64 d] w L er W) => (by
    have := takes_st S0 k.1 hw hL
    rw [hSl0, h0, f0] at this
    exact this.mono fun e w' h2 => (⟨h2.1, k.trans h2.2⟩ : e = .returned (.bool false) ∧ RdTo w0 b 69 [v, .int .i64 d] w L er w')))
  obtain ⟨f1, g1⟩ := took_not h1
  have HT1 := Lib.hid (fun W (k : RdTo w0 b 69 [v, .int .i64 d] w L er W) => (by
    have := takes_st S1 k.1 hw hL
    rw [hSl1, h1, f1] at this
    exact this.mono fun e w' h2 => (⟨h2.1, k.trans h2.2⟩ : e = .returned (.bool false) ∧ RdTo w0 b 69 [v, .int .i64 d] w L er w')))
  obtain ⟨e0, e1, e2, e3⟩ := took h2
  obtain ⟨L2, hL2⟩ : ∃ L2, takeS er L [45] = L2 := ⟨_, rfl⟩
  rw [hL2] at e1 e2 e3
  have sm2 := e3 hL
  subst e0
  have HT2 := Lib.hid (fun W (k : RdTo w0 b 69 [v, .int .i64 d] w L 0 W) => (by
    have := takes_st S2 k.1 hw hL
    rw [hSl2, h2, hL2] at this
    exact this.mono fun e w' h2 => (⟨h2.1, k.trans h2.2⟩ : e = .returned (.bool true) ∧ RdTo w0 b 69 [v, .int .i64 d] w L2 0 w')))
  have HP := Lib.hid (show ∀ row, Ex.primF O d L row = Ex.belowF d L2 row by
    unfold Ex.primF
    intro row
    rw [g0 rfl]
    (try dsimp only)
    rw [g1 rfl]
    (try dsimp only)
    rw [e1]
    first | done | rfl)
  have H00 := Lib.hid h.rd.refl
  have HC := Lib.hid (fun W (k : RdTo w0 b 69 [v, .int .i64 d] w L2 0 W) => (show Calls Tryz.prog 155 #[.pointer (some ⟨b, 0, none⟩)] W fun r w' => ∃ pl : Nat, r = .returned (.int .i64 pl) ∧ RuleTo (Ex.primF O) w0 b w v L 0 row d pl w' from
    (below_any (h.move k) hw sm2 (by omega)).mono fun r w' ⟨pl, hr, h2⟩ => ⟨pl, hr, RuleTo.over k h2 (by omega) fun _ => HP.out row⟩))
  clear h hw hL hn hd hS0 hSl0 h0 hS1 hSl1 h1 hS2 hSl2 h2 f0 g0 f1 g1 e1 e2 e3 hL2 sm2
  unfold PrimC
  go_enter Tryz.func136, Tryz.ntmps136
  go_wp2_with fail
  rw [← HS0.out]
  refine (HT0.out _ H00.out).mono ?_
  rintro e w1 ⟨rfl, k0⟩
  have H10 := Lib.hid k0
  clear k0
  go_wp2_with fail
  rw [← HS1.out]
  refine (HT1.out _ H10.out).mono ?_
  rintro e w2 ⟨rfl, k1⟩
  have H20 := Lib.hid k1
  clear k1
  go_wp2_with fail
  rw [← HS2.out]
  refine (HT2.out _ H20.out).mono ?_
  rintro e w3 ⟨rfl, k2⟩
  have H30 := Lib.hid k2
  clear k2
  go_wp2_with fail
  refine (HC.out _ H30.out).mono ?_
  rintro e w9 ⟨pl, rfl, h3⟩
  have HZ := Lib.hid h3
  clear h3
  go_wp2_with fail
  go_ret
  exact ⟨pl, rfl, HZ.out⟩

set_option maxRecDepth 100000 in
set_option maxHeartbeats 6000000 in
theorem prim_3 {w0 w : World} {b : Nat} {v : Value} {L : List Lx.Tk} {er : Int} {row : List Ex.X} {d : Nat} (O : Ex.P) (h : Est w0 b w v L er row d) (hw : WOk w0) (hL : TkSm L) (hn : row.length + 2 * L.length + 2 ≤ 1000000) (hd : d ≤ 64) (h0 : tkOk er L [40] = false) (h1 : tkOk er L Ex.kMANY = false) (h2 : tkOk er L [45] = false) (h3 : tkOk er L [64] = true) : PrimC O w0 w b v L er row d := by
  obtain ⟨S0, hS0⟩ : ∃ S : ByteArray, S = ⟨#[40]⟩ := ⟨_, rfl⟩
  have hSl0 : S0.data.toList = [40] := by rw [hS0]; first | done | rfl
  have HS0 := Lib.hid hS0
  obtain ⟨S1, hS1⟩ : ∃ S : ByteArray, S = ⟨#[77, 65, 78, 89]⟩ := ⟨_, rfl⟩
  have hSl1 : S1.data.toList = Ex.kMANY := by rw [hS1]; first | done | rfl
  have HS1 := Lib.hid hS1
  obtain ⟨S2, hS2⟩ : ∃ S : ByteArray, S = ⟨#[45]⟩ := ⟨_, rfl⟩
  have hSl2 : S2.data.toList = [45] := by rw [hS2]; first | done | rfl
  have HS2 := Lib.hid hS2
  obtain ⟨S3, hS3⟩ : ∃ S : ByteArray, S = ⟨#[64]⟩ := ⟨_, rfl⟩
  have hSl3 : S3.data.toList = [64] := by rw [hS3]; first | done | rfl
  have HS3 := Lib.hid hS3
  obtain ⟨f0, g0⟩ := took_not h0
  have HT0 := Lib.hid (fun W (k : RdTo w0 b 69 [v, .int .i64 d] w L er W) => (by
    have := takes_st S0 k.1 hw hL
    rw [hSl0, h0, f0] at this
    exact this.mono fun e w' h2 => (⟨h2.1, k.trans h2.2⟩ : e = .returned (.bool false) ∧ RdTo w0 b 69 [v, .int .i64 d] w L er w')))
  obtain ⟨f1, g1⟩ := took_not h1
  have HT1 := Lib.hid (fun W (k : RdTo w0 b 69 [v, .int .i64 d] w L er W) => (by
    have := takes_st S1 k.1 hw hL
    rw [hSl1, h1, f1] at this
    exact this.mono fun e w' h2 => (⟨h2.1, k.trans h2.2⟩ : e = .returned (.bool false) ∧ RdTo w0 b 69 [v, .int .i64 d] w L er w')))
  obtain ⟨f2, g2⟩ := took_not h2
  have HT2 := Lib.hid (fun W (k : RdTo w0 b 69 [v, .int .i64 d] w L er W) => (by
    have := takes_st S2 k.1 hw hL
    rw [hSl2, h2, f2] at this
    exact this.mono fun e w' h2 => (⟨h2.1, k.trans h2.2⟩ : e = .returned (.bool false) ∧ RdTo w0 b 69 [v, .int .i64 d] w L er w')))
  obtain ⟨e0, e1, e2, e3⟩ := took h3
  obtain ⟨L2, hL2⟩ : ∃ L2, takeS er L [64] = L2 := ⟨_, rfl⟩
  rw [hL2] at e1 e2 e3
  have sm2 := e3 hL
  subst e0
  have HT3 := Lib.hid (fun W (k : RdTo w0 b 69 [v, .int .i64 d] w L 0 W) => (by
    have := takes_st S3 k.1 hw hL
    rw [hSl3, h3, hL2] at this
    exact this.mono fun e w' h2 => (⟨h2.1, k.trans h2.2⟩ : e = .returned (.bool true) ∧ RdTo w0 b 69 [v, .int .i64 d] w L2 0 w')))
  have HP := Lib.hid (show ∀ row, Ex.primF O d L row = Ex.nameR L2 (fun u l2 => Ex.putE (Ex.valE 4 0 u) l2 row) by
    unfold Ex.primF
    intro row
    rw [g0 rfl]
    (try dsimp only)
    rw [g1 rfl]
    (try dsimp only)
    rw [g2 rfl]
    (try dsimp only)
    rw [e1]
    first | done | rfl)
  have H00 := Lib.hid h.rd.refl
  obtain ⟨m, hm⟩ : ∃ m, row.length = m := ⟨_, rfl⟩
  obtain ⟨L3, hL3⟩ : ∃ L3, oneS 0 L2 [1] = L3 := ⟨_, rfl⟩
  obtain ⟨e4, he4⟩ : ∃ e4, oneE 0 L2 [1] = e4 := ⟨_, rfl⟩
  obtain ⟨U, hU⟩ : ∃ U : ByteArray, (⟨(oneT 0 L2 [1]).2.2.toArray⟩ : ByteArray) = U := ⟨_, rfl⟩
  have HA := Lib.hid (fun W (k : RdTo w0 b 69 [v, .int .i64 d] w L2 0 W) => (by
    have := rname_any k.1 hw sm2
    rw [hL3, he4, hU] at this
    exact this.mono fun e w' h2 => (⟨h2.1, k.trans h2.2⟩ : e = .returned (.string U) ∧ RdTo w0 b 69 [v, .int .i64 d] w L3 e4 w')))
  have HPu := Lib.hid (fun W (k : RdTo w0 b 69 [v, .int .i64 d] w L3 e4 W) => (by
    have := value_any 4 0 U (h.move k) (by omega)
    rw [hm] at this
    exact this.mono fun r w' h2 => (⟨h2.1, by
      have hle : L3.length ≤ L2.length := by rw [← hL3]; exact oneS_le _ _ _
      refine ⟨_, _, _, EstTo.trans (.of_but k.2) h2.2, by rw [List.length_append, List.length_singleton]; omega, by omega, by rw [← hL3]; exact oneS_sm sm2, fun e => absurd rfl e, fun _ => ?_⟩
      rw [HP.out row, nameR_one, he4]
      by_cases h4 : e4 = 0
      · rw [if_pos h4]
        exact ⟨h4, hm.symm, hL3.symm, by rw [← hU]⟩
      · rw [if_neg h4]
        exact ⟨rfl, h4⟩⟩ : r = .returned (.int .i64 m) ∧ RuleTo (Ex.primF O) w0 b w v L 0 row d m w')))
  clear h hw hL hn hd hm hL3 he4 hU hS0 hSl0 h0 hS1 hSl1 h1 hS2 hSl2 h2 hS3 hSl3 h3 f0 g0 f1 g1 f2 g2 e1 e2 e3 hL2 sm2
  unfold PrimC
  go_enter Tryz.func136, Tryz.ntmps136
  go_wp2_with fail
  rw [← HS0.out]
  refine (HT0.out _ H00.out).mono ?_
  rintro e w1 ⟨rfl, k0⟩
  have H10 := Lib.hid k0
  clear k0
  go_wp2_with fail
  rw [← HS1.out]
  refine (HT1.out _ H10.out).mono ?_
  rintro e w2 ⟨rfl, k1⟩
  have H20 := Lib.hid k1
  clear k1
  go_wp2_with fail
  rw [← HS2.out]
  refine (HT2.out _ H20.out).mono ?_
  rintro e w3 ⟨rfl, k2⟩
  have H30 := Lib.hid k2
  clear k2
  go_wp2_with fail
  rw [← HS3.out]
  refine (HT3.out _ H30.out).mono ?_
  rintro e w4 ⟨rfl, k3⟩
  have H40 := Lib.hid k3
  clear k3
  go_wp2_with fail
  refine (HA.out _ H40.out).mono ?_
  rintro e w5 ⟨rfl, k5⟩
  have H50 := Lib.hid k5
  clear k5
  go_wp2_with (first
    | (refine wpList_build (o := ⟨some 43, _, _, _, _, _⟩) rfl _ _ rfl rfl ?_)
    | fail)
  refine (HPu.out _ H50.out).mono ?_
  rintro e w9 ⟨rfl, h3⟩
  have HZ := Lib.hid h3
  clear h3
  go_wp2_with fail
  go_ret
  exact ⟨m, rfl, HZ.out⟩

set_option maxRecDepth 100000 in
set_option maxHeartbeats 6000000 in
theorem prim_4 {w0 w : World} {b : Nat} {v : Value} {L : List Lx.Tk} {er : Int} {row : List Ex.X} {d : Nat} (O : Ex.P) (h : Est w0 b w v L er row d) (hw : WOk w0) (hL : TkSm L) (hn : row.length + 2 * L.length + 2 ≤ 1000000) (hd : d ≤ 64) (h0 : tkOk er L [40] = false) (h1 : tkOk er L Ex.kMANY = false) (h2 : tkOk er L [45] = false) (h3 : tkOk er L [64] = false) (h4 : tkOk er L Ex.kTRUE = true) : PrimC O w0 w b v L er row d := by
  obtain ⟨S0, hS0⟩ : ∃ S : ByteArray, S = ⟨#[40]⟩ := ⟨_, rfl⟩
  have hSl0 : S0.data.toList = [40] := by rw [hS0]; first | done | rfl
  have HS0 := Lib.hid hS0
  obtain ⟨S1, hS1⟩ : ∃ S : ByteArray, S = ⟨#[77, 65, 78, 89]⟩ := ⟨_, rfl⟩
  have hSl1 : S1.data.toList = Ex.kMANY := by rw [hS1]; first | done | rfl
  have HS1 := Lib.hid hS1
  obtain ⟨S2, hS2⟩ : ∃ S : ByteArray, S = ⟨#[45]⟩ := ⟨_, rfl⟩
  have hSl2 : S2.data.toList = [45] := by rw [hS2]; first | done | rfl
  have HS2 := Lib.hid hS2
  obtain ⟨S3, hS3⟩ : ∃ S : ByteArray, S = ⟨#[64]⟩ := ⟨_, rfl⟩
  have hSl3 : S3.data.toList = [64] := by rw [hS3]; first | done | rfl
  have HS3 := Lib.hid hS3
  obtain ⟨S4, hS4⟩ : ∃ S : ByteArray, S = ⟨#[84, 82, 85, 69]⟩ := ⟨_, rfl⟩
  have hSl4 : S4.data.toList = Ex.kTRUE := by rw [hS4]; first | done | rfl
  have HS4 := Lib.hid hS4
  obtain ⟨f0, g0⟩ := took_not h0
  have HT0 := Lib.hid (fun W (k : RdTo w0 b 69 [v, .int .i64 d] w L er W) => (by
    have := takes_st S0 k.1 hw hL
    rw [hSl0, h0, f0] at this
    exact this.mono fun e w' h2 => (⟨h2.1, k.trans h2.2⟩ : e = .returned (.bool false) ∧ RdTo w0 b 69 [v, .int .i64 d] w L er w')))
  obtain ⟨f1, g1⟩ := took_not h1
  have HT1 := Lib.hid (fun W (k : RdTo w0 b 69 [v, .int .i64 d] w L er W) => (by
    have := takes_st S1 k.1 hw hL
    rw [hSl1, h1, f1] at this
    exact this.mono fun e w' h2 => (⟨h2.1, k.trans h2.2⟩ : e = .returned (.bool false) ∧ RdTo w0 b 69 [v, .int .i64 d] w L er w')))
  obtain ⟨f2, g2⟩ := took_not h2
  have HT2 := Lib.hid (fun W (k : RdTo w0 b 69 [v, .int .i64 d] w L er W) => (by
    have := takes_st S2 k.1 hw hL
    rw [hSl2, h2, f2] at this
    exact this.mono fun e w' h2 => (⟨h2.1, k.trans h2.2⟩ : e = .returned (.bool false) ∧ RdTo w0 b 69 [v, .int .i64 d] w L er w')))
  obtain ⟨f3, g3⟩ := took_not h3
  have HT3 := Lib.hid (fun W (k : RdTo w0 b 69 [v, .int .i64 d] w L er W) => (by
    have := takes_st S3 k.1 hw hL
    rw [hSl3, h3, f3] at this
    exact this.mono fun e w' h2 => (⟨h2.1, k.trans h2.2⟩ : e = .returned (.bool false) ∧ RdTo w0 b 69 [v, .int .i64 d] w L er w')))
  obtain ⟨e0, e1, e2, e3⟩ := took h4
  obtain ⟨L2, hL2⟩ : ∃ L2, takeS er L Ex.kTRUE = L2 := ⟨_, rfl⟩
  rw [hL2] at e1 e2 e3
  have sm2 := e3 hL
  subst e0
  have HT4 := Lib.hid (fun W (k : RdTo w0 b 69 [v, .int .i64 d] w L 0 W) => (by
    have := takes_st S4 k.1 hw hL
    rw [hSl4, h4, hL2] at this
    exact this.mono fun e w' h2 => (⟨h2.1, k.trans h2.2⟩ : e = .returned (.bool true) ∧ RdTo w0 b 69 [v, .int .i64 d] w L2 0 w')))
  have HP := Lib.hid (show ∀ row, Ex.primF O d L row = Ex.putE (Ex.valE 1 1 []) L2 row by
    unfold Ex.primF
    intro row
    rw [g0 rfl]
    (try dsimp only)
    rw [g1 rfl]
    (try dsimp only)
    rw [g2 rfl]
    (try dsimp only)
    rw [g3 rfl]
    (try dsimp only)
    rw [e1]
    first | done | rfl)
  have H00 := Lib.hid h.rd.refl
  obtain ⟨m, hm⟩ : ∃ m, row.length = m := ⟨_, rfl⟩
  have HPu := Lib.hid (fun W (k : RdTo w0 b 69 [v, .int .i64 d] w L2 0 W) => (by
    have := value_any 1 1 ⟨#[]⟩ (h.move k) (by omega)
    rw [hm] at this
    exact this.mono fun r w' h2 => (⟨h2.1, by rw [← hm]; exact putv_any _ _ k h2.2 (by omega) sm2 (HP.out row)⟩ : r = .returned (.int .i64 m) ∧ RuleTo (Ex.primF O) w0 b w v L 0 row d m w')))
  clear h hw hL hn hd hm hS0 hSl0 h0 hS1 hSl1 h1 hS2 hSl2 h2 hS3 hSl3 h3 hS4 hSl4 h4 f0 g0 f1 g1 f2 g2 f3 g3 e1 e2 e3 hL2 sm2
  unfold PrimC
  go_enter Tryz.func136, Tryz.ntmps136
  go_wp2_with fail
  rw [← HS0.out]
  refine (HT0.out _ H00.out).mono ?_
  rintro e w1 ⟨rfl, k0⟩
  have H10 := Lib.hid k0
  clear k0
  go_wp2_with fail
  rw [← HS1.out]
  refine (HT1.out _ H10.out).mono ?_
  rintro e w2 ⟨rfl, k1⟩
  have H20 := Lib.hid k1
  clear k1
  go_wp2_with fail
  rw [← HS2.out]
  refine (HT2.out _ H20.out).mono ?_
  rintro e w3 ⟨rfl, k2⟩
  have H30 := Lib.hid k2
  clear k2
  go_wp2_with fail
  rw [← HS3.out]
  refine (HT3.out _ H30.out).mono ?_
  rintro e w4 ⟨rfl, k3⟩
  have H40 := Lib.hid k3
  clear k3
  go_wp2_with fail
  rw [← HS4.out]
  refine (HT4.out _ H40.out).mono ?_
  rintro e w5 ⟨rfl, k4⟩
  have H50 := Lib.hid k4
  clear k4
  go_wp2_with (first
    | (refine wpList_build (o := ⟨some 51, _, _, _, _, _⟩) rfl _ _ rfl rfl ?_)
    | fail)
  refine (HPu.out _ H50.out).mono ?_
  rintro e w9 ⟨rfl, h3⟩
  have HZ := Lib.hid h3
  clear h3
  go_wp2_with fail
  go_ret
  exact ⟨m, rfl, HZ.out⟩

set_option maxRecDepth 100000 in
set_option maxHeartbeats 6000000 in
theorem prim_5 {w0 w : World} {b : Nat} {v : Value} {L : List Lx.Tk} {er : Int} {row : List Ex.X} {d : Nat} (O : Ex.P) (h : Est w0 b w v L er row d) (hw : WOk w0) (hL : TkSm L) (hn : row.length + 2 * L.length + 2 ≤ 1000000) (hd : d ≤ 64) (h0 : tkOk er L [40] = false) (h1 : tkOk er L Ex.kMANY = false) (h2 : tkOk er L [45] = false) (h3 : tkOk er L [64] = false) (h4 : tkOk er L Ex.kTRUE = false) (h5 : tkOk er L Ex.kFALSE = true) : PrimC O w0 w b v L er row d := by
  obtain ⟨S0, hS0⟩ : ∃ S : ByteArray, S = ⟨#[40]⟩ := ⟨_, rfl⟩
  have hSl0 : S0.data.toList = [40] := by rw [hS0]; first | done | rfl
  have HS0 := Lib.hid hS0
  obtain ⟨S1, hS1⟩ : ∃ S : ByteArray, S = ⟨#[77, 65, 78, 89]⟩ := ⟨_, rfl⟩
  have hSl1 : S1.data.toList = Ex.kMANY := by rw [hS1]; first | done | rfl
  have HS1 := Lib.hid hS1
  obtain ⟨S2, hS2⟩ : ∃ S : ByteArray, S = ⟨#[45]⟩ := ⟨_, rfl⟩
  have hSl2 : S2.data.toList = [45] := by rw [hS2]; first | done | rfl
  have HS2 := Lib.hid hS2
  obtain ⟨S3, hS3⟩ : ∃ S : ByteArray, S = ⟨#[64]⟩ := ⟨_, rfl⟩
  have hSl3 : S3.data.toList = [64] := by rw [hS3]; first | done | rfl
  have HS3 := Lib.hid hS3
  obtain ⟨S4, hS4⟩ : ∃ S : ByteArray, S = ⟨#[84, 82, 85, 69]⟩ := ⟨_, rfl⟩
  have hSl4 : S4.data.toList = Ex.kTRUE := by rw [hS4]; first | done | rfl
  have HS4 := Lib.hid hS4
  obtain ⟨S5, hS5⟩ : ∃ S : ByteArray, S = ⟨#[70, 65, 76, 83, 69]⟩ := ⟨_, rfl⟩
  have hSl5 : S5.data.toList = Ex.kFALSE := by rw [hS5]; first | done | rfl
  have HS5 := Lib.hid hS5
  obtain ⟨f0, g0⟩ := took_not h0
  have HT0 := Lib.hid (fun W (k : RdTo w0 b 69 [v, .int .i64 d] w L er W) => (by
    have := takes_st S0 k.1 hw hL
    rw [hSl0, h0, f0] at this
    exact this.mono fun e w' h2 => (⟨h2.1, k.trans h2.2⟩ : e = .returned (.bool false) ∧ RdTo w0 b 69 [v, .int .i64 d] w L er w')))
  obtain ⟨f1, g1⟩ := took_not h1
  have HT1 := Lib.hid (fun W (k : RdTo w0 b 69 [v, .int .i64 d] w L er W) => (by
    have := takes_st S1 k.1 hw hL
    rw [hSl1, h1, f1] at this
    exact this.mono fun e w' h2 => (⟨h2.1, k.trans h2.2⟩ : e = .returned (.bool false) ∧ RdTo w0 b 69 [v, .int .i64 d] w L er w')))
  obtain ⟨f2, g2⟩ := took_not h2
  have HT2 := Lib.hid (fun W (k : RdTo w0 b 69 [v, .int .i64 d] w L er W) => (by
    have := takes_st S2 k.1 hw hL
    rw [hSl2, h2, f2] at this
    exact this.mono fun e w' h2 => (⟨h2.1, k.trans h2.2⟩ : e = .returned (.bool false) ∧ RdTo w0 b 69 [v, .int .i64 d] w L er w')))
  obtain ⟨f3, g3⟩ := took_not h3
  have HT3 := Lib.hid (fun W (k : RdTo w0 b 69 [v, .int .i64 d] w L er W) => (by
    have := takes_st S3 k.1 hw hL
    rw [hSl3, h3, f3] at this
    exact this.mono fun e w' h2 => (⟨h2.1, k.trans h2.2⟩ : e = .returned (.bool false) ∧ RdTo w0 b 69 [v, .int .i64 d] w L er w')))
  obtain ⟨f4, g4⟩ := took_not h4
  have HT4 := Lib.hid (fun W (k : RdTo w0 b 69 [v, .int .i64 d] w L er W) => (by
    have := takes_st S4 k.1 hw hL
    rw [hSl4, h4, f4] at this
    exact this.mono fun e w' h2 => (⟨h2.1, k.trans h2.2⟩ : e = .returned (.bool false) ∧ RdTo w0 b 69 [v, .int .i64 d] w L er w')))
  obtain ⟨e0, e1, e2, e3⟩ := took h5
  obtain ⟨L2, hL2⟩ : ∃ L2, takeS er L Ex.kFALSE = L2 := ⟨_, rfl⟩
  rw [hL2] at e1 e2 e3
  have sm2 := e3 hL
  subst e0
  have HT5 := Lib.hid (fun W (k : RdTo w0 b 69 [v, .int .i64 d] w L 0 W) => (by
    have := takes_st S5 k.1 hw hL
    rw [hSl5, h5, hL2] at this
    exact this.mono fun e w' h2 => (⟨h2.1, k.trans h2.2⟩ : e = .returned (.bool true) ∧ RdTo w0 b 69 [v, .int .i64 d] w L2 0 w')))
  have HP := Lib.hid (show ∀ row, Ex.primF O d L row = Ex.putE (Ex.valE 1 0 []) L2 row by
    unfold Ex.primF
    intro row
    rw [g0 rfl]
    (try dsimp only)
    rw [g1 rfl]
    (try dsimp only)
    rw [g2 rfl]
    (try dsimp only)
    rw [g3 rfl]
    (try dsimp only)
    rw [g4 rfl]
    (try dsimp only)
    rw [e1]
    first | done | rfl)
  have H00 := Lib.hid h.rd.refl
  obtain ⟨m, hm⟩ : ∃ m, row.length = m := ⟨_, rfl⟩
  have HPu := Lib.hid (fun W (k : RdTo w0 b 69 [v, .int .i64 d] w L2 0 W) => (by
    have := value_any 1 0 ⟨#[]⟩ (h.move k) (by omega)
    rw [hm] at this
    exact this.mono fun r w' h2 => (⟨h2.1, by rw [← hm]; exact putv_any _ _ k h2.2 (by omega) sm2 (HP.out row)⟩ : r = .returned (.int .i64 m) ∧ RuleTo (Ex.primF O) w0 b w v L 0 row d m w')))
  clear h hw hL hn hd hm hS0 hSl0 h0 hS1 hSl1 h1 hS2 hSl2 h2 hS3 hSl3 h3 hS4 hSl4 h4 hS5 hSl5 h5 f0 g0 f1 g1 f2 g2 f3 g3 f4 g4 e1 e2 e3 hL2 sm2
  unfold PrimC
  go_enter Tryz.func136, Tryz.ntmps136
  go_wp2_with fail
  rw [← HS0.out]
  refine (HT0.out _ H00.out).mono ?_
  rintro e w1 ⟨rfl, k0⟩
  have H10 := Lib.hid k0
  clear k0
  go_wp2_with fail
  rw [← HS1.out]
  refine (HT1.out _ H10.out).mono ?_
  rintro e w2 ⟨rfl, k1⟩
  have H20 := Lib.hid k1
  clear k1
  go_wp2_with fail
  rw [← HS2.out]
  refine (HT2.out _ H20.out).mono ?_
  rintro e w3 ⟨rfl, k2⟩
  have H30 := Lib.hid k2
  clear k2
  go_wp2_with fail
  rw [← HS3.out]
  refine (HT3.out _ H30.out).mono ?_
  rintro e w4 ⟨rfl, k3⟩
  have H40 := Lib.hid k3
  clear k3
  go_wp2_with fail
  rw [← HS4.out]
  refine (HT4.out _ H40.out).mono ?_
  rintro e w5 ⟨rfl, k4⟩
  have H50 := Lib.hid k4
  clear k4
  go_wp2_with fail
  rw [← HS5.out]
  refine (HT5.out _ H50.out).mono ?_
  rintro e w6 ⟨rfl, k5⟩
  have H60 := Lib.hid k5
  clear k5
  go_wp2_with (first
    | (refine wpList_build (o := ⟨some 59, _, _, _, _, _⟩) rfl _ _ rfl rfl ?_)
    | fail)
  refine (HPu.out _ H60.out).mono ?_
  rintro e w9 ⟨rfl, h3⟩
  have HZ := Lib.hid h3
  clear h3
  go_wp2_with fail
  go_ret
  exact ⟨m, rfl, HZ.out⟩

set_option maxRecDepth 100000 in
set_option maxHeartbeats 6000000 in
theorem prim_6 {w0 w : World} {b : Nat} {v : Value} {L : List Lx.Tk} {er : Int} {row : List Ex.X} {d : Nat} (O : Ex.P) (h : Est w0 b w v L er row d) (hw : WOk w0) (hL : TkSm L) (hn : row.length + 2 * L.length + 2 ≤ 1000000) (hd : d ≤ 64) (h0 : tkOk er L [40] = false) (h1 : tkOk er L Ex.kMANY = false) (h2 : tkOk er L [45] = false) (h3 : tkOk er L [64] = false) (h4 : tkOk er L Ex.kTRUE = false) (h5 : tkOk er L Ex.kFALSE = false) (h6 : tkOk er L Ex.kNULL = true) : PrimC O w0 w b v L er row d := by
  obtain ⟨S0, hS0⟩ : ∃ S : ByteArray, S = ⟨#[40]⟩ := ⟨_, rfl⟩
  have hSl0 : S0.data.toList = [40] := by rw [hS0]; first | done | rfl
  have HS0 := Lib.hid hS0
  obtain ⟨S1, hS1⟩ : ∃ S : ByteArray, S = ⟨#[77, 65, 78, 89]⟩ := ⟨_, rfl⟩
  have hSl1 : S1.data.toList = Ex.kMANY := by rw [hS1]; first | done | rfl
  have HS1 := Lib.hid hS1
  obtain ⟨S2, hS2⟩ : ∃ S : ByteArray, S = ⟨#[45]⟩ := ⟨_, rfl⟩
  have hSl2 : S2.data.toList = [45] := by rw [hS2]; first | done | rfl
  have HS2 := Lib.hid hS2
  obtain ⟨S3, hS3⟩ : ∃ S : ByteArray, S = ⟨#[64]⟩ := ⟨_, rfl⟩
  have hSl3 : S3.data.toList = [64] := by rw [hS3]; first | done | rfl
  have HS3 := Lib.hid hS3
  obtain ⟨S4, hS4⟩ : ∃ S : ByteArray, S = ⟨#[84, 82, 85, 69]⟩ := ⟨_, rfl⟩
  have hSl4 : S4.data.toList = Ex.kTRUE := by rw [hS4]; first | done | rfl
  have HS4 := Lib.hid hS4
  obtain ⟨S5, hS5⟩ : ∃ S : ByteArray, S = ⟨#[70, 65, 76, 83, 69]⟩ := ⟨_, rfl⟩
  have hSl5 : S5.data.toList = Ex.kFALSE := by rw [hS5]; first | done | rfl
  have HS5 := Lib.hid hS5
  obtain ⟨S6, hS6⟩ : ∃ S : ByteArray, S = ⟨#[78, 85, 76, 76]⟩ := ⟨_, rfl⟩
  have hSl6 : S6.data.toList = Ex.kNULL := by rw [hS6]; first | done | rfl
  have HS6 := Lib.hid hS6
  obtain ⟨f0, g0⟩ := took_not h0
  have HT0 := Lib.hid (fun W (k : RdTo w0 b 69 [v, .int .i64 d] w L er W) => (by
    have := takes_st S0 k.1 hw hL
    rw [hSl0, h0, f0] at this
    exact this.mono fun e w' h2 => (⟨h2.1, k.trans h2.2⟩ : e = .returned (.bool false) ∧ RdTo w0 b 69 [v, .int .i64 d] w L er w')))
  obtain ⟨f1, g1⟩ := took_not h1
  have HT1 := Lib.hid (fun W (k : RdTo w0 b 69 [v, .int .i64 d] w L er W) => (by
    have := takes_st S1 k.1 hw hL
    rw [hSl1, h1, f1] at this
    exact this.mono fun e w' h2 => (⟨h2.1, k.trans h2.2⟩ : e = .returned (.bool false) ∧ RdTo w0 b 69 [v, .int .i64 d] w L er w')))
  obtain ⟨f2, g2⟩ := took_not h2
  have HT2 := Lib.hid (fun W (k : RdTo w0 b 69 [v, .int .i64 d] w L er W) => (by
    have := takes_st S2 k.1 hw hL
    rw [hSl2, h2, f2] at this
    exact this.mono fun e w' h2 => (⟨h2.1, k.trans h2.2⟩ : e = .returned (.bool false) ∧ RdTo w0 b 69 [v, .int .i64 d] w L er w')))
  obtain ⟨f3, g3⟩ := took_not h3
  have HT3 := Lib.hid (fun W (k : RdTo w0 b 69 [v, .int .i64 d] w L er W) => (by
    have := takes_st S3 k.1 hw hL
    rw [hSl3, h3, f3] at this
    exact this.mono fun e w' h2 => (⟨h2.1, k.trans h2.2⟩ : e = .returned (.bool false) ∧ RdTo w0 b 69 [v, .int .i64 d] w L er w')))
  obtain ⟨f4, g4⟩ := took_not h4
  have HT4 := Lib.hid (fun W (k : RdTo w0 b 69 [v, .int .i64 d] w L er W) => (by
    have := takes_st S4 k.1 hw hL
    rw [hSl4, h4, f4] at this
    exact this.mono fun e w' h2 => (⟨h2.1, k.trans h2.2⟩ : e = .returned (.bool false) ∧ RdTo w0 b 69 [v, .int .i64 d] w L er w')))
  obtain ⟨f5, g5⟩ := took_not h5
  have HT5 := Lib.hid (fun W (k : RdTo w0 b 69 [v, .int .i64 d] w L er W) => (by
    have := takes_st S5 k.1 hw hL
    rw [hSl5, h5, f5] at this
    exact this.mono fun e w' h2 => (⟨h2.1, k.trans h2.2⟩ : e = .returned (.bool false) ∧ RdTo w0 b 69 [v, .int .i64 d] w L er w')))
  obtain ⟨e0, e1, e2, e3⟩ := took h6
  obtain ⟨L2, hL2⟩ : ∃ L2, takeS er L Ex.kNULL = L2 := ⟨_, rfl⟩
  rw [hL2] at e1 e2 e3
  have sm2 := e3 hL
  subst e0
  have HT6 := Lib.hid (fun W (k : RdTo w0 b 69 [v, .int .i64 d] w L 0 W) => (by
    have := takes_st S6 k.1 hw hL
    rw [hSl6, h6, hL2] at this
    exact this.mono fun e w' h2 => (⟨h2.1, k.trans h2.2⟩ : e = .returned (.bool true) ∧ RdTo w0 b 69 [v, .int .i64 d] w L2 0 w')))
  have HP := Lib.hid (show ∀ row, Ex.primF O d L row = Ex.putE (Ex.valE 0 0 []) L2 row by
    unfold Ex.primF
    intro row
    rw [g0 rfl]
    (try dsimp only)
    rw [g1 rfl]
    (try dsimp only)
    rw [g2 rfl]
    (try dsimp only)
    rw [g3 rfl]
    (try dsimp only)
    rw [g4 rfl]
    (try dsimp only)
    rw [g5 rfl]
    (try dsimp only)
    rw [e1]
    first | done | rfl)
  have H00 := Lib.hid h.rd.refl
  obtain ⟨m, hm⟩ : ∃ m, row.length = m := ⟨_, rfl⟩
  have HPu := Lib.hid (fun W (k : RdTo w0 b 69 [v, .int .i64 d] w L2 0 W) => (by
    have := value_any 0 0 ⟨#[]⟩ (h.move k) (by omega)
    rw [hm] at this
    exact this.mono fun r w' h2 => (⟨h2.1, by rw [← hm]; exact putv_any _ _ k h2.2 (by omega) sm2 (HP.out row)⟩ : r = .returned (.int .i64 m) ∧ RuleTo (Ex.primF O) w0 b w v L 0 row d m w')))
  clear h hw hL hn hd hm hS0 hSl0 h0 hS1 hSl1 h1 hS2 hSl2 h2 hS3 hSl3 h3 hS4 hSl4 h4 hS5 hSl5 h5 hS6 hSl6 h6 f0 g0 f1 g1 f2 g2 f3 g3 f4 g4 f5 g5 e1 e2 e3 hL2 sm2
  unfold PrimC
  go_enter Tryz.func136, Tryz.ntmps136
  go_wp2_with fail
  rw [← HS0.out]
  refine (HT0.out _ H00.out).mono ?_
  rintro e w1 ⟨rfl, k0⟩
  have H10 := Lib.hid k0
  clear k0
  go_wp2_with fail
  rw [← HS1.out]
  refine (HT1.out _ H10.out).mono ?_
  rintro e w2 ⟨rfl, k1⟩
  have H20 := Lib.hid k1
  clear k1
  go_wp2_with fail
  rw [← HS2.out]
  refine (HT2.out _ H20.out).mono ?_
  rintro e w3 ⟨rfl, k2⟩
  have H30 := Lib.hid k2
  clear k2
  go_wp2_with fail
  rw [← HS3.out]
  refine (HT3.out _ H30.out).mono ?_
  rintro e w4 ⟨rfl, k3⟩
  have H40 := Lib.hid k3
  clear k3
  go_wp2_with fail
  rw [← HS4.out]
  refine (HT4.out _ H40.out).mono ?_
  rintro e w5 ⟨rfl, k4⟩
  have H50 := Lib.hid k4
  clear k4
  go_wp2_with fail
  rw [← HS5.out]
  refine (HT5.out _ H50.out).mono ?_
  rintro e w6 ⟨rfl, k5⟩
  have H60 := Lib.hid k5
  clear k5
  go_wp2_with fail
  rw [← HS6.out]
  refine (HT6.out _ H60.out).mono ?_
  rintro e w7 ⟨rfl, k6⟩
  have H70 := Lib.hid k6
  clear k6
  go_wp2_with (first
    | (refine wpList_build (o := ⟨some 67, _, _, _, _, _⟩) rfl _ _ rfl rfl ?_)
    | fail)
  refine (HPu.out _ H70.out).mono ?_
  rintro e w9 ⟨rfl, h3⟩
  have HZ := Lib.hid h3
  clear h3
  go_wp2_with fail
  go_ret
  exact ⟨m, rfl, HZ.out⟩

set_option maxRecDepth 100000 in
set_option maxHeartbeats 6000000 in
theorem prim_7 {w0 w : World} {b : Nat} {v : Value} {L : List Lx.Tk} {er : Int} {row : List Ex.X} {d : Nat} (O : Ex.P) (h : Est w0 b w v L er row d) (hw : WOk w0) (hL : TkSm L) (hn : row.length + 2 * L.length + 2 ≤ 1000000) (hd : d ≤ 64) (h0 : tkOk er L [40] = false) (h1 : tkOk er L Ex.kMANY = false) (h2 : tkOk er L [45] = false) (h3 : tkOk er L [64] = false) (h4 : tkOk er L Ex.kTRUE = false) (h5 : tkOk er L Ex.kFALSE = false) (h6 : tkOk er L Ex.kNULL = false) : PrimC O w0 w b v L er row d := by
  obtain ⟨S0, hS0⟩ : ∃ S : ByteArray, S = ⟨#[40]⟩ := ⟨_, rfl⟩
  have hSl0 : S0.data.toList = [40] := by rw [hS0]; first | done | rfl
  have HS0 := Lib.hid hS0
  obtain ⟨S1, hS1⟩ : ∃ S : ByteArray, S = ⟨#[77, 65, 78, 89]⟩ := ⟨_, rfl⟩
  have hSl1 : S1.data.toList = Ex.kMANY := by rw [hS1]; first | done | rfl
  have HS1 := Lib.hid hS1
  obtain ⟨S2, hS2⟩ : ∃ S : ByteArray, S = ⟨#[45]⟩ := ⟨_, rfl⟩
  have hSl2 : S2.data.toList = [45] := by rw [hS2]; first | done | rfl
  have HS2 := Lib.hid hS2
  obtain ⟨S3, hS3⟩ : ∃ S : ByteArray, S = ⟨#[64]⟩ := ⟨_, rfl⟩
  have hSl3 : S3.data.toList = [64] := by rw [hS3]; first | done | rfl
  have HS3 := Lib.hid hS3
  obtain ⟨S4, hS4⟩ : ∃ S : ByteArray, S = ⟨#[84, 82, 85, 69]⟩ := ⟨_, rfl⟩
  have hSl4 : S4.data.toList = Ex.kTRUE := by rw [hS4]; first | done | rfl
  have HS4 := Lib.hid hS4
  obtain ⟨S5, hS5⟩ : ∃ S : ByteArray, S = ⟨#[70, 65, 76, 83, 69]⟩ := ⟨_, rfl⟩
  have hSl5 : S5.data.toList = Ex.kFALSE := by rw [hS5]; first | done | rfl
  have HS5 := Lib.hid hS5
  obtain ⟨S6, hS6⟩ : ∃ S : ByteArray, S = ⟨#[78, 85, 76, 76]⟩ := ⟨_, rfl⟩
  have hSl6 : S6.data.toList = Ex.kNULL := by rw [hS6]; first | done | rfl
  have HS6 := Lib.hid hS6
  obtain ⟨f0, g0⟩ := took_not h0
  have HT0 := Lib.hid (fun W (k : RdTo w0 b 69 [v, .int .i64 d] w L er W) => (by
    have := takes_st S0 k.1 hw hL
    rw [hSl0, h0, f0] at this
    exact this.mono fun e w' h2 => (⟨h2.1, k.trans h2.2⟩ : e = .returned (.bool false) ∧ RdTo w0 b 69 [v, .int .i64 d] w L er w')))
  obtain ⟨f1, g1⟩ := took_not h1
  have HT1 := Lib.hid (fun W (k : RdTo w0 b 69 [v, .int .i64 d] w L er W) => (by
    have := takes_st S1 k.1 hw hL
    rw [hSl1, h1, f1] at this
    exact this.mono fun e w' h2 => (⟨h2.1, k.trans h2.2⟩ : e = .returned (.bool false) ∧ RdTo w0 b 69 [v, .int .i64 d] w L er w')))
  obtain ⟨f2, g2⟩ := took_not h2
  have HT2 := Lib.hid (fun W (k : RdTo w0 b 69 [v, .int .i64 d] w L er W) => (by
    have := takes_st S2 k.1 hw hL
    rw [hSl2, h2, f2] at this
    exact this.mono fun e w' h2 => (⟨h2.1, k.trans h2.2⟩ : e = .returned (.bool false) ∧ RdTo w0 b 69 [v, .int .i64 d] w L er w')))
  obtain ⟨f3, g3⟩ := took_not h3
  have HT3 := Lib.hid (fun W (k : RdTo w0 b 69 [v, .int .i64 d] w L er W) => (by
    have := takes_st S3 k.1 hw hL
    rw [hSl3, h3, f3] at this
    exact this.mono fun e w' h2 => (⟨h2.1, k.trans h2.2⟩ : e = .returned (.bool false) ∧ RdTo w0 b 69 [v, .int .i64 d] w L er w')))
  obtain ⟨f4, g4⟩ := took_not h4
  have HT4 := Lib.hid (fun W (k : RdTo w0 b 69 [v, .int .i64 d] w L er W) => (by
    have := takes_st S4 k.1 hw hL
    rw [hSl4, h4, f4] at this
    exact this.mono fun e w' h2 => (⟨h2.1, k.trans h2.2⟩ : e = .returned (.bool false) ∧ RdTo w0 b 69 [v, .int .i64 d] w L er w')))
  obtain ⟨f5, g5⟩ := took_not h5
  have HT5 := Lib.hid (fun W (k : RdTo w0 b 69 [v, .int .i64 d] w L er W) => (by
    have := takes_st S5 k.1 hw hL
    rw [hSl5, h5, f5] at this
    exact this.mono fun e w' h2 => (⟨h2.1, k.trans h2.2⟩ : e = .returned (.bool false) ∧ RdTo w0 b 69 [v, .int .i64 d] w L er w')))
  obtain ⟨f6, g6⟩ := took_not h6
  have HT6 := Lib.hid (fun W (k : RdTo w0 b 69 [v, .int .i64 d] w L er W) => (by
    have := takes_st S6 k.1 hw hL
    rw [hSl6, h6, f6] at this
    exact this.mono fun e w' h2 => (⟨h2.1, k.trans h2.2⟩ : e = .returned (.bool false) ∧ RdTo w0 b 69 [v, .int .i64 d] w L er w')))
  have HP := Lib.hid (show ∀ row, er = 0 → Ex.primF O d L row = Ex.plainF d L row by
    unfold Ex.primF
    intro row e0
    rw [g0 e0]
    (try dsimp only)
    rw [g1 e0]
    (try dsimp only)
    rw [g2 e0]
    (try dsimp only)
    rw [g3 e0]
    (try dsimp only)
    rw [g4 e0]
    (try dsimp only)
    rw [g5 e0]
    (try dsimp only)
    rw [g6 e0]
    (try dsimp only)
    first | done | rfl)
  have H00 := Lib.hid h.rd.refl
  have HC := Lib.hid (fun W (k : RdTo w0 b 69 [v, .int .i64 d] w L er W) => (show Calls Tryz.prog 158 #[.pointer (some ⟨b, 0, none⟩)] W fun r w' => ∃ pl : Nat, r = .returned (.int .i64 pl) ∧ RuleTo (Ex.primF O) w0 b w v L er row d pl w' from
    (show Calls _ _ _ _ _ from xplain_any (h.move k) hw hL (by omega)).mono fun r w' ⟨pl, hr, h2⟩ => ⟨pl, hr, RuleTo.over k h2 (Nat.le_refl _) fun e => HP.out row e⟩))
  clear h hw hL hn hd hS0 hSl0 h0 hS1 hSl1 h1 hS2 hSl2 h2 hS3 hSl3 h3 hS4 hSl4 h4 hS5 hSl5 h5 hS6 hSl6 h6 f0 g0 f1 g1 f2 g2 f3 g3 f4 g4 f5 g5 f6 g6
  unfold PrimC
  go_enter Tryz.func136, Tryz.ntmps136
  go_wp2_with fail
  rw [← HS0.out]
  refine (HT0.out _ H00.out).mono ?_
  rintro e w1 ⟨rfl, k0⟩
  have H10 := Lib.hid k0
  clear k0
  go_wp2_with fail
  rw [← HS1.out]
  refine (HT1.out _ H10.out).mono ?_
  rintro e w2 ⟨rfl, k1⟩
  have H20 := Lib.hid k1
  clear k1
  go_wp2_with fail
  rw [← HS2.out]
  refine (HT2.out _ H20.out).mono ?_
  rintro e w3 ⟨rfl, k2⟩
  have H30 := Lib.hid k2
  clear k2
  go_wp2_with fail
  rw [← HS3.out]
  refine (HT3.out _ H30.out).mono ?_
  rintro e w4 ⟨rfl, k3⟩
  have H40 := Lib.hid k3
  clear k3
  go_wp2_with fail
  rw [← HS4.out]
  refine (HT4.out _ H40.out).mono ?_
  rintro e w5 ⟨rfl, k4⟩
  have H50 := Lib.hid k4
  clear k4
  go_wp2_with fail
  rw [← HS5.out]
  refine (HT5.out _ H50.out).mono ?_
  rintro e w6 ⟨rfl, k5⟩
  have H60 := Lib.hid k5
  clear k5
  go_wp2_with fail
  rw [← HS6.out]
  refine (HT6.out _ H60.out).mono ?_
  rintro e w7 ⟨rfl, k6⟩
  have H70 := Lib.hid k6
  clear k6
  go_wp2_with fail
  refine (HC.out _ H70.out).mono ?_
  rintro e w9 ⟨pl, rfl, h3⟩
  have HZ := Lib.hid h3
  clear h3
  go_wp2_with fail
  go_ret
  exact ⟨pl, rfl, HZ.out⟩

theorem prim_rule {w0 : World} {b K : Nat} (O : Ex.P) (hO : ∀ K2, K2 + 1 = K → RuleC w0 b 40 O K2) (hw : WOk w0) : RuleC w0 b 136 (Ex.primF O) K := by
  intro w v L er row d h hL hn hK hd
  cases h0 : tkOk er L [40]
  case true => exact prim_0 O hO hK h hw hL hn hd h0
  cases h1 : tkOk er L Ex.kMANY
  case true => exact prim_1 O h hw hL hn hd h0 h1
  cases h2 : tkOk er L [45]
  case true => exact prim_2 O h hw hL hn hd h0 h1 h2
  cases h3 : tkOk er L [64]
  case true => exact prim_3 O h hw hL hn hd h0 h1 h2 h3
  cases h4 : tkOk er L Ex.kTRUE
  case true => exact prim_4 O h hw hL hn hd h0 h1 h2 h3 h4
  cases h5 : tkOk er L Ex.kFALSE
  case true => exact prim_5 O h hw hL hn hd h0 h1 h2 h3 h4 h5
  cases h6 : tkOk er L Ex.kNULL
  case true => exact prim_6 O h hw hL hn hd h0 h1 h2 h3 h4 h5 h6
  exact prim_7 O h hw hL hn hd h0 h1 h2 h3 h4 h5 h6

end Go.Proofs.YtdabanocofimmaaGreatDoor
