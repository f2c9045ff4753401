/-
  (*expr.reader).plain: the contract, by walks. Conditions: lengths; the world holds the library's tables (WOk).
-/
import Derived.Test.YtdabanocofimmaaGreatDoorJExMany
namespace Go.Proofs.YtdabanocofimmaaGreatDoor
open Go.RowKit

theorem run_build_op {P : Program} {o : Oper} {ρ : Operand → Value} {w : World} {ty : TypeId} {xs : Array (Nat × Operand)} {vs : Array (Nat × Value)} {v : Value} (ho : o.op = .build ty xs) (hx : xs.map (fun (i, x) => (i, ρ x)) = vs) (hr : (Instr.build ty vs).run P w = .ok v w) : (execOp ρ o).run P w = .ok (.value v) w := by
  unfold execOp
  simp only [ho]
  rw [show (xs.map fun x => match x with | (i, x) => (i, ρ x)) = vs from hx]
  simp [hr]
theorem one_at {er : Int} {L : List Lx.Tk} {ks : List Int} (hs : hasS er L ks = true) : er = 0 ∧ oneE er L ks = 0 ∧ (oneS er L ks).length + 1 = L.length ∧ Ex.oneL ks L = some (oneT er L ks, oneS er L ks) ∧ ks.contains (oneT er L ks).1 = true := by
  have e := has_zero hs
  subst e
  obtain ⟨x, r, hx, hh⟩ := hasS_cons hs
  unfold oneE oneS oneT
  rw [if_pos hs, if_pos hs, if_pos hs, oneL_has, if_pos hs]
  refine ⟨rfl, rfl, by rw [hx]; rfl, rfl, ?_⟩
  unfold hasS at hs
  simp only [Bool.and_eq_true] at hs
  exact hs.2.1
theorem one_no {er : Int} {L : List Lx.Tk} {ks : List Int} (hs : hasS er L ks = false) : oneT er L ks = zTk ∧ oneS er L ks = L ∧ oneE er L ks = failS er 10 ∧ (er = 0 → Ex.oneL ks L = none) := by
  unfold oneE oneS oneT
  have hn : ¬ hasS er L ks = true := by rw [hs]; decide
  rw [if_neg hn, if_neg hn, if_neg hn]
  refine ⟨rfl, rfl, rfl, fun e => ?_⟩
  subst e
  rw [oneL_has, if_neg hn]
/-- Plain's contract, where it is asked. -/
def PlainC (w0 w : World) (b : Nat) (v : Value) (L : List Lx.Tk) (er : Int) (row : List Ex.X) (d : Nat) : Prop :=
  Calls Tryz.prog 158 #[.pointer (some ⟨b, 0, none⟩)] w fun r w' => ∃ place : Nat, r = .returned (.int .i64 place) ∧ RuleTo Ex.plainF w0 b w v L er row d place w'
theorem at_token2 (g : Nat) (w : World) : (Instr.fieldAt 43 (.pointer (some ⟨g, 0, none⟩)) 2).run Tryz.prog w = .ok (.pointer (some ⟨g, 2, none⟩)) w := by go_simp
theorem bd_prop (S U : ByteArray) (w : World) : (Instr.build 49 #[(0, .int .i64 3), (2, .string S), (3, .string U)]).run Tryz.prog w = .ok (.agg #[.int .i64 3, .int .i64 0, .int .i64 0, .string ⟨#[]⟩, .string S, .string U, .int .i64 0, .int .i64 0]) w := by kernel_rfl

set_option maxRecDepth 100000 in
set_option maxHeartbeats 6000000 in
theorem plain_num {w0 w : World} {b : Nat} {v : Value} {L L1 : List Lx.Tk} {er e1 : Int} {row : List Ex.X} {d : Nat} {tk tn : Int} {ts : List UInt8} (h : Est w0 b w v L er row d) (hw : WOk w0) (hL : TkSm L) (hn : row.length + 1 ≤ 1000000) (ht : oneT er L [3, 4, 1] = (tk, tn, ts)) (h1 : oneS er L [3, 4, 1] = L1) (he : oneE er L [3, 4, 1] = e1)
    (h3 : tk = 3)
    (hG : ∀ w', EstTo w0 b w v L1 e1 (row ++ [Ex.valE 2 tn []]) d w' → RuleTo Ex.plainF w0 b w v L er row d row.length w') : PlainC w0 w b v L er row d := by
  obtain ⟨p, hp⟩ : ∃ p, w.heap.size = p := ⟨_, rfl⟩
  obtain ⟨X, hX⟩ : ∃ X, X = w.alloc (.cells #[.int .i64 3, .int .i64 4, .int .i64 1] 3) := ⟨_, rfl⟩
  have hO := one_new (n := 3) [3, 4, 1] #[.int .i64 3, .int .i64 4, .int .i64 1] h.rd hw hL rfl (by omega) (fun j hj => by
    match j, hj with
    | 0, _ => rfl
    | 1, _ => rfl
    | 2, _ => rfl) hp hX
  rw [ht, h1, he] at hO
  have hL1 : TkSm L1 := by rw [← h1]; exact oneS_sm hL
  obtain ⟨m, hm⟩ : ∃ m, row.length = m := ⟨_, rfl⟩
  obtain ⟨S, hS⟩ : ∃ S : ByteArray, (⟨ts.toArray⟩ : ByteArray) = S := ⟨_, rfl⟩
  unfold tkV at hO
  dsimp only at hO
  rw [hS] at hO
  have HPu := Lib.hid (fun W (k : RdTo w0 b 69 [v, .int .i64 d] w L1 e1 W) => (by
    have := value_any 2 tn ⟨#[]⟩ (h.move k) hn
    rw [hm] at this
    exact this.mono fun r w' h2 => (⟨h2.1, by rw [← hm]; exact hG _ (EstTo.trans (.of_but k.2) h2.2)⟩ : r = .returned (.int .i64 m) ∧ RuleTo Ex.plainF w0 b w v L er row d m w')))
  have hb0 : (tk == 3) = true := by rw [h3]; rfl
  have HO := Lib.hid hO
  have HX := Lib.hid hX
  have HP := Lib.hid hp
  have HPb := Lib.hid (show ∀ W, RdTo w0 b 69 [v, .int .i64 d] w L1 e1 W → W.heap.size ≠ b from fun W k => by
    obtain ⟨⟨cs, g1, _⟩, _⟩ := k.1
    have := g1.blk.lt
    omega)
  clear h hw hL hn ht h1 he hG hp hX hO hL1 hm hS h3
  unfold PlainC
  go_enter Tryz.func158, Tryz.ntmps158
  go_wp2_with fail
  rw [← HX.out, HP.out]
  refine HO.out.mono ?_
  rintro e w1 ⟨rfl, k1⟩
  have HPb1 := Lib.hid (HPb.out w1 k1)
  obtain ⟨p2, hp2⟩ : ∃ p, w1.heap.size = p := ⟨_, rfl⟩
  obtain ⟨X2, hX2⟩ : ∃ X, X = w1.alloc (.cells #[.int .i64 tk, .int .i64 tn, .string S] 43) := ⟨_, rfl⟩
  have hbX : Below w1.heap.size w1 X2 := by rw [hX2]; exact (Below.refl _ _).alloc (Nat.le_refl _) _
  have HE := Lib.hid (show Blk X2 p2 43 #[.int .i64 tk, .int .i64 tn, .string S] by rw [hX2, ← hp2]; exact Blk.new w1 _ _)
  have R2 := Lib.hid (show RdTo w0 b 69 [v, .int .i64 d] w L1 e1 X2 from k1.trans (k1.1.keep hbX))
  have HP2 := Lib.hid (show p2 ≠ b by rw [← hp2]; exact HPb1.out)
  have HX2 := Lib.hid hX2
  have HQ2 := Lib.hid hp2
  clear k1 hX2 hp2 hbX HPb HPb1
  go_upto_region 2 with fail
  rw [← HX2.out, HQ2.out]
  have c0 : X2.cell? ⟨p2, 0, none⟩ = some (.int .i64 tk) := (Blk.cell HE.out 0).trans rfl
  have c1 : X2.cell? ⟨p2, 1, none⟩ = some (.int .i64 tn) := (Blk.cell HE.out 1).trans rfl
  have c2 : X2.cell? ⟨p2, 2, none⟩ = some (.string S) := (Blk.cell HE.out 2).trans rfl
  have HPw := Lib.hid (HPu.out X2 R2.out)
  clear HE HP2 HPu R2
  go_wp2_with (first
    | (refine wpList_build (o := ⟨some 16, _, _, _, _, _⟩) rfl _ _ rfl rfl ?_)
    | fail)
  refine HPw.out.mono ?_
  rintro e w9 ⟨rfl, h9⟩
  have HZ := Lib.hid h9
  clear h9
  go_wp2_with fail
  go_ret
  exact ⟨m, rfl, HZ.out⟩

set_option maxRecDepth 100000 in
set_option maxHeartbeats 6000000 in
theorem plain_text {w0 w : World} {b : Nat} {v : Value} {L L1 : List Lx.Tk} {er e1 : Int} {row : List Ex.X} {d : Nat} {tk tn : Int} {ts : List UInt8} (h : Est w0 b w v L er row d) (hw : WOk w0) (hL : TkSm L) (hn : row.length + 1 ≤ 1000000) (ht : oneT er L [3, 4, 1] = (tk, tn, ts)) (h1 : oneS er L [3, 4, 1] = L1) (he : oneE er L [3, 4, 1] = e1)
    (h4 : tk = 4)
    (hG : ∀ w', EstTo w0 b w v L1 e1 (row ++ [Ex.valE 3 0 ts]) d w' → RuleTo Ex.plainF w0 b w v L er row d row.length w') : PlainC w0 w b v L er row d := by
  obtain ⟨p, hp⟩ : ∃ p, w.heap.size = p := ⟨_, rfl⟩
  obtain ⟨X, hX⟩ : ∃ X, X = w.alloc (.cells #[.int .i64 3, .int .i64 4, .int .i64 1] 3) := ⟨_, rfl⟩
  have hO := one_new (n := 3) [3, 4, 1] #[.int .i64 3, .int .i64 4, .int .i64 1] h.rd hw hL rfl (by omega) (fun j hj => by
    match j, hj with
    | 0, _ => rfl
    | 1, _ => rfl
    | 2, _ => rfl) hp hX
  rw [ht, h1, he] at hO
  have hL1 : TkSm L1 := by rw [← h1]; exact oneS_sm hL
  obtain ⟨m, hm⟩ : ∃ m, row.length = m := ⟨_, rfl⟩
  obtain ⟨S, hS⟩ : ∃ S : ByteArray, (⟨ts.toArray⟩ : ByteArray) = S := ⟨_, rfl⟩
  unfold tkV at hO
  dsimp only at hO
  rw [hS] at hO
  have HPu := Lib.hid (fun W (k : RdTo w0 b 69 [v, .int .i64 d] w L1 e1 W) => (by
    have := value_any 3 0 S (h.move k) hn
    rw [hm, show S.data.toList = ts by rw [← hS]] at this
    exact this.mono fun r w' h2 => (⟨h2.1, by rw [← hm]; exact hG _ (EstTo.trans (.of_but k.2) h2.2)⟩ : r = .returned (.int .i64 m) ∧ RuleTo Ex.plainF w0 b w v L er row d m w')))
  have hb0 : (tk == 3) = false := by rw [h4]; rfl
  have hb1 : (tk == 4) = true := by rw [h4]; rfl
  have HO := Lib.hid hO
  have HX := Lib.hid hX
  have HP := Lib.hid hp
  have HPb := Lib.hid (show ∀ W, RdTo w0 b 69 [v, .int .i64 d] w L1 e1 W → W.heap.size ≠ b from fun W k => by
    obtain ⟨⟨cs, g1, _⟩, _⟩ := k.1
    have := g1.blk.lt
    omega)
  clear h hw hL hn ht h1 he hG hp hX hO hL1 hm hS h4
  unfold PlainC
  go_enter Tryz.func158, Tryz.ntmps158
  go_wp2_with fail
  rw [← HX.out, HP.out]
  refine HO.out.mono ?_
  rintro e w1 ⟨rfl, k1⟩
  have HPb1 := Lib.hid (HPb.out w1 k1)
  obtain ⟨p2, hp2⟩ : ∃ p, w1.heap.size = p := ⟨_, rfl⟩
  obtain ⟨X2, hX2⟩ : ∃ X, X = w1.alloc (.cells #[.int .i64 tk, .int .i64 tn, .string S] 43) := ⟨_, rfl⟩
  have hbX : Below w1.heap.size w1 X2 := by rw [hX2]; exact (Below.refl _ _).alloc (Nat.le_refl _) _
  have HE := Lib.hid (show Blk X2 p2 43 #[.int .i64 tk, .int .i64 tn, .string S] by rw [hX2, ← hp2]; exact Blk.new w1 _ _)
  have R2 := Lib.hid (show RdTo w0 b 69 [v, .int .i64 d] w L1 e1 X2 from k1.trans (k1.1.keep hbX))
  have HP2 := Lib.hid (show p2 ≠ b by rw [← hp2]; exact HPb1.out)
  have HX2 := Lib.hid hX2
  have HQ2 := Lib.hid hp2
  clear k1 hX2 hp2 hbX HPb HPb1
  go_upto_region 2 with fail
  rw [← HX2.out, HQ2.out]
  have c0 : X2.cell? ⟨p2, 0, none⟩ = some (.int .i64 tk) := (Blk.cell HE.out 0).trans rfl
  have c1 : X2.cell? ⟨p2, 1, none⟩ = some (.int .i64 tn) := (Blk.cell HE.out 1).trans rfl
  have c2 : X2.cell? ⟨p2, 2, none⟩ = some (.string S) := (Blk.cell HE.out 2).trans rfl
  have HPw := Lib.hid (HPu.out X2 R2.out)
  clear HE HP2 HPu R2
  go_wp2_with (first
    | (refine wpList_build (o := ⟨some 23, _, _, _, _, _⟩) rfl _ _ rfl rfl ?_)
    | fail)
  refine HPw.out.mono ?_
  rintro e w9 ⟨rfl, h9⟩
  have HZ := Lib.hid h9
  clear h9
  go_wp2_with fail
  go_ret
  exact ⟨m, rfl, HZ.out⟩

set_option maxRecDepth 100000 in
set_option maxHeartbeats 6000000 in
theorem plain_var {w0 w : World} {b : Nat} {v : Value} {L L1 : List Lx.Tk} {er e1 : Int} {row : List Ex.X} {d : Nat} {tk tn : Int} {ts : List UInt8} (h : Est w0 b w v L er row d) (hw : WOk w0) (hL : TkSm L) (hn : row.length + 1 ≤ 1000000) (ht : oneT er L [3, 4, 1] = (tk, tn, ts)) (h1 : oneS er L [3, 4, 1] = L1) (he : oneE er L [3, 4, 1] = e1)
    (h34 : tk ≠ 3 ∧ tk ≠ 4) (hk : tkOk e1 L1 [46] = false)
    (hG : ∀ w', EstTo w0 b w v L1 e1 (row ++ [⟨2, 0, 0, [], ts, [], 0, 0⟩]) d w' → RuleTo Ex.plainF w0 b w v L er row d row.length w') : PlainC w0 w b v L er row d := by
  obtain ⟨p, hp⟩ : ∃ p, w.heap.size = p := ⟨_, rfl⟩
  obtain ⟨X, hX⟩ : ∃ X, X = w.alloc (.cells #[.int .i64 3, .int .i64 4, .int .i64 1] 3) := ⟨_, rfl⟩
  have hO := one_new (n := 3) [3, 4, 1] #[.int .i64 3, .int .i64 4, .int .i64 1] h.rd hw hL rfl (by omega) (fun j hj => by
    match j, hj with
    | 0, _ => rfl
    | 1, _ => rfl
    | 2, _ => rfl) hp hX
  rw [ht, h1, he] at hO
  have hL1 : TkSm L1 := by rw [← h1]; exact oneS_sm hL
  obtain ⟨m, hm⟩ : ∃ m, row.length = m := ⟨_, rfl⟩
  obtain ⟨S, hS⟩ : ∃ S : ByteArray, (⟨ts.toArray⟩ : ByteArray) = S := ⟨_, rfl⟩
  unfold tkV at hO
  dsimp only at hO
  rw [hS] at hO
  have hb0 : (tk == 3) = false := by rw [beq_eq_false_iff_ne]; exact h34.1
  have hb1 : (tk == 4) = false := by rw [beq_eq_false_iff_ne]; exact h34.2
  obtain ⟨S2, hS2⟩ : ∃ S : ByteArray, S = ⟨#[46]⟩ := ⟨_, rfl⟩
  have hSl2 : S2.data.toList = [46] := by rw [hS2]
  have HS2 := Lib.hid hS2
  have HT := Lib.hid (fun W (k : RdTo w0 b 69 [v, .int .i64 d] w L1 e1 W) => (by
    have := takes_st S2 k.1 hw hL1
    rw [hSl2, hk, (took_not hk).1] at this
    exact this : Calls Tryz.prog 104 #[.pointer (some ⟨b, 0, none⟩), .string S2] W fun e w' => e = .returned (.bool false) ∧ RdTo w0 b 69 [v, .int .i64 d] W L1 e1 w'))
  have HPu := Lib.hid (fun W (k : RdTo w0 b 69 [v, .int .i64 d] w L1 e1 W) => (by
    have := put_any (⟨2, 0, 0, [], ts, [], 0, 0⟩ : Ex.X) (h.move k) hn
    rw [hm] at this
    unfold exV exC at this
    dsimp only at this
    rw [hS] at this
    exact this.mono fun r w' h2 => (⟨h2.1, by rw [← hm]; exact hG _ (EstTo.trans (.of_but k.2) h2.2)⟩ : r = .returned (.int .i64 m) ∧ RuleTo Ex.plainF w0 b w v L er row d m w')))

  have HO := Lib.hid hO
  have HX := Lib.hid hX
  have HP := Lib.hid hp
  have HPb := Lib.hid (show ∀ W, RdTo w0 b 69 [v, .int .i64 d] w L1 e1 W → W.heap.size ≠ b from fun W k => by
    obtain ⟨⟨cs, g1, _⟩, _⟩ := k.1
    have := g1.blk.lt
    omega)
  clear h hw hL hn ht h1 he hG hp hX hO hL1 hm hS h34 hk hS2 hSl2
  unfold PlainC
  go_enter Tryz.func158, Tryz.ntmps158
  go_wp2_with fail
  rw [← HX.out, HP.out]
  refine HO.out.mono ?_
  rintro e w1 ⟨rfl, k1⟩
  have HPb1 := Lib.hid (HPb.out w1 k1)
  obtain ⟨p2, hp2⟩ : ∃ p, w1.heap.size = p := ⟨_, rfl⟩
  obtain ⟨X2, hX2⟩ : ∃ X, X = w1.alloc (.cells #[.int .i64 tk, .int .i64 tn, .string S] 43) := ⟨_, rfl⟩
  have hbX : Below w1.heap.size w1 X2 := by rw [hX2]; exact (Below.refl _ _).alloc (Nat.le_refl _) _
  have HE := Lib.hid (show Blk X2 p2 43 #[.int .i64 tk, .int .i64 tn, .string S] by rw [hX2, ← hp2]; exact Blk.new w1 _ _)
  have R2 := Lib.hid (show RdTo w0 b 69 [v, .int .i64 d] w L1 e1 X2 from k1.trans (k1.1.keep hbX))
  have HP2 := Lib.hid (show p2 ≠ b by rw [← hp2]; exact HPb1.out)
  have HX2 := Lib.hid hX2
  have HQ2 := Lib.hid hp2
  clear k1 hX2 hp2 hbX HPb HPb1
  go_upto_region 2 with fail
  rw [← HX2.out, HQ2.out]
  have c0 : X2.cell? ⟨p2, 0, none⟩ = some (.int .i64 tk) := (Blk.cell HE.out 0).trans rfl
  have c1 : X2.cell? ⟨p2, 1, none⟩ = some (.int .i64 tn) := (Blk.cell HE.out 1).trans rfl
  have c2 : X2.cell? ⟨p2, 2, none⟩ = some (.string S) := (Blk.cell HE.out 2).trans rfl
  have HTw := Lib.hid (HT.out X2 R2.out)
  clear HT
  go_wp2_with fail
  rw [← HS2.out]
  refine HTw.out.mono ?_
  rintro e w3 ⟨rfl, k3⟩
  have HE3 := Lib.hid (k3.2.blk HE.out HP2.out)
  have HPw := Lib.hid (HPu.out w3 (R2.out.trans k3))
  clear k3 HPu R2 HE c0 c1 c2
  have c0 : w3.cell? ⟨p2, 0, none⟩ = some (.int .i64 tk) := (Blk.cell HE3.out 0).trans rfl
  have c1 : w3.cell? ⟨p2, 1, none⟩ = some (.int .i64 tn) := (Blk.cell HE3.out 1).trans rfl
  have c2 : w3.cell? ⟨p2, 2, none⟩ = some (.string S) := (Blk.cell HE3.out 2).trans rfl
  clear HE3 HP2
  go_wp2_with (first
    | (refine wpList_build (o := ⟨some 41, _, _, _, _, _⟩) rfl _ _ rfl rfl ?_)
    | fail)
  refine HPw.out.mono ?_
  rintro e w9 ⟨rfl, h9⟩
  have HZ := Lib.hid h9
  clear h9
  go_wp2_with fail
  go_ret
  exact ⟨m, rfl, HZ.out⟩

set_option maxRecDepth 100000 in
set_option maxHeartbeats 6000000 in
theorem plain_prop {w0 w : World} {b : Nat} {v : Value} {L L1 : List Lx.Tk} {er e1 : Int} {row : List Ex.X} {d : Nat} {tk tn : Int} {ts : List UInt8} (h : Est w0 b w v L er row d) (hw : WOk w0) (hL : TkSm L) (hn : row.length + 1 ≤ 1000000) (ht : oneT er L [3, 4, 1] = (tk, tn, ts)) (h1 : oneS er L [3, 4, 1] = L1) (he : oneE er L [3, 4, 1] = e1)
    {L3 L4 : List Lx.Tk} {e4 : Int} {us : List UInt8} (h34 : tk ≠ 3 ∧ tk ≠ 4) (hk : tkOk e1 L1 [46] = true) (hL3 : takeS e1 L1 [46] = L3) (hL4 : oneS e1 L3 [1] = L4) (he4 : oneE e1 L3 [1] = e4) (hu : (oneT e1 L3 [1]).2.2 = us)
    (hG : ∀ w', EstTo w0 b w v L4 e4 (row ++ [⟨3, 0, 0, [], ts, us, 0, 0⟩]) d w' → RuleTo Ex.plainF w0 b w v L er row d row.length w') : PlainC w0 w b v L er row d := by
  obtain ⟨p, hp⟩ : ∃ p, w.heap.size = p := ⟨_, rfl⟩
  obtain ⟨X, hX⟩ : ∃ X, X = w.alloc (.cells #[.int .i64 3, .int .i64 4, .int .i64 1] 3) := ⟨_, rfl⟩
  have hO := one_new (n := 3) [3, 4, 1] #[.int .i64 3, .int .i64 4, .int .i64 1] h.rd hw hL rfl (by omega) (fun j hj => by
    match j, hj with
    | 0, _ => rfl
    | 1, _ => rfl
    | 2, _ => rfl) hp hX
  rw [ht, h1, he] at hO
  have hL1 : TkSm L1 := by rw [← h1]; exact oneS_sm hL
  obtain ⟨m, hm⟩ : ∃ m, row.length = m := ⟨_, rfl⟩
  obtain ⟨S, hS⟩ : ∃ S : ByteArray, (⟨ts.toArray⟩ : ByteArray) = S := ⟨_, rfl⟩
  unfold tkV at hO
  dsimp only at hO
  rw [hS] at hO
  have hb0 : (tk == 3) = false := by rw [beq_eq_false_iff_ne]; exact h34.1
  have hb1 : (tk == 4) = false := by rw [beq_eq_false_iff_ne]; exact h34.2
  obtain ⟨S2, hS2⟩ : ∃ S : ByteArray, S = ⟨#[46]⟩ := ⟨_, rfl⟩
  have hSl2 : S2.data.toList = [46] := by rw [hS2]
  have HS2 := Lib.hid hS2
  have hsm3 : TkSm L3 := by rw [← hL3]; exact takeS_sm hL1
  obtain ⟨U, hU⟩ : ∃ U : ByteArray, (⟨us.toArray⟩ : ByteArray) = U := ⟨_, rfl⟩
  have HT := Lib.hid (fun W (k : RdTo w0 b 69 [v, .int .i64 d] w L1 e1 W) => (by
    have := takes_st S2 k.1 hw hL1
    rw [hSl2, hk, hL3] at this
    exact this : Calls Tryz.prog 104 #[.pointer (some ⟨b, 0, none⟩), .string S2] W fun e w' => e = .returned (.bool true) ∧ RdTo w0 b 69 [v, .int .i64 d] W L3 e1 w'))
  have HA := Lib.hid (fun W (k : RdTo w0 b 69 [v, .int .i64 d] w L3 e1 W) => (by
    have := rname_any k.1 hw hsm3
    rw [hL4, he4, hu, hU] at this
    exact this : Calls Tryz.prog 157 #[.pointer (some ⟨b, 0, none⟩)] W fun e w' => e = .returned (.string U) ∧ RdTo w0 b 69 [v, .int .i64 d] W L4 e4 w'))
  have HPu := Lib.hid (fun W (k : RdTo w0 b 69 [v, .int .i64 d] w L4 e4 W) => (by
    have := put_any (⟨3, 0, 0, [], ts, us, 0, 0⟩ : Ex.X) (h.move k) hn
    rw [hm] at this
    unfold exV exC at this
    dsimp only at this
    rw [hS, hU] at this
    exact this.mono fun r w' h2 => (⟨h2.1, by rw [← hm]; exact hG _ (EstTo.trans (.of_but k.2) h2.2)⟩ : r = .returned (.int .i64 m) ∧ RuleTo Ex.plainF w0 b w v L er row d m w')))

  have HO := Lib.hid hO
  have HX := Lib.hid hX
  have HP := Lib.hid hp
  have HPb := Lib.hid (show ∀ W, RdTo w0 b 69 [v, .int .i64 d] w L1 e1 W → W.heap.size ≠ b from fun W k => by
    obtain ⟨⟨cs, g1, _⟩, _⟩ := k.1
    have := g1.blk.lt
    omega)
  clear h hw hL hn ht h1 he hG hp hX hO hL1 hm hS h34 hk hS2 hSl2 hL3 hL4 he4 hu hU hsm3
  unfold PlainC
  go_enter Tryz.func158, Tryz.ntmps158
  go_wp2_with fail
  rw [← HX.out, HP.out]
  refine HO.out.mono ?_
  rintro e w1 ⟨rfl, k1⟩
  have HPb1 := Lib.hid (HPb.out w1 k1)
  obtain ⟨p2, hp2⟩ : ∃ p, w1.heap.size = p := ⟨_, rfl⟩
  obtain ⟨X2, hX2⟩ : ∃ X, X = w1.alloc (.cells #[.int .i64 tk, .int .i64 tn, .string S] 43) := ⟨_, rfl⟩
  have hbX : Below w1.heap.size w1 X2 := by rw [hX2]; exact (Below.refl _ _).alloc (Nat.le_refl _) _
  have HE := Lib.hid (show Blk X2 p2 43 #[.int .i64 tk, .int .i64 tn, .string S] by rw [hX2, ← hp2]; exact Blk.new w1 _ _)
  have R2 := Lib.hid (show RdTo w0 b 69 [v, .int .i64 d] w L1 e1 X2 from k1.trans (k1.1.keep hbX))
  have HP2 := Lib.hid (show p2 ≠ b by rw [← hp2]; exact HPb1.out)
  have HX2 := Lib.hid hX2
  have HQ2 := Lib.hid hp2
  clear k1 hX2 hp2 hbX HPb HPb1
  go_upto_region 2 with fail
  rw [← HX2.out, HQ2.out]
  have c0 : X2.cell? ⟨p2, 0, none⟩ = some (.int .i64 tk) := (Blk.cell HE.out 0).trans rfl
  have c1 : X2.cell? ⟨p2, 1, none⟩ = some (.int .i64 tn) := (Blk.cell HE.out 1).trans rfl
  have c2 : X2.cell? ⟨p2, 2, none⟩ = some (.string S) := (Blk.cell HE.out 2).trans rfl
  have HTw := Lib.hid (HT.out X2 R2.out)
  clear HT
  go_wp2_with fail
  rw [← HS2.out]
  refine HTw.out.mono ?_
  rintro e w3 ⟨rfl, k3⟩
  have HE3 := Lib.hid (k3.2.blk HE.out HP2.out)
  have R3 := Lib.hid (R2.out.trans k3)
  clear k3 R2 HE c0 c1 c2
  go_upto_region 8 with fail
  refine wp_region_any (by kernel_rfl) ?_
  refine wpAny_two (fun iq uq => uq = ([.pointer (some ⟨b, 0, none⟩), .pointer (some ⟨p2, 2, none⟩), .string S, .pointer (some ⟨b, 0, none⟩), .pointer (some ⟨b, 0, none⟩), .pointer (some ⟨b, 0, none⟩), .string U, .agg #[.int .i64 3, .int .i64 0, .int .i64 0, .string ⟨#[]⟩, .string S, .string U, .int .i64 0, .int .i64 0], .int .i64 (m : Int), .int .i64 (m : Int)] : List Value).getD iq undef) _ w3.drew 6 8 _ _ (fun W => RdTo w0 b 69 [v, .int .i64 d] w L3 e1 W ∧ Blk W p2 43 #[.int .i64 tk, .int .i64 tn, .string S]) (fun W => RdTo w0 b 69 [v, .int .i64 d] w L4 e4 W ∧ Blk W p2 43 #[.int .i64 tk, .int .i64 tn, .string S]) (fun W => RuleTo Ex.plainF w0 b w v L er row d m W) rfl rfl (by decide) (by kernel_rfl) (by kernel_rfl) (by kernel_rfl) (by kernel_rfl) ?_ ?_ ?_ ?_ ?_
  · exact ⟨R3.out.trans (R3.out.1.keep ((Below.refl _ _).drew)), HE3.out.below ((Below.refl _ _).drew) HE3.out.lt⟩
  · refine ⟨?_, ?_, ?_, ?_, ?_, ?_, ?_, ?_, ?_, ?_, trivial⟩
    · intro _ _ a W hph hun haft hi
      have e0 : a.eval (.tmp 0) = .pointer (some ⟨b, 0, none⟩) := hun 0 (by kernel_rfl)
      exact wpOp_val hi rfl _ _ (run_move_op rfl e0) ⟨_, rfl, rfl, rfl⟩
    · intro _ _ a W hph hun haft hi
      have e3 : a.eval (.tmp 3) = .pointer (some ⟨p2, 0, none⟩) := hun 3 (by kernel_rfl)
      exact wpOp_val hi rfl _ _ (run_fieldAddr_any rfl e3 (at_token2 _ _)) ⟨_, rfl, rfl, rfl⟩
    · intro _ _ a W hph hun haft hi
      have f1 : a.eval (.tmp 30) = .pointer (some ⟨p2, 2, none⟩) := haft ⟨1, .data⟩ (by simp) rfl _ _ rfl rfl
      have hc : W.cell? ⟨p2, 2, none⟩ = some (.string S) := by
        rcases hph with h | ⟨_, h⟩ | ⟨hr, _⟩
        · exact (Blk.cell h.2 2).trans rfl
        · exact (Blk.cell h.2 2).trans rfl
        · exact absurd (Eq.trans hr.symm (by kernel_rfl)) Bool.false_ne_true
      exact wpOp_val hi rfl _ _ (run_loadstr_op rfl f1 Tryz.underlying9 hc) ⟨_, rfl, rfl, rfl⟩
    · intro _ _ a W hph hun haft hi
      have e0 : a.eval (.tmp 0) = .pointer (some ⟨b, 0, none⟩) := hun 0 (by kernel_rfl)
      exact wpOp_val hi rfl _ _ (run_move_op rfl e0) ⟨_, rfl, rfl, rfl⟩
    · intro _ _ a W hph hun haft hi
      have f3 : a.eval (.tmp 32) = .pointer (some ⟨b, 0, none⟩) := haft ⟨3, .data⟩ (by simp) rfl _ _ rfl rfl
      exact wpOp_val hi rfl _ _ (run_nilCheck_op rfl f3) ⟨_, rfl, rfl, rfl⟩
    · intro _ _ a W hph hun haft hi
      have f4 : a.eval (.tmp 33) = .pointer (some ⟨b, 0, none⟩) := haft ⟨4, .data⟩ (by simp) rfl _ _ rfl rfl
      exact wpOp_val hi rfl _ _ (run_fieldAddr_any rfl f4 (at_reader0 _ _ _)) ⟨_, rfl, rfl, rfl⟩
    · exact fun h => absurd rfl h
    · intro _ _ a W hph hun haft hi
      have f2 : a.eval (.tmp 31) = .string S := haft ⟨2, .data⟩ (by simp) rfl _ _ rfl rfl
      have f6 : a.eval (.tmp 35) = .string U := haft ⟨6, .data⟩ (by simp) rfl _ _ rfl rfl
      exact wpOp_val hi rfl _ _ (run_build_op (vs := #[(0, .int .i64 3), (2, .string S), (3, .string U)]) rfl (by simp only [List.map_toArray, List.map_cons, List.map_nil, f2, f6]; rfl) (bd_prop S U W)) ⟨_, rfl, rfl, rfl⟩
    · exact fun _ h => absurd rfl h
    · intro _ _ a W hph hun haft hi
      have f8 : a.eval (.tmp 37) = .int .i64 (m : Int) := haft ⟨8, .data⟩ (by simp) rfl _ _ rfl rfl
      exact wpOp_val hi rfl _ _ (run_assign_op rfl f8) ⟨_, rfl, rfl, rfl⟩
  · intro a W hph hun haft
    have f5 : a.eval (.tmp 34) = .pointer (some ⟨b, 0, none⟩) := haft ⟨5, .data⟩ (by simp) rfl _ _ rfl rfl
    refine wpOp_enter rfl rfl _ _ (run_call_op (args := #[.pointer (some ⟨b, 0, none⟩)]) rfl (by simp [f5]) (by kernel_rfl)) ?_
    exact (HA.out W hph.1).mono fun e w' H => ⟨_, H.1, _, rfl, rfl, hph.1.trans H.2, H.2.2.blk hph.2 HP2.out⟩
  · intro a W hph hun haft
    have f0 : a.eval (.tmp 29) = .pointer (some ⟨b, 0, none⟩) := haft ⟨0, .data⟩ (by simp) rfl _ _ rfl rfl
    have f7 : a.eval (.tmp 36) = .agg #[.int .i64 3, .int .i64 0, .int .i64 0, .string ⟨#[]⟩, .string S, .string U, .int .i64 0, .int .i64 0] := haft ⟨7, .data⟩ (by simp) rfl _ _ rfl rfl
    refine wpOp_enter rfl rfl _ _ (run_call_op (args := #[.pointer (some ⟨b, 0, none⟩), .agg #[.int .i64 3, .int .i64 0, .int .i64 0, .string ⟨#[]⟩, .string S, .string U, .int .i64 0, .int .i64 0]]) rfl (by simp [f0, f7]) (by kernel_rfl)) ?_
    exact (HPu.out W hph.1).mono fun e w' H => ⟨_, H.1, _, rfl, rfl, H.2⟩
  · intro vals W hK hv
    have h9 : vals 9 = .int .i64 (m : Int) := hv 9 (by decide)
    have HK := Lib.hid hK
    clear hK hv
    simp only [layN, List.size_toArray, List.length_cons, List.length_nil, List.range, List.range.loop, if_true, List.getElem?_toArray, List.getElem?_cons_zero, List.getElem?_cons_succ, Act.put, List.setIfInBounds_toArray, List.set_cons_zero, List.set_cons_succ, Nat.zero_add, Nat.reduceAdd, h9]
    clear h9
    (try simp only [Exit.then])
    go_wp2_with fail
    go_ret
    exact ⟨m, rfl, HK.out⟩

theorem xplain_any {w0 w : World} {b : Nat} {v : Value} {L : List Lx.Tk} {er : Int} {row : List Ex.X} {d : Nat} (h : Est w0 b w v L er row d) (hw : WOk w0) (hL : TkSm L) (hn : row.length + 1 ≤ 1000000) : PlainC w0 w b v L er row d := by
  obtain ⟨⟨tk, tn, ts⟩, ht⟩ : ∃ t, oneT er L [3, 4, 1] = t := ⟨_, rfl⟩
  obtain ⟨L1, h1⟩ : ∃ x, oneS er L [3, 4, 1] = x := ⟨_, rfl⟩
  obtain ⟨e1, he⟩ : ∃ x, oneE er L [3, 4, 1] = x := ⟨_, rfl⟩
  have hsm1 : TkSm L1 := by rw [← h1]; exact oneS_sm hL
  cases hs : hasS er L [3, 4, 1]
  · obtain ⟨j1, j2, j3, j4⟩ := one_no hs
    have ez : (tk, tn, ts) = zTk := ht.symm.trans j1
    injection ez with ez1 ez2
    injection ez2 with ez2 ez3
    subst ez1 ez2 ez3
    have e1n : e1 ≠ 0 := by rw [← he, j3]; unfold failS; split <;> (first | decide | assumption)
    have hl1 : L1 = L := h1.symm.trans j2
    refine plain_var h hw hL hn ht h1 he ⟨by decide, by decide⟩ (tkOk_err e1n _ _) fun w' k => ?_
    refine ⟨_, _, _, k, by rw [List.length_append, List.length_singleton, hl1]; omega, by rw [hl1]; exact Nat.le_refl _, hsm1, fun e => by rw [← he, j3]; exact if_neg e, fun e => ?_⟩
    unfold Ex.plainF
    rw [j4 e]
    exact ⟨by rw [← he, j3]; exact if_pos e, by decide⟩
  · obtain ⟨e0, j2, j3, j4, j5⟩ := one_at hs
    subst e0
    have e1z : e1 = 0 := he.symm.trans j2
    subst e1z
    rw [h1] at j3
    rw [ht, h1] at j4
    rw [ht] at j5
    have hput : ∀ (e : Ex.X) w', EstTo w0 b w v L1 0 (row ++ [e]) d w' → Ex.plainF d L row = Ex.putE e L1 row → RuleTo Ex.plainF w0 b w v L 0 row d row.length w' := fun e w' k hF =>
      ⟨_, _, _, k, by rw [List.length_append, List.length_singleton]; omega, by omega, hsm1, fun e => absurd rfl e, fun _ => by rw [hF]; exact ⟨rfl, rfl, rfl, rfl⟩⟩
    by_cases h3 : tk = 3
    · refine plain_num h hw hL hn ht h1 he h3 fun w' k => hput _ w' k ?_
      unfold Ex.plainF
      rw [j4]
      exact if_pos h3
    by_cases h4 : tk = 4
    · refine plain_text h hw hL hn ht h1 he h4 fun w' k => hput _ w' k ?_
      unfold Ex.plainF
      rw [j4]
      exact (if_neg h3).trans (if_pos h4)
    have hF : Ex.plainF d L row = (match Ex.takesL [46] L1 with | some l2 => Ex.nameR l2 fun u l3 => Ex.putE ⟨3, 0, 0, [], ts, u, 0, 0⟩ l3 row | none => Ex.putE ⟨2, 0, 0, [], ts, [], 0, 0⟩ L1 row) := by
      unfold Ex.plainF
      rw [j4]
      exact (if_neg h3).trans (if_neg h4)
    cases hk : tkOk 0 L1 [46]
    · obtain ⟨_, g⟩ := took_not hk
      refine plain_var h hw hL hn ht h1 he ⟨h3, h4⟩ hk fun w' k => hput _ w' k ?_
      rw [hF, g rfl]
    · obtain ⟨_, g1, g2, g3⟩ := took hk
      refine plain_prop h hw hL hn ht h1 he ⟨h3, h4⟩ hk rfl rfl rfl rfl fun w' k => ?_
      have hle := oneS_le 0 (takeS 0 L1 [46]) [1]
      refine ⟨_, _, _, k, by rw [List.length_append, List.length_singleton]; omega, by omega, oneS_sm (g3 hsm1), fun e => absurd rfl e, fun _ => ?_⟩
      rw [hF, g1]
      dsimp only
      rw [nameR_one]
      by_cases h5 : oneE 0 (takeS 0 L1 [46]) [1] = 0
      · rw [if_pos h5]
        exact ⟨h5, rfl, rfl, rfl⟩
      · rw [if_neg h5]
        exact ⟨rfl, h5⟩

end Go.Proofs.YtdabanocofimmaaGreatDoor
