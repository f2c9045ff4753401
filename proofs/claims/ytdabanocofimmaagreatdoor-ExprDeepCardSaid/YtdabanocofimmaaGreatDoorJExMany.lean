/-
  (*expr.reader).many: the contract, by a walk. A region that draws its order, in which two operations turn memory, one behind the other, and all others read or reckon. Conditions: lengths.
-/
import Derived.Test.YtdabanocofimmaaGreatDoorJExCmp
namespace Go.Proofs.YtdabanocofimmaaGreatDoor
open Go.RowKit

theorem nameR_one {L : List Lx.Tk} (f : List UInt8 → List Lx.Tk → Ex.Res) : Ex.nameR L f = if oneE 0 L [1] = 0 then f (oneT 0 L [1]).2.2 (oneS 0 L [1]) else .error (oneE 0 L [1]) := by
  unfold Ex.nameR oneT oneS oneE failS
  rw [oneL_has]
  cases h : hasS 0 L [1] <;> simp
/-! The states that many goes through. -/
def mL1 (er : Int) (L : List Lx.Tk) : List Lx.Tk := takeS er L [40]
def mE1 (er : Int) (L : List Lx.Tk) : Int := needE er L [40]
def mL2 (er : Int) (L : List Lx.Tk) : List Lx.Tk := oneS (mE1 er L) (mL1 er L) [1]
def mE2 (er : Int) (L : List Lx.Tk) : Int := oneE (mE1 er L) (mL1 er L) [1]
def mV (er : Int) (L : List Lx.Tk) : List UInt8 := (oneT (mE1 er L) (mL1 er L) [1]).2.2
def mL3 (er : Int) (L : List Lx.Tk) : List Lx.Tk := takeS (mE2 er L) (mL2 er L) [46]
def mE3 (er : Int) (L : List Lx.Tk) : Int := needE (mE2 er L) (mL2 er L) [46]
def mL4 (er : Int) (L : List Lx.Tk) : List Lx.Tk := oneS (mE3 er L) (mL3 er L) [1]
def mE4 (er : Int) (L : List Lx.Tk) : Int := oneE (mE3 er L) (mL3 er L) [1]
def mP (er : Int) (L : List Lx.Tk) : List UInt8 := (oneT (mE3 er L) (mL3 er L) [1]).2.2
def mL5 (er : Int) (L : List Lx.Tk) : List Lx.Tk := takeS (mE4 er L) (mL4 er L) [41]
def mE5 (er : Int) (L : List Lx.Tk) : Int := needE (mE4 er L) (mL4 er L) [41]
theorem mE_err {er : Int} (h : er ≠ 0) (L : List Lx.Tk) : mE5 er L = er := by
  have h1 : mE1 er L = er := needE_err h _ _
  have h2 : mE2 er L = er := by unfold mE2; rw [h1]; exact oneE_err h _ _
  have h3 : mE3 er L = er := by unfold mE3; rw [h2]; exact needE_err h _ _
  have h4 : mE4 er L = er := by unfold mE4; rw [h3]; exact oneE_err h _ _
  unfold mE5
  rw [h4]
  exact needE_err h _ _
theorem mL_le (er : Int) (L : List Lx.Tk) : (mL5 er L).length ≤ L.length :=
  Nat.le_trans (takeS_le _ _ _) (Nat.le_trans (oneS_le _ _ _) (Nat.le_trans (takeS_le _ _ _) (Nat.le_trans (oneS_le _ _ _) (takeS_le _ _ _))))
theorem many_math {L : List Lx.Tk} {row : List Ex.X} {d : Nat} :
    match Ex.manyF d L row with | .ok (p, L3, row3) => mE5 0 L = 0 ∧ row.length = p ∧ mL5 0 L = L3 ∧ row ++ [⟨4, 0, 0, [], mV 0 L, mP 0 L, 0, 0⟩] = row3 | .error e => mE5 0 L = e ∧ e ≠ 0 := by
  unfold Ex.manyF
  rw [need_r]
  by_cases h1 : needE 0 L [40] = 0
  · rw [if_pos h1, nameR_one]
    have g1 : mE1 0 L = 0 := h1
    by_cases h2 : oneE 0 (takeS 0 L [40]) [1] = 0
    · rw [if_pos h2, need_r]
      have g2 : mE2 0 L = 0 := by unfold mE2; rw [g1]; exact h2
      have k2 : mL2 0 L = oneS 0 (takeS 0 L [40]) [1] := by unfold mL2; rw [g1]; rfl
      by_cases h3 : needE 0 (oneS 0 (takeS 0 L [40]) [1]) [46] = 0
      · rw [if_pos h3, nameR_one]
        have g3 : mE3 0 L = 0 := by unfold mE3; rw [g2, k2]; exact h3
        have k3 : mL3 0 L = takeS 0 (oneS 0 (takeS 0 L [40]) [1]) [46] := by unfold mL3; rw [g2, k2]
        by_cases h4 : oneE 0 (takeS 0 (oneS 0 (takeS 0 L [40]) [1]) [46]) [1] = 0
        · rw [if_pos h4, need_r]
          have g4 : mE4 0 L = 0 := by unfold mE4; rw [g3, k3]; exact h4
          have k4 : mL4 0 L = oneS 0 (takeS 0 (oneS 0 (takeS 0 L [40]) [1]) [46]) [1] := by unfold mL4; rw [g3, k3]
          have kv : mV 0 L = (oneT 0 (takeS 0 L [40]) [1]).2.2 := by unfold mV; rw [g1]; rfl
          have kp : mP 0 L = (oneT 0 (takeS 0 (oneS 0 (takeS 0 L [40]) [1]) [46]) [1]).2.2 := by unfold mP; rw [g3, k3]
          unfold mE5 mL5
          rw [g4, k4, kv, kp]
          by_cases h5 : needE 0 (oneS 0 (takeS 0 (oneS 0 (takeS 0 L [40]) [1]) [46]) [1]) [41] = 0
          · rw [if_pos h5]
            exact ⟨h5, rfl, rfl, rfl⟩
          · rw [if_neg h5]
            exact ⟨rfl, h5⟩
        · rw [if_neg h4]
          have g4 : mE4 0 L = oneE 0 (takeS 0 (oneS 0 (takeS 0 L [40]) [1]) [46]) [1] := by unfold mE4; rw [g3, k3]
          exact ⟨by unfold mE5; rw [needE_err (by rw [g4]; exact h4), g4], h4⟩
      · rw [if_neg h3]
        have g3 : mE3 0 L = needE 0 (oneS 0 (takeS 0 L [40]) [1]) [46] := by unfold mE3; rw [g2, k2]
        have g4 : mE4 0 L = mE3 0 L := by unfold mE4; exact oneE_err (by rw [g3]; exact h3) _ _
        exact ⟨by unfold mE5; rw [needE_err (by rw [g4, g3]; exact h3), g4, g3], h3⟩
    · rw [if_neg h2]
      have g2 : mE2 0 L = oneE 0 (takeS 0 L [40]) [1] := by unfold mE2; rw [g1]; rfl
      have g3 : mE3 0 L = mE2 0 L := by unfold mE3; exact needE_err (by rw [g2]; exact h2) _ _
      have g4 : mE4 0 L = mE2 0 L := by unfold mE4; rw [oneE_err (by rw [g3, g2]; exact h2), g3]
      exact ⟨by unfold mE5; rw [needE_err (by rw [g4, g2]; exact h2), g4, g2], h2⟩
  · rw [if_neg h1]
    have g2 : mE2 0 L = needE 0 L [40] := by unfold mE2; exact oneE_err h1 _ _
    have g3 : mE3 0 L = mE2 0 L := by unfold mE3; exact needE_err (by rw [g2]; exact h1) _ _
    have g4 : mE4 0 L = mE2 0 L := by unfold mE4; rw [oneE_err (by rw [g3, g2]; exact h1), g3]
    exact ⟨by unfold mE5; rw [needE_err (by rw [g4, g2]; exact h1), g4, g2], h1⟩

theorem RdTo.setCell {w0 w w' : World} {b k i : Nat} {t : TypeId} {rest rest2 : List Value} {L L2 : List Lx.Tk} {er er2 : Int} (h0 : Rst w0 b t rest w L er) (h : RdTo w0 b t rest2 w L2 er2 w') (hk : w.heap.size ≤ k) (u : Value) : RdTo w0 b t rest2 w L2 er2 (w'.setCell ⟨k, i, none⟩ u) := by
  obtain ⟨⟨⟨ds, h1, h2⟩, h3⟩, h4⟩ := h
  obtain ⟨⟨ds0, g1, _⟩, g3⟩ := h0
  have hbk : b < w.heap.size := g1.blk.lt
  have hR : w0.heap.size ≤ k := Nat.le_trans g3.size hk
  refine ⟨⟨⟨ds, h1.frame ((Below.refl _ _).setCell (p := ⟨k, i, none⟩) hR u) (Below.heap_setCell _ _ _ _ (by show b ≠ k; omega)), h2⟩, h3.setCell (p := ⟨k, i, none⟩) hR u⟩, ?_⟩
  exact ⟨h4.os, h4.tape, h4.output, by simpa using h4.size, fun j hj hn => (Below.heap_setCell _ _ _ _ (by show j ≠ k; omega)).trans (h4.block j hj hn)⟩

set_option maxRecDepth 100000 in
set_option maxHeartbeats 6000000 in
theorem many_any {w0 w : World} {b : Nat} {v : Value} {L : List Lx.Tk} {er : Int} {row : List Ex.X} {d : Nat} (h : Est w0 b w v L er row d) (hw : WOk w0) (hL : TkSm L) (hn : row.length + 1 ≤ 1000000) :
    Calls Tryz.prog 154 #[.pointer (some ⟨b, 0, none⟩)] w fun r w' => ∃ place : Nat, r = .returned (.int .i64 place) ∧ RuleTo Ex.manyF w0 b w v L er row d place w' := by
  obtain ⟨S1, hS1⟩ : ∃ S : ByteArray, S = ⟨#[40]⟩ := ⟨_, rfl⟩
  obtain ⟨S2, hS2⟩ : ∃ S : ByteArray, S = ⟨#[46]⟩ := ⟨_, rfl⟩
  obtain ⟨S3, hS3⟩ : ∃ S : ByteArray, S = ⟨#[41]⟩ := ⟨_, rfl⟩
  have s1 : S1.data.toList = [40] := by rw [hS1]
  have s2 : S2.data.toList = [46] := by rw [hS2]
  have s3 : S3.data.toList = [41] := by rw [hS3]
  have HS1 := Lib.hid hS1
  have HS2 := Lib.hid hS2
  have HS3 := Lib.hid hS3
  have m1 : TkSm (mL1 er L) := takeS_sm hL
  have m2 : TkSm (mL2 er L) := oneS_sm m1
  have m3 : TkSm (mL3 er L) := takeS_sm m2
  have m4 : TkSm (mL4 er L) := oneS_sm m3
  have m5 : TkSm (mL5 er L) := takeS_sm m4
  have H0 := Lib.hid h
  have HN1 := Lib.hid (fun p X hp hX => by have := need_new (X := X) (p := p) S1 h.rd hw hL hp hX; rw [s1] at this; exact this)
  have HA2 := Lib.hid (fun W (k : RdTo w0 b 69 [v, .int .i64 d] w (mL1 er L) (mE1 er L) W) => (rname_any k.1 hw m1 : Calls Tryz.prog 157 #[.pointer (some ⟨b, 0, none⟩)] W fun e w' => e = .returned (.string ⟨(mV er L).toArray⟩) ∧ RdTo w0 b 69 [v, .int .i64 d] W (mL2 er L) (mE2 er L) w'))
  have HN3 := Lib.hid (fun W (k : RdTo w0 b 69 [v, .int .i64 d] w (mL2 er L) (mE2 er L) W) p X hp hX => by have := need_new (X := X) (p := p) S2 k.1 hw m2 hp hX; rw [s2] at this; exact this)
  have HA4 := Lib.hid (fun W (k : RdTo w0 b 69 [v, .int .i64 d] w (mL3 er L) (mE3 er L) W) => (rname_any k.1 hw m3 : Calls Tryz.prog 157 #[.pointer (some ⟨b, 0, none⟩)] W fun e w' => e = .returned (.string ⟨(mP er L).toArray⟩) ∧ RdTo w0 b 69 [v, .int .i64 d] W (mL4 er L) (mE4 er L) w'))
  have HN5 := Lib.hid (fun W (k : RdTo w0 b 69 [v, .int .i64 d] w (mL4 er L) (mE4 er L) W) p X hp hX => by have := need_new (X := X) (p := p) S3 k.1 hw m4 hp hX; rw [s3] at this; exact this)
  obtain ⟨m, hm⟩ : ∃ m, row.length = m := ⟨_, rfl⟩
  have HPu := Lib.hid (fun W (k : RdTo w0 b 69 [v, .int .i64 d] w (mL5 er L) (mE5 er L) W) => (by
    have := put_any (⟨4, 0, 0, [], mV er L, mP er L, 0, 0⟩ : Ex.X) (h.move k) hn
    rw [hm] at this
    exact this.mono fun r w' h2 => (⟨h2.1, _, _, _, EstTo.trans (.of_but k.2) h2.2, by have := mL_le er L; rw [List.length_append, List.length_singleton]; omega, mL_le er L, m5, fun e => mE_err e L, fun e => by subst e; rw [← hm]; exact many_math⟩ :
      r = .returned (.int .i64 m) ∧ RuleTo Ex.manyF w0 b w v L er row d m w')))
  clear h hw hL hn hS1 hS2 hS3 s1 s2 s3 m1 m2 m3 m4 m5 hm
  go_enter Tryz.func154, Tryz.ntmps154
  go_wp2_with fail
  obtain ⟨p1, hp⟩ : ∃ p, w.heap.size = p := ⟨_, rfl⟩
  obtain ⟨X1, hX⟩ : ∃ X, X = w.alloc (.cells #[.string S1] 9) := ⟨_, rfl⟩
  have HC1 := Lib.hid (HN1.out p1 X1 hp hX)
  rw [← HS1.out, hp, ← hX]
  clear hp hX
  refine HC1.out.mono ?_
  rintro e w1 ⟨rfl, r1⟩
  have R1 := Lib.hid (show RdTo w0 b 69 [v, .int .i64 d] w (mL1 er L) (mE1 er L) w1 from r1)
  clear r1
  go_wp2_with fail
  refine (HA2.out w1 R1.out).mono ?_
  rintro e w2 ⟨rfl, r2⟩
  have R2 := Lib.hid (R1.out.trans r2)
  clear r2
  obtain ⟨V, hV⟩ : ∃ V : ByteArray, (⟨(oneT (mE1 er L) (mL1 er L) [1]).2.2.toArray⟩ : ByteArray) = V := ⟨_, rfl⟩
  rw [hV]
  have HV := Lib.hid (show (⟨(mV er L).toArray⟩ : ByteArray) = V from hV)
  clear hV
  obtain ⟨p, hp⟩ : ∃ p, w2.heap.size = p := ⟨_, rfl⟩
  obtain ⟨X, hX⟩ : ∃ X, X = w2.alloc (.cells #[.int .i64 4, .int .i64 0, .int .i64 0, .string ⟨#[]⟩, .string V, .string ⟨#[]⟩, .int .i64 0, .int .i64 0] 49) := ⟨_, rfl⟩
  have hbX : Below w2.heap.size w2 X := by rw [hX]; exact (Below.refl _ _).alloc (Nat.le_refl _) _
  have HE := Lib.hid (show Blk X p 49 #[.int .i64 4, .int .i64 0, .int .i64 0, .string ⟨#[]⟩, .string V, .string ⟨#[]⟩, .int .i64 0, .int .i64 0] by rw [hX, ← hp]; exact Blk.new w2 _ _)
  have R3 := Lib.hid (R2.out.trans (R2.out.1.keep hbX))
  have HPw := Lib.hid (show w.heap.size ≤ p by rw [← hp]; exact R2.out.2.size)
  have HPb := Lib.hid (show p ≠ b by
    obtain ⟨⟨cs, g1, _⟩, _⟩ := R2.out.1
    have := g1.blk.lt
    omega)
  have HX := Lib.hid hX
  have HP := Lib.hid hp
  clear hX hp hbX
  go_upto_region 3 with (first
    | (refine wpList_build (o := ⟨some 13, _, _, _, _, _⟩) rfl _ _ rfl rfl ?_)
    | fail)
  rw [← HX.out, HP.out]
  go_wp2_with fail
  obtain ⟨p3, hp⟩ : ∃ p, X.heap.size = p := ⟨_, rfl⟩
  obtain ⟨X3, hX⟩ : ∃ Y, Y = X.alloc (.cells #[.string S2] 9) := ⟨_, rfl⟩
  have HC3 := Lib.hid (HN3.out X R3.out p3 X3 hp hX)
  rw [← HS2.out, hp, ← hX]
  clear hp hX
  refine HC3.out.mono ?_
  rintro e w4 ⟨rfl, r4⟩
  have R4 := Lib.hid (show RdTo w0 b 69 [v, .int .i64 d] w (mL3 er L) (mE3 er L) w4 from R3.out.trans r4)
  have HE4 := Lib.hid (r4.2.blk HE.out HPb.out)
  clear r4
  go_wp2_with fail
  refine (HA4.out w4 R4.out).mono ?_
  rintro e w5 ⟨rfl, r5⟩
  have R5 := Lib.hid (R4.out.trans r5)
  have HE5 := Lib.hid (r5.2.blk HE4.out HPb.out)
  clear r5
  obtain ⟨P, hP⟩ : ∃ V : ByteArray, (⟨(oneT (mE3 er L) (mL3 er L) [1]).2.2.toArray⟩ : ByteArray) = V := ⟨_, rfl⟩
  rw [hP]
  have HPn := Lib.hid (show (⟨(mP er L).toArray⟩ : ByteArray) = P from hP)
  clear hP
  obtain ⟨X6, hX6⟩ : ∃ X, X = w5.setCell ⟨p, 5, none⟩ (.string P) := ⟨_, rfl⟩
  have HE6 := Lib.hid (show Blk X6 p 49 #[.int .i64 4, .int .i64 0, .int .i64 0, .string ⟨#[]⟩, .string V, .string P, .int .i64 0, .int .i64 0] by rw [hX6]; exact HE5.out.set_ 5 (.string P))
  have R6 := Lib.hid (show RdTo w0 b 69 [v, .int .i64 d] w (mL4 er L) (mE4 er L) X6 by rw [hX6]; exact R5.out.setCell H0.out.rd HPw.out _)
  have c5 : w5.cell? ⟨p, 5, none⟩ = some (.string ⟨#[]⟩) := (Blk.cell HE5.out 5).trans rfl
  have f5 := Blk.free HE5.out 5
  have HX6 := Lib.hid hX6
  clear hX6
  go_upto_region 5 with fail
  rw [← HX6.out]
  clear c5 f5
  go_wp2_with fail
  obtain ⟨p7, hp⟩ : ∃ p, X6.heap.size = p := ⟨_, rfl⟩
  obtain ⟨X7, hX⟩ : ∃ Y, Y = X6.alloc (.cells #[.string S3] 9) := ⟨_, rfl⟩
  have HC7 := Lib.hid (HN5.out X6 R6.out p7 X7 hp hX)
  rw [← HS3.out, hp, ← hX]
  clear hp hX
  refine HC7.out.mono ?_
  rintro e w7 ⟨rfl, r7⟩
  have R7 := Lib.hid (show RdTo w0 b 69 [v, .int .i64 d] w (mL5 er L) (mE5 er L) w7 from R6.out.trans r7)
  have HE7 := Lib.hid (r7.2.blk HE6.out HPb.out)
  clear r7
  have hPu := HPu.out w7 R7.out
  unfold exV exC at hPu
  dsimp only at hPu
  rw [HV.out, HPn.out] at hPu
  have HPw7 := Lib.hid hPu
  clear hPu
  go_wp2_with (first
    | (refine wpList_load_row (o := ⟨some 30, _, _, _, _, _⟩) rfl 49 (.tmp 3) rfl p rfl _ #[.int .i64 4, .int .i64 0, .int .i64 0, .string ⟨#[]⟩, .string V, .string P, .int .i64 0, .int .i64 0] _ _ HE7.out Tryz.underlying49 rfl (by kernel_rfl) ?_)
    | fail)
  refine HPw7.out.mono ?_
  rintro e w8 ⟨rfl, h8⟩
  have HR := Lib.hid h8
  clear h8
  go_wp2_with fail
  go_ret
  exact ⟨m, rfl, HR.out⟩

end Go.Proofs.YtdabanocofimmaaGreatDoor

namespace Go.Proofs.YtdabanocofimmaaGreatDoor
open Go.RowKit

section
variable {P : Program} {ops : Array Oper} {Q : Exit → Act → World → Prop} {md : Region.Mode}
theorem reach_listed {L : Nat → Bool} {o : Oper} (k : Nat) (hc : ∀ (j : Nat) (oj : Oper), ops[j]? = some oj → L j = true → ∀ e ∈ oj.after, Region.binds md e = true → L e.on = true) (ha : ∀ e ∈ o.after, Region.binds md e = true → L e.on = true) {i : Nat} (h : reachB md ops k (aftB md o) i = true) : L i = true :=
  reachB_spec hc k _ (fun j hj => by
    unfold aftB at hj
    rw [Array.any_eq_true'] at hj
    obtain ⟨e, he, h3⟩ := hj
    simp only [Bool.and_eq_true, beq_iff_eq] at h3
    rw [← h3.1]
    exact ha e he h3.2) i h
theorem wpAny_two (p : Nat → Value → Prop) (a0 : Act) (w1 : World) (m1 m2 : Nat) (o1 o2 : Oper) (F0 F1 F2 : World → Prop)
    (ho1 : ops[m1]? = some o1) (ho2 : ops[m2]? = some o2) (hne : m1 ≠ m2) (h12 : reachB md ops m2 (aftB md o2) m1 = true)
    (hap : apartB ops = true) (hah : aheadB md ops = true) (hin : (List.range ops.size).all (fun i => match ops[i]? with | some o => (match o.dst with | some d => decide (d < a0.tmps.size) | none => true) | none => true) = true)
    (h0 : F0 w1)
    (hop : AllIdx (fun i o => i ≠ m1 → i ≠ m2 → ∀ (a : Act) (w : World), (F0 w ∨ (reachB md ops m1 (aftB md o1) i = false ∧ F1 w) ∨ (reachB md ops m2 (aftB md o2) i = false ∧ F2 w)) → (∀ d : Tmp, (ops.all fun o => o.dst != some d) = true → a.eval (.tmp d) = a0.eval (.tmp d)) →
      (∀ e ∈ o.after, Region.binds md e = true → ∀ oj d, ops[e.on]? = some oj → oj.dst = some d → p e.on (a.eval (.tmp d))) → ops[i]? = some o → wpOp P ops Q i (fun a' w' => ∃ v, a' = a.put o.dst v ∧ p i v ∧ w' = w) a w) 0 ops.toList)
    (hm1 : ∀ (a : Act) (w : World), F0 w → (∀ d : Tmp, (ops.all fun o => o.dst != some d) = true → a.eval (.tmp d) = a0.eval (.tmp d)) →
      (∀ e ∈ o1.after, Region.binds md e = true → ∀ oj d, ops[e.on]? = some oj → oj.dst = some d → p e.on (a.eval (.tmp d))) → wpOp P ops Q m1 (fun a' w' => ∃ v, a' = a.put o1.dst v ∧ p m1 v ∧ F1 w') a w)
    (hm2 : ∀ (a : Act) (w : World), F1 w → (∀ d : Tmp, (ops.all fun o => o.dst != some d) = true → a.eval (.tmp d) = a0.eval (.tmp d)) →
      (∀ e ∈ o2.after, Region.binds md e = true → ∀ oj d, ops[e.on]? = some oj → oj.dst = some d → p e.on (a.eval (.tmp d))) → wpOp P ops Q m2 (fun a' w' => ∃ v, a' = a.put o2.dst v ∧ p m2 v ∧ F2 w') a w)
    (hend : ∀ vals w, F2 w → (∀ i, i < ops.size → p i (vals i)) → Q .normal (layN ops (fun _ => true) vals (List.range ops.size) a0) w) :
    wpAny P md ops Q ops.size (Array.replicate ops.size false) a0 w1 := by
  obtain ⟨Inv, hInv⟩ : ∃ Inv : (Nat → Bool) → (Nat → Value) → World → Prop, Inv = fun L vals w => (∀ i, i < ops.size → L i = true → p i (vals i)) ∧ (if L m2 = true then F2 w else if L m1 = true then F1 w else F0 w) := ⟨_, rfl⟩
  have hs1 : m1 < ops.size := (Array.getElem?_eq_some_iff.1 ho1).1
  have hs2 : m2 < ops.size := (Array.getElem?_eq_some_iff.1 ho2).1
  refine wpAny_inv Inv a0 w1 hap hah hin (fun L h => ?_) (allIdx_of _ _ fun i o hi => ?_) (fun L vals w hL hI => ?_)
  · rw [hInv]
    refine ⟨fun i _ hl => (by rw [h i] at hl; cases hl), ?_⟩
    rw [if_neg (by rw [h]; exact Bool.false_ne_true), if_neg (by rw [h]; exact Bool.false_ne_true)]
    exact h0
  · rw [Nat.zero_add]
    intro L vals a w hF hI
    rw [hInv] at hI
    obtain ⟨hp, hf⟩ : (∀ i, i < ops.size → L i = true → p i (vals i)) ∧ (if L m2 = true then F2 w else if L m1 = true then F1 w else F0 w) := hI
    have hsl : ∀ e ∈ o.after, Region.binds md e = true → ∀ oj d, ops[e.on]? = some oj → oj.dst = some d → p e.on (a.eval (.tmp d)) := by
      intro e he hb oj d hoj hd
      have hl := hF.ahead e he hb
      rw [hF.slot e.on oj d hoj hd hl]
      exact hp e.on (Array.getElem?_eq_some_iff.1 hoj).1 hl
    have hvals : ∀ (v : Value) (L' : Nat → Bool), p i v → (∀ j, j ≠ i → L' j = L j) → ∀ j, j < ops.size → L' j = true → p j (if j = i then v else vals j) := by
      intro v L' hv h2 j hj hl
      by_cases hji : j = i
      · subst hji; rw [if_pos rfl]; exact hv
      · rw [if_neg hji]
        exact hp j hj (by rw [← h2 j hji]; exact hl)
    by_cases hi1 : i = m1
    · subst hi1
      have hoo : o = o1 := by
        have := hF.it
        rw [ho1] at this; exact (Option.some.inj this).symm
      subst hoo
      have hn1 : ¬ L i = true := by rw [hF.open_]; exact Bool.false_ne_true
      have hn2 : ¬ L m2 = true := fun h => hn1 (reach_listed m2 hF.closed (hF.closed m2 o2 ho2 h) h12)
      rw [if_neg hn2, if_neg hn1] at hf
      refine wpOp_mono ?_ (hm1 a w hf hF.old hsl)
      rintro a' w' ⟨v, rfl, hv, h1⟩
      refine ⟨v, rfl, fun L' h2 h3 => ?_⟩
      rw [hInv]
      refine ⟨hvals v L' hv h2, ?_⟩
      rw [if_neg (by rw [h2 m2 (fun e => hne e.symm)]; exact hn2), if_pos h3]
      exact h1
    · by_cases hi2 : i = m2
      · subst hi2
        have hoo : o = o2 := by
          have := hF.it
          rw [ho2] at this; exact (Option.some.inj this).symm
        subst hoo
        have hn2 : ¬ L i = true := by rw [hF.open_]; exact Bool.false_ne_true
        have hy1 : L m1 = true := reach_listed i hF.closed hF.ahead h12
        rw [if_neg hn2, if_pos hy1] at hf
        refine wpOp_mono ?_ (hm2 a w hf hF.old hsl)
        rintro a' w' ⟨v, rfl, hv, h1⟩
        refine ⟨v, rfl, fun L' h2 h3 => ?_⟩
        rw [hInv]
        refine ⟨hvals v L' hv h2, ?_⟩
        rw [if_pos h3]
        exact h1
      · have h1 := allIdx_get ops.toList 0 i o hop hi
        rw [Nat.zero_add] at h1
        have hph : F0 w ∨ (reachB md ops m1 (aftB md o1) i = false ∧ F1 w) ∨ (reachB md ops m2 (aftB md o2) i = false ∧ F2 w) := by
          by_cases h2 : L m2 = true
          · rw [if_pos h2] at hf
            refine .inr (.inr ⟨?_, hf⟩)
            cases hr : reachB md ops m2 (aftB md o2) i
            · rfl
            · have := reach_listed m2 hF.closed (hF.closed m2 o2 ho2 h2) hr
              rw [hF.open_] at this; cases this
          · rw [if_neg h2] at hf
            by_cases h3 : L m1 = true
            · rw [if_pos h3] at hf
              refine .inr (.inl ⟨?_, hf⟩)
              cases hr : reachB md ops m1 (aftB md o1) i
              · rfl
              · have := reach_listed m1 hF.closed (hF.closed m1 o1 ho1 h3) hr
                rw [hF.open_] at this; cases this
            · rw [if_neg h3] at hf
              exact .inl hf
        refine wpOp_mono ?_ (h1 hi1 hi2 a w hph hF.old hsl hF.it)
        rintro a' w' ⟨v, rfl, hv, rfl⟩
        refine ⟨v, rfl, fun L' h2 h3 => ?_⟩
        rw [hInv]
        refine ⟨hvals v L' hv h2, ?_⟩
        rw [h2 m1 (fun e => hi1 e.symm), h2 m2 (fun e => hi2 e.symm)]
        exact hf
  · rw [hInv] at hI
    obtain ⟨hp, hf⟩ : (∀ i, i < ops.size → L i = true → p i (vals i)) ∧ (if L m2 = true then F2 w else if L m1 = true then F1 w else F0 w) := hI
    rw [if_pos (hL m2 hs2)] at hf
    exact hend vals w hf fun i hi => hp i hi (hL i hi)
end
end Go.Proofs.YtdabanocofimmaaGreatDoor
