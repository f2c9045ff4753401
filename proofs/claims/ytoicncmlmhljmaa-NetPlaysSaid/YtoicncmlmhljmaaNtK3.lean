/-
  A way through the switch of NetPlays: a turning that is refused (written by gennt3.py). Conditions: none.
-/
import Derived.Test.YtoicncmlmhljmaaNtSit
namespace Go.Proofs.Ytoicncmlmhljmaa
open Go.RowKit

set_option maxRecDepth 100000 in
set_option maxHeartbeats 4000000 in
theorem sw3_out {w W : World} {g gk j : Nat} {vf : Value} {A4 : Option Addr} {c4 : Nat} {L : List Pc} {kk : UInt8} {tt : Int} {B : Option Addr} {n c : Nat} {d : List UInt8} {I At : Int} {y : UInt8} {a : Act} {K1 : Act → World → Prop} {Q' : Exit → Act → World → Prop} (S : Sit w W g gk j vf A4 c4 L kk tt B n c d I At y a false) (hz : ((kk.toNat : Nat) : Int) % 4 = 3) (hK : ∀ a' w', SwR w g j a a' w' → K1 a' w') :
    Code.wp Try.prog swC (Exit.then K1 Q') a W := by
  obtain ⟨t, rfl, ht⟩ := frame243 a S.size S.defers
  have t3 := (ht 3).symm.trans S.s3
  have t4 := (ht 4).symm.trans S.s4
  have t6 := (ht 6).symm.trans S.s6
  have t7 := (ht 7).symm.trans S.s7
  have t8 := (ht 8).symm.trans S.s8
  have t45 := (ht 45).symm.trans S.s45
  rw [t3, t4, t6, t7, t8, t45] at hK ⊢
  simp only [Bool.false_eq_true, if_false] at hK ⊢
  have HK := Lib.hid hK
  have N0 := Lib.hid S.net
  have R0 := Lib.hid S.row
  have HA := Lib.hid S.act
  have HOK := Lib.hid S.arg
  have HND := Lib.hid S.len
  have HD := Lib.hid S.short
  have HS := Lib.hid S.bytes
  have HLj := Lib.hid S.lej
  have hLj := S.few
  have e0 := HA.out.cell 0
  have e1 := HA.out.cell 1
  have e2 := HA.out.cell 2
  have e3 := HA.out.cell 3
  have e4 := HA.out.cell 4
  have e5 := HA.out.cell 5
  simp at e0 e1 e2 e3 e4 e5
  unfold bv at e0 e5
  have HO : Hid (¬ (0 ≤ I ∧ I < (L.length : Int))) := Lib.hid (of_decide_eq_false S.in_.symm)
  clear S ht hK t3 t4 t6 t7 t8 t45
  conv => arg 2; whnf
  have f0 : (((kk.toNat : Nat) : Int) % 4 == 0) = false := by rw [hz]; rfl
  have f1 : (((kk.toNat : Nat) : Int) % 4 == 1) = false := by rw [hz]; rfl
  have f2 : (((kk.toNat : Nat) : Int) % 4 == 2) = false := by rw [hz]; rfl
  have f3 : (((kk.toNat : Nat) : Int) % 4 == 3) = true := by rw [hz]; rfl
  clear hz
  have N4 := Lib.hid (N0.out.below (Below.refl _ _).drew)
  have R4 := Lib.hid (R0.out.keep (Below.refl _ _).drew)
  go_upto_region 33 with fail
  go_region
  go_wp2_with fail
  refine (nturn_out I At (y.toNat : Nat) _ N4.out.1 HO.out).mono ?_
  rintro e w3 ⟨rfl, rfl⟩
  go_wp2_with fail
  exact HK.out _ _ ⟨rfl, rfl, rfl, rfl, rfl, rfl, rfl, rfl, rfl, rfl, rfl, rfl, rfl, rfl, rfl, vf, L, N4.out, R4.out, by have := HLj.out; omega, HS.out⟩

set_option maxRecDepth 100000 in
set_option maxHeartbeats 4000000 in
theorem sw3_neg {w W : World} {g gk j : Nat} {vf : Value} {A4 : Option Addr} {c4 : Nat} {L : List Pc} {kk : UInt8} {tt : Int} {B : Option Addr} {n c : Nat} {d : List UInt8} {I At : Int} {y : UInt8} {a : Act} {K1 : Act → World → Prop} {Q' : Exit → Act → World → Prop} (S : Sit w W g gk j vf A4 c4 L kk tt B n c d I At y a true) (hAt : At < 0) (hz : ((kk.toNat : Nat) : Int) % 4 = 3) (hK : ∀ a' w', SwR w g j a a' w' → K1 a' w') :
    Code.wp Try.prog swC (Exit.then K1 Q') a W := by
  obtain ⟨t, rfl, ht⟩ := frame243 a S.size S.defers
  have t3 := (ht 3).symm.trans S.s3
  have t4 := (ht 4).symm.trans S.s4
  have t6 := (ht 6).symm.trans S.s6
  have t7 := (ht 7).symm.trans S.s7
  have t8 := (ht 8).symm.trans S.s8
  have t45 := (ht 45).symm.trans S.s45
  rw [t3, t4, t6, t7, t8, t45] at hK ⊢
  simp only [if_true] at hK ⊢
  have HK := Lib.hid hK
  have N0 := Lib.hid S.net
  have R0 := Lib.hid S.row
  have HA := Lib.hid S.act
  have HOK := Lib.hid S.arg
  have HND := Lib.hid S.len
  have HD := Lib.hid S.short
  have HS := Lib.hid S.bytes
  have HLj := Lib.hid S.lej
  have hLj := S.few
  have e0 := HA.out.cell 0
  have e1 := HA.out.cell 1
  have e2 := HA.out.cell 2
  have e3 := HA.out.cell 3
  have e4 := HA.out.cell 4
  have e5 := HA.out.cell 5
  simp at e0 e1 e2 e3 e4 e5
  unfold bv at e0 e5
  have hin : 0 ≤ I ∧ I < (L.length : Int) := of_decide_eq_true S.in_.symm
  obtain ⟨i, rfl⟩ := Int.eq_ofNat_of_zero_le hin.1
  have hiL : i < L.length := by omega
  have HI := Lib.hid hiL
  have h0i : (0 : Int) ≤ (i : Int) := by omega
  have h1i : (i : Int) < (L.length : Int) := by omega
  clear hin
  clear S ht hK t3 t4 t6 t7 t8 t45
  conv => arg 2; whnf
  have f0 : (((kk.toNat : Nat) : Int) % 4 == 0) = false := by rw [hz]; rfl
  have f1 : (((kk.toNat : Nat) : Int) % 4 == 1) = false := by rw [hz]; rfl
  have f2 : (((kk.toNat : Nat) : Int) % 4 == 2) = false := by rw [hz]; rfl
  have f3 : (((kk.toNat : Nat) : Int) % 4 == 3) = true := by rw [hz]; rfl
  clear hz
  have N4 := Lib.hid (N0.out.below (Below.refl _ _).drew)
  have R4 := Lib.hid (R0.out.keep (Below.refl _ _).drew)
  go_upto_region 33 with fail
  go_region
  go_wp2_with fail
  refine (nturn_range i At (y.toNat : Nat) _ N4.out.1 HI.out (fun h => by omega)).mono ?_
  rintro e w3 ⟨rfl, rfl⟩
  go_wp2_with fail
  exact HK.out _ _ ⟨rfl, rfl, rfl, rfl, rfl, rfl, rfl, rfl, rfl, rfl, rfl, rfl, rfl, rfl, rfl, vf, L, N4.out, R4.out, by have := HLj.out; omega, HS.out⟩

end Go.Proofs.Ytoicncmlmhljmaa
