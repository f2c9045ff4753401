/-
  A way through the switch of NetPlays: a doubling (written by gennt3.py). Conditions: none.
-/
import Derived.Test.YtoicncmlmhljmaaNtSit
namespace Go.Proofs.Ytoicncmlmhljmaa
open Go.RowKit

set_option maxRecDepth 100000 in
set_option maxHeartbeats 4000000 in
theorem sw2_out {w W : World} {g gk j : Nat} {vf : Value} {A4 : Option Addr} {c4 : Nat} {L : List Pc} {kk : UInt8} {tt : Int} {B : Option Addr} {n c : Nat} {d : List UInt8} {I At : Int} {y : UInt8} {a : Act} {K1 : Act → World → Prop} {Q' : Exit → Act → World → Prop} (S : Sit w W g gk j vf A4 c4 L kk tt B n c d I At y a false) (hz : ((kk.toNat : Nat) : Int) % 4 = 2) (hK : ∀ a' w', SwR w g j a a' w' → K1 a' w') :
    Code.wp Try.prog swC (Exit.then K1 Q') a W := by
  obtain ⟨t, rfl, ht⟩ := frame243 a S.size S.defers
  have t3 := (ht 3).symm.trans S.s3
  have t4 := (ht 4).symm.trans S.s4
  have t6 := (ht 6).symm.trans S.s6
  have t7 := (ht 7).symm.trans S.s7
  have t8 := (ht 8).symm.trans S.s8
  have t45 := (ht 45).symm.trans S.s45
  rw [t3, t4, t6, t7, t8, t45] at hK ⊢
  simp only [Bool.false_eq_true, if_false] at hK ⊢
  have HK := Lib.hid hK
  have N0 := Lib.hid S.net
  have R0 := Lib.hid S.row
  have HA := Lib.hid S.act
  have HOK := Lib.hid S.arg
  have HND := Lib.hid S.len
  have HD := Lib.hid S.short
  have HS := Lib.hid S.bytes
  have HLj := Lib.hid S.lej
  have hLj := S.few
  have e0 := HA.out.cell 0
  have e1 := HA.out.cell 1
  have e2 := HA.out.cell 2
  have e3 := HA.out.cell 3
  have e4 := HA.out.cell 4
  have e5 := HA.out.cell 5
  simp at e0 e1 e2 e3 e4 e5
  unfold bv at e0 e5
  have HO : Hid (¬ (0 ≤ I ∧ I < (L.length : Int))) := Lib.hid (of_decide_eq_false S.in_.symm)
  clear S ht hK t3 t4 t6 t7 t8 t45
  conv => arg 2; whnf
  have f0 : (((kk.toNat : Nat) : Int) % 4 == 0) = false := by rw [hz]; rfl
  have f1 : (((kk.toNat : Nat) : Int) % 4 == 1) = false := by rw [hz]; rfl
  have f2 : (((kk.toNat : Nat) : Int) % 4 == 2) = true := by rw [hz]; rfl
  clear hz
  go_wp2_with fail
  refine (ndouble_out I W N0.out.1 HO.out).mono ?_
  rintro e w3 ⟨rfl, rfl⟩
  go_wp2_with fail
  exact HK.out _ _ ⟨rfl, rfl, rfl, rfl, rfl, rfl, rfl, rfl, rfl, rfl, rfl, rfl, rfl, rfl, rfl, vf, L, N0.out, R0.out, by have := HLj.out; omega, HS.out⟩

set_option maxRecDepth 100000 in
set_option maxHeartbeats 4000000 in
theorem sw2_in {w W : World} {g gk j : Nat} {vf : Value} {A4 : Option Addr} {c4 : Nat} {L : List Pc} {kk : UInt8} {tt : Int} {B : Option Addr} {n c : Nat} {d : List UInt8} {I At : Int} {y : UInt8} {a : Act} {K1 : Act → World → Prop} {Q' : Exit → Act → World → Prop} (S : Sit w W g gk j vf A4 c4 L kk tt B n c d I At y a true) (hz : ((kk.toNat : Nat) : Int) % 4 = 2) (hK : ∀ a' w', SwR w g j a a' w' → K1 a' w') :
    Code.wp Try.prog swC (Exit.then K1 Q') a W := by
  obtain ⟨t, rfl, ht⟩ := frame243 a S.size S.defers
  have t3 := (ht 3).symm.trans S.s3
  have t4 := (ht 4).symm.trans S.s4
  have t6 := (ht 6).symm.trans S.s6
  have t7 := (ht 7).symm.trans S.s7
  have t8 := (ht 8).symm.trans S.s8
  have t45 := (ht 45).symm.trans S.s45
  rw [t3, t4, t6, t7, t8, t45] at hK ⊢
  simp only [if_true] at hK ⊢
  have HK := Lib.hid hK
  have N0 := Lib.hid S.net
  have R0 := Lib.hid S.row
  have HA := Lib.hid S.act
  have HOK := Lib.hid S.arg
  have HND := Lib.hid S.len
  have HD := Lib.hid S.short
  have HS := Lib.hid S.bytes
  have HLj := Lib.hid S.lej
  have hLj := S.few
  have e0 := HA.out.cell 0
  have e1 := HA.out.cell 1
  have e2 := HA.out.cell 2
  have e3 := HA.out.cell 3
  have e4 := HA.out.cell 4
  have e5 := HA.out.cell 5
  simp at e0 e1 e2 e3 e4 e5
  unfold bv at e0 e5
  have hin : 0 ≤ I ∧ I < (L.length : Int) := of_decide_eq_true S.in_.symm
  obtain ⟨i, rfl⟩ := Int.eq_ofNat_of_zero_le hin.1
  have hiL : i < L.length := by omega
  have HI := Lib.hid hiL
  have h0i : (0 : Int) ≤ (i : Int) := by omega
  have h1i : (i : Int) < (L.length : Int) := by omega
  clear hin
  clear S ht hK t3 t4 t6 t7 t8 t45
  conv => arg 2; whnf
  have f0 : (((kk.toNat : Nat) : Int) % 4 == 0) = false := by rw [hz]; rfl
  have f1 : (((kk.toNat : Nat) : Int) % 4 == 1) = false := by rw [hz]; rfl
  have f2 : (((kk.toNat : Nat) : Int) % 4 == 2) = true := by rw [hz]; rfl
  clear hz
  go_wp2_with fail
  refine (ndouble_in i W N0.out.1 HI.out (by have := HS.out L[i] (List.getElem_mem HI.out); omega) (by omega)).mono ?_
  rintro e w3 ⟨rfl, hq0⟩
  obtain ⟨p, hp⟩ : ∃ p, p = L[i]'HI.out := ⟨_, rfl⟩
  have hq : PutQ w.heap.size g L p.to p.b p.t W w3 := by rw [hp]; exact hq0
  obtain ⟨v3, u3, d3⟩ := N0.out.put hq
  obtain ⟨_, _, _, ht3⟩ := hq
  have HA3 := ht3.other _ _ _ HA.out (by decide) (by decide) (by decide)
  have N3 := Lib.hid d3
  have R3 := R0.out.tn ht3
  obtain ⟨u5, w5, hr5, ho5, ht5⟩ := append_lp w.heap.size w3 _ L R3 d3.2.size ⟨p.to, p.b, u3, p.t⟩ (by omega)
  have HAp := Lib.hid hr5
  have R5 := Lib.hid ho5
  have N5 := Lib.hid (N3.out.tr ht5)
  obtain ⟨A', c', hv, _, hx⟩ := R3.at_
  injection hv with g1 g2 g3
  obtain ⟨r, hA', _, _, hra⟩ := hx i HI.out
  rw [← g1] at hA'
  subst hA'
  rw [← hp] at hra
  have q0 : w3.cell? ⟨r, i * 3, none⟩ = some (.int .i64 p.to) := hra 0 _ rfl
  have q1 : w3.cell? ⟨r, i * 3 + 1, none⟩ = some (.string ⟨p.b.toArray⟩) := hra 1 _ rfl
  have q2 : w3.cell? ⟨r, i * 3 + 2, none⟩ = some (.bool p.t) := hra 2 _ rfl
  clear hq0 e0 e1 e2 e3 e4 e5
  have e3 := HA3.cell 3
  simp at e3
  clear d3 ht3 hr5 ho5 ht5 HA3 R3 hx hra g1 g2 g3
  have HPp := Lib.hid hp
  clear hp
  obtain ⟨A5, c5, h5⟩ := R5.out.form
  subst h5
  obtain ⟨n5, hn5⟩ : ∃ n5, n5 = (L ++ [(⟨p.to, p.b, u3, p.t⟩ : Pc)]).length := ⟨_, rfl⟩
  rw [← hn5] at HAp R5
  have H5 := Lib.hid hn5
  clear hn5
  go_wp2_with (first
    | (at_builtin; refine Lib.wpList_append_run (o := ⟨some 131, _, _, _, _, _⟩) _ rfl _ _ _ _ rfl _ _ rfl rfl _ _ HAp.out ?_)
    | fail)
  refine HK.out _ _ ⟨rfl, rfl, rfl, rfl, rfl, rfl, rfl, rfl, rfl, rfl, rfl, rfl, rfl, rfl, rfl, v3, _, N5.out, R5.out, by have := HLj.out; simp; omega, fun x hx => ?_⟩
  rcases List.mem_append.1 hx with hx | hx
  · exact HS.out x hx
  · have : x = ⟨p.to, p.b, u3, p.t⟩ := by simpa using hx
    subst this
    show p.b.length ≤ 200
    rw [HPp.out]
    exact HS.out _ (List.getElem_mem HI.out)

end Go.Proofs.Ytoicncmlmhljmaa
