/-
  A way through the switch of NetPlays: a sending (written by gennt3.py). Conditions: none.
-/
import Derived.Test.YtoicncmlmhljmaaNtSit
namespace Go.Proofs.Ytoicncmlmhljmaa
open Go.RowKit

set_option maxRecDepth 100000 in
set_option maxHeartbeats 4000000 in
theorem sw0 {w W : World} {g gk j : Nat} {vf : Value} {A4 : Option Addr} {c4 : Nat} {L : List Pc} {kk : UInt8} {tt : Int} {B : Option Addr} {n c : Nat} {d : List UInt8} {I At : Int} {y : UInt8} {a : Act} {b : Bool} {K1 : Act → World → Prop} {Q' : Exit → Act → World → Prop} (S : Sit w W g gk j vf A4 c4 L kk tt B n c d I At y a b) (hz : ((kk.toNat : Nat) : Int) % 4 = 0) (hK : ∀ a' w', SwR w g j a a' w' → K1 a' w') :
    Code.wp Try.prog swC (Exit.then K1 Q') a W := by
  obtain ⟨t, rfl, ht⟩ := frame243 a S.size S.defers
  have t3 := (ht 3).symm.trans S.s3
  have t4 := (ht 4).symm.trans S.s4
  have t6 := (ht 6).symm.trans S.s6
  have t7 := (ht 7).symm.trans S.s7
  have t8 := (ht 8).symm.trans S.s8
  have t45 := (ht 45).symm.trans S.s45
  rw [t3, t4, t6, t7, t8, t45] at hK ⊢
  have HK := Lib.hid hK
  have N0 := Lib.hid S.net
  have R0 := Lib.hid S.row
  have HA := Lib.hid S.act
  have HOK := Lib.hid S.arg
  have HND := Lib.hid S.len
  have HD := Lib.hid S.short
  have HS := Lib.hid S.bytes
  have HLj := Lib.hid S.lej
  have hLj := S.few
  have e0 := HA.out.cell 0
  have e1 := HA.out.cell 1
  have e2 := HA.out.cell 2
  have e3 := HA.out.cell 3
  have e4 := HA.out.cell 4
  have e5 := HA.out.cell 5
  simp at e0 e1 e2 e3 e4 e5
  unfold bv at e0 e5
  clear S ht hK t3 t4 t6 t7 t8 t45
  conv => arg 2; whnf
  have f0 : (((kk.toNat : Nat) : Int) % 4 == 0) = true := by rw [hz]; rfl
  clear hz
  generalize (if b then (0 : Int) else 5) = wt at *
  go_wp2_with fail
  refine (nsend_any tt _ d W N0.out.1 (HOK.out.below N0.out.2) (by have := HD.out; omega) (by omega)).mono ?_
  rintro e w3 ⟨rfl, hq⟩
  obtain ⟨v3, u3, d3⟩ := N0.out.put hq
  obtain ⟨_, _, _, ht3⟩ := hq
  have HA3 := ht3.other _ _ _ HA.out (by decide) (by decide) (by decide)
  have N3 := Lib.hid d3
  obtain ⟨u5, w5, hr5, ho5, ht5⟩ := append_lp w.heap.size w3 _ L (R0.out.tn ht3) d3.2.size ⟨tt, d, u3, false⟩ (by omega)
  have HAp := Lib.hid hr5
  have R5 := Lib.hid ho5
  have N5 := Lib.hid (N3.out.tr ht5)
  clear e0 e1 e2 e3 e4 e5
  have e1 := HA3.cell 1
  have e2 := HA3.cell 2
  simp at e1 e2
  have s3 := bytes_str w3 _ _ (HOK.out.below d3.2)
  clear d3 ht3 hr5 ho5 ht5 HA3
  obtain ⟨A5, c5, h5⟩ := R5.out.form
  subst h5
  obtain ⟨n5, hn5⟩ : ∃ n5, n5 = (L ++ [(⟨tt, d, u3, false⟩ : Pc)]).length := ⟨_, rfl⟩
  rw [← hn5] at HAp R5
  have H5 := Lib.hid hn5
  clear hn5
  go_wp2_with (first
    | (at_builtin; refine Lib.wpList_append_run (o := ⟨some 63, _, _, _, _, _⟩) _ rfl _ _ _ _ rfl _ _ rfl rfl _ _ HAp.out ?_)
    | fail)
  refine HK.out _ _ ⟨rfl, rfl, rfl, rfl, rfl, rfl, rfl, rfl, rfl, rfl, rfl, rfl, rfl, rfl, rfl, v3, _, N5.out, R5.out, by have := HLj.out; simp; omega, fun p hp => ?_⟩
  rcases List.mem_append.1 hp with hp | hp
  · exact HS.out p hp
  · have : p = ⟨tt, d, u3, false⟩ := by simpa using hp
    subst this
    exact HD.out

end Go.Proofs.Ytoicncmlmhljmaa
