/-
  A way through the switch of NetPlays: a taking (written by gennt3.py). Conditions: none.
-/
import Derived.Test.YtoicncmlmhljmaaNtSit
namespace Go.Proofs.Ytoicncmlmhljmaa
open Go.RowKit

set_option maxRecDepth 100000 in
set_option maxHeartbeats 4000000 in
theorem sw1_out {w W : World} {g gk j : Nat} {vf : Value} {A4 : Option Addr} {c4 : Nat} {L : List Pc} {kk : UInt8} {tt : Int} {B : Option Addr} {n c : Nat} {d : List UInt8} {I At : Int} {y : UInt8} {a : Act} {K1 : Act → World → Prop} {Q' : Exit → Act → World → Prop} (S : Sit w W g gk j vf A4 c4 L kk tt B n c d I At y a false) (hz : ((kk.toNat : Nat) : Int) % 4 = 1) (hK : ∀ a' w', SwR w g j a a' w' → K1 a' w') :
    Code.wp Try.prog swC (Exit.then K1 Q') a W := by
  obtain ⟨t, rfl, ht⟩ := frame243 a S.size S.defers
  have t3 := (ht 3).symm.trans S.s3
  have t4 := (ht 4).symm.trans S.s4
  have t6 := (ht 6).symm.trans S.s6
  have t7 := (ht 7).symm.trans S.s7
  have t8 := (ht 8).symm.trans S.s8
  have t45 := (ht 45).symm.trans S.s45
  rw [t3, t4, t6, t7, t8, t45] at hK ⊢
  simp only [Bool.false_eq_true, if_false] at hK ⊢
  have HK := Lib.hid hK
  have N0 := Lib.hid S.net
  have R0 := Lib.hid S.row
  have HA := Lib.hid S.act
  have HOK := Lib.hid S.arg
  have HND := Lib.hid S.len
  have HD := Lib.hid S.short
  have HS := Lib.hid S.bytes
  have HLj := Lib.hid S.lej
  have hLj := S.few
  have e0 := HA.out.cell 0
  have e1 := HA.out.cell 1
  have e2 := HA.out.cell 2
  have e3 := HA.out.cell 3
  have e4 := HA.out.cell 4
  have e5 := HA.out.cell 5
  simp at e0 e1 e2 e3 e4 e5
  unfold bv at e0 e5
  have HO : Hid (¬ (0 ≤ I ∧ I < (L.length : Int))) := Lib.hid (of_decide_eq_false S.in_.symm)
  clear S ht hK t3 t4 t6 t7 t8 t45
  conv => arg 2; whnf
  have f0 : (((kk.toNat : Nat) : Int) % 4 == 0) = false := by rw [hz]; rfl
  have f1 : (((kk.toNat : Nat) : Int) % 4 == 1) = true := by rw [hz]; rfl
  clear hz
  go_wp2_with fail
  refine (ntake_out I W N0.out.1 HO.out).mono ?_
  rintro e w3 ⟨rfl, hb3⟩
  have hb4 : Below W.heap.size W (w3.alloc (.cells #[.int .i64 0, .slice none 0 0] 35)) := hb3.alloc hb3.size _
  have N4 := Lib.hid (N0.out.below hb4)
  have R4 := Lib.hid (R0.out.keep hb4)
  clear e0 e1 e2 e3 e4 e5 hb3 hb4
  go_upto_region 23 with fail
  generalize w3.alloc (.cells #[.int .i64 0, .slice none 0 0] 35) = W4 at *
  go_region
  go_wp2_with fail
  exact HK.out _ _ ⟨rfl, rfl, rfl, rfl, rfl, rfl, rfl, rfl, rfl, rfl, rfl, rfl, rfl, rfl, rfl, vf, L, N4.out.below (Below.refl _ _).drew, R4.out.keep (Below.refl _ _).drew, by have := HLj.out; omega, HS.out⟩

set_option maxRecDepth 100000 in
set_option maxHeartbeats 4000000 in
theorem sw1_in {w W : World} {g gk j : Nat} {vf : Value} {A4 : Option Addr} {c4 : Nat} {L : List Pc} {kk : UInt8} {tt : Int} {B : Option Addr} {n c : Nat} {d : List UInt8} {I At : Int} {y : UInt8} {a : Act} {K1 : Act → World → Prop} {Q' : Exit → Act → World → Prop} (S : Sit w W g gk j vf A4 c4 L kk tt B n c d I At y a true) (hz : ((kk.toNat : Nat) : Int) % 4 = 1) (hK : ∀ a' w', SwR w g j a a' w' → K1 a' w') :
    Code.wp Try.prog swC (Exit.then K1 Q') a W := by
  obtain ⟨t, rfl, ht⟩ := frame243 a S.size S.defers
  have t3 := (ht 3).symm.trans S.s3
  have t4 := (ht 4).symm.trans S.s4
  have t6 := (ht 6).symm.trans S.s6
  have t7 := (ht 7).symm.trans S.s7
  have t8 := (ht 8).symm.trans S.s8
  have t45 := (ht 45).symm.trans S.s45
  rw [t3, t4, t6, t7, t8, t45] at hK ⊢
  simp only [if_true] at hK ⊢
  have HK := Lib.hid hK
  have N0 := Lib.hid S.net
  have R0 := Lib.hid S.row
  have HA := Lib.hid S.act
  have HOK := Lib.hid S.arg
  have HND := Lib.hid S.len
  have HD := Lib.hid S.short
  have HS := Lib.hid S.bytes
  have HLj := Lib.hid S.lej
  have hLj := S.few
  have e0 := HA.out.cell 0
  have e1 := HA.out.cell 1
  have e2 := HA.out.cell 2
  have e3 := HA.out.cell 3
  have e4 := HA.out.cell 4
  have e5 := HA.out.cell 5
  simp at e0 e1 e2 e3 e4 e5
  unfold bv at e0 e5
  have hin : 0 ≤ I ∧ I < (L.length : Int) := of_decide_eq_true S.in_.symm
  obtain ⟨i, rfl⟩ := Int.eq_ofNat_of_zero_le hin.1
  have hiL : i < L.length := by omega
  have HI := Lib.hid hiL
  have h0i : (0 : Int) ≤ (i : Int) := by omega
  have h1i : (i : Int) < (L.length : Int) := by omega
  clear hin
  clear S ht hK t3 t4 t6 t7 t8 t45
  conv => arg 2; whnf
  have f0 : (((kk.toNat : Nat) : Int) % 4 == 0) = false := by rw [hz]; rfl
  have f1 : (((kk.toNat : Nat) : Int) % 4 == 1) = true := by rw [hz]; rfl
  clear hz
  go_wp2_with fail
  refine (ntake_in i W N0.out.1 HI.out).mono ?_
  rintro e w3 ⟨rfl, ho3, ⟨v3, h3⟩, t3⟩
  obtain ⟨p, hp⟩ : ∃ p, p = L[i]'HI.out := ⟨_, rfl⟩
  rw [← hp] at ho3 ⊢
  obtain ⟨B3, d3, hv3⟩ := ho3.form
  rw [hv3] at ho3 ⊢
  have hb4 : Below w3.heap.size w3 (w3.alloc (.cells #[.int .i64 p.to, .slice B3 p.b.length d3] 35)) := (Below.refl _ _).alloc (Nat.le_refl _) _
  have N4 := Lib.hid ((N0.out.turn h3 t3).below hb4)
  have R4 := Lib.hid ((R0.out.tn t3).keep hb4)
  have HA4 := Blk.below (t3.other _ _ _ HA.out (by decide) (by decide) (by decide)) hb4 (Blk.lt (t3.other _ _ _ HA.out (by decide) (by decide) (by decide)))
  have HP4 := Blk.new w3 35 #[.int .i64 p.to, .slice B3 p.b.length d3]
  have s4 := bytes_str _ _ _ (ho3.keep hb4).sl
  have S4 := (ho3.keep hb4).sl
  obtain ⟨A', c', hv, hc', hx⟩ := R4.out.at_
  injection hv with g1 g2 g3
  obtain ⟨r, hA', _, _, hra⟩ := hx i HI.out
  rw [← g1] at hA'
  subst hA'
  rw [← hp] at hra
  have HPp := Lib.hid hp
  have HC4 := Lib.hid (show L.length ≤ c4 by rw [g3]; exact hc')
  clear e0 e1 e2 e4 e5 e3 hb4 ho3 h3 t3 hx g1 g2 g3 hc' hp
  go_upto_region 23 with fail
  generalize w3.alloc (.cells #[.int .i64 p.to, .slice B3 p.b.length d3] 35) = W4 at *
  generalize w3.heap.size = q3 at *
  have q0 : W4.cell? ⟨r, i * 3, none⟩ = some (.int .i64 p.to) := hra 0 _ rfl
  have q1 : W4.cell? ⟨r, i * 3 + 1, none⟩ = some (.string ⟨p.b.toArray⟩) := hra 1 _ rfl
  have e3 := HA4.cell 3
  have p0 := HP4.cell 0
  have p1 := HP4.cell 1
  simp at e3 p0 p1
  have Q0 := Lib.hid q0
  have Q1 := Lib.hid q1
  have HRl := Lib.hid (show r < W4.heap.size from World.block_lt_of_cell? _ _ q0)
  have HA5 := Lib.hid HA4
  have HP4 := Lib.hid HP4
  have S4 := Lib.hid S4
  clear hra HA4 q0 q1 e3 p0 p1 s4
  refine wp_region_any (by kernel_rfl) ?_
  refine wpAny_below (pN ([some (.int .i64 0), some (.int .i64 0), some (.bool false), some (.bool false), some (.bool true), some (.bool true), some (.pointer (some ⟨q3, 0, none⟩)), some (.int .i64 p.to), some (.slice (some ⟨r, 0, none⟩) L.length c4), some (.pointer (some ⟨gk, 3, none⟩)), some (.int .i64 i), some (.pointer (some ⟨r, i * 3, none⟩)), some (.pointer (some ⟨r, i * 3, none⟩)), some (.int .i64 p.to), some (.bool false), some (.bool false), some (.pointer (some ⟨q3, 1, none⟩)), some (.slice B3 p.b.length d3), some (.string ⟨p.b.toArray⟩), some (.slice (some ⟨r, 0, none⟩) L.length c4), some (.pointer (some ⟨gk, 3, none⟩)), some (.int .i64 i), some (.pointer (some ⟨r, i * 3, none⟩)), some (.pointer (some ⟨r, i * 3 + 1, none⟩)), some (.string ⟨p.b.toArray⟩), some (.bool false), some (.bool false), some (.bool false), some (.bool false)]) (fun _ _ _ => True)) _ W4 (by kernel_rfl) (by kernel_rfl) (by kernel_rfl) (pN_keep fun _ _ _ _ _ _ => trivial) ?_ ?_
  · refine ⟨?_, ?_, ?_, ?_, ?_, ?_, ?_, ?_, ?_, ?_, ?_, ?_, ?_, ?_, ?_, ?_, ?_, ?_, ?_, ?_, ?_, ?_, ?_, ?_, ?_, ?_, ?_, ?_, ?_, trivial⟩
    · intro a W hI hun haft hi
      have e10 : a.eval (.tmp 10) = .int .i64 0 := hun 10 (by kernel_rfl)
      exact b_same hi hI rfl _ (run_move_op rfl e10) rfl
    · intro a W hI hun haft hi
      have e8 : a.eval (.tmp 8) = .int .i64 0 := hun 8 (by kernel_rfl)
      exact b_same hi hI rfl _ (run_move_op rfl e8) rfl
    · intro a W hI hun haft hi
      have f0 : a.eval (.tmp 73) = .int .i64 0 := haft ⟨0, .data⟩ (by simp) rfl _ _ rfl rfl
      have f1 : a.eval (.tmp 74) = .int .i64 0 := haft ⟨1, .data⟩ (by simp) rfl _ _ rfl rfl
      exact b_same hi hI rfl _ (run_bin_op rfl f0 f1 rfl (ne_err W)) rfl
    · intro a W hI hun haft hi
      have f2 : a.eval (.tmp 75) = .bool false := haft ⟨2, .data⟩ (by simp) rfl _ _ rfl rfl
      exact b_same hi hI rfl _ (run_move_op rfl f2) rfl
    · intro a W hI hun haft hi
      have g3 : a.eval (.tmp 76) = .bool false := haft ⟨3, .guard⟩ (by simp) rfl _ _ rfl rfl
      have e7 : a.eval (.tmp 7) = .bool true := hun 7 (by kernel_rfl)
      exact b_same hi hI (guard_ok rfl rfl rfl g3) _ (run_move_op rfl e7) rfl
    · intro a W hI hun haft hi
      have g3 : a.eval (.tmp 76) = .bool false := haft ⟨3, .guard⟩ (by simp) rfl _ _ rfl rfl
      have f4 : a.eval (.tmp 77) = .bool true := haft ⟨4, .data⟩ (by simp) rfl _ _ rfl rfl
      exact b_same hi hI (guard_ok rfl rfl rfl g3) _ (run_move_op rfl f4) rfl
    · intro a W hI hun haft hi
      have g5 : a.eval (.tmp 78) = .bool true := haft ⟨5, .guard⟩ (by simp) rfl _ _ rfl rfl
      have e9 : a.eval (.tmp 9) = .pointer (some ⟨q3, 0, none⟩) := hun 9 (by kernel_rfl)
      exact b_same hi hI (guard_ok rfl rfl rfl g5) _ (run_fieldAddr_any rfl e9 (at_pc0 _ _ _)) rfl
    · intro a W hI hun haft hi
      have g5 : a.eval (.tmp 78) = .bool true := haft ⟨5, .guard⟩ (by simp) rfl _ _ rfl rfl
      have f6 : a.eval (.tmp 79) = .pointer (some ⟨q3, 0, none⟩) := haft ⟨6, .data⟩ (by simp) rfl _ _ rfl rfl
      exact b_same hi hI (guard_ok rfl rfl rfl g5) _ (run_load1_op rfl f6 Try.underlying3 rfl ((HP4.out.below hI HP4.out.lt).cell 0)) rfl
    · intro a W hI hun haft hi
      have g5 : a.eval (.tmp 78) = .bool true := haft ⟨5, .guard⟩ (by simp) rfl _ _ rfl rfl
      have e4 : a.eval (.tmp 4) = .slice (some ⟨r, 0, none⟩) L.length c4 := hun 4 (by kernel_rfl)
      exact b_same hi hI (guard_ok rfl rfl rfl g5) _ (run_move_op rfl e4) rfl
    · intro a W hI hun haft hi
      have g5 : a.eval (.tmp 78) = .bool true := haft ⟨5, .guard⟩ (by simp) rfl _ _ rfl rfl
      have e6 : a.eval (.tmp 6) = .pointer (some ⟨gk, 0, none⟩) := hun 6 (by kernel_rfl)
      exact b_same hi hI (guard_ok rfl rfl rfl g5) _ (run_fieldAddr_any rfl e6 (at_act gk 3 (by decide) W)) rfl
    · intro a W hI hun haft hi
      have g5 : a.eval (.tmp 78) = .bool true := haft ⟨5, .guard⟩ (by simp) rfl _ _ rfl rfl
      have f9 : a.eval (.tmp 82) = .pointer (some ⟨gk, 3, none⟩) := haft ⟨9, .data⟩ (by simp) rfl _ _ rfl rfl
      exact b_same hi hI (guard_ok rfl rfl rfl g5) _ (run_load1_op rfl f9 Try.underlying3 rfl ((HA5.out.below hI HA5.out.lt).cell 3)) rfl
    · intro a W hI hun haft hi
      have g5 : a.eval (.tmp 78) = .bool true := haft ⟨5, .guard⟩ (by simp) rfl _ _ rfl rfl
      have f8 : a.eval (.tmp 81) = .slice (some ⟨r, 0, none⟩) L.length c4 := haft ⟨8, .data⟩ (by simp) rfl _ _ rfl rfl
      have f10 : a.eval (.tmp 83) = .int .i64 i := haft ⟨10, .data⟩ (by simp) rfl _ _ rfl rfl
      exact b_same hi hI (guard_ok rfl rfl rfl g5) _ (run_indexAddr_op rfl f8 f10 (at_lrow r L.length c4 i HI.out W)) rfl
    · intro a W hI hun haft hi
      have g5 : a.eval (.tmp 78) = .bool true := haft ⟨5, .guard⟩ (by simp) rfl _ _ rfl rfl
      have f11 : a.eval (.tmp 84) = .pointer (some ⟨r, i * 3, none⟩) := haft ⟨11, .data⟩ (by simp) rfl _ _ rfl rfl
      exact b_same hi hI (guard_ok rfl rfl rfl g5) _ (run_fieldAddr_any rfl f11 (at_lp r (i * 3) 0 (by decide) W)) rfl
    · intro a W hI hun haft hi
      have g5 : a.eval (.tmp 78) = .bool true := haft ⟨5, .guard⟩ (by simp) rfl _ _ rfl rfl
      have f12 : a.eval (.tmp 85) = .pointer (some ⟨r, i * 3, none⟩) := haft ⟨12, .data⟩ (by simp) rfl _ _ rfl rfl
      exact b_same hi hI (guard_ok rfl rfl rfl g5) _ (run_load1_op rfl f12 Try.underlying3 rfl ((hI.cell (p := ⟨r, i * 3, none⟩) HRl.out).trans Q0.out)) rfl
    · intro a W hI hun haft hi
      have g5 : a.eval (.tmp 78) = .bool true := haft ⟨5, .guard⟩ (by simp) rfl _ _ rfl rfl
      have f7 : a.eval (.tmp 80) = .int .i64 p.to := haft ⟨7, .data⟩ (by simp) rfl _ _ rfl rfl
      have f13 : a.eval (.tmp 86) = .int .i64 p.to := haft ⟨13, .data⟩ (by simp) rfl _ _ rfl rfl
      exact b_same hi hI (guard_ok rfl rfl rfl g5) _ (run_bin_op rfl f7 f13 rfl (ne_int _ W)) rfl
    · intro a W hI hun haft hi
      have g5 : a.eval (.tmp 78) = .bool true := haft ⟨5, .guard⟩ (by simp) rfl _ _ rfl rfl
      have f14 : a.eval (.tmp 87) = .bool false := haft ⟨14, .data⟩ (by simp) rfl _ _ rfl rfl
      exact b_same hi hI (guard_ok rfl rfl rfl g5) _ (run_move_op rfl f14) rfl
    · intro a W hI hun haft hi
      have g15 : a.eval (.tmp 88) = .bool false := haft ⟨15, .guard⟩ (by simp) rfl _ _ rfl rfl
      have e9 : a.eval (.tmp 9) = .pointer (some ⟨q3, 0, none⟩) := hun 9 (by kernel_rfl)
      exact b_same hi hI (guard_ok rfl rfl rfl g15) _ (run_fieldAddr_any rfl e9 (at_pc1 _ _ _)) rfl
    · intro a W hI hun haft hi
      have g15 : a.eval (.tmp 88) = .bool false := haft ⟨15, .guard⟩ (by simp) rfl _ _ rfl rfl
      have f16 : a.eval (.tmp 89) = .pointer (some ⟨q3, 1, none⟩) := haft ⟨16, .data⟩ (by simp) rfl _ _ rfl rfl
      exact b_same hi hI (guard_ok rfl rfl rfl g15) _ (run_load1_op rfl f16 Try.underlying27 rfl ((HP4.out.below hI HP4.out.lt).cell 1)) rfl
    · intro a W hI hun haft hi
      have g15 : a.eval (.tmp 88) = .bool false := haft ⟨15, .guard⟩ (by simp) rfl _ _ rfl rfl
      have f17 : a.eval (.tmp 90) = .slice B3 p.b.length d3 := haft ⟨17, .data⟩ (by simp) rfl _ _ rfl rfl
      exact b_same hi hI (guard_ok rfl rfl rfl g15) _ (run_convert_op rfl f17 (bytes_str W _ _ (S4.out.below hI))) rfl
    · intro a W hI hun haft hi
      have g15 : a.eval (.tmp 88) = .bool false := haft ⟨15, .guard⟩ (by simp) rfl _ _ rfl rfl
      have e4 : a.eval (.tmp 4) = .slice (some ⟨r, 0, none⟩) L.length c4 := hun 4 (by kernel_rfl)
      exact b_same hi hI (guard_ok rfl rfl rfl g15) _ (run_move_op rfl e4) rfl
    · intro a W hI hun haft hi
      have g15 : a.eval (.tmp 88) = .bool false := haft ⟨15, .guard⟩ (by simp) rfl _ _ rfl rfl
      have e6 : a.eval (.tmp 6) = .pointer (some ⟨gk, 0, none⟩) := hun 6 (by kernel_rfl)
      exact b_same hi hI (guard_ok rfl rfl rfl g15) _ (run_fieldAddr_any rfl e6 (at_act gk 3 (by decide) W)) rfl
    · intro a W hI hun haft hi
      have g15 : a.eval (.tmp 88) = .bool false := haft ⟨15, .guard⟩ (by simp) rfl _ _ rfl rfl
      have f20 : a.eval (.tmp 93) = .pointer (some ⟨gk, 3, none⟩) := haft ⟨20, .data⟩ (by simp) rfl _ _ rfl rfl
      exact b_same hi hI (guard_ok rfl rfl rfl g15) _ (run_load1_op rfl f20 Try.underlying3 rfl ((HA5.out.below hI HA5.out.lt).cell 3)) rfl
    · intro a W hI hun haft hi
      have g15 : a.eval (.tmp 88) = .bool false := haft ⟨15, .guard⟩ (by simp) rfl _ _ rfl rfl
      have f19 : a.eval (.tmp 92) = .slice (some ⟨r, 0, none⟩) L.length c4 := haft ⟨19, .data⟩ (by simp) rfl _ _ rfl rfl
      have f21 : a.eval (.tmp 94) = .int .i64 i := haft ⟨21, .data⟩ (by simp) rfl _ _ rfl rfl
      exact b_same hi hI (guard_ok rfl rfl rfl g15) _ (run_indexAddr_op rfl f19 f21 (at_lrow r L.length c4 i HI.out W)) rfl
    · intro a W hI hun haft hi
      have g15 : a.eval (.tmp 88) = .bool false := haft ⟨15, .guard⟩ (by simp) rfl _ _ rfl rfl
      have f22 : a.eval (.tmp 95) = .pointer (some ⟨r, i * 3, none⟩) := haft ⟨22, .data⟩ (by simp) rfl _ _ rfl rfl
      exact b_same hi hI (guard_ok rfl rfl rfl g15) _ (run_fieldAddr_any rfl f22 (at_lp r (i * 3) 1 (by decide) W)) rfl
    · intro a W hI hun haft hi
      have g15 : a.eval (.tmp 88) = .bool false := haft ⟨15, .guard⟩ (by simp) rfl _ _ rfl rfl
      have f23 : a.eval (.tmp 96) = .pointer (some ⟨r, i * 3 + 1, none⟩) := haft ⟨23, .data⟩ (by simp) rfl _ _ rfl rfl
      exact b_same hi hI (guard_ok rfl rfl rfl g15) _ (run_load1_op rfl f23 Try.underlying9 rfl ((hI.cell (p := ⟨r, i * 3 + 1, none⟩) HRl.out).trans Q1.out)) rfl
    · intro a W hI hun haft hi
      have g15 : a.eval (.tmp 88) = .bool false := haft ⟨15, .guard⟩ (by simp) rfl _ _ rfl rfl
      have f18 : a.eval (.tmp 91) = .string ⟨p.b.toArray⟩ := haft ⟨18, .data⟩ (by simp) rfl _ _ rfl rfl
      have f24 : a.eval (.tmp 97) = .string ⟨p.b.toArray⟩ := haft ⟨24, .data⟩ (by simp) rfl _ _ rfl rfl
      exact b_same hi hI (guard_ok rfl rfl rfl g15) _ (run_bin_op rfl f18 f24 rfl (ne_str _ W)) rfl
    · intro a W hI hun haft hi
      have g5 : a.eval (.tmp 78) = .bool true := haft ⟨5, .guard⟩ (by simp) rfl _ _ rfl rfl
      have f15 : a.eval (.tmp 88) = .bool false := haft ⟨15, .data⟩ (by simp) rfl _ _ rfl rfl
      have f25 : a.eval (.tmp 98) = .bool false := haft ⟨25, .data⟩ (by simp) rfl _ _ rfl rfl
      exact b_same hi hI (guard_ok rfl rfl rfl g5) _ (run_pick_op rfl f15 rfl f25) rfl
    · intro a W hI hun haft hi
      have g3 : a.eval (.tmp 76) = .bool false := haft ⟨3, .guard⟩ (by simp) rfl _ _ rfl rfl
      have f5 : a.eval (.tmp 78) = .bool true := haft ⟨5, .data⟩ (by simp) rfl _ _ rfl rfl
      have f26 : a.eval (.tmp 99) = .bool false := haft ⟨26, .data⟩ (by simp) rfl _ _ rfl rfl
      exact b_same hi hI (guard_ok rfl rfl rfl g3) _ (run_pick_op rfl f5 f26 rfl) rfl
    · intro a W hI hun haft hi
      have f3 : a.eval (.tmp 76) = .bool false := haft ⟨3, .data⟩ (by simp) rfl _ _ rfl rfl
      have f27 : a.eval (.tmp 100) = .bool false := haft ⟨27, .data⟩ (by simp) rfl _ _ rfl rfl
      exact b_same hi hI rfl _ (run_pick_op rfl f3 rfl f27) rfl
  · intro vals W hI hp
    have hl28 : vals 28 = .bool false := hp 28 (by decide)
    have HI5 := Lib.hid hI
    clear hp hI
    simp only [layN, List.size_toArray, List.length_cons, List.length_nil, List.range, List.range.loop, if_true, List.getElem?_toArray, List.getElem?_cons_zero, List.getElem?_cons_succ, Act.put, List.setIfInBounds_toArray, List.set_cons_zero, List.set_cons_succ, Nat.zero_add, Nat.reduceAdd]
    rw [hl28]
    clear hl28
    obtain ⟨W5, hW5⟩ : ∃ W5, W5 = W := ⟨_, rfl⟩
    rw [← hW5] at HI5 ⊢
    clear hW5
    obtain ⟨q5, hq5⟩ : ∃ q5, q5 = W5.heap.size := ⟨_, rfl⟩
    have HQ5 := Lib.hid hq5
    clear hq5
    have N5 := Lib.hid (N4.out.below HI5.out)
    have R5 := Lib.hid (R4.out.keep HI5.out)
    have HA6 := Lib.hid (HA5.out.below HI5.out HA5.out.lt)
    have HL9 := Lib.hid hLj
    have HI9 := Lib.hid (show i + 1 ≤ 9223372036854775807 by omega)
    have HS4 := Lib.hid (fun W : World => show (Instr.sliceAt 26 (.slice (some ⟨r, 0, none⟩) L.length c4) none (some (.int .i64 i)) none).run Try.prog W = .ok (.slice (some ⟨r, 0, none⟩) i c4) W by
      have := run_sliceK_hi (P := Try.prog) W 26 _ Try.underlying26 sizeLp (some ⟨r, 0, none⟩) L.length c4 i (by have := HC4.out; omega)
      rwa [slK_zero] at this)
    have HS5 := Lib.hid (fun (W : World) (hI : Below W5.heap.size W5 W) => show SlK encR 3 W (.slice (some ⟨r, 0, none⟩) i c4) (L.take i) by
      have := ((R5.out.keep hI).read encR_len).part 0 i (Nat.zero_le _) (Nat.le_of_lt HI.out)
      rwa [slK_zero, Nat.sub_zero, Nat.sub_zero, List.drop_zero] at this)
    go_upto_region 26 with fail
    refine wp_region_any (by kernel_rfl) ?_
    refine Lt.wpAny_mid (pN ([none, some (.slice (some ⟨r, 0, none⟩) L.length c4), some (.pointer (some ⟨gk, 3, none⟩)), some (.int .i64 i), some (.slice (some ⟨r, 0, none⟩) i c4), none, some (.slice (some ⟨r, 0, none⟩) L.length c4), some (.pointer (some ⟨gk, 3, none⟩)), some (.int .i64 i), some (.int .i64 ((i + 1 : Nat) : Int)), some (.slice (slK (some ⟨r, 0, none⟩) c4 (i + 1) 3) (L.length - (i + 1)) (c4 - (i + 1))), none, none]) (pC q5 i L)) _ W5 11 _ _ (fun v W => Lr w.heap.size W v (L.eraseIdx i) ∧ Tr w.heap.size W5 W) (by kernel_rfl) rfl rfl (by kernel_rfl) (by kernel_rfl) (by kernel_rfl) (by kernel_rfl) (by kernel_rfl) (pN_keep pC_keep) ?_ ?_ ?_ ?_
    · refine ⟨?_, ?_, ?_, ?_, ?_, ?_, ?_, ?_, ?_, ?_, ?_, fun h => absurd h (by decide), fun h => absurd h (by decide), trivial⟩
      · intro _ a W hI hun haft hi
        exact b_val hi hI rfl _ _ (run_buildSlice_op (vs := #[]) rfl (by simp) (bs_lp W)) ((Below.refl _ _).alloc (Nat.le_refl _) _) ⟨_, rfl, own_base (lr_empty W) (by rw [HQ5.out]; exact hI.size)⟩
      · intro _ a W hI hun haft hi
        have e4 : a.eval (.tmp 4) = .slice (some ⟨r, 0, none⟩) L.length c4 := hun 4 (by kernel_rfl)
        exact b_same hi hI rfl _ (run_move_op rfl e4) rfl
      · intro _ a W hI hun haft hi
        have e6 : a.eval (.tmp 6) = .pointer (some ⟨gk, 0, none⟩) := hun 6 (by kernel_rfl)
        exact b_same hi hI rfl _ (run_fieldAddr_any rfl e6 (at_act gk 3 (by decide) W)) rfl
      · intro _ a W hI hun haft hi
        have f2 : a.eval (.tmp 105) = .pointer (some ⟨gk, 3, none⟩) := haft ⟨2, .data⟩ (by simp) rfl _ _ rfl rfl
        exact b_same hi hI rfl _ (run_load1_op rfl f2 Try.underlying3 rfl ((HA6.out.below hI HA6.out.lt).cell 3)) rfl
      · intro _ a W hI hun haft hi
        have f1 : a.eval (.tmp 104) = .slice (some ⟨r, 0, none⟩) L.length c4 := haft ⟨1, .data⟩ (by simp) rfl _ _ rfl rfl
        have f3 : a.eval (.tmp 106) = .int .i64 i := haft ⟨3, .data⟩ (by simp) rfl _ _ rfl rfl
        exact b_same hi hI rfl _ (run_slhi_op rfl f1 f3 (HS4.out W)) rfl
      · intro _ a W hI hun haft hi
        have z0 : ∃ g0, (a.eval (.tmp 103)) = .slice (some ⟨g0, 0, none⟩) 0 0 ∧ Lr q5 W (a.eval (.tmp 103)) [] := haft ⟨0, .data⟩ (by simp) rfl _ _ rfl rfl
        have f4 : a.eval (.tmp 107) = .slice (some ⟨r, 0, none⟩) i c4 := haft ⟨4, .data⟩ (by simp) rfl _ _ rfl rfl
        obtain ⟨g0, hv0, ho0⟩ := z0
        rw [hv0] at ho0
        obtain ⟨u', w', hr5, ho5, hb5⟩ := append_lnew q5 W _ (L.take i) (HS5.out W hI) (by rw [List.length_take]; have := HL9.out; omega) g0 ho0 (by rw [HQ5.out]; exact hI.size)
        exact b_val hi hI rfl _ _ (run_append_op rfl hv0 f4 hr5) hb5 ho5
      · intro _ a W hI hun haft hi
        have e4 : a.eval (.tmp 4) = .slice (some ⟨r, 0, none⟩) L.length c4 := hun 4 (by kernel_rfl)
        exact b_same hi hI rfl _ (run_move_op rfl e4) rfl
      · intro _ a W hI hun haft hi
        have e6 : a.eval (.tmp 6) = .pointer (some ⟨gk, 0, none⟩) := hun 6 (by kernel_rfl)
        exact b_same hi hI rfl _ (run_fieldAddr_any rfl e6 (at_act gk 3 (by decide) W)) rfl
      · intro _ a W hI hun haft hi
        have f7 : a.eval (.tmp 110) = .pointer (some ⟨gk, 3, none⟩) := haft ⟨7, .data⟩ (by simp) rfl _ _ rfl rfl
        exact b_same hi hI rfl _ (run_load1_op rfl f7 Try.underlying3 rfl ((HA6.out.below hI HA6.out.lt).cell 3)) rfl
      · intro _ a W hI hun haft hi
        have f8 : a.eval (.tmp 111) = .int .i64 i := haft ⟨8, .data⟩ (by simp) rfl _ _ rfl rfl
        exact b_same hi hI rfl _ (run_bin_op rfl f8 rfl rfl (add16 i HI9.out W)) rfl
      · intro _ a W hI hun haft hi
        have f6 : a.eval (.tmp 109) = .slice (some ⟨r, 0, none⟩) L.length c4 := haft ⟨6, .data⟩ (by simp) rfl _ _ rfl rfl
        have f9 : a.eval (.tmp 112) = .int .i64 ((i + 1 : Nat) : Int) := haft ⟨9, .data⟩ (by simp) rfl _ _ rfl rfl
        exact b_same hi hI rfl _ (run_sllo_op rfl f6 f9 (run_sliceK_lo W _ _ Try.underlying26 sizeLp _ _ _ (i + 1) HI.out)) rfl
    · intro a W hI haft
      have z5 : Lr q5 W (a.eval (.tmp 108)) (L.take i) := haft ⟨5, .data⟩ (by simp) rfl _ _ rfl rfl
      have f10 : a.eval (.tmp 113) = .slice (slK (some ⟨r, 0, none⟩) c4 (i + 1) 3) (L.length - (i + 1)) (c4 - (i + 1)) := haft ⟨10, .data⟩ (by simp) rfl _ _ rfl rfl
      have hsl := ((R5.out.keep hI).read encR_len).part (i + 1) L.length HI.out (Nat.le_refl _)
      rw [List.take_length] at hsl
      obtain ⟨u', w', hr, ho, ht⟩ := append_lr q5 W _ (L.take i) z5 (by rw [HQ5.out]; exact hI.size) _ (L.drop (i + 1)) hsl (by rw [List.length_take, List.length_drop]; have := HL9.out; omega)
      rw [← List.eraseIdx_eq_take_drop_succ] at ho
      have hwq : w.heap.size ≤ q5 := by rw [HQ5.out]; exact N5.out.2.size
      exact wpOp_val rfl rfl u' w' (run_append_op rfl rfl f10 hr) ⟨_, rfl, own_base ho hwq, (Tr.of_below hI N5.out.2.size).trans (ht.mono hwq)⟩
    · intro v a W hv
      exact wpOp_val rfl rfl v W (run_assign_op rfl (hv _ rfl)) ⟨rfl, rfl⟩
    · rintro vals W ⟨hl1, hl2⟩ heq
      simp only [layN, List.size_toArray, List.length_cons, List.length_nil, List.range, List.range.loop, if_true, List.getElem?_toArray, List.getElem?_cons_zero, List.getElem?_cons_succ, Act.put, List.setIfInBounds_toArray, List.set_cons_zero, List.set_cons_succ, Nat.zero_add, Nat.reduceAdd]
      rw [heq]
      have HL1 := Lib.hid hl1
      have HL2 := Lib.hid hl2
      clear hl1 hl2 heq
      go_wp2_with fail
      exact HK.out _ _ ⟨rfl, rfl, rfl, rfl, rfl, rfl, rfl, rfl, rfl, rfl, rfl, rfl, rfl, rfl, rfl, v3, L.eraseIdx i, N5.out.tr HL2.out, HL1.out, by rw [List.length_eraseIdx_of_lt HI.out]; have := HLj.out; omega, fun x hx => HS.out x (List.mem_of_mem_eraseIdx hx)⟩

end Go.Proofs.Ytoicncmlmhljmaa
