/-
  A way through the switch of NetPlays: a turning that comes too late (written by gennt3.py). Conditions: none.
-/
import Derived.Test.YtoicncmlmhljmaaNtSit
namespace Go.Proofs.Ytoicncmlmhljmaa
open Go.RowKit

set_option maxRecDepth 100000 in
set_option maxHeartbeats 4000000 in
theorem sw3_far {w W : World} {g gk j : Nat} {vf : Value} {A4 : Option Addr} {c4 : Nat} {L : List Pc} {kk : UInt8} {tt : Int} {B : Option Addr} {n c : Nat} {d : List UInt8} {I At : Int} {y : UInt8} {a : Act} {K1 : Act → World → Prop} {Q' : Exit → Act → World → Prop} (S : Sit w W g gk j vf A4 c4 L kk tt B n c d I At y a true) (k : Nat) (hAt : At = (k : Int)) (hk : ∀ hi : I.toNat < L.length, L[I.toNat].b.length ≤ k) (hz : ((kk.toNat : Nat) : Int) % 4 = 3) (hK : ∀ a' w', SwR w g j a a' w' → K1 a' w') :
    Code.wp Try.prog swC (Exit.then K1 Q') a W := by
  obtain ⟨t, rfl, ht⟩ := frame243 a S.size S.defers
  have t3 := (ht 3).symm.trans S.s3
  have t4 := (ht 4).symm.trans S.s4
  have t6 := (ht 6).symm.trans S.s6
  have t7 := (ht 7).symm.trans S.s7
  have t8 := (ht 8).symm.trans S.s8
  have t45 := (ht 45).symm.trans S.s45
  rw [t3, t4, t6, t7, t8, t45] at hK ⊢
  simp only [if_true] at hK ⊢
  have HK := Lib.hid hK
  have N0 := Lib.hid S.net
  have R0 := Lib.hid S.row
  have HA := Lib.hid S.act
  have HOK := Lib.hid S.arg
  have HND := Lib.hid S.len
  have HD := Lib.hid S.short
  have HS := Lib.hid S.bytes
  have HLj := Lib.hid S.lej
  have hLj := S.few
  have e0 := HA.out.cell 0
  have e1 := HA.out.cell 1
  have e2 := HA.out.cell 2
  have e3 := HA.out.cell 3
  have e4 := HA.out.cell 4
  have e5 := HA.out.cell 5
  simp at e0 e1 e2 e3 e4 e5
  unfold bv at e0 e5
  subst hAt
  have hin : 0 ≤ I ∧ I < (L.length : Int) := of_decide_eq_true S.in_.symm
  obtain ⟨i, rfl⟩ := Int.eq_ofNat_of_zero_le hin.1
  have hiL : i < L.length := by omega
  have HI := Lib.hid hiL
  have h0i : (0 : Int) ≤ (i : Int) := by omega
  have h1i : (i : Int) < (L.length : Int) := by omega
  have hk := hk (by simpa using hiL)
  simp only [Int.toNat_natCast] at hk
  clear hin
  clear S ht hK t3 t4 t6 t7 t8 t45
  conv => arg 2; whnf
  have f0 : (((kk.toNat : Nat) : Int) % 4 == 0) = false := by rw [hz]; rfl
  have f1 : (((kk.toNat : Nat) : Int) % 4 == 1) = false := by rw [hz]; rfl
  have f2 : (((kk.toNat : Nat) : Int) % 4 == 2) = false := by rw [hz]; rfl
  have f3 : (((kk.toNat : Nat) : Int) % 4 == 3) = true := by rw [hz]; rfl
  clear hz
  obtain ⟨A', c', hv, hc', hx⟩ := R0.out.at_
  injection hv with g1 g2 g3
  obtain ⟨r, hA', _, _, hra⟩ := hx i HI.out
  rw [← g1] at hA'
  subst hA'
  obtain ⟨p, hp⟩ : ∃ p, p = L[i]'HI.out := ⟨_, rfl⟩
  rw [← hp] at hra hk
  have Q1 := Lib.hid (show W.cell? ⟨r, i * 3 + 1, none⟩ = some (.string ⟨p.b.toArray⟩) from hra 1 _ rfl)
  have Q2 := Lib.hid (show W.cell? ⟨r, i * 3 + 2, none⟩ = some (.bool p.t) from hra 2 _ rfl)
  have HRl := Lib.hid (show r < W.heap.size from World.block_lt_of_cell? _ _ Q1.out)
  have HPp := Lib.hid hp
  have HK9 := Lib.hid hk
  have hsz : (ByteArray.mk p.b.toArray).size = p.b.length := by simp [ByteArray.size]
  have HGe := Lib.hid (show decide ((ByteArray.mk p.b.toArray).size ≤ k) = true by rw [hsz]; simp; omega)
  clear hx g1 g2 g3 hc' hp hra e0 e1 e2 e3 e4 e5 hsz hk
  go_upto_region 33 with fail
  obtain ⟨V, hV⟩ : ∃ V, V = W := ⟨_, rfl⟩
  have HVW := Lib.hid hV
  clear hV
  refine wp_region_any (by kernel_rfl) ?_
  refine wpAny_below (pN ([some (.bool true), some (.bool true), some (.pointer (some ⟨gk, 4, none⟩)), some (.int .i64 k), some (.bool false), some (.bool false), some (.pointer (some ⟨gk, 4, none⟩)), some (.int .i64 k), some (.slice (some ⟨r, 0, none⟩) L.length c4), some (.pointer (some ⟨gk, 3, none⟩)), some (.int .i64 i), some (.pointer (some ⟨r, i * 3, none⟩)), some (.pointer (some ⟨r, i * 3 + 1, none⟩)), some (.string ⟨p.b.toArray⟩), some (.int .i64 ((ByteArray.mk p.b.toArray).size : Nat)), some (.bool true), some (.bool true), some (.bool true)]) (fun _ _ _ => True)) _ W (by kernel_rfl) (by kernel_rfl) (by kernel_rfl) (pN_keep fun _ _ _ _ _ _ => trivial) ?_ ?_
  · refine ⟨?_, ?_, ?_, ?_, ?_, ?_, ?_, ?_, ?_, ?_, ?_, ?_, ?_, ?_, ?_, ?_, ?_, ?_, trivial⟩
    · intro a W hI hun haft hi
      have e7 : a.eval (.tmp 7) = .bool true := hun 7 (by kernel_rfl)
      exact b_same hi hI rfl _ (run_move_op rfl e7) rfl
    · intro a W hI hun haft hi
      have f0 : a.eval (.tmp 134) = .bool true := haft ⟨0, .data⟩ (by simp) rfl _ _ rfl rfl
      exact b_same hi hI rfl _ (run_move_op rfl f0) rfl
    · intro a W hI hun haft hi
      have g1 : a.eval (.tmp 135) = .bool true := haft ⟨1, .guard⟩ (by simp) rfl _ _ rfl rfl
      have e6 : a.eval (.tmp 6) = .pointer (some ⟨gk, 0, none⟩) := hun 6 (by kernel_rfl)
      exact b_same hi hI (guard_ok rfl rfl rfl g1) _ (run_fieldAddr_any rfl e6 (at_act gk 4 (by decide) W)) rfl
    · intro a W hI hun haft hi
      have g1 : a.eval (.tmp 135) = .bool true := haft ⟨1, .guard⟩ (by simp) rfl _ _ rfl rfl
      have f2 : a.eval (.tmp 136) = .pointer (some ⟨gk, 4, none⟩) := haft ⟨2, .data⟩ (by simp) rfl _ _ rfl rfl
      exact b_same hi hI (guard_ok rfl rfl rfl g1) _ (run_load1_op rfl f2 Try.underlying3 rfl ((HA.out.below hI HA.out.lt).cell 4)) rfl
    · intro a W hI hun haft hi
      have g1 : a.eval (.tmp 135) = .bool true := haft ⟨1, .guard⟩ (by simp) rfl _ _ rfl rfl
      have f3 : a.eval (.tmp 137) = .int .i64 k := haft ⟨3, .data⟩ (by simp) rfl _ _ rfl rfl
      exact b_same hi hI (guard_ok rfl rfl rfl g1) _ (run_bin_op rfl f3 rfl rfl (lt_nat0 k W)) rfl
    · intro a W hI hun haft hi
      have g1 : a.eval (.tmp 135) = .bool true := haft ⟨1, .guard⟩ (by simp) rfl _ _ rfl rfl
      have f4 : a.eval (.tmp 138) = .bool false := haft ⟨4, .data⟩ (by simp) rfl _ _ rfl rfl
      exact b_same hi hI (guard_ok rfl rfl rfl g1) _ (run_move_op rfl f4) rfl
    · intro a W hI hun haft hi
      have g5 : a.eval (.tmp 139) = .bool false := haft ⟨5, .guard⟩ (by simp) rfl _ _ rfl rfl
      have e6 : a.eval (.tmp 6) = .pointer (some ⟨gk, 0, none⟩) := hun 6 (by kernel_rfl)
      exact b_same hi hI (guard_ok rfl rfl rfl g5) _ (run_fieldAddr_any rfl e6 (at_act gk 4 (by decide) W)) rfl
    · intro a W hI hun haft hi
      have g5 : a.eval (.tmp 139) = .bool false := haft ⟨5, .guard⟩ (by simp) rfl _ _ rfl rfl
      have f6 : a.eval (.tmp 140) = .pointer (some ⟨gk, 4, none⟩) := haft ⟨6, .data⟩ (by simp) rfl _ _ rfl rfl
      exact b_same hi hI (guard_ok rfl rfl rfl g5) _ (run_load1_op rfl f6 Try.underlying3 rfl ((HA.out.below hI HA.out.lt).cell 4)) rfl
    · intro a W hI hun haft hi
      have g5 : a.eval (.tmp 139) = .bool false := haft ⟨5, .guard⟩ (by simp) rfl _ _ rfl rfl
      have e4 : a.eval (.tmp 4) = .slice (some ⟨r, 0, none⟩) L.length c4 := hun 4 (by kernel_rfl)
      exact b_same hi hI (guard_ok rfl rfl rfl g5) _ (run_move_op rfl e4) rfl
    · intro a W hI hun haft hi
      have g5 : a.eval (.tmp 139) = .bool false := haft ⟨5, .guard⟩ (by simp) rfl _ _ rfl rfl
      have e6 : a.eval (.tmp 6) = .pointer (some ⟨gk, 0, none⟩) := hun 6 (by kernel_rfl)
      exact b_same hi hI (guard_ok rfl rfl rfl g5) _ (run_fieldAddr_any rfl e6 (at_act gk 3 (by decide) W)) rfl
    · intro a W hI hun haft hi
      have g5 : a.eval (.tmp 139) = .bool false := haft ⟨5, .guard⟩ (by simp) rfl _ _ rfl rfl
      have f9 : a.eval (.tmp 143) = .pointer (some ⟨gk, 3, none⟩) := haft ⟨9, .data⟩ (by simp) rfl _ _ rfl rfl
      exact b_same hi hI (guard_ok rfl rfl rfl g5) _ (run_load1_op rfl f9 Try.underlying3 rfl ((HA.out.below hI HA.out.lt).cell 3)) rfl
    · intro a W hI hun haft hi
      have g5 : a.eval (.tmp 139) = .bool false := haft ⟨5, .guard⟩ (by simp) rfl _ _ rfl rfl
      have f8 : a.eval (.tmp 142) = .slice (some ⟨r, 0, none⟩) L.length c4 := haft ⟨8, .data⟩ (by simp) rfl _ _ rfl rfl
      have f10 : a.eval (.tmp 144) = .int .i64 i := haft ⟨10, .data⟩ (by simp) rfl _ _ rfl rfl
      exact b_same hi hI (guard_ok rfl rfl rfl g5) _ (run_indexAddr_op rfl f8 f10 (at_lrow r L.length c4 i HI.out W)) rfl
    · intro a W hI hun haft hi
      have g5 : a.eval (.tmp 139) = .bool false := haft ⟨5, .guard⟩ (by simp) rfl _ _ rfl rfl
      have f11 : a.eval (.tmp 145) = .pointer (some ⟨r, i * 3, none⟩) := haft ⟨11, .data⟩ (by simp) rfl _ _ rfl rfl
      exact b_same hi hI (guard_ok rfl rfl rfl g5) _ (run_fieldAddr_any rfl f11 (at_lp r (i * 3) 1 (by decide) W)) rfl
    · intro a W hI hun haft hi
      have g5 : a.eval (.tmp 139) = .bool false := haft ⟨5, .guard⟩ (by simp) rfl _ _ rfl rfl
      have f12 : a.eval (.tmp 146) = .pointer (some ⟨r, i * 3 + 1, none⟩) := haft ⟨12, .data⟩ (by simp) rfl _ _ rfl rfl
      exact b_same hi hI (guard_ok rfl rfl rfl g5) _ (run_load1_op rfl f12 Try.underlying9 rfl ((hI.cell (p := ⟨r, i * 3 + 1, none⟩) HRl.out).trans Q1.out)) rfl
    · intro a W hI hun haft hi
      have g5 : a.eval (.tmp 139) = .bool false := haft ⟨5, .guard⟩ (by simp) rfl _ _ rfl rfl
      have f13 : a.eval (.tmp 147) = .string ⟨p.b.toArray⟩ := haft ⟨13, .data⟩ (by simp) rfl _ _ rfl rfl
      exact b_same hi hI (guard_ok rfl rfl rfl g5) _ (run_lenstr_op rfl Try.underlying9 f13) rfl
    · intro a W hI hun haft hi
      have g5 : a.eval (.tmp 139) = .bool false := haft ⟨5, .guard⟩ (by simp) rfl _ _ rfl rfl
      have f7 : a.eval (.tmp 141) = .int .i64 k := haft ⟨7, .data⟩ (by simp) rfl _ _ rfl rfl
      have f14 : a.eval (.tmp 148) = .int .i64 ((ByteArray.mk p.b.toArray).size : Nat) := haft ⟨14, .data⟩ (by simp) rfl _ _ rfl rfl
      exact b_same hi hI (guard_ok rfl rfl rfl g5) _ (run_bin_op rfl f7 f14 rfl (ge_nat k _ true HGe.out W)) rfl
    · intro a W hI hun haft hi
      have g1 : a.eval (.tmp 135) = .bool true := haft ⟨1, .guard⟩ (by simp) rfl _ _ rfl rfl
      have f5 : a.eval (.tmp 139) = .bool false := haft ⟨5, .data⟩ (by simp) rfl _ _ rfl rfl
      have f15 : a.eval (.tmp 149) = .bool true := haft ⟨15, .data⟩ (by simp) rfl _ _ rfl rfl
      exact b_same hi hI (guard_ok rfl rfl rfl g1) _ (run_pick_op rfl f5 rfl f15) rfl
    · intro a W hI hun haft hi
      have f1 : a.eval (.tmp 135) = .bool true := haft ⟨1, .data⟩ (by simp) rfl _ _ rfl rfl
      have f16 : a.eval (.tmp 150) = .bool true := haft ⟨16, .data⟩ (by simp) rfl _ _ rfl rfl
      exact b_same hi hI rfl _ (run_pick_op rfl f1 f16 rfl) rfl
  · intro vals W5 hI hp
    have hl17 : vals 17 = .bool true := hp 17 (by decide)
    have HI5 := Lib.hid hI
    clear hp hI
    simp only [layN, List.size_toArray, List.length_cons, List.length_nil, List.range, List.range.loop, if_true, List.getElem?_toArray, List.getElem?_cons_zero, List.getElem?_cons_succ, Act.put, List.setIfInBounds_toArray, List.set_cons_zero, List.set_cons_succ, Nat.zero_add, Nat.reduceAdd]
    rw [hl17]
    clear hl17
    have N5 := Lib.hid (N0.out.below HI5.out)
    have R5 := Lib.hid (R0.out.keep HI5.out)
    have HA5 := Lib.hid (HA.out.below HI5.out HA.out.lt)
    have e3 := HA5.out.cell 3
    have e4 := HA5.out.cell 4
    have e5 := HA5.out.cell 5
    simp at e3 e4 e5
    unfold bv at e5
    have q1 := (HI5.out.cell (p := ⟨r, i * 3 + 1, none⟩) HRl.out).trans Q1.out
    have q2 := (HI5.out.cell (p := ⟨r, i * 3 + 2, none⟩) HRl.out).trans Q2.out
    go_wp2_with fail
    refine (nturn_range i (k : Int) (y.toNat : Nat) _ N5.out.1 HI.out (fun h => by have := HK9.out; rw [HPp.out] at this; omega)).mono ?_
    rintro e w3 ⟨rfl, rfl⟩
    go_wp2_with fail
    exact HK.out _ _ ⟨rfl, rfl, rfl, rfl, rfl, rfl, rfl, rfl, rfl, rfl, rfl, rfl, rfl, rfl, rfl, vf, L, N5.out, R5.out, by have := HLj.out; omega, HS.out⟩

set_option maxRecDepth 100000 in
set_option maxHeartbeats 4000000 in
theorem sw3_was {w W : World} {g gk j : Nat} {vf : Value} {A4 : Option Addr} {c4 : Nat} {L : List Pc} {kk : UInt8} {tt : Int} {B : Option Addr} {n c : Nat} {d : List UInt8} {I At : Int} {y : UInt8} {a : Act} {K1 : Act → World → Prop} {Q' : Exit → Act → World → Prop} (S : Sit w W g gk j vf A4 c4 L kk tt B n c d I At y a true) (k : Nat) (hAt : At = (k : Int)) (hk : ∀ hi : I.toNat < L.length, k < L[I.toNat].b.length ∧ L[I.toNat].t = true) (hz : ((kk.toNat : Nat) : Int) % 4 = 3) (hK : ∀ a' w', SwR w g j a a' w' → K1 a' w') :
    Code.wp Try.prog swC (Exit.then K1 Q') a W := by
  obtain ⟨t, rfl, ht⟩ := frame243 a S.size S.defers
  have t3 := (ht 3).symm.trans S.s3
  have t4 := (ht 4).symm.trans S.s4
  have t6 := (ht 6).symm.trans S.s6
  have t7 := (ht 7).symm.trans S.s7
  have t8 := (ht 8).symm.trans S.s8
  have t45 := (ht 45).symm.trans S.s45
  rw [t3, t4, t6, t7, t8, t45] at hK ⊢
  simp only [if_true] at hK ⊢
  have HK := Lib.hid hK
  have N0 := Lib.hid S.net
  have R0 := Lib.hid S.row
  have HA := Lib.hid S.act
  have HOK := Lib.hid S.arg
  have HND := Lib.hid S.len
  have HD := Lib.hid S.short
  have HS := Lib.hid S.bytes
  have HLj := Lib.hid S.lej
  have hLj := S.few
  have e0 := HA.out.cell 0
  have e1 := HA.out.cell 1
  have e2 := HA.out.cell 2
  have e3 := HA.out.cell 3
  have e4 := HA.out.cell 4
  have e5 := HA.out.cell 5
  simp at e0 e1 e2 e3 e4 e5
  unfold bv at e0 e5
  subst hAt
  have hin : 0 ≤ I ∧ I < (L.length : Int) := of_decide_eq_true S.in_.symm
  obtain ⟨i, rfl⟩ := Int.eq_ofNat_of_zero_le hin.1
  have hiL : i < L.length := by omega
  have HI := Lib.hid hiL
  have h0i : (0 : Int) ≤ (i : Int) := by omega
  have h1i : (i : Int) < (L.length : Int) := by omega
  have hk := hk (by simpa using hiL)
  simp only [Int.toNat_natCast] at hk
  clear hin
  clear S ht hK t3 t4 t6 t7 t8 t45
  conv => arg 2; whnf
  have f0 : (((kk.toNat : Nat) : Int) % 4 == 0) = false := by rw [hz]; rfl
  have f1 : (((kk.toNat : Nat) : Int) % 4 == 1) = false := by rw [hz]; rfl
  have f2 : (((kk.toNat : Nat) : Int) % 4 == 2) = false := by rw [hz]; rfl
  have f3 : (((kk.toNat : Nat) : Int) % 4 == 3) = true := by rw [hz]; rfl
  clear hz
  obtain ⟨hk, hkt⟩ := hk
  obtain ⟨A', c', hv, hc', hx⟩ := R0.out.at_
  injection hv with g1 g2 g3
  obtain ⟨r, hA', _, _, hra⟩ := hx i HI.out
  rw [← g1] at hA'
  subst hA'
  obtain ⟨p, hp⟩ : ∃ p, p = L[i]'HI.out := ⟨_, rfl⟩
  rw [← hp] at hra hk
  have Q1 := Lib.hid (show W.cell? ⟨r, i * 3 + 1, none⟩ = some (.string ⟨p.b.toArray⟩) from hra 1 _ rfl)
  have Q2 := Lib.hid (show W.cell? ⟨r, i * 3 + 2, none⟩ = some (.bool p.t) from hra 2 _ rfl)
  have HRl := Lib.hid (show r < W.heap.size from World.block_lt_of_cell? _ _ Q1.out)
  have HPp := Lib.hid hp
  have HK9 := Lib.hid hk
  have hsz : (ByteArray.mk p.b.toArray).size = p.b.length := by simp [ByteArray.size]
  have HGe := Lib.hid (show decide ((ByteArray.mk p.b.toArray).size ≤ k) = false by rw [hsz]; simp; omega)
  clear hx g1 g2 g3 hc' hp hra e0 e1 e2 e3 e4 e5 hsz hk
  go_upto_region 33 with fail
  obtain ⟨V, hV⟩ : ∃ V, V = W := ⟨_, rfl⟩
  have HVW := Lib.hid hV
  clear hV
  refine wp_region_any (by kernel_rfl) ?_
  refine wpAny_below (pN ([some (.bool true), some (.bool true), some (.pointer (some ⟨gk, 4, none⟩)), some (.int .i64 k), some (.bool false), some (.bool false), some (.pointer (some ⟨gk, 4, none⟩)), some (.int .i64 k), some (.slice (some ⟨r, 0, none⟩) L.length c4), some (.pointer (some ⟨gk, 3, none⟩)), some (.int .i64 i), some (.pointer (some ⟨r, i * 3, none⟩)), some (.pointer (some ⟨r, i * 3 + 1, none⟩)), some (.string ⟨p.b.toArray⟩), some (.int .i64 ((ByteArray.mk p.b.toArray).size : Nat)), some (.bool false), some (.bool false), some (.bool false)]) (fun _ _ _ => True)) _ W (by kernel_rfl) (by kernel_rfl) (by kernel_rfl) (pN_keep fun _ _ _ _ _ _ => trivial) ?_ ?_
  · refine ⟨?_, ?_, ?_, ?_, ?_, ?_, ?_, ?_, ?_, ?_, ?_, ?_, ?_, ?_, ?_, ?_, ?_, ?_, trivial⟩
    · intro a W hI hun haft hi
      have e7 : a.eval (.tmp 7) = .bool true := hun 7 (by kernel_rfl)
      exact b_same hi hI rfl _ (run_move_op rfl e7) rfl
    · intro a W hI hun haft hi
      have f0 : a.eval (.tmp 134) = .bool true := haft ⟨0, .data⟩ (by simp) rfl _ _ rfl rfl
      exact b_same hi hI rfl _ (run_move_op rfl f0) rfl
    · intro a W hI hun haft hi
      have g1 : a.eval (.tmp 135) = .bool true := haft ⟨1, .guard⟩ (by simp) rfl _ _ rfl rfl
      have e6 : a.eval (.tmp 6) = .pointer (some ⟨gk, 0, none⟩) := hun 6 (by kernel_rfl)
      exact b_same hi hI (guard_ok rfl rfl rfl g1) _ (run_fieldAddr_any rfl e6 (at_act gk 4 (by decide) W)) rfl
    · intro a W hI hun haft hi
      have g1 : a.eval (.tmp 135) = .bool true := haft ⟨1, .guard⟩ (by simp) rfl _ _ rfl rfl
      have f2 : a.eval (.tmp 136) = .pointer (some ⟨gk, 4, none⟩) := haft ⟨2, .data⟩ (by simp) rfl _ _ rfl rfl
      exact b_same hi hI (guard_ok rfl rfl rfl g1) _ (run_load1_op rfl f2 Try.underlying3 rfl ((HA.out.below hI HA.out.lt).cell 4)) rfl
    · intro a W hI hun haft hi
      have g1 : a.eval (.tmp 135) = .bool true := haft ⟨1, .guard⟩ (by simp) rfl _ _ rfl rfl
      have f3 : a.eval (.tmp 137) = .int .i64 k := haft ⟨3, .data⟩ (by simp) rfl _ _ rfl rfl
      exact b_same hi hI (guard_ok rfl rfl rfl g1) _ (run_bin_op rfl f3 rfl rfl (lt_nat0 k W)) rfl
    · intro a W hI hun haft hi
      have g1 : a.eval (.tmp 135) = .bool true := haft ⟨1, .guard⟩ (by simp) rfl _ _ rfl rfl
      have f4 : a.eval (.tmp 138) = .bool false := haft ⟨4, .data⟩ (by simp) rfl _ _ rfl rfl
      exact b_same hi hI (guard_ok rfl rfl rfl g1) _ (run_move_op rfl f4) rfl
    · intro a W hI hun haft hi
      have g5 : a.eval (.tmp 139) = .bool false := haft ⟨5, .guard⟩ (by simp) rfl _ _ rfl rfl
      have e6 : a.eval (.tmp 6) = .pointer (some ⟨gk, 0, none⟩) := hun 6 (by kernel_rfl)
      exact b_same hi hI (guard_ok rfl rfl rfl g5) _ (run_fieldAddr_any rfl e6 (at_act gk 4 (by decide) W)) rfl
    · intro a W hI hun haft hi
      have g5 : a.eval (.tmp 139) = .bool false := haft ⟨5, .guard⟩ (by simp) rfl _ _ rfl rfl
      have f6 : a.eval (.tmp 140) = .pointer (some ⟨gk, 4, none⟩) := haft ⟨6, .data⟩ (by simp) rfl _ _ rfl rfl
      exact b_same hi hI (guard_ok rfl rfl rfl g5) _ (run_load1_op rfl f6 Try.underlying3 rfl ((HA.out.below hI HA.out.lt).cell 4)) rfl
    · intro a W hI hun haft hi
      have g5 : a.eval (.tmp 139) = .bool false := haft ⟨5, .guard⟩ (by simp) rfl _ _ rfl rfl
      have e4 : a.eval (.tmp 4) = .slice (some ⟨r, 0, none⟩) L.length c4 := hun 4 (by kernel_rfl)
      exact b_same hi hI (guard_ok rfl rfl rfl g5) _ (run_move_op rfl e4) rfl
    · intro a W hI hun haft hi
      have g5 : a.eval (.tmp 139) = .bool false := haft ⟨5, .guard⟩ (by simp) rfl _ _ rfl rfl
      have e6 : a.eval (.tmp 6) = .pointer (some ⟨gk, 0, none⟩) := hun 6 (by kernel_rfl)
      exact b_same hi hI (guard_ok rfl rfl rfl g5) _ (run_fieldAddr_any rfl e6 (at_act gk 3 (by decide) W)) rfl
    · intro a W hI hun haft hi
      have g5 : a.eval (.tmp 139) = .bool false := haft ⟨5, .guard⟩ (by simp) rfl _ _ rfl rfl
      have f9 : a.eval (.tmp 143) = .pointer (some ⟨gk, 3, none⟩) := haft ⟨9, .data⟩ (by simp) rfl _ _ rfl rfl
      exact b_same hi hI (guard_ok rfl rfl rfl g5) _ (run_load1_op rfl f9 Try.underlying3 rfl ((HA.out.below hI HA.out.lt).cell 3)) rfl
    · intro a W hI hun haft hi
      have g5 : a.eval (.tmp 139) = .bool false := haft ⟨5, .guard⟩ (by simp) rfl _ _ rfl rfl
      have f8 : a.eval (.tmp 142) = .slice (some ⟨r, 0, none⟩) L.length c4 := haft ⟨8, .data⟩ (by simp) rfl _ _ rfl rfl
      have f10 : a.eval (.tmp 144) = .int .i64 i := haft ⟨10, .data⟩ (by simp) rfl _ _ rfl rfl
      exact b_same hi hI (guard_ok rfl rfl rfl g5) _ (run_indexAddr_op rfl f8 f10 (at_lrow r L.length c4 i HI.out W)) rfl
    · intro a W hI hun haft hi
      have g5 : a.eval (.tmp 139) = .bool false := haft ⟨5, .guard⟩ (by simp) rfl _ _ rfl rfl
      have f11 : a.eval (.tmp 145) = .pointer (some ⟨r, i * 3, none⟩) := haft ⟨11, .data⟩ (by simp) rfl _ _ rfl rfl
      exact b_same hi hI (guard_ok rfl rfl rfl g5) _ (run_fieldAddr_any rfl f11 (at_lp r (i * 3) 1 (by decide) W)) rfl
    · intro a W hI hun haft hi
      have g5 : a.eval (.tmp 139) = .bool false := haft ⟨5, .guard⟩ (by simp) rfl _ _ rfl rfl
      have f12 : a.eval (.tmp 146) = .pointer (some ⟨r, i * 3 + 1, none⟩) := haft ⟨12, .data⟩ (by simp) rfl _ _ rfl rfl
      exact b_same hi hI (guard_ok rfl rfl rfl g5) _ (run_load1_op rfl f12 Try.underlying9 rfl ((hI.cell (p := ⟨r, i * 3 + 1, none⟩) HRl.out).trans Q1.out)) rfl
    · intro a W hI hun haft hi
      have g5 : a.eval (.tmp 139) = .bool false := haft ⟨5, .guard⟩ (by simp) rfl _ _ rfl rfl
      have f13 : a.eval (.tmp 147) = .string ⟨p.b.toArray⟩ := haft ⟨13, .data⟩ (by simp) rfl _ _ rfl rfl
      exact b_same hi hI (guard_ok rfl rfl rfl g5) _ (run_lenstr_op rfl Try.underlying9 f13) rfl
    · intro a W hI hun haft hi
      have g5 : a.eval (.tmp 139) = .bool false := haft ⟨5, .guard⟩ (by simp) rfl _ _ rfl rfl
      have f7 : a.eval (.tmp 141) = .int .i64 k := haft ⟨7, .data⟩ (by simp) rfl _ _ rfl rfl
      have f14 : a.eval (.tmp 148) = .int .i64 ((ByteArray.mk p.b.toArray).size : Nat) := haft ⟨14, .data⟩ (by simp) rfl _ _ rfl rfl
      exact b_same hi hI (guard_ok rfl rfl rfl g5) _ (run_bin_op rfl f7 f14 rfl (ge_nat k _ false HGe.out W)) rfl
    · intro a W hI hun haft hi
      have g1 : a.eval (.tmp 135) = .bool true := haft ⟨1, .guard⟩ (by simp) rfl _ _ rfl rfl
      have f5 : a.eval (.tmp 139) = .bool false := haft ⟨5, .data⟩ (by simp) rfl _ _ rfl rfl
      have f15 : a.eval (.tmp 149) = .bool false := haft ⟨15, .data⟩ (by simp) rfl _ _ rfl rfl
      exact b_same hi hI (guard_ok rfl rfl rfl g1) _ (run_pick_op rfl f5 rfl f15) rfl
    · intro a W hI hun haft hi
      have f1 : a.eval (.tmp 135) = .bool true := haft ⟨1, .data⟩ (by simp) rfl _ _ rfl rfl
      have f16 : a.eval (.tmp 150) = .bool false := haft ⟨16, .data⟩ (by simp) rfl _ _ rfl rfl
      exact b_same hi hI rfl _ (run_pick_op rfl f1 f16 rfl) rfl
  · intro vals W5 hI hp
    have hl17 : vals 17 = .bool false := hp 17 (by decide)
    have HI5 := Lib.hid hI
    clear hp hI
    simp only [layN, List.size_toArray, List.length_cons, List.length_nil, List.range, List.range.loop, if_true, List.getElem?_toArray, List.getElem?_cons_zero, List.getElem?_cons_succ, Act.put, List.setIfInBounds_toArray, List.set_cons_zero, List.set_cons_succ, Nat.zero_add, Nat.reduceAdd]
    rw [hl17]
    clear hl17
    have N5 := Lib.hid (N0.out.below HI5.out)
    have R5 := Lib.hid (R0.out.keep HI5.out)
    have HA5 := Lib.hid (HA.out.below HI5.out HA.out.lt)
    have e3 := HA5.out.cell 3
    have e4 := HA5.out.cell 4
    have e5 := HA5.out.cell 5
    simp at e3 e4 e5
    unfold bv at e5
    have q1 := (HI5.out.cell (p := ⟨r, i * 3 + 1, none⟩) HRl.out).trans Q1.out
    have q2 := (HI5.out.cell (p := ⟨r, i * 3 + 2, none⟩) HRl.out).trans Q2.out
    have hpt : p.t = true := by rw [HPp.out]; exact hkt
    rw [hpt] at q2
    go_wp2_with fail
    refine (nturn_was i k (y.toNat : Nat) _ N5.out.1 HI.out (by have := HK9.out; rw [HPp.out] at this; exact this) hkt).mono ?_
    rintro e w3 ⟨rfl, rfl⟩
    go_wp2_with fail
    exact HK.out _ _ ⟨rfl, rfl, rfl, rfl, rfl, rfl, rfl, rfl, rfl, rfl, rfl, rfl, rfl, rfl, rfl, vf, L, N5.out, R5.out, by have := HLj.out; omega, HS.out⟩

end Go.Proofs.Ytoicncmlmhljmaa
