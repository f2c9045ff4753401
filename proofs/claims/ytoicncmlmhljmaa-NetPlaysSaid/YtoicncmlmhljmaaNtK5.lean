/-
  A way through the switch of NetPlays: a turning (written by gennt3.py). Conditions: none.
-/
import Derived.Test.YtoicncmlmhljmaaNtSit
namespace Go.Proofs.Ytoicncmlmhljmaa
open Go.RowKit

set_option maxRecDepth 100000 in
set_option maxHeartbeats 4000000 in
theorem sw3_in {w W : World} {g gk j : Nat} {vf : Value} {A4 : Option Addr} {c4 : Nat} {L : List Pc} {kk : UInt8} {tt : Int} {B : Option Addr} {n c : Nat} {d : List UInt8} {I At : Int} {y : UInt8} {a : Act} {K1 : Act → World → Prop} {Q' : Exit → Act → World → Prop} (S : Sit w W g gk j vf A4 c4 L kk tt B n c d I At y a true) (k : Nat) (hAt : At = (k : Int)) (hk : ∀ hi : I.toNat < L.length, k < L[I.toNat].b.length ∧ L[I.toNat].t = false) (hz : ((kk.toNat : Nat) : Int) % 4 = 3) (hK : ∀ a' w', SwR w g j a a' w' → K1 a' w') :
    Code.wp Try.prog swC (Exit.then K1 Q') a W := by
  obtain ⟨t, rfl, ht⟩ := frame243 a S.size S.defers
  have t3 := (ht 3).symm.trans S.s3
  have t4 := (ht 4).symm.trans S.s4
  have t6 := (ht 6).symm.trans S.s6
  have t7 := (ht 7).symm.trans S.s7
  have t8 := (ht 8).symm.trans S.s8
  have t45 := (ht 45).symm.trans S.s45
  rw [t3, t4, t6, t7, t8, t45] at hK ⊢
  simp only [if_true] at hK ⊢
  have HK := Lib.hid hK
  have N0 := Lib.hid S.net
  have R0 := Lib.hid S.row
  have HA := Lib.hid S.act
  have HOK := Lib.hid S.arg
  have HND := Lib.hid S.len
  have HD := Lib.hid S.short
  have HS := Lib.hid S.bytes
  have HLj := Lib.hid S.lej
  have hLj := S.few
  have e0 := HA.out.cell 0
  have e1 := HA.out.cell 1
  have e2 := HA.out.cell 2
  have e3 := HA.out.cell 3
  have e4 := HA.out.cell 4
  have e5 := HA.out.cell 5
  simp at e0 e1 e2 e3 e4 e5
  unfold bv at e0 e5
  subst hAt
  have hin : 0 ≤ I ∧ I < (L.length : Int) := of_decide_eq_true S.in_.symm
  obtain ⟨i, rfl⟩ := Int.eq_ofNat_of_zero_le hin.1
  have hiL : i < L.length := by omega
  have HI := Lib.hid hiL
  have h0i : (0 : Int) ≤ (i : Int) := by omega
  have h1i : (i : Int) < (L.length : Int) := by omega
  have hk := hk (by simpa using hiL)
  simp only [Int.toNat_natCast] at hk
  clear hin
  clear S ht hK t3 t4 t6 t7 t8 t45
  conv => arg 2; whnf
  have f0 : (((kk.toNat : Nat) : Int) % 4 == 0) = false := by rw [hz]; rfl
  have f1 : (((kk.toNat : Nat) : Int) % 4 == 1) = false := by rw [hz]; rfl
  have f2 : (((kk.toNat : Nat) : Int) % 4 == 2) = false := by rw [hz]; rfl
  have f3 : (((kk.toNat : Nat) : Int) % 4 == 3) = true := by rw [hz]; rfl
  clear hz
  obtain ⟨hk, hkt⟩ := hk
  obtain ⟨A', c', hv, hc', hx⟩ := R0.out.at_
  injection hv with g1 g2 g3
  obtain ⟨r, hA', _, _, hra⟩ := hx i HI.out
  rw [← g1] at hA'
  subst hA'
  obtain ⟨p, hp⟩ : ∃ p, p = L[i]'HI.out := ⟨_, rfl⟩
  rw [← hp] at hra hk
  have Q1 := Lib.hid (show W.cell? ⟨r, i * 3 + 1, none⟩ = some (.string ⟨p.b.toArray⟩) from hra 1 _ rfl)
  have Q2 := Lib.hid (show W.cell? ⟨r, i * 3 + 2, none⟩ = some (.bool p.t) from hra 2 _ rfl)
  have HRl := Lib.hid (show r < W.heap.size from World.block_lt_of_cell? _ _ Q1.out)
  have HPp := Lib.hid hp
  have HK9 := Lib.hid hk
  have hsz : (ByteArray.mk p.b.toArray).size = p.b.length := by simp [ByteArray.size]
  have HGe := Lib.hid (show decide ((ByteArray.mk p.b.toArray).size ≤ k) = false by rw [hsz]; simp; omega)
  clear hx g1 g2 g3 hc' hp hra e0 e1 e2 e3 e4 e5 hsz hk
  go_upto_region 33 with fail
  obtain ⟨V, hV⟩ : ∃ V, V = W := ⟨_, rfl⟩
  have HVW := Lib.hid hV
  clear hV
  refine wp_region_any (by kernel_rfl) ?_
  refine wpAny_below (pN ([some (.bool true), some (.bool true), some (.pointer (some ⟨gk, 4, none⟩)), some (.int .i64 k), some (.bool false), some (.bool false), some (.pointer (some ⟨gk, 4, none⟩)), some (.int .i64 k), some (.slice (some ⟨r, 0, none⟩) L.length c4), some (.pointer (some ⟨gk, 3, none⟩)), some (.int .i64 i), some (.pointer (some ⟨r, i * 3, none⟩)), some (.pointer (some ⟨r, i * 3 + 1, none⟩)), some (.string ⟨p.b.toArray⟩), some (.int .i64 ((ByteArray.mk p.b.toArray).size : Nat)), some (.bool false), some (.bool false), some (.bool false)]) (fun _ _ _ => True)) _ W (by kernel_rfl) (by kernel_rfl) (by kernel_rfl) (pN_keep fun _ _ _ _ _ _ => trivial) ?_ ?_
  · refine ⟨?_, ?_, ?_, ?_, ?_, ?_, ?_, ?_, ?_, ?_, ?_, ?_, ?_, ?_, ?_, ?_, ?_, ?_, trivial⟩
    · intro a W hI hun haft hi
      have e7 : a.eval (.tmp 7) = .bool true := hun 7 (by kernel_rfl)
      exact b_same hi hI rfl _ (run_move_op rfl e7) rfl
    · intro a W hI hun haft hi
      have f0 : a.eval (.tmp 134) = .bool true := haft ⟨0, .data⟩ (by simp) rfl _ _ rfl rfl
      exact b_same hi hI rfl _ (run_move_op rfl f0) rfl
    · intro a W hI hun haft hi
      have g1 : a.eval (.tmp 135) = .bool true := haft ⟨1, .guard⟩ (by simp) rfl _ _ rfl rfl
      have e6 : a.eval (.tmp 6) = .pointer (some ⟨gk, 0, none⟩) := hun 6 (by kernel_rfl)
      exact b_same hi hI (guard_ok rfl rfl rfl g1) _ (run_fieldAddr_any rfl e6 (at_act gk 4 (by decide) W)) rfl
    · intro a W hI hun haft hi
      have g1 : a.eval (.tmp 135) = .bool true := haft ⟨1, .guard⟩ (by simp) rfl _ _ rfl rfl
      have f2 : a.eval (.tmp 136) = .pointer (some ⟨gk, 4, none⟩) := haft ⟨2, .data⟩ (by simp) rfl _ _ rfl rfl
      exact b_same hi hI (guard_ok rfl rfl rfl g1) _ (run_load1_op rfl f2 Try.underlying3 rfl ((HA.out.below hI HA.out.lt).cell 4)) rfl
    · intro a W hI hun haft hi
      have g1 : a.eval (.tmp 135) = .bool true := haft ⟨1, .guard⟩ (by simp) rfl _ _ rfl rfl
      have f3 : a.eval (.tmp 137) = .int .i64 k := haft ⟨3, .data⟩ (by simp) rfl _ _ rfl rfl
      exact b_same hi hI (guard_ok rfl rfl rfl g1) _ (run_bin_op rfl f3 rfl rfl (lt_nat0 k W)) rfl
    · intro a W hI hun haft hi
      have g1 : a.eval (.tmp 135) = .bool true := haft ⟨1, .guard⟩ (by simp) rfl _ _ rfl rfl
      have f4 : a.eval (.tmp 138) = .bool false := haft ⟨4, .data⟩ (by simp) rfl _ _ rfl rfl
      exact b_same hi hI (guard_ok rfl rfl rfl g1) _ (run_move_op rfl f4) rfl
    · intro a W hI hun haft hi
      have g5 : a.eval (.tmp 139) = .bool false := haft ⟨5, .guard⟩ (by simp) rfl _ _ rfl rfl
      have e6 : a.eval (.tmp 6) = .pointer (some ⟨gk, 0, none⟩) := hun 6 (by kernel_rfl)
      exact b_same hi hI (guard_ok rfl rfl rfl g5) _ (run_fieldAddr_any rfl e6 (at_act gk 4 (by decide) W)) rfl
    · intro a W hI hun haft hi
      have g5 : a.eval (.tmp 139) = .bool false := haft ⟨5, .guard⟩ (by simp) rfl _ _ rfl rfl
      have f6 : a.eval (.tmp 140) = .pointer (some ⟨gk, 4, none⟩) := haft ⟨6, .data⟩ (by simp) rfl _ _ rfl rfl
      exact b_same hi hI (guard_ok rfl rfl rfl g5) _ (run_load1_op rfl f6 Try.underlying3 rfl ((HA.out.below hI HA.out.lt).cell 4)) rfl
    · intro a W hI hun haft hi
      have g5 : a.eval (.tmp 139) = .bool false := haft ⟨5, .guard⟩ (by simp) rfl _ _ rfl rfl
      have e4 : a.eval (.tmp 4) = .slice (some ⟨r, 0, none⟩) L.length c4 := hun 4 (by kernel_rfl)
      exact b_same hi hI (guard_ok rfl rfl rfl g5) _ (run_move_op rfl e4) rfl
    · intro a W hI hun haft hi
      have g5 : a.eval (.tmp 139) = .bool false := haft ⟨5, .guard⟩ (by simp) rfl _ _ rfl rfl
      have e6 : a.eval (.tmp 6) = .pointer (some ⟨gk, 0, none⟩) := hun 6 (by kernel_rfl)
      exact b_same hi hI (guard_ok rfl rfl rfl g5) _ (run_fieldAddr_any rfl e6 (at_act gk 3 (by decide) W)) rfl
    · intro a W hI hun haft hi
      have g5 : a.eval (.tmp 139) = .bool false := haft ⟨5, .guard⟩ (by simp) rfl _ _ rfl rfl
      have f9 : a.eval (.tmp 143) = .pointer (some ⟨gk, 3, none⟩) := haft ⟨9, .data⟩ (by simp) rfl _ _ rfl rfl
      exact b_same hi hI (guard_ok rfl rfl rfl g5) _ (run_load1_op rfl f9 Try.underlying3 rfl ((HA.out.below hI HA.out.lt).cell 3)) rfl
    · intro a W hI hun haft hi
      have g5 : a.eval (.tmp 139) = .bool false := haft ⟨5, .guard⟩ (by simp) rfl _ _ rfl rfl
      have f8 : a.eval (.tmp 142) = .slice (some ⟨r, 0, none⟩) L.length c4 := haft ⟨8, .data⟩ (by simp) rfl _ _ rfl rfl
      have f10 : a.eval (.tmp 144) = .int .i64 i := haft ⟨10, .data⟩ (by simp) rfl _ _ rfl rfl
      exact b_same hi hI (guard_ok rfl rfl rfl g5) _ (run_indexAddr_op rfl f8 f10 (at_lrow r L.length c4 i HI.out W)) rfl
    · intro a W hI hun haft hi
      have g5 : a.eval (.tmp 139) = .bool false := haft ⟨5, .guard⟩ (by simp) rfl _ _ rfl rfl
      have f11 : a.eval (.tmp 145) = .pointer (some ⟨r, i * 3, none⟩) := haft ⟨11, .data⟩ (by simp) rfl _ _ rfl rfl
      exact b_same hi hI (guard_ok rfl rfl rfl g5) _ (run_fieldAddr_any rfl f11 (at_lp r (i * 3) 1 (by decide) W)) rfl
    · intro a W hI hun haft hi
      have g5 : a.eval (.tmp 139) = .bool false := haft ⟨5, .guard⟩ (by simp) rfl _ _ rfl rfl
      have f12 : a.eval (.tmp 146) = .pointer (some ⟨r, i * 3 + 1, none⟩) := haft ⟨12, .data⟩ (by simp) rfl _ _ rfl rfl
      exact b_same hi hI (guard_ok rfl rfl rfl g5) _ (run_load1_op rfl f12 Try.underlying9 rfl ((hI.cell (p := ⟨r, i * 3 + 1, none⟩) HRl.out).trans Q1.out)) rfl
    · intro a W hI hun haft hi
      have g5 : a.eval (.tmp 139) = .bool false := haft ⟨5, .guard⟩ (by simp) rfl _ _ rfl rfl
      have f13 : a.eval (.tmp 147) = .string ⟨p.b.toArray⟩ := haft ⟨13, .data⟩ (by simp) rfl _ _ rfl rfl
      exact b_same hi hI (guard_ok rfl rfl rfl g5) _ (run_lenstr_op rfl Try.underlying9 f13) rfl
    · intro a W hI hun haft hi
      have g5 : a.eval (.tmp 139) = .bool false := haft ⟨5, .guard⟩ (by simp) rfl _ _ rfl rfl
      have f7 : a.eval (.tmp 141) = .int .i64 k := haft ⟨7, .data⟩ (by simp) rfl _ _ rfl rfl
      have f14 : a.eval (.tmp 148) = .int .i64 ((ByteArray.mk p.b.toArray).size : Nat) := haft ⟨14, .data⟩ (by simp) rfl _ _ rfl rfl
      exact b_same hi hI (guard_ok rfl rfl rfl g5) _ (run_bin_op rfl f7 f14 rfl (ge_nat k _ false HGe.out W)) rfl
    · intro a W hI hun haft hi
      have g1 : a.eval (.tmp 135) = .bool true := haft ⟨1, .guard⟩ (by simp) rfl _ _ rfl rfl
      have f5 : a.eval (.tmp 139) = .bool false := haft ⟨5, .data⟩ (by simp) rfl _ _ rfl rfl
      have f15 : a.eval (.tmp 149) = .bool false := haft ⟨15, .data⟩ (by simp) rfl _ _ rfl rfl
      exact b_same hi hI (guard_ok rfl rfl rfl g1) _ (run_pick_op rfl f5 rfl f15) rfl
    · intro a W hI hun haft hi
      have f1 : a.eval (.tmp 135) = .bool true := haft ⟨1, .data⟩ (by simp) rfl _ _ rfl rfl
      have f16 : a.eval (.tmp 150) = .bool false := haft ⟨16, .data⟩ (by simp) rfl _ _ rfl rfl
      exact b_same hi hI rfl _ (run_pick_op rfl f1 f16 rfl) rfl
  · intro vals W5 hI hp
    have hl17 : vals 17 = .bool false := hp 17 (by decide)
    have HI5 := Lib.hid hI
    clear hp hI
    simp only [layN, List.size_toArray, List.length_cons, List.length_nil, List.range, List.range.loop, if_true, List.getElem?_toArray, List.getElem?_cons_zero, List.getElem?_cons_succ, Act.put, List.setIfInBounds_toArray, List.set_cons_zero, List.set_cons_succ, Nat.zero_add, Nat.reduceAdd]
    rw [hl17]
    clear hl17
    have N5 := Lib.hid (N0.out.below HI5.out)
    have R5 := Lib.hid (R0.out.keep HI5.out)
    have HA5 := Lib.hid (HA.out.below HI5.out HA.out.lt)
    have e3 := HA5.out.cell 3
    have e4 := HA5.out.cell 4
    have e5 := HA5.out.cell 5
    simp at e3 e4 e5
    unfold bv at e5
    have q1 := (HI5.out.cell (p := ⟨r, i * 3 + 1, none⟩) HRl.out).trans Q1.out
    have q2 := (HI5.out.cell (p := ⟨r, i * 3 + 2, none⟩) HRl.out).trans Q2.out
    have hpt : p.t = false := by rw [HPp.out]; exact hkt
    rw [hpt] at q2
    have hkb : k < L[i].b.length := by have := HK9.out; rw [HPp.out] at this; exact this
    go_wp2_with fail
    refine (nturn_in i k y _ N5.out.1 HI.out hkb hkt).mono ?_
    rintro e W6 ⟨rfl, h6, t6⟩
    obtain ⟨x, hx⟩ : ∃ x, x = p.b[k]'HK9.out := ⟨_, rfl⟩
    replace h6 : Nt w.heap.size W6 g vf (L.set i ⟨p.to, p.b.set k (x ^^^ y), p.v, true⟩) := by
      have hp' := HPp.out
      subst hx hp'
      exact h6
    have N6 := Lib.hid (N5.out.turn h6 t6)
    have R6 := Lib.hid (R5.out.tn t6)
    have HA6 := Lib.hid (t6.other _ _ _ HA5.out (by decide) (by decide) (by decide))
    have HX := Lib.hid hx
    clear h6 t6 hx q1 q2 e3 e4 e5 hkb hkt hpt
    obtain ⟨A9, c9, hv9, _, hx9⟩ := R6.out.at_
    injection hv9 with g1 g2 g3
    obtain ⟨r9, hA9, _, ⟨cur9, hbr9⟩, hra9⟩ := hx9 i HI.out
    rw [← g1] at hA9
    simp only [Option.some.injEq, Addr.mk.injEq, and_true] at hA9
    subst hA9
    rw [show L[i]'HI.out = p from HPp.out.symm] at hra9
    have q1 : W6.cell? ⟨r, i * 3 + 1, none⟩ = some (.string ⟨p.b.toArray⟩) := hra9 1 _ rfl
    have q2 : W6.cell? ⟨r, i * 3 + 2, none⟩ = some (.bool p.t) := hra9 2 _ rfl
    have HB9 := Lib.hid hbr9
    have Q29 := Lib.hid q2
    have Q19 := Lib.hid q1
    have e3 := HA6.out.cell 3
    have e4 := HA6.out.cell 4
    have e5 := HA6.out.cell 5
    simp at e3 e4 e5
    unfold bv at e5
    clear hx9 hra9 g1 g2 g3 hbr9 q2
    obtain ⟨c7, W7, hcv, hb7, hs7, hc7, hx7, hf7, cs7, fr7, hbk7⟩ := to_bytes W6 p.b
    have HC7' := Lib.hid hx7
    have HF7' := Lib.hid hf7
    have HC7 := Lib.hid (show W7.cell? ⟨W6.heap.size, k, none⟩ = some (bv x) by rw [hx7 k HK9.out, HX.out])
    have HF7 := Lib.hid (hf7 k HK9.out)
    have HQ7 := Lib.hid hs7
    have HLC7 := Lib.hid hc7
    have HB7 := Lib.hid hb7
    have HBk7 := Lib.hid hbk7
    have HA7 := Lib.hid (HA6.out.below hb7 HA6.out.lt)
    clear hx7 hf7 hs7 hc7 hb7 hbk7
    obtain ⟨q7, hq7⟩ : ∃ q7, q7 = W6.heap.size := ⟨_, rfl⟩
    rw [← hq7] at hcv HC7 HF7 HC7' HF7' HBk7 HQ7
    have HQ := Lib.hid hq7
    clear hq7
    go_upto_region 41 with fail
    clear q1 e3 e4 e5 hcv
    refine wp_region_any (by kernel_rfl) ?_
    refine Lt.wpAny_last (pN ([some (.slice (some ⟨q7, 0, none⟩) p.b.length c7), some (.pointer (some ⟨gk, 4, none⟩)), some (.int .i64 k), some (.pointer (some ⟨q7, k, none⟩)), some (bv x), some (.pointer (some ⟨gk, 5, none⟩)), some (bv y), some (bv (x ^^^ y)), some (.pointer (some ⟨q7, k, none⟩)), some (undef)]) (fun _ _ _ => True)) _ W7 9 _ (fun _ V => ∃ V', Below W7.heap.size W7 V' ∧ V = V'.setCell ⟨q7, k, none⟩ (bv (x ^^^ y))) (by kernel_rfl) rfl (by kernel_rfl) (by kernel_rfl) (by kernel_rfl) (by kernel_rfl) (pN_keep fun _ _ _ _ _ _ => trivial) ?_ ?_ ?_
    · refine ⟨?_, ?_, ?_, ?_, ?_, ?_, ?_, ?_, ?_, fun h => absurd h (Nat.lt_irrefl _), trivial⟩
      · intro _ a W hI hun haft hi
        have e11 : a.eval (.tmp 11) = .slice (some ⟨q7, 0, none⟩) p.b.length c7 := hun 11 (by kernel_rfl)
        exact b_same hi hI rfl _ (run_move_op rfl e11) rfl
      · intro _ a W hI hun haft hi
        have e6 : a.eval (.tmp 6) = .pointer (some ⟨gk, 0, none⟩) := hun 6 (by kernel_rfl)
        exact b_same hi hI rfl _ (run_fieldAddr_any rfl e6 (at_act gk 4 (by decide) W)) rfl
      · intro _ a W hI hun haft hi
        have f1 : a.eval (.tmp 181) = .pointer (some ⟨gk, 4, none⟩) := haft ⟨1, .data⟩ (by simp) rfl _ _ rfl rfl
        exact b_same hi hI rfl _ (run_load1_op rfl f1 Try.underlying3 rfl ((HA7.out.below hI HA7.out.lt).cell 4)) rfl
      · intro _ a W hI hun haft hi
        have f0 : a.eval (.tmp 180) = .slice (some ⟨q7, 0, none⟩) p.b.length c7 := haft ⟨0, .data⟩ (by simp) rfl _ _ rfl rfl
        have f2 : a.eval (.tmp 182) = .int .i64 k := haft ⟨2, .data⟩ (by simp) rfl _ _ rfl rfl
        exact b_same hi hI rfl _ (run_indexAddr_op rfl f0 f2 (at_by q7 p.b.length c7 k HK9.out W)) rfl
      · intro _ a W hI hun haft hi
        have f3 : a.eval (.tmp 183) = .pointer (some ⟨q7, k, none⟩) := haft ⟨3, .data⟩ (by simp) rfl _ _ rfl rfl
        exact b_same hi hI rfl _ (run_load1_op rfl f3 Try.underlying5 rfl ((hI.cell (p := ⟨q7, k, none⟩) HQ7.out).trans HC7.out)) rfl
      · intro _ a W hI hun haft hi
        have e6 : a.eval (.tmp 6) = .pointer (some ⟨gk, 0, none⟩) := hun 6 (by kernel_rfl)
        exact b_same hi hI rfl _ (run_fieldAddr_any rfl e6 (at_act gk 5 (by decide) W)) rfl
      · intro _ a W hI hun haft hi
        have f5 : a.eval (.tmp 185) = .pointer (some ⟨gk, 5, none⟩) := haft ⟨5, .data⟩ (by simp) rfl _ _ rfl rfl
        exact b_same hi hI rfl _ (run_load1_op rfl f5 Try.underlying5 rfl ((HA7.out.below hI HA7.out.lt).cell 5)) rfl
      · intro _ a W hI hun haft hi
        have f4 : a.eval (.tmp 184) = bv x := haft ⟨4, .data⟩ (by simp) rfl _ _ rfl rfl
        have f6 : a.eval (.tmp 186) = bv y := haft ⟨6, .data⟩ (by simp) rfl _ _ rfl rfl
        exact b_same hi hI rfl _ (run_bin_op rfl f4 f6 rfl (xor_by x y W)) rfl
      · intro _ a W hI hun haft hi
        have f0 : a.eval (.tmp 180) = .slice (some ⟨q7, 0, none⟩) p.b.length c7 := haft ⟨0, .data⟩ (by simp) rfl _ _ rfl rfl
        have f2 : a.eval (.tmp 182) = .int .i64 k := haft ⟨2, .data⟩ (by simp) rfl _ _ rfl rfl
        exact b_same hi hI rfl _ (run_indexAddr_op rfl f0 f2 (at_by q7 p.b.length c7 k HK9.out W)) rfl
    · intro vals a W hI hun hsl hp
      have f8 : a.eval (.tmp 188) = .pointer (some ⟨q7, k, none⟩) := (hsl 8 _ _ rfl (by decide) rfl).trans (hp 8 (by decide))
      have f7 : a.eval (.tmp 187) = bv (x ^^^ y) := (hsl 7 _ _ rfl (by decide) rfl).trans (hp 7 (by decide))
      refine Lt.l_skip rfl rfl _ (run_store1_op rfl f8 f7 rfl rfl sizeU ((hI.cell (p := ⟨q7, k, none⟩) HQ7.out).trans HC7.out) ((World.frozen?_of_block (hI.block q7 HQ7.out)).trans HF7.out)) ⟨_, rfl, fun _ _ _ => ⟨W, hI, rfl⟩⟩
    · rintro vals W ⟨V, hVb, rfl⟩
      have HVb := Lib.hid hVb
      clear hVb
      simp only [layN, List.size_toArray, List.length_cons, List.length_nil, List.range, List.range.loop, if_true, List.getElem?_toArray, List.getElem?_cons_zero, List.getElem?_cons_succ, Act.put, List.setIfInBounds_toArray, List.set_cons_zero, List.set_cons_succ, Nat.zero_add, Nat.reduceAdd]
      obtain ⟨W8, hW8⟩ : ∃ W8, W8 = V.setCell ⟨q7, k, none⟩ (bv (x ^^^ y)) := ⟨_, rfl⟩
      rw [← hW8]
      have hb8 : Below W6.heap.size W6 W8 := by
        rw [hW8]
        exact (HB7.out.trans (HVb.out.mono HB7.out.size)).trans ((But.setCell V q7 k _).below (Nat.le_of_eq HQ.out.symm) (Nat.le_trans HB7.out.size HVb.out.size))
      have hN8 := N6.out.below hb8
      have hR8 := R6.out.keep hb8
      have hA8 := HA6.out.below hb8 HA6.out.lt
      have hr6 : r < W6.heap.size := Blk.lt HB9.out
      have hrq : q7 ≠ r := by have := HQ.out; omega
      have hgr : gk ≠ r := blk_ne HA6.out HB9.out (by decide)
      have hcell : ∀ W : World, W.heap[q7]? = W8.heap[q7]? → W8.heap.size ≤ W.heap.size → Sl bv W (.slice (some ⟨q7, 0, none⟩) p.b.length c7) (p.b.set k (x ^^^ y)) := by
        intro W hW hs
        refine ⟨_, c7, by rw [List.length_set], by rw [List.length_set]; exact HLC7.out, fun _ => ⟨q7, 0, rfl, Nat.lt_of_lt_of_le (Nat.lt_of_lt_of_le HQ7.out (by rw [hW8]; have := HVb.out.size; simpa [World.setCell] using this)) hs, fun m u hu => ?_⟩⟩
        rw [World.cell?_of_block (a := ⟨q7, 0 + m, none⟩) hW, Nat.zero_add, hW8]
        have hm : m < p.b.length := by have := (List.getElem?_eq_some_iff.1 hu).1; rwa [List.length_set] at this
        by_cases hmk : m = k
        · subst hmk
          rw [List.getElem?_set_self hm] at hu
          have := Option.some.inj hu
          subst this
          exact World.cell?_setCell_same _ _ _ ((HVb.out.cell (p := ⟨q7, _, none⟩) HQ7.out).trans (HC7'.out _ hm))
        · rw [List.getElem?_set_ne (fun e => hmk e.symm), List.getElem?_eq_getElem hm] at hu
          have := Option.some.inj hu
          subst this
          rw [World.cell?_setCell_other V ⟨q7, k, none⟩ ⟨q7, m, none⟩ _ (by intro e; injection e; omega), (HVb.out.cell (p := ⟨q7, m, none⟩) HQ7.out)]
          exact HC7'.out m hm
      have hLR := hR8.keep (Below.refl W8.heap.size W8).drew
      have hN9 := hN8.below (Below.refl W8.heap.size W8).drew
      have hA9 : Blk W8.drew gk 29 #[bv kk, .int .i64 tt, .slice B n c, .int .i64 i, .int .i64 k, bv y] := hA8
      obtain ⟨z1, z2, z3, z4, z5, z6⟩ := hLR.two i HI.out (p.b.set k (x ^^^ y)) p.v
      have hwR : w.heap.size ≤ W8.drew.heap.size := hN9.2.size
      have F18 := Lib.hid z1
      have F28 := Lib.hid z2
      have Q28 := Lib.hid z3
      have Q18 := Lib.hid (show W8.drew.cell? ⟨r, i * 3 + 1, none⟩ = some (.string ⟨p.b.toArray⟩) from (hb8.cell (p := ⟨r, i * 3 + 1, none⟩) hr6).trans Q19.out)
      have R9 : Hid (Lr w.heap.size ((W8.drew.setCell ⟨r, i * 3 + 1, none⟩ (.string ⟨(p.b.set k (x ^^^ y)).toArray⟩)).setCell ⟨r, i * 3 + 2, none⟩ (.bool true)) (.slice (some ⟨r, 0, none⟩) L.length c4) (L.set i ⟨p.to, p.b.set k (x ^^^ y), p.v, true⟩)) := Lib.hid (by
        have hp' := HPp.out
        clear F18 F28 Q28 Q18 z1 z2 z3 z5 z6
        revert z4
        generalize x ^^^ y = zz
        subst hp'
        exact fun h => h)
      have N9 := Lib.hid (hN9.tr (z6 hwR))
      have HE3 := Lib.hid (fun (W : World) (h : W = W8.drew ∨ W = W8.drew.setCell ⟨r, i * 3 + 1, none⟩ (.string ⟨(p.b.set k (x ^^^ y)).toArray⟩)) => show W.cell? ⟨gk, 3, none⟩ = some (.int .i64 i) by
        rcases h with rfl | rfl
        · exact hA9.cell 3
        · exact ((But.setCell W8.drew r _ _).blk hA9 hgr).cell 3)
      have HB8 := Lib.hid (fun (W : World) (h : W = W8.drew ∨ W = W8.drew.setCell ⟨r, i * 3 + 1, none⟩ (.string ⟨(p.b.set k (x ^^^ y)).toArray⟩)) => show (convert 27 9 (.slice (some ⟨q7, 0, none⟩) p.b.length c7)).run Try.prog W = .ok (.string ⟨(p.b.set k (x ^^^ y)).toArray⟩) W by
        rcases h with rfl | rfl
        · exact bytes_str _ _ _ (hcell _ rfl (Nat.le_refl _))
        · exact bytes_str _ _ _ (hcell _ (Below.heap_setCell W8.drew ⟨r, i * 3 + 1, none⟩ _ q7 hrq) (by simp [World.setCell])))
      clear z1 z2 z3 z4 z5 z6 hcell hLR hN9 hA9 hN8 hR8 hA8 hwR hW8 hb8
      go_upto_region 42 with fail
      refine wp_region_any (by kernel_rfl) ?_
      refine wpAny_swapS (fun m v => v = ([(.slice (some ⟨r, 0, none⟩) L.length c4), (.pointer (some ⟨gk, 3, none⟩)), (.int .i64 i), (.slice (some ⟨r, 0, none⟩) L.length c4), (.pointer (some ⟨gk, 3, none⟩)), (.int .i64 i), (.slice (some ⟨q7, 0, none⟩) p.b.length c7), (.string ⟨(p.b.set k (x ^^^ y)).toArray⟩), (.pointer (some ⟨r, i * 3, none⟩)), (.pointer (some ⟨r, i * 3 + 1, none⟩)), (undef), (.pointer (some ⟨r, i * 3, none⟩)), (.pointer (some ⟨r, i * 3 + 2, none⟩)), (undef)] : List Value).getD m undef) _ W8 10 13 _ _ (fun W => W = W8.drew) (fun W => W = W8.drew.setCell ⟨r, i * 3 + 1, none⟩ (.string ⟨(p.b.set k (x ^^^ y)).toArray⟩)) (fun W => W = (W8.drew.setCell ⟨r, i * 3 + 1, none⟩ (.string ⟨(p.b.set k (x ^^^ y)).toArray⟩)).setCell ⟨r, i * 3 + 2, none⟩ (.bool true))
        (by kernel_rfl) (by decide) rfl rfl rfl rfl (by kernel_rfl) (by kernel_rfl) (by kernel_rfl) (by kernel_rfl) (by kernel_rfl) rfl ?_ ?_ ?_ ?_
      · refine ⟨?_, ?_, ?_, ?_, ?_, ?_, ?_, ?_, ?_, ?_, ?_, ?_, ?_, ?_, trivial⟩
        · intro _ _ a W hun haft hOM hi
          have e4 : a.eval (.tmp 4) = .slice (some ⟨r, 0, none⟩) L.length c4 := hun 4 (by kernel_rfl)
          exact wpOp_val hi rfl _ _ (run_move_op rfl e4) ⟨_, rfl, rfl, rfl⟩
        · intro _ _ a W hun haft hOM hi
          have e6 : a.eval (.tmp 6) = .pointer (some ⟨gk, 0, none⟩) := hun 6 (by kernel_rfl)
          exact wpOp_val hi rfl _ _ (run_fieldAddr_any rfl e6 (at_act gk 3 (by decide) W)) ⟨_, rfl, rfl, rfl⟩
        · intro _ _ a W hun haft hOM hi
          have f1 : a.eval (.tmp 190) = .pointer (some ⟨gk, 3, none⟩) := haft ⟨1, .data⟩ (by simp) rfl _ _ rfl rfl
          exact wpOp_val hi rfl _ _ (run_load1_op rfl f1 Try.underlying3 rfl (HE3.out W hOM)) ⟨_, rfl, rfl, rfl⟩
        · intro _ _ a W hun haft hOM hi
          have e4 : a.eval (.tmp 4) = .slice (some ⟨r, 0, none⟩) L.length c4 := hun 4 (by kernel_rfl)
          exact wpOp_val hi rfl _ _ (run_move_op rfl e4) ⟨_, rfl, rfl, rfl⟩
        · intro _ _ a W hun haft hOM hi
          have e6 : a.eval (.tmp 6) = .pointer (some ⟨gk, 0, none⟩) := hun 6 (by kernel_rfl)
          exact wpOp_val hi rfl _ _ (run_fieldAddr_any rfl e6 (at_act gk 3 (by decide) W)) ⟨_, rfl, rfl, rfl⟩
        · intro _ _ a W hun haft hOM hi
          have f4 : a.eval (.tmp 193) = .pointer (some ⟨gk, 3, none⟩) := haft ⟨4, .data⟩ (by simp) rfl _ _ rfl rfl
          exact wpOp_val hi rfl _ _ (run_load1_op rfl f4 Try.underlying3 rfl (HE3.out W hOM)) ⟨_, rfl, rfl, rfl⟩
        · intro _ _ a W hun haft hOM hi
          have e11 : a.eval (.tmp 11) = .slice (some ⟨q7, 0, none⟩) p.b.length c7 := hun 11 (by kernel_rfl)
          exact wpOp_val hi rfl _ _ (run_move_op rfl e11) ⟨_, rfl, rfl, rfl⟩
        · intro _ _ a W hun haft hOM hi
          have f6 : a.eval (.tmp 195) = .slice (some ⟨q7, 0, none⟩) p.b.length c7 := haft ⟨6, .data⟩ (by simp) rfl _ _ rfl rfl
          exact wpOp_val hi rfl _ _ (run_convert_op rfl f6 (HB8.out W hOM)) ⟨_, rfl, rfl, rfl⟩
        · intro _ _ a W hun haft hOM hi
          have f0 : a.eval (.tmp 189) = .slice (some ⟨r, 0, none⟩) L.length c4 := haft ⟨0, .data⟩ (by simp) rfl _ _ rfl rfl
          have f2 : a.eval (.tmp 191) = .int .i64 i := haft ⟨2, .data⟩ (by simp) rfl _ _ rfl rfl
          exact wpOp_val hi rfl _ _ (run_indexAddr_op rfl f0 f2 (at_lrow r L.length c4 i HI.out W)) ⟨_, rfl, rfl, rfl⟩
        · intro _ _ a W hun haft hOM hi
          have f8 : a.eval (.tmp 197) = .pointer (some ⟨r, i * 3, none⟩) := haft ⟨8, .data⟩ (by simp) rfl _ _ rfl rfl
          exact wpOp_val hi rfl _ _ (run_fieldAddr_any rfl f8 (at_lp r (i * 3) 1 (by decide) W)) ⟨_, rfl, rfl, rfl⟩
        · exact fun h => absurd rfl h
        · intro _ _ a W hun haft hOM hi
          have f3 : a.eval (.tmp 192) = .slice (some ⟨r, 0, none⟩) L.length c4 := haft ⟨3, .data⟩ (by simp) rfl _ _ rfl rfl
          have f5 : a.eval (.tmp 194) = .int .i64 i := haft ⟨5, .data⟩ (by simp) rfl _ _ rfl rfl
          exact wpOp_val hi rfl _ _ (run_indexAddr_op rfl f3 f5 (at_lrow r L.length c4 i HI.out W)) ⟨_, rfl, rfl, rfl⟩
        · intro _ _ a W hun haft hOM hi
          have f11 : a.eval (.tmp 199) = .pointer (some ⟨r, i * 3, none⟩) := haft ⟨11, .data⟩ (by simp) rfl _ _ rfl rfl
          exact wpOp_val hi rfl _ _ (run_fieldAddr_any rfl f11 (at_lp r (i * 3) 2 (by decide) W)) ⟨_, rfl, rfl, rfl⟩
        · exact fun _ h => absurd rfl h
      · rintro a W rfl haft
        have f9 : a.eval (.tmp 198) = .pointer (some ⟨r, i * 3 + 1, none⟩) := haft ⟨9, .data⟩ (by simp) rfl _ _ rfl rfl
        have f7 : a.eval (.tmp 196) = .string ⟨(p.b.set k (x ^^^ y)).toArray⟩ := haft ⟨7, .data⟩ (by simp) rfl _ _ rfl rfl
        exact Lt.l_skip rfl rfl _ (run_store1_op rfl f9 f7 rfl rfl (by kernel_rfl) Q18.out F18.out) ⟨rfl, rfl⟩
      · rintro a W rfl haft
        have f12 : a.eval (.tmp 200) = .pointer (some ⟨r, i * 3 + 2, none⟩) := haft ⟨12, .data⟩ (by simp) rfl _ _ rfl rfl
        exact Lt.l_skip rfl rfl _ (run_store1_op rfl f12 rfl rfl rfl (by kernel_rfl) Q28.out F28.out) ⟨rfl, rfl⟩
      · rintro vals W rfl hv
        clear hv
        simp only [layN, List.size_toArray, List.length_cons, List.length_nil, List.range, List.range.loop, if_true, List.getElem?_toArray, List.getElem?_cons_zero, List.getElem?_cons_succ, Act.put, List.setIfInBounds_toArray, List.set_cons_zero, List.set_cons_succ, Nat.zero_add, Nat.reduceAdd]
        go_wp2_with fail
        refine HK.out _ _ ⟨rfl, rfl, rfl, rfl, rfl, rfl, rfl, rfl, rfl, rfl, rfl, rfl, rfl, rfl, rfl, vf, L.set i ⟨p.to, p.b.set k (x ^^^ y), p.v, true⟩, N9.out, R9.out, by rw [List.length_set]; have := HLj.out; omega, fun z hz => ?_⟩
        have hbp := HS.out p (by rw [HPp.out]; exact List.getElem_mem HI.out)
        rcases List.mem_or_eq_of_mem_set hz with hz | hz
        · exact HS.out z hz
        · rw [hz]
          simpa using hbp

end Go.Proofs.Ytoicncmlmhljmaa
