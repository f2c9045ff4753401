/-
  (*expr.reader).cmp: the contract, by a walk. (*expr.reader).below: the contract, by a walk. Conditions: lengths.
-/
import Derived.Test.YtdabanocofimmaaGreatDoorJExNot
import Derived.Test.YtdabanocofimmaaGreatDoorJLxTok
namespace Go.Proofs.YtdabanocofimmaaGreatDoor
open Go.RowKit

theorem cmp_is {A : Ex.P} {d : Nat} {L L1 L2 L3 : List Lx.Tk} {row row1 row3 : List Ex.X} {er3 : Int} {pl p3 : Nat} (hA : match A d L row with | .ok (p, L3, row3) => (0 : Int) = 0 ∧ pl = p ∧ L1 = L3 ∧ row1 = row3 | .error e => 0 = e ∧ e ≠ 0)
    (ht : Ex.takesL Ex.kIS L1 = some L2) (hI : match Ex.isF pl L2 row1 with | .ok (p, L4, row4) => er3 = 0 ∧ p3 = p ∧ L3 = L4 ∧ row3 = row4 | .error e => er3 = e ∧ e ≠ 0) :
    match Ex.cmpF A d L row with | .ok (p, L4, row4) => er3 = 0 ∧ p3 = p ∧ L3 = L4 ∧ row3 = row4 | .error e => er3 = e ∧ e ≠ 0 := by
  unfold Ex.cmpF
  cases hq : A d L row with
  | error e => rw [hq] at hA; exact absurd hA.1.symm hA.2
  | ok q =>
    obtain ⟨p, L4, row4⟩ := q
    rw [hq] at hA
    obtain ⟨_, j2, j3, j4⟩ := hA
    subst j2 j3 j4
    unfold Ex.nextR
    dsimp only
    rw [ht]
    exact hI
theorem cmp_no {A : Ex.P} {d : Nat} {L L1 : List Lx.Tk} {row row1 : List Ex.X} {er1 : Int} {pl : Nat} (hA : match A d L row with | .ok (p, L3, row3) => er1 = 0 ∧ pl = p ∧ L1 = L3 ∧ row1 = row3 | .error e => er1 = e ∧ e ≠ 0)
    (ht : er1 = 0 → Ex.takesL Ex.kIS L1 = none) (hp : er1 = 0 → Ex.pickL Ex.ksCmp L1 = none) :
    match Ex.cmpF A d L row with | .ok (p, L4, row4) => er1 = 0 ∧ pl = p ∧ L1 = L4 ∧ row1 = row4 | .error e => er1 = e ∧ e ≠ 0 := by
  unfold Ex.cmpF
  cases hq : A d L row with
  | error e => rw [hq] at hA; exact hA
  | ok q =>
    obtain ⟨p, L4, row4⟩ := q
    rw [hq] at hA
    obtain ⟨e1, j2, j3, j4⟩ := hA
    subst j2 j3 j4
    unfold Ex.nextR
    dsimp only
    rw [ht e1]
    dsimp only
    rw [hp e1]
    exact ⟨e1, rfl, rfl, rfl⟩
theorem cmp_two {A : Ex.P} {d : Nat} {L L1 L2 L3 : List Lx.Tk} {row row1 row3 : List Ex.X} {er3 k : Int} {pl p3 : Nat} (hA : match A d L row with | .ok (p, L3, row3) => (0 : Int) = 0 ∧ pl = p ∧ L1 = L3 ∧ row1 = row3 | .error e => 0 = e ∧ e ≠ 0)
    (ht : Ex.takesL Ex.kIS L1 = none) (hp : Ex.pickL Ex.ksCmp L1 = some (k, L2)) (hm : match A d L2 row1 with | .ok (q, L4, row4) => er3 = 0 ∧ p3 = row4.length ∧ L3 = L4 ∧ row3 = row4 ++ [Ex.biE k pl q] | .error e => er3 = e ∧ e ≠ 0) :
    match Ex.cmpF A d L row with | .ok (p, L4, row4) => er3 = 0 ∧ p3 = p ∧ L3 = L4 ∧ row3 = row4 | .error e => er3 = e ∧ e ≠ 0 := by
  unfold Ex.cmpF
  cases hq : A d L row with
  | error e => rw [hq] at hA; exact absurd hA.1.symm hA.2
  | ok q =>
    obtain ⟨p, L4, row4⟩ := q
    rw [hq] at hA
    obtain ⟨_, j2, j3, j4⟩ := hA
    subst j2 j3 j4
    unfold Ex.nextR
    dsimp only
    rw [ht]
    dsimp only
    rw [hp]
    dsimp only
    cases hq2 : A d L2 row1 with
    | error e => rw [hq2] at hm; exact hm
    | ok q =>
      obtain ⟨q, L5, row5⟩ := q
      rw [hq2] at hm
      exact hm
theorem ent_add (b : Nat) : Ent b 116 := fun W => by go_simp
set_option maxRecDepth 100000 in
set_option maxHeartbeats 4000000 in
theorem cmp_rule {w0 : World} {b K : Nat} (A : Ex.P) (hA : RuleC w0 b 116 A K) (hw : WOk w0) (hB : BetwIs w0) : RuleC w0 b 107 (Ex.cmpF A) K := by
  intro w v L er row d h hL hn hK hd
  have HA := Lib.hid (hA w v L er row d h hL hn hK hd)
  have HAr := Lib.hid hA
  have HN := Lib.hid (And.intro hn (And.intro hK hd))
  have HW := Lib.hid (And.intro hw hB)
  clear h hL hn hK hd hA hw hB
  go_enter Tryz.func107, Tryz.ntmps107
  go_wp2_with fail
  refine HA.out.mono ?_
  rintro e w1 ⟨pl, rfl, L1, er1, row1, ⟨v1, k1, k2⟩, k3, k4, k5, k6, k7⟩
  obtain ⟨S, hS⟩ : ∃ S : ByteArray, S = ⟨#[73, 83]⟩ := ⟨_, rfl⟩
  have hSl : S.data.toList = Ex.kIS := by rw [hS]; rfl
  have hT := takes_st S k1.rd HW.out.1 k5
  rw [hSl] at hT
  obtain ⟨L2, hL2⟩ : ∃ L2, takeS er1 L1 Ex.kIS = L2 := ⟨_, rfl⟩
  rw [hL2] at hT
  have HS := Lib.hid hS
  cases hk : tkOk er1 L1 Ex.kIS
  · obtain ⟨f1, f2⟩ := took_not hk
    rw [hk] at hT
    have hll : L2 = L1 := hL2.symm.trans f1
    subst hll
    have HT := Lib.hid hT
    have HP := Lib.hid (fun W (k : RdTo w0 b 69 [v1, .int .i64 d] w1 L2 er1 W) (p : Nat) (X : World) (hp : W.heap.size = p) (hX : X = W.alloc (.cells #[.int .i64 10, .int .i64 11, .int .i64 12, .int .i64 13, .int .i64 14, .int .i64 15] 3)) => by
      have hbX : Below W.heap.size W X := by rw [hX]; exact (Below.refl _ _).alloc (Nat.le_refl _) _
      have hE : Blk X p 3 #[.int .i64 10, .int .i64 11, .int .i64 12, .int .i64 13, .int .i64 14, .int .i64 15] := by rw [hX, ← hp]; exact Blk.new W _ _
      have hW := k1.move k
      have hk := hW.rd.keep hbX
      have := pair_any pl _ A (ent_add b) HAr.out Ex.ksCmp p 0 6 6 rfl (by omega) (by decide) hE.lt (by
        obtain ⟨⟨cs, h1, _⟩, _⟩ := hW.rd
        have := h1.blk.lt
        omega) (fun e => by have := (hW.own.lt p e.symm).2; omega) (fun j hj => by
        have hj2 : j < 6 := hj
        rw [Nat.zero_add]
        exact (Blk.cell hE j).trans (by
          match j, hj2 with
        | 0, _ => rfl
        | 1, _ => rfl
        | 2, _ => rfl
        | 3, _ => rfl
        | 4, _ => rfl
        | 5, _ => rfl)) (hW.move hk) HW.out.1 HW.out.2 k5 (by have := HN.out.1; omega) (by have := HN.out.2.1; omega) HN.out.2.2
      exact this.mono fun r w' h2 => (by
        obtain ⟨place, more, e1, L3, er3, row3, g1, g2, g3, g4⟩ := h2
        refine ⟨place, more, e1, ?_⟩
        have hto : EstTo w0 b w v L3 er3 row3 d w' := EstTo.trans (Fr.trans (Fr.trans k2 (.of_but k.2)) (.of_but hk.2)) g1
        cases more
        · obtain ⟨j1, j2, j3, j4, j5⟩ := g3 rfl
          subst j1 j2 j3 j4
          exact ⟨_, _, _, hto, k3, k4, g2, k6, fun e => cmp_no (k7 e) f2 j5⟩
        · obtain ⟨j1, j2, j3, kk, L4, j4, j5⟩ := g4 rfl
          subst j1
          have he : er = 0 := Classical.byContradiction fun e => e (k6 e).symm
          exact ⟨_, _, _, hto, by omega, by omega, g2, fun e => absurd he e, fun e => cmp_two (k7 e) (f2 rfl) j4 j5⟩ :
        ∃ (place : Nat) (more : Bool), r = .returned (.tuple #[.int .i64 place, .bool more]) ∧ RuleTo (Ex.cmpF A) w0 b w v L er row d place w'))
    clear k1 k2 k3 k4 k5 k6 k7 hT hS hSl hL2 hk f1 f2 HA HAr HN HW
    unfold ruleV at HP
    go_wp2_with fail
    rw [← HS.out]
    refine HT.out.mono ?_
    rintro e w2 ⟨rfl, h1⟩
    have H1 := Lib.hid h1
    clear h1
    go_wp2_with fail
    obtain ⟨p, hp⟩ : ∃ p, w2.heap.size = p := ⟨_, rfl⟩
    obtain ⟨X, hX⟩ : ∃ X, X = w2.alloc (.cells #[.int .i64 10, .int .i64 11, .int .i64 12, .int .i64 13, .int .i64 14, .int .i64 15] 3) := ⟨_, rfl⟩
    have HX := Lib.hid (HP.out w2 H1.out p X hp hX)
    rw [hp, ← hX]
    clear hp hX
    refine HX.out.mono ?_
    rintro e w3 ⟨p3, m3, rfl, h3⟩
    have HR := Lib.hid h3
    clear h3
    go_wp2_with fail
    go_ret
    exact ⟨p3, rfl, HR.out⟩
  · obtain ⟨f1, f2, f3, f4⟩ := took hk
    rw [hL2] at f2 f3 f4
    rw [hk] at hT
    subst f1
    have he : er = 0 := Classical.byContradiction fun e => e (k6 e).symm
    have HT := Lib.hid hT
    have HI := Lib.hid (fun W (k : RdTo w0 b 69 [v1, .int .i64 d] w1 L2 0 W) => by
      have := is_any pl (k1.move k) HW.out.1 (f4 k5) (by have := HN.out.1; omega)
      exact this.mono fun r w' h2 => (by
        obtain ⟨place, e1, L3, er3, row3, g1, g2, g3, g4, _, g6⟩ := h2
        exact ⟨place, e1, L3, er3, row3, EstTo.trans (Fr.trans k2 (.of_but k.2)) g1, by omega, by omega, g4, fun e => absurd he e, fun e => cmp_is (k7 e) f2 (g6 rfl)⟩ :
        ∃ place : Nat, r = .returned (.int .i64 place) ∧ RuleTo (Ex.cmpF A) w0 b w v L er row d place w'))
    clear k1 k2 k3 k4 k5 k6 k7 hT hS hSl hL2 hk f2 f3 f4 HA HAr HN HW he
    go_wp2_with fail
    rw [← HS.out]
    refine HT.out.mono ?_
    rintro e w2 ⟨rfl, h1⟩
    have H1 := Lib.hid h1
    clear h1
    go_wp2_with fail
    refine (HI.out _ H1.out).mono ?_
    rintro e w3 ⟨p3, rfl, h3⟩
    have HR := Lib.hid h3
    clear h3
    go_wp2_with fail
    go_ret
    exact ⟨p3, rfl, HR.out⟩

end Go.Proofs.YtdabanocofimmaaGreatDoor

namespace Go.Proofs.YtdabanocofimmaaGreatDoor
open Go.RowKit

theorem rightB_num {k n : Int} {l : List UInt8} (h : rightB k n l = true) : -1099511627776 ≤ n ∧ n ≤ 1099511627776 := by
  unfold rightB at h
  repeat' split at h
  all_goals (try simp only [Bool.and_eq_true, Bool.or_eq_true, decide_eq_true_eq, beq_iff_eq] at h)
  all_goals (try (exact absurd h (by decide)))
  all_goals omega
/-- A number's token that may be has a small number. -/
theorem num_bd {t : Lx.Tk} (h : Lx.rightT t = true) (h3 : t.1 = 3) : -1099511627776 ≤ t.2.1 ∧ t.2.1 ≤ 1099511627776 := by
  have hf := Lx.right_first h
  unfold Lx.firstO at hf
  split at hf
  · rename_i x hx
    obtain ⟨a, b⟩ := x
    injection hf with hf
    obtain ⟨_, e, _⟩ := Lx.nameO_some (hx.trans (congrArg some hf))
    rw [e] at h3
    dsimp only at h3
    split at h3 <;> cases h3
  · split at hf
    · rename_i x hx
      injection hf with hf
      obtain ⟨v, e1, e2, _⟩ := Lx.numO_some (hx.trans (congrArg some hf))
      rw [e2]
      exact rightB_num (Lx.parseO_some.1 e1).1
    · split at hf
      · rename_i x hx
        injection hf with hf
        obtain ⟨v, _, e2, _⟩ := Lx.textO_some (hx.trans (congrArg some hf))
        rw [e2] at h3
        cases h3
      · obtain ⟨_, e2, _⟩ := Lx.signO_some hf
        rw [e2] at h3
        cases h3
/-- One of kinds that are laid for the call. -/
theorem one_new {w0 w X : World} {b p n : Nat} {t : TypeId} {rest : List Value} {L : List Lx.Tk} {er : Int} (ks : List Int) (cs : Array Value) (h : Rst w0 b t rest w L er) (hw : WOk w0) (hL : TkSm L) (hn : ks.length = n) (hn2 : n ≤ 100) (hcs : ∀ j, j < ks.length → cs[j]? = some (.int .i64 (ks.getD j 0)))
    (hp : w.heap.size = p) (hX : X = w.alloc (.cells cs 3)) :
    Calls Tryz.prog 167 #[.pointer (some ⟨b, 0, none⟩), .slice (some ⟨p, 0, none⟩) n n] X fun e w' => e = .returned (tkV (oneT er L ks)) ∧ RdTo w0 b t rest w (oneS er L ks) (oneE er L ks) w' := by
  have hbX : Below w.heap.size w X := by rw [hX]; exact (Below.refl _ _).alloc (Nat.le_refl _) _
  have hE : Blk X p 3 cs := by rw [hX, ← hp]; exact Blk.new w _ _
  have hk := h.keep hbX
  exact (one_any ks p 0 n n hk.1 hw hL hn hn2 hE.lt (fun j hj => by rw [Nat.zero_add]; exact (Blk.cell hE j).trans (hcs j hj))).mono fun e w' h2 => ⟨h2.1, hk.trans h2.2⟩
theorem oneL_has (L : List Lx.Tk) (ks : List Int) : Ex.oneL ks L = if hasS 0 L ks = true then some (headT 0 L, L.tail) else none := by
  cases L with
  | nil => rfl
  | cons t r =>
    show (if ks.contains t.1 = true ∧ Lx.rightT t = true then some (t, r) else none) = if (true && (ks.contains t.1 && Lx.rightT t)) = true then some (t, r) else none
    simp only [Bool.true_and, Bool.and_eq_true]
theorem has_zero {er : Int} {L : List Lx.Tk} {ks : List Int} (h : hasS er L ks = true) : er = 0 := Classical.byContradiction fun e => by
  unfold hasS headB at h
  rw [if_neg e] at h
  cases h
theorem oneS_le (er : Int) (L : List Lx.Tk) (ks : List Int) : (oneS er L ks).length ≤ L.length := by
  unfold oneS
  split
  · rw [List.length_tail]; omega
  · exact Nat.le_refl _
theorem oneS_sm {er : Int} {L : List Lx.Tk} {ks : List Int} (hL : TkSm L) : TkSm (oneS er L ks) := by
  unfold oneS
  split
  · exact fun t m => hL t (List.mem_of_mem_tail m)
  · exact hL
theorem oneE_err {er : Int} (h : er ≠ 0) (L : List Lx.Tk) (ks : List Int) : oneE er L ks = er := by
  unfold oneE failS
  rw [if_neg h]
  split <;> rfl
theorem tk_f1 (x : Lx.Tk) (w : World) : (Instr.field 43 (.agg #[.int .i64 x.1, .int .i64 x.2.1, .string ⟨x.2.2.toArray⟩]) 1).run Tryz.prog w = .ok (.int .i64 x.2.1) w := by kernel_rfl
/-- What below leaves. -/
theorem below_math {L : List Lx.Tk} {er2 : Int} {row : List Ex.X} {d : Nat} (h : er2 = if (oneT 0 L [3]).2.1 = 0 then failS (oneE 0 L [3]) 10 else oneE 0 L [3]) :
    match Ex.belowF d L row with | .ok (p, L3, row3) => er2 = 0 ∧ row.length = p ∧ oneS 0 L [3] = L3 ∧ row ++ [Ex.valE 2 (-(oneT 0 L [3]).2.1) []] = row3 | .error e => er2 = e ∧ e ≠ 0 := by
  unfold Ex.belowF
  rw [oneL_has]
  unfold oneT oneE oneS at *
  by_cases hs : hasS 0 L [3] = true
  · simp only [if_pos hs] at h ⊢
    by_cases h0 : (headT 0 L).2.1 = 0
    · simp only [if_pos h0] at h ⊢
      exact ⟨h, by decide⟩
    · simp only [if_neg h0] at h ⊢
      exact ⟨h, rfl, rfl, rfl⟩
  · simp only [if_neg hs] at h ⊢
    exact ⟨h, by decide⟩

set_option maxRecDepth 100000 in
set_option maxHeartbeats 4000000 in
theorem below_any {w0 w : World} {b : Nat} {v : Value} {L : List Lx.Tk} {er : Int} {row : List Ex.X} {d : Nat} (h : Est w0 b w v L er row d) (hw : WOk w0) (hL : TkSm L) (hn : row.length + 1 ≤ 1000000) :
    Calls Tryz.prog 155 #[.pointer (some ⟨b, 0, none⟩)] w fun r w' => ∃ place : Nat, r = .returned (.int .i64 place) ∧ RuleTo Ex.belowF w0 b w v L er row d place w' := by
  obtain ⟨p, hp⟩ : ∃ p, w.heap.size = p := ⟨_, rfl⟩
  obtain ⟨X, hX⟩ : ∃ X, X = w.alloc (.cells #[.int .i64 3] 3) := ⟨_, rfl⟩
  have HO := Lib.hid (one_new (n := 1) [3] #[.int .i64 3] h.rd hw hL rfl (by omega) (fun j hj => by
    have : j = 0 := by have : j < 1 := hj; omega
    subst this
    rfl) hp hX)
  have hz : er ≠ 0 → oneE er L [3] = er := fun e => oneE_err e _ _
  have hbd : -1099511627776 ≤ (oneT er L [3]).2.1 ∧ (oneT er L [3]).2.1 ≤ 1099511627776 := by
    unfold oneT
    split
    · rename_i hs
      unfold hasS at hs
      simp only [Bool.and_eq_true] at hs
      exact num_bd hs.2.2 (by have := hs.2.1; simpa using this)
    · exact ⟨by decide, by decide⟩
  have hG : ∀ er2, er2 = (if (oneT er L [3]).2.1 = 0 then failS (oneE er L [3]) 10 else oneE er L [3]) → ∀ W w', RdTo w0 b 69 [v, .int .i64 d] w (oneS er L [3]) er2 W → EstTo w0 b W v (oneS er L [3]) er2 (row ++ [Ex.valE 2 (-(oneT er L [3]).2.1) []]) d w' → RuleTo Ex.belowF w0 b w v L er row d row.length w' := by
    intro er2 he W w' h1 h2
    refine ⟨_, er2, _, EstTo.trans (.of_but h1.2) h2, by have := oneS_le er L [3]; rw [List.length_append, List.length_singleton]; omega, oneS_le _ _ _, oneS_sm hL, fun e => ?_, fun e => ?_⟩
    · rw [he, hz e]
      unfold failS
      rw [if_neg e]
      split <;> rfl
    · subst e
      exact below_math he
  obtain ⟨t, ht⟩ : ∃ t, oneT er L [3] = t := ⟨_, rfl⟩
  obtain ⟨L1, hL1⟩ : ∃ t, oneS er L [3] = t := ⟨_, rfl⟩
  obtain ⟨e1, he1⟩ : ∃ t, oneE er L [3] = t := ⟨_, rfl⟩
  rw [ht, hL1, he1] at hG
  rw [ht, hL1, he1] at HO
  rw [ht] at hbd
  obtain ⟨m, hm⟩ : ∃ m, row.length = m := ⟨_, rfl⟩
  rw [hm] at hG
  have hPu : ∀ er2 W, RdTo w0 b 69 [v, .int .i64 d] w L1 er2 W → Calls Tryz.prog 156 #[.pointer (some ⟨b, 0, none⟩), .agg #[.int .i64 2, .int .i64 (-t.2.1), .string ⟨#[]⟩]] W fun r w' => r = .returned (.int .i64 m) ∧ EstTo w0 b W v L1 er2 (row ++ [Ex.valE 2 (-t.2.1) []]) d w' := fun er2 W k => by
    rw [← hm]
    exact value_any 2 (-t.2.1) ⟨#[]⟩ (h.move k) hn
  have HBd := Lib.hid hbd
  have HX := Lib.hid hX
  have HP := Lib.hid hp
  have HF := Lib.hid (fun w1 (k : RdTo w0 b 69 [v, .int .i64 d] w L1 e1 w1) => (fail_st 10 k.1).mono fun e w' h2 => (⟨h2.1, k.trans h2.2⟩ : e = .returned (.tuple #[]) ∧ RdTo w0 b 69 [v, .int .i64 d] w L1 (failS e1 10) w'))
  have hs := IntWalk.i64_in (-t.2.1) (by omega)
  have HFl := Lib.hid (fun W => tk_f1 t W)
  by_cases h0 : t.2.1 = 0
  · have HPu := Lib.hid (hPu (failS e1 10))
    have HG := Lib.hid (hG _ (by rw [if_pos h0]))
    have hb0 : (t.2.1 == 0) = true := by rw [h0]; rfl
    clear hp hX h hw hL hn hz hbd hG ht hL1 he1 hm hPu h0
    go_enter Tryz.func155, Tryz.ntmps155
    go_wp2_with fail
    rw [← HX.out, HP.out]
    refine HO.out.mono ?_
    rintro e w1 ⟨rfl, h1⟩
    have H1 := Lib.hid h1
    have HF1 := Lib.hid (HFl.out w1)
    unfold tkV
    clear h1
    go_wp2_with (first
      | (refine wpList_val (o := ⟨some 9, _, _, _, _, _⟩) rfl (.int .i64 t.2.1) w1 (run_field_op rfl rfl HF1.out) ?_)
      | fail)
    refine (HF.out _ H1.out).mono ?_
    rintro e w2 ⟨rfl, h2⟩
    have H2 := Lib.hid h2
    clear h2
    go_wp2_with (first
      | (refine wpList_build (o := ⟨some 19, _, _, _, _, _⟩) rfl _ _ rfl rfl ?_)
      | fail)
    refine (HPu.out _ H2.out).mono ?_
    rintro e w3 ⟨rfl, h3⟩
    have HR := Lib.hid (HG.out _ _ H2.out h3)
    clear h3
    go_wp2_with fail
    go_ret
    exact ⟨m, rfl, HR.out⟩
  · have HPu := Lib.hid (hPu e1)
    have HG := Lib.hid (hG _ (by rw [if_neg h0]))
    have hb0 : (t.2.1 == 0) = false := by rw [beq_eq_false_iff_ne]; exact h0
    clear hp hX h hw hL hn hz hbd hG ht hL1 he1 hm hPu h0 HF
    go_enter Tryz.func155, Tryz.ntmps155
    go_wp2_with fail
    rw [← HX.out, HP.out]
    refine HO.out.mono ?_
    rintro e w1 ⟨rfl, h1⟩
    have H1 := Lib.hid h1
    have HF1 := Lib.hid (HFl.out w1)
    unfold tkV
    clear h1
    go_wp2_with (first
      | (refine wpList_val (o := ⟨some 9, _, _, _, _, _⟩) rfl (.int .i64 t.2.1) w1 (run_field_op rfl rfl HF1.out) ?_)
      | fail)
    have H2 := Lib.hid H1.out
    go_wp2_with (first
      | (refine wpList_build (o := ⟨some 19, _, _, _, _, _⟩) rfl _ _ rfl rfl ?_)
      | fail)
    refine (HPu.out _ H2.out).mono ?_
    rintro e w3 ⟨rfl, h3⟩
    have HR := Lib.hid (HG.out _ _ H2.out h3)
    clear h3
    go_wp2_with fail
    go_ret
    exact ⟨m, rfl, HR.out⟩

end Go.Proofs.YtdabanocofimmaaGreatDoor
