/-
  (*expr.reader).pair: the contract, by a walk. Conditions: lengths; the world holds the library's tables (WOk) and what stands between sides.
-/
import Derived.Test.YtdabanocofimmaaGreatDoorJExPut
namespace Go.Proofs.YtdabanocofimmaaGreatDoor
open Go.RowKit

/-- What stands between the sides of each kind lies in its array. -/
def BetwIs (w : World) : Prop := 0 < w.heap.size ∧ ∀ k : Nat, k < 19 → w.cell? ⟨0, k, none⟩ = some (.string ⟨(Ex.betw k).toArray⟩)
theorem at_reader0 (g q : Nat) (w : World) : (Instr.fieldAt 69 (.pointer (some ⟨g, q, none⟩)) 0).run Tryz.prog w = .ok (.pointer (some ⟨g, q, none⟩)) w := by go_simp
theorem at_betw (k : Nat) (h : k < 19) (w : World) : (Instr.indexAt 76 (.pointer (some ⟨0, 0, none⟩)) (.int .i64 k)).run Tryz.prog w = .ok (.pointer (some ⟨0, k, none⟩)) w := by
  have h2 : (k : Int) < 19 := by omega
  go_simp
theorem at_I (g o c n i : Nat) (h : i < n) (w : World) : (Instr.indexAt 57 (.slice (some ⟨g, o, none⟩) n c) (.int .i64 i)).run Tryz.prog w = .ok (.pointer (some ⟨g, o + i, none⟩)) w := by
  have h2 : (i : Int) < n := by omega
  go_simp
theorem Est.move {w0 w w' : World} {b : Nat} {v : Value} {L L2 : List Lx.Tk} {er er2 : Int} {row : List Ex.X} {d : Nat} (h : Est w0 b w v L er row d) (k : RdTo w0 b 69 [v, .int .i64 d] w L2 er2 w') : Est w0 b w' v L2 er2 row d :=
  ⟨k.1, h.own.same fun g hg => k.2.block g (h.own.lt g hg).2 (fun e => h.apart (by injection e with e; rw [hg, e])), h.apart⟩
theorem tkOk_takes (L : List Lx.Tk) (s : List UInt8) : Ex.takesL s L = if tkOk 0 L s = true then some L.tail else none := by
  cases L with
  | nil => rfl
  | cons t r => rw [takes_is]; rfl
theorem tkOk_err {er : Int} (h : er ≠ 0) (L : List Lx.Tk) (s : List UInt8) : tkOk er L s = false := by
  unfold tkOk headB
  rw [if_neg h]
  rfl
/-- What pair comes to. -/
def PairTo (F : Ex.P) (ks : List Int) (w0 : World) (b : Nat) (w : World) (v : Value) (L : List Lx.Tk) (er : Int) (row : List Ex.X) (d : Nat) (left place : Nat) (more : Bool) (w' : World) : Prop :=
  ∃ L2 er2 row2, EstTo w0 b w v L2 er2 row2 d w' ∧ TkSm L2 ∧
    (more = false → place = left ∧ L2 = L ∧ er2 = er ∧ row2 = row ∧ (er = 0 → Ex.pickL ks L = none)) ∧
    (more = true → er = 0 ∧ row2.length + 2 * L2.length ≤ row.length + 2 * L.length ∧ L2.length < L.length ∧ ∃ k L1, Ex.pickL ks L = some (k, L1) ∧
      match F d L1 row with | .ok (q, L3, row3) => er2 = 0 ∧ place = row3.length ∧ L2 = L3 ∧ row2 = row3 ++ [Ex.biE k left q] | .error e => er2 = e ∧ e ≠ 0)

set_option maxRecDepth 100000 in
set_option maxHeartbeats 6000000 in
theorem pair_any {w0 w : World} {b : Nat} {v : Value} {L : List Lx.Tk} {er : Int} {row : List Ex.X} {d K : Nat} (left : Nat) (f : FuncId) (F : Ex.P) (hq : Ent b f) (hF : RuleC w0 b f F K) (ks : List Int) (g o n c : Nat) (hks : ks.length = n) (hn2 : n ≤ 100) (hkr : ∀ k ∈ ks, 0 ≤ k ∧ k < 19)
    (hg : g < w.heap.size) (hgb : g ≠ b) (hgv : some g ≠ v.ownBlock) (hc : ∀ j, j < ks.length → w.cell? ⟨g, o + j, none⟩ = some (.int .i64 (ks.getD j 0)))
    (h : Est w0 b w v L er row d) (hw : WOk w0) (hB : BetwIs w0) (hL : TkSm L) (hn : row.length + 2 * L.length + 1 ≤ 1000000) (hK : L.length ≤ K + 1) (hd : d ≤ 64) :
    Calls Tryz.prog 91 #[.pointer (some ⟨b, 0, none⟩), .int .i64 left, ruleV b f, .slice (some ⟨g, o, none⟩) n c] w fun r w' => ∃ (place : Nat) (more : Bool), r = .returned (.tuple #[.int .i64 place, .bool more]) ∧ PairTo F ks w0 b w v L er row d left place more w' := by
  have HH := Lib.hid h
  have HF := Lib.hid hF
  have HQ := Lib.hid hq
  have HW := Lib.hid hw
  have HBw := Lib.hid hB
  have HL := Lib.hid hL
  have HN := Lib.hid hn
  have HKk := Lib.hid hK
  have HD := Lib.hid hd
  have HC := Lib.hid hc
  have HKs := Lib.hid hks
  have HKr := Lib.hid hkr
  have HN2 := Lib.hid hn2
  have HG := Lib.hid (And.intro hg (And.intro hgb hgv))
  clear h hF hq hw hB hL hn hK hd hc hks hkr hg hgb hgv hn2
  unfold ruleV
  go_enter Tryz.func91, Tryz.ntmps91
  go_wp2_with fail
  go_loopw [15] (fun v15 wr => ∃ i : Nat, v15 = .int .i64 i ∧ i ≤ n ∧ RdTo w0 b 69 [v, .int .i64 d] w L er wr ∧ (er = 0 → Ex.pickL ks L = Ex.pickL (ks.drop i) L)) (fun v15 _ => n - (intOf v15).toNat)
  case atStart => exact ⟨0, rfl, Nat.zero_le _, HH.out.rd.refl, fun _ => rfl⟩
  case round =>
    obtain ⟨i, rfl, hi, hr, hpk⟩ := hrel
    have HR := Lib.hid hr
    have HI := Lib.hid hi
    have HPk := Lib.hid hpk
    clear hr hpk
    by_cases hlt : i < n
    · have hlt2 : (i : Int) < n := by omega
      have HAt := Lib.hid (at_I g o c n i hlt wr)
      have hki : i < ks.length := by have := HKs.out; omega
      obtain ⟨kk, hkk⟩ : ∃ kk, ks.getD i 0 = kk := ⟨_, rfl⟩
      have hdrop : ks.drop i = kk :: ks.drop (i + 1) := by
        rw [List.drop_eq_getElem_cons hki, ← hkk, List.getD_eq_getElem?_getD, List.getElem?_eq_getElem hki]
        rfl
      have hkr : 0 ≤ kk ∧ kk < 19 := HKr.out kk (by
        rw [← hkk, List.getD_eq_getElem?_getD, List.getElem?_eq_getElem hki]
        exact List.getElem_mem hki)
      obtain ⟨kn, rfl⟩ := Int.eq_ofNat_of_zero_le hkr.1
      have HKn := Lib.hid (show kn < 19 by have := hkr.2; omega)
      have HDr := Lib.hid hdrop
      have cK : wr.cell? ⟨g, o + i, none⟩ = some (.int .i64 (kn : Int)) := by
        rw [← hkk, ← HC.out i hki]
        exact World.cell?_of_block (HR.out.2.block g HG.out.1 (fun e => HG.out.2.1 (by injection e)))
      obtain ⟨S, hS⟩ : ∃ S : ByteArray, S = ⟨(Ex.betw (kn : Int)).toArray⟩ := ⟨_, rfl⟩
      have hE := HH.out.move HR.out
      have HB := Lib.hid (show ∀ W, Below wr.heap.size wr W → W.cell? ⟨0, kn, none⟩ = some (.string S) from fun W hW => by
        rw [hS, ← HBw.out.2 kn HKn.out]
        exact World.cell?_of_block ((hW.block _ (Nat.lt_of_lt_of_le HBw.out.1 hE.rd.2.size)).trans (hE.rd.2.block _ HBw.out.1)))
      obtain ⟨k, hk⟩ : ∃ k, tkOk er L S.data.toList = k := ⟨_, rfl⟩
      obtain ⟨L2, hL2⟩ : ∃ L2, takeS er L S.data.toList = L2 := ⟨_, rfl⟩
      have HT := Lib.hid (show ∀ W, Below wr.heap.size wr W → Calls Tryz.prog 104 #[.pointer (some ⟨b, 0, none⟩), .string S] W fun e w' => e = .returned (.bool k) ∧ RdTo w0 b 69 [v, .int .i64 d] wr L2 er w' from fun W hW => by
        have h1 := hE.rd.keep hW
        have h2 := takes_st S h1.1 HW.out HL.out
        rw [hk, hL2] at h2
        exact h2.mono fun e w' h3 => ⟨h3.1, h1.trans h3.2⟩)
      have HS := Lib.hid (show S.data.toList = Ex.betw (kn : Int) by rw [hS])
      have HK1 := Lib.hid hk
      have HL2 := Lib.hid hL2
      clear hki hkk hdrop hkr hE hS hk hL2 hi
      go_upto_region 4 with (first
        | (refine wpList_val (o := ⟨some 17, _, _, _, _, _⟩) rfl (.pointer (some ⟨g, o + i, none⟩)) wr (run_indexAddr_op rfl rfl rfl HAt.out) ?_)
        | fail)
      refine wp_region_any (by kernel_rfl) ?_
      refine wpAny_last (fun iq uq wq => uq = ([.pointer (some ⟨b, 0, none⟩), .pointer (some ⟨b, 0, none⟩), .pointer (some ⟨b, 0, none⟩), .int .i64 (kn : Int), .pointer (some ⟨0, kn, none⟩), .string S, undef] : List Value).getD iq undef) _ wr 6 _ (fun vals W => vals 6 = .bool k ∧ RdTo w0 b 69 [v, .int .i64 d] wr L2 er W) (by kernel_rfl) rfl (by kernel_rfl) (by kernel_rfl) (by kernel_rfl) (by kernel_rfl) (fun i v w w' _ h => h) ?_ ?_ ?_
      · refine ⟨?_, ?_, ?_, ?_, ?_, ?_, fun h => absurd h (Nat.lt_irrefl _), trivial⟩
        · intro _ a W hI hun haft hi
          have e0 : a.eval (.tmp 0) = .pointer (some ⟨b, 0, none⟩) := hun 0 (by kernel_rfl)
          exact b_same hi hI rfl _ (run_move_op rfl e0) rfl
        · intro _ a W hI hun haft hi
          have f0 : a.eval (.tmp 19) = .pointer (some ⟨b, 0, none⟩) := haft ⟨0, .data⟩ (by simp) rfl _ _ rfl rfl
          exact b_same hi hI rfl _ (run_nilCheck_op rfl f0) rfl
        · intro _ a W hI hun haft hi
          have f1 : a.eval (.tmp 20) = .pointer (some ⟨b, 0, none⟩) := haft ⟨1, .data⟩ (by simp) rfl _ _ rfl rfl
          exact b_same hi hI rfl _ (run_fieldAddr_any rfl f1 (at_reader0 _ 0 _)) rfl
        · intro _ a W hI hun haft hi
          have e11 : a.eval (.tmp 11) = .int .i64 (kn : Int) := hun 11 (by kernel_rfl)
          exact b_same hi hI rfl _ (run_move_op rfl e11) rfl
        · intro _ a W hI hun haft hi
          have f3 : a.eval (.tmp 22) = .int .i64 (kn : Int) := haft ⟨3, .data⟩ (by simp) rfl _ _ rfl rfl
          exact b_same hi hI rfl _ (run_indexAddr_op rfl rfl f3 (at_betw kn HKn.out W)) rfl
        · intro _ a W hI hun haft hi
          have f4 : a.eval (.tmp 23) = .pointer (some ⟨0, kn, none⟩) := haft ⟨4, .data⟩ (by simp) rfl _ _ rfl rfl
          exact b_same hi hI rfl _ (run_loadstr_op rfl f4 Tryz.underlying9 (HB.out W hI)) rfl
      · intro vals a W hI hun hsl hp
        have f2 : a.eval (.tmp 21) = .pointer (some ⟨b, 0, none⟩) := (hsl 2 _ _ rfl (by decide) rfl).trans (hp 2 (by decide))
        have f5 : a.eval (.tmp 24) = .string S := (hsl 5 _ _ rfl (by decide) rfl).trans (hp 5 (by decide))
        have h6 := HT.out W hI
        refine wpOp_enter rfl rfl _ _ (run_call_op (args := #[.pointer (some ⟨b, 0, none⟩), .string S]) rfl (by simp [f2, f5]) (by kernel_rfl)) (h6.mono fun e w2 h7 => ⟨_, h7.1, _, rfl, fun vals2 _ h8 => ⟨h8, h7.2⟩⟩)
      · intro vals W hK
        have HK := Lib.hid hK
        clear hK
        simp only [layN, List.size_toArray, List.length_cons, List.length_nil, List.range, List.range.loop, if_true, List.getElem?_toArray, List.getElem?_cons_zero, List.getElem?_cons_succ, Act.put, List.setIfInBounds_toArray, List.set_cons_zero, List.set_cons_succ, Nat.zero_add, Nat.reduceAdd]
        have HJ := Lib.hid HK.out.2
        have hv6 : vals 6 = .bool k := HK.out.1
        rw [hv6]
        clear HK hv6 HT HB cK HAt
        (try simp only [Exit.then])
        cases k
        · have hLL : L2 = L := by
            rw [← HL2.out]
            unfold takeS
            rw [HK1.out]
            rfl
          subst hLL
          have hnn := HN2.out
          go_wp2_with fail
          go_roundw
          case rel =>
            refine ⟨i + 1, by go_num, by omega, HR.out.trans HJ.out, fun e0 => ?_⟩
            rw [HPk.out e0, HDr.out]
            have ht := tkOk_takes L2 (Ex.betw (kn : Int))
            rw [← HS.out] at ht
            rw [show tkOk 0 L2 S.data.toList = false by rw [← e0]; exact HK1.out] at ht
            show (match Ex.takesL (Ex.betw (kn : Int)) L2 with | some l1 => some ((kn : Int), l1) | none => Ex.pickL (ks.drop (i + 1)) L2) = _
            rw [← HS.out, ht]
            rfl
          case measure => simp [intOf] <;> omega
        · have he0 : er = 0 := Classical.byContradiction fun e => by
            have := HK1.out
            rw [tkOk_err e] at this
            cases this
          subst he0
          have hL2 : L2 = L.tail := by
            rw [← HL2.out]
            unfold takeS
            rw [HK1.out]
            rfl
          have hLp : 0 < L.length := headB_pos (er := 0) (by
            have := HK1.out
            unfold tkOk at this
            exact (Bool.and_eq_true_iff.1 this).1)
          have hlen : L2.length + 1 = L.length := by rw [hL2, List.length_tail]; omega
          have hsm : TkSm L2 := by rw [hL2]; exact fun t ht => HL.out t (List.mem_of_mem_tail ht)
          have hest := HH.out.move (HR.out.trans HJ.out)
          have hfr : Fr b v v w W := .of_but (HR.out.trans HJ.out).2
          have HRu := Lib.hid (HF.out W v L2 0 row d hest hsm (by have := HN.out; omega) (by have := HKk.out; omega) HD.out)
          have hpick : Ex.pickL ks L = some ((kn : Int), L2) := by
            rw [HPk.out rfl, HDr.out]
            have ht := tkOk_takes L (Ex.betw (kn : Int))
            rw [← HS.out, HK1.out] at ht
            show (match Ex.takesL (Ex.betw (kn : Int)) L with | some l1 => some ((kn : Int), l1) | none => Ex.pickL (ks.drop (i + 1)) L) = _
            rw [← HS.out, ht, hL2]
            rfl
          have HPi := Lib.hid hpick
          have HLen := Lib.hid hlen
          have HFr := Lib.hid hfr
          clear hL2 hLp hlen hsm hest hfr hpick HR HJ
          go_wp2_with fail
          rw [HQ.out, Oper.upon_enter]
          refine HRu.out.mono ?_
          rintro e w2 ⟨pl, rfl, L3, er3, row3, ⟨v3, k1, k2⟩, k3, k4, k5, k6, k7⟩
          have hP := put_any (Ex.biE (kn : Int) left pl) k1 (by have := HN.out; have := HLen.out; omega)
          have HRes := Lib.hid (k7 rfl)
          have HBd := Lib.hid (And.intro k3 (And.intro k4 k5))
          have HF2 := Lib.hid (HFr.out.trans k2)
          unfold exV exC Ex.biE at hP
          dsimp only at hP
          obtain ⟨m, hm⟩ : ∃ m, row3.length = m := ⟨_, rfl⟩
          rw [hm] at hP
          have HM := Lib.hid hm
          have HPu := Lib.hid hP
          clear k1 k2 k3 k4 k5 k6 k7 hP hm
          go_wp2_with (first
            | (refine wpList_build (o := ⟨some 32, _, _, _, _, _⟩) rfl _ _ rfl rfl ?_)
            | fail)
          refine HPu.out.mono ?_
          rintro e w3 ⟨rfl, k1⟩
          have HT := Lib.hid (EstTo.trans HF2.out k1)
          clear k1
          go_wp2_with fail
          go_ret2
          refine ⟨m, true, rfl, L3, er3, _, HT.out, HBd.out.2.2, (fun e => by cases e), fun _ => ⟨rfl, ?_, by have := HLen.out; have := HBd.out.2.1; omega, _, _, HPi.out, ?_⟩⟩
          · rw [List.length_append, List.length_singleton]
            have := HLen.out; have := HBd.out.1; omega
          · have := HRes.out
            cases hF : F d L2 row with
            | error e => rw [hF] at this; exact this
            | ok q =>
              obtain ⟨q, L4, row4⟩ := q
              rw [hF] at this
              obtain ⟨e1, e2, e3, e4⟩ := this
              subst e2 e3 e4
              exact ⟨e1, HM.out.symm, rfl, rfl⟩
    · have hin : i = n := by have := HI.out; omega
      subst hin
      have HT := Lib.hid (show PairTo F ks w0 b w v L er row d left left false wr from ⟨L, er, row, HH.out.to HR.out, HL.out, (fun _ => ⟨rfl, rfl, rfl, rfl, fun e => by
        rw [HPk.out e, List.drop_eq_nil_of_le (by have := HKs.out; omega)]
        rfl⟩), fun e => by cases e⟩)
      clear hi
      go_wp2_with fail
      go_ret2
      exact ⟨left, false, rfl, HT.out⟩

end Go.Proofs.YtdabanocofimmaaGreatDoor
