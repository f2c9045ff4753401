/-
  expr.Tokens: the contract, by walks. Conditions: lengths; the world holds the library's tables (WOk) and what stands between sides.
-/
import Derived.Test.YtdabanocofimmaaGreatDoorJExTree
namespace Go.Proofs.YtdabanocofimmaaGreatDoor
open Go.RowKit
set_option linter.unusedVariables false

theorem run_loadfn_op {P : Program} {o : Oper} {ρ : Operand → Value} {w : World} {ty : TypeId} {x : Operand} {ad : Addr} {f : Fn} {a b : Array Value} (ho : o.op = .load ty x) (hx : ρ x = .pointer (some ad)) (ha : (isAgg ty).run P w = .ok false w) (hc : w.cell? ad = some (.func f a b)) : (execOp ρ o).run P w = .ok (.value (.func f a b)) w := by
  unfold execOp
  simp [ho, hx, Instr.loadAt, Instr.sureAddr, loadVar, ha, hc, go_sem]
theorem agg_tf (w : World) : (isAgg 50).run Tryz.prog w = .ok false w := by kernel_rfl
theorem agg_sf (w : World) : (isAgg 51).run Tryz.prog w = .ok false w := by kernel_rfl
theorem spell_q {e : Ex.X} {i q : Int} (hi : Itm.s i q ∈ spellI e) : 0 ≤ q := by
  have hb := ruleI_bd e.k
  unfold spellI at hi
  by_cases h1 : e.k = 1
  · rw [if_pos h1] at hi; exact absurd hi val_side
  rw [if_neg h1] at hi
  by_cases h2 : e.k = 2
  · rw [if_pos h2] at hi; simp at hi
  rw [if_neg h2] at hi
  by_cases h3 : e.k = 3
  · rw [if_pos h3] at hi; unfold propI at hi; simp at hi
  rw [if_neg h3] at hi
  by_cases h4 : e.k = 4
  · rw [if_pos h4] at hi; unfold propI at hi; simp at hi
  rw [if_neg h4] at hi
  by_cases h5 : e.k = 5
  · rw [if_pos h5] at hi; simp at hi; omega
  rw [if_neg h5] at hi
  by_cases h6 : e.k = 6
  · rw [if_pos h6] at hi; simp at hi; omega
  rw [if_neg h6] at hi
  by_cases h7 : e.k = 7
  · rw [if_pos h7] at hi; simp at hi; omega
  rw [if_neg h7] at hi
  unfold twoI leftI at hi
  simp at hi
  rcases hi with hi | hi
  · rw [hi.2]; split <;> omega
  · omega
theorem side_lt {row : List Ex.X} {p : Nat} {e : Ex.X} (hx : XRt row p e) {i : Int} (h : i ∈ sidesL e) : 0 ≤ i ∧ i < p := by
  have hk := hx.kd
  have hc : e.k ≤ 4 ∨ (5 ≤ e.k ∧ e.k ≤ 7) ∨ 8 ≤ e.k := by omega
  unfold sidesL at h
  rcases hc with hc | ⟨h5, h7⟩ | hc
  · rw [if_neg (by omega), if_neg (by unfold twoB; simp; omega)] at h; cases h
  · obtain ⟨q', hq', hqp, _⟩ := hx.un h5 h7
    rw [if_pos (by omega)] at h
    simp at h
    omega
  · obtain ⟨q', r', hq', hr', hqp, hrp, _⟩ := hx.bi hc
    rw [if_neg (by omega), if_pos (by unfold twoB; simp; omega)] at h
    simp at h
    omega
theorem spoken_num {k n : Int} {s : List UInt8} (h : spokenB k n s = true) : -1099511627776 ≤ n ∧ n ≤ 1099511627776 := by
  unfold spokenB at h
  by_cases h5 : k = 5
  · rw [if_pos h5] at h; cases h
  rw [if_neg h5] at h
  by_cases h4 : k = 4
  · rw [if_pos h4] at h; exact rightB_num (Bool.and_eq_true_iff.1 h).1
  · rw [if_neg h4] at h; exact rightB_num h
theorem rend_pre {row : List Ex.X} {l all : List Itm} (h : l <+: all) : (rendL row l).length ≤ (rendL row all).length := by
  obtain ⟨t, rfl⟩ := h
  unfold rendL
  rw [List.flatMap_append, List.length_append]
  omega
theorem rend_snoc (row : List Ex.X) (l : List Itm) (x : Itm) : rendL row (l ++ [x]) = rendL row l ++ rendI row x := by
  unfold rendL
  rw [List.flatMap_append]
  simp
/-- What the function of sides comes to, at a place. -/
def SideC (row : List Ex.X) (R br bt bs bl : Nat) (vr : Value) (p : Nat) : Prop :=
  ∀ (q : Int) (xs : List Lx.Tk) (w : World), 0 ≤ q → TokSt row R br bt bs bl vr xs w → xs.length + (Ex.atT (q.toNat + 1) (treeL row p)).length ≤ 1000000 →
    Calls Tryz.prog 25 #[.int .i64 (p : Int), .int .i64 q, .pointer (some ⟨br, 0, none⟩), .pointer (some ⟨bt, 0, none⟩), .pointer (some ⟨bs, 0, none⟩)] w fun r w' => r = .returned (.tuple #[]) ∧ TokSt row R br bt bs bl vr (xs ++ Ex.atT (q.toNat + 1) (treeL row p)) w' ∧ Fram (TSafe bl) w w'
theorem tk_spellC {row : List Ex.X} {R br bt bs bl : Nat} {vr : Value} {p : Nat} {e : Ex.X} (hr : rowB 0 row = true) (he : row[p]? = some e) (ys : List Lx.Tk) (hb : ys.length + (rendL row (spellI e)).length ≤ 1000000) (ih : ∀ i, i < p → SideC row R br bt bs bl vr i) :
    SpellC (fun l W => TokSt row R br bt bs bl vr (ys ++ rendL row l) W) (TSafe bl) 24 25 #[.pointer (some ⟨bl, 0, none⟩)] #[.pointer (some ⟨br, 0, none⟩), .pointer (some ⟨bt, 0, none⟩), .pointer (some ⟨bs, 0, none⟩)] (spellI e) := by
  have hx := row_rt hr he
  refine ⟨fun h hb => ⟨h.keep hb, (h.fram hb).1, (h.fram hb).2⟩, fun {l} x {w} h hp => ?_, fun {l} i q {w} h hp => ?_, EntF.two fun a b W => by go_simp, ?_, fun h => h.betw⟩
  · have hl := rend_pre (row := row) hp
    rw [rend_snoc] at hl ⊢
    rw [← List.append_assoc]
    exact tk1_any x h (by rw [List.length_append] at hl ⊢; simp only [rendI, List.length_singleton] at hl; omega)
  · have hm : Itm.s i q ∈ spellI e := hp.subset (List.mem_append_right _ (List.mem_singleton.2 rfl))
    obtain ⟨h0, h1⟩ := side_lt hx (spell_side hx.kd hm)
    obtain ⟨j, rfl⟩ := Int.eq_ofNat_of_zero_le h0
    have hl := rend_pre (row := row) hp
    rw [rend_snoc] at hl ⊢
    rw [← List.append_assoc]
    have hren : rendI row (.s (j : Int) q) = Ex.atT (q.toNat + 1) (treeL row j) := by
      show Ex.atT (q.toNat + 1) (treeL row (Int.toNat (j : Int))) = _
      rw [Int.toNat_natCast]
    rw [hren] at hl ⊢
    exact ih j (by omega) q _ w (spell_q hm) h (by rw [List.length_append] at hl ⊢; omega)
  · intro args W hs
    obtain ⟨la⟩ := args
    match la, hs with
    | [a, b, c, d, e], _ => go_simp

set_option maxRecDepth 100000 in
set_option maxHeartbeats 4000000 in
theorem tk2_any {row : List Ex.X} {R br bt bs bl : Nat} {vr : Value} (hr : rowB 0 row = true) (hn : row.length ≤ 1000000) (p : Nat) (hp : p < row.length) (ih : ∀ i, i < p → SideC row R br bt bs bl vr i) : SideC row R br bt bs bl vr p := by
  intro q xs w hq0 h hlen
  obtain ⟨e, he⟩ : ∃ e, row[p]? = some e := ⟨_, List.getElem?_eq_getElem hp⟩
  have hx := row_rt hr he
  have hlv := tree_lv hr he
  have hren := rend_spell hr he
  obtain ⟨Ar, cr, rfl, _, _⟩ := id h.sr
  obtain ⟨g, o, hA, hg, hrg⟩ := h.sr.x_at he
  obtain ⟨nr, hnr⟩ : ∃ n, row.length = n := ⟨_, rfl⟩
  have HAt := Lib.hid (fun W => at_X Ar g o cr nr p hA (by omega) W)
  rw [hnr] at h ih
  have HRg := Lib.hid (fun (W : World) (ys : List Lx.Tk) (hW : TokSt row R br bt bs bl (.slice Ar nr cr) ys W) => (show W.rangeAt g (o + p * 8) (encX e) by
    obtain ⟨g2, o2, hA2, _, hrg2⟩ := hW.sr.x_at he
    rw [hA] at hA2
    injection hA2 with hA2
    injection hA2 with e1 e2 _
    rw [e1, e2]
    exact hrg2))
  have hcE : w.cell? ⟨g, o + p * 8, none⟩ = some (.int .i64 e.k) := hrg 0 _ rfl
  have HBb := Lib.hid (fun W => ruleOf_any e.k W)
  have hkb := ruleI_bd e.k
  obtain ⟨S, hS⟩ : ∃ S, rendL row (spellI e) = S := ⟨_, rfl⟩
  rw [hS] at hren
  have hat : Ex.atT (q.toNat + 1) (treeL row p) = if ruleI e.k < q then Ex.sT [40] :: (S ++ [Ex.sT [41]]) else S := by
    unfold Ex.atT Ex.brT
    rw [← hren]
    by_cases hq : ruleI e.k < q
    · rw [if_pos hq, if_pos (by omega)]
    · rw [if_neg hq, if_neg (by omega)]
  rw [hat] at hlen ⊢
  have HSp := Lib.hid (fun (ys : List Lx.Tk) (hb : ys.length + S.length ≤ 1000000) (W : World) (hW : TokSt row R br bt bs bl (.slice Ar nr cr) ys W) =>
    (show Calls Tryz.prog 27 #[exV e, .func (.func 24) #[] #[.pointer (some ⟨bl, 0, none⟩)], .func (.func 25) #[] #[.pointer (some ⟨br, 0, none⟩), .pointer (some ⟨bt, 0, none⟩), .pointer (some ⟨bs, 0, none⟩)]] W fun r w' => r = .returned (.tuple #[]) ∧ TokSt row R br bt bs bl (.slice Ar nr cr) (ys ++ S) w' ∧ Fram (TSafe bl) W w' by
      have := spell_any (l0 := []) (w := W) e (tk_spellC hr he ys (by rw [hS]; exact hb) ih) (by show TokSt _ _ _ _ _ _ _ (ys ++ []) W; rw [List.append_nil]; exact hW) hx.kd (fun h1 => (spoken_num (hx.val h1).1).1) (by rw [List.nil_append]; exact List.prefix_rfl)
      refine this.mono fun r w' h2 => ⟨h2.1, ?_, h2.2.2⟩
      have h3 := h2.2.1
      rw [List.nil_append, hS] at h3
      exact h3))
  have H0 := Lib.hid h
  have cR : w.cell? ⟨br, 0, none⟩ = some (.slice Ar nr cr) := (Blk.cell h.r 0).trans rfl
  obtain ⟨k, vk, vn, vt, vv, pp, l, r⟩ := e
  dsimp only at hcE HBb hkb hlen hat ⊢
  unfold exV exC at HSp
  dsimp only at HSp
  rw [hnr]
  clear hr hn hp ih hx hlv hren hA hg hrg hnr hS hat h he
  by_cases hlt : ruleI k < q
  · rw [if_pos hlt] at hlen ⊢
    rw [List.length_cons, List.length_append, List.length_singleton] at hlen
    have HLn := Lib.hid hlen
    have hlt' : ¬ q ≤ ruleI k := by omega
    clear hlen hlt
    go_enter Tryz.func25, Tryz.ntmps25
    go_wp2_with (first
      | (refine wpList_val (o := ⟨some 9, _, _, _, _, _⟩) rfl (.pointer (some ⟨g, o + p * 8, none⟩)) w (run_indexAddr_op rfl rfl rfl (HAt.out w)) ?_)
      | fail)
    refine (HBb.out w).mono ?_
    rintro _ _ ⟨rfl, rfl⟩
    clear cR hcE
    go_upto_region 2 with fail
    refine wp_region_any (by kernel_rfl) ?_
    refine wpAny_last (fun iq uq wq => uq = ([.func (.func 24) #[] #[.pointer (some ⟨bl, 0, none⟩)], .agg #[.int .i64 5, .int .i64 0, .string ⟨#[40]⟩], undef] : List Value).getD iq undef) _ w 2 _ (fun _ wq => TokSt row R br bt bs bl (.slice Ar nr cr) (xs ++ [Ex.sT [40]]) wq ∧ Fram (TSafe bl) w wq) (by kernel_rfl) rfl (by kernel_rfl) (by kernel_rfl) (by kernel_rfl) (by kernel_rfl) (fun i v w w' _ h => h) ?_ ?_ ?_
    · refine ⟨?_, ?_, fun h => absurd h (Nat.lt_irrefl _), trivial⟩
      · intro _ a W hI hun haft hi
        have e3 : a.eval (.tmp 3) = .pointer (some ⟨bt, 0, none⟩) := hun 3 (by kernel_rfl)
        exact b_same hi hI rfl _ (run_loadfn_op rfl e3 (agg_tf W) ((Blk.cell (H0.out.keep hI).t 0).trans rfl)) rfl
      · intro _ a W hI hun haft hi
        refine b_call hi hI rfl _ _ (run_call_op (args := #[.string ⟨#[40]⟩]) rfl (by simp [Act.eval]) (by kernel_rfl)) ?_
        exact (mk_open W).mono fun e w' H => ⟨_, H.1, rfl, H.2⟩
    · intro vals a W hI hun hsl hp
      have f0 : a.eval (.tmp 22) = .func (.func 24) #[] #[.pointer (some ⟨bl, 0, none⟩)] := (hsl 0 _ _ rfl (by decide) rfl).trans (hp 0 (by decide))
      have f1 : a.eval (.tmp 23) = .agg #[.int .i64 5, .int .i64 0, .string ⟨#[40]⟩] := (hsl 1 _ _ rfl (by decide) rfl).trans (hp 1 (by decide))
      refine wpOp_enter rfl rfl _ _ (run_callv_op (args := #[.agg #[.int .i64 5, .int .i64 0, .string ⟨#[40]⟩]]) rfl f0 (by simp [f1]) rfl (by kernel_rfl)) ?_
      exact (tk1_any (Ex.sT [40]) (H0.out.keep hI) (by have := HLn.out; omega)).mono fun e w2 h => ⟨_, h.1, _, rfl, fun vals2 _ h8 => ⟨h.2.1, (H0.out.fram hI).1.trans h.2.2⟩⟩
    · intro vals w1 hK
      have H1 := Lib.hid hK
      clear hK
      simp only [layN, List.size_toArray, List.length_cons, List.length_nil, List.range, List.range.loop, if_true, List.getElem?_toArray, List.getElem?_cons_zero, List.getElem?_cons_succ, Act.put, List.setIfInBounds_toArray, List.set_cons_zero, List.set_cons_succ, Nat.zero_add, Nat.reduceAdd]
      (try simp only [Exit.then])
      have K1 := Lib.hid H1.out.1
      go_upto_region 3 with fail
      refine wp_region_any (by kernel_rfl) ?_
      refine wpAny_last (fun iq uq wq => uq = ([.slice Ar nr cr, .int .i64 (p : Int), .pointer (some ⟨g, o + p * 8, none⟩), .agg #[.int .i64 k, .int .i64 vk, .int .i64 vn, .string ⟨vt.toArray⟩, .string ⟨vv.toArray⟩, .string ⟨pp.toArray⟩, .int .i64 l, .int .i64 r], .func (.func 24) #[] #[.pointer (some ⟨bl, 0, none⟩)], .func (.func 25) #[] #[.pointer (some ⟨br, 0, none⟩), .pointer (some ⟨bt, 0, none⟩), .pointer (some ⟨bs, 0, none⟩)], undef] : List Value).getD iq undef) _ w1 6 _ (fun _ wq => TokSt row R br bt bs bl (.slice Ar nr cr) ((xs ++ [Ex.sT [40]]) ++ S) wq ∧ Fram (TSafe bl) w1 wq) (by kernel_rfl) rfl (by kernel_rfl) (by kernel_rfl) (by kernel_rfl) (by kernel_rfl) (fun i v w w' _ h => h) ?_ ?_ ?_
      · refine ⟨?_, ?_, ?_, ?_, ?_, ?_, fun h => absurd h (Nat.lt_irrefl _), trivial⟩
        · intro _ a W hI hun haft hi
          have e2 : a.eval (.tmp 2) = .pointer (some ⟨br, 0, none⟩) := hun 2 (by kernel_rfl)
          exact b_same hi hI rfl _ (run_loadsl_op rfl e2 Tryz.underlying22 ((Blk.cell (K1.out.keep hI).r 0).trans rfl)) rfl
        · intro _ a W hI hun haft hi
          have e0 : a.eval (.tmp 0) = .int .i64 (p : Int) := hun 0 (by kernel_rfl)
          exact b_same hi hI rfl _ (run_move_op rfl e0) rfl
        · intro _ a W hI hun haft hi
          have f0 : a.eval (.tmp 25) = .slice Ar nr cr := haft ⟨0, .data⟩ (by simp) rfl _ _ rfl rfl
          have f1 : a.eval (.tmp 26) = .int .i64 (p : Int) := haft ⟨1, .data⟩ (by simp) rfl _ _ rfl rfl
          exact b_same hi hI rfl _ (run_indexAddr_op rfl f0 f1 (HAt.out W)) rfl
        · intro _ a W hI hun haft hi
          have f2 : a.eval (.tmp 27) = .pointer (some ⟨g, o + p * 8, none⟩) := haft ⟨2, .data⟩ (by simp) rfl _ _ rfl rfl
          exact b_same hi hI rfl _ (run_loadmidT_op rfl f2 (HRg.out W _ (K1.out.keep hI)) Tryz.underlying49 rfl (by kernel_rfl)) rfl
        · intro _ a W hI hun haft hi
          have e3 : a.eval (.tmp 3) = .pointer (some ⟨bt, 0, none⟩) := hun 3 (by kernel_rfl)
          exact b_same hi hI rfl _ (run_loadfn_op rfl e3 (agg_tf W) ((Blk.cell (K1.out.keep hI).t 0).trans rfl)) rfl
        · intro _ a W hI hun haft hi
          have e4 : a.eval (.tmp 4) = .pointer (some ⟨bs, 0, none⟩) := hun 4 (by kernel_rfl)
          exact b_same hi hI rfl _ (run_loadfn_op rfl e4 (agg_sf W) ((Blk.cell (K1.out.keep hI).s 0).trans rfl)) rfl
      · intro vals a W hI hun hsl hp
        have f3 : a.eval (.tmp 28) = .agg #[.int .i64 k, .int .i64 vk, .int .i64 vn, .string ⟨vt.toArray⟩, .string ⟨vv.toArray⟩, .string ⟨pp.toArray⟩, .int .i64 l, .int .i64 r] := (hsl 3 _ _ rfl (by decide) rfl).trans (hp 3 (by decide))
        have f4 : a.eval (.tmp 29) = .func (.func 24) #[] #[.pointer (some ⟨bl, 0, none⟩)] := (hsl 4 _ _ rfl (by decide) rfl).trans (hp 4 (by decide))
        have f5 : a.eval (.tmp 30) = .func (.func 25) #[] #[.pointer (some ⟨br, 0, none⟩), .pointer (some ⟨bt, 0, none⟩), .pointer (some ⟨bs, 0, none⟩)] := (hsl 5 _ _ rfl (by decide) rfl).trans (hp 5 (by decide))
        refine wpOp_enter rfl rfl _ _ (run_call_op (args := #[.agg #[.int .i64 k, .int .i64 vk, .int .i64 vn, .string ⟨vt.toArray⟩, .string ⟨vv.toArray⟩, .string ⟨pp.toArray⟩, .int .i64 l, .int .i64 r], .func (.func 24) #[] #[.pointer (some ⟨bl, 0, none⟩)], .func (.func 25) #[] #[.pointer (some ⟨br, 0, none⟩), .pointer (some ⟨bt, 0, none⟩), .pointer (some ⟨bs, 0, none⟩)]]) rfl (by simp [f3, f4, f5]) (by kernel_rfl)) ?_
        exact (HSp.out (xs ++ [Ex.sT [40]]) (by have := HLn.out; rw [List.length_append, List.length_singleton]; omega) W (K1.out.keep hI)).mono fun e w2 h => ⟨_, h.1, _, rfl, fun vals2 _ h8 => ⟨h.2.1, (K1.out.fram hI).1.trans h.2.2⟩⟩
      · intro vals w2 hK
        have H2 := Lib.hid hK
        clear hK
        simp only [layN, List.size_toArray, List.length_cons, List.length_nil, List.range, List.range.loop, if_true, List.getElem?_toArray, List.getElem?_cons_zero, List.getElem?_cons_succ, Act.put, List.setIfInBounds_toArray, List.set_cons_zero, List.set_cons_succ, Nat.zero_add, Nat.reduceAdd]
        (try simp only [Exit.then])
        have K2 := Lib.hid H2.out.1
        go_upto_region 4 with fail
        refine wp_region_any (by kernel_rfl) ?_
        refine wpAny_last (fun iq uq wq => uq = ([.func (.func 24) #[] #[.pointer (some ⟨bl, 0, none⟩)], .agg #[.int .i64 5, .int .i64 0, .string ⟨#[41]⟩], undef] : List Value).getD iq undef) _ w2 2 _ (fun _ wq => TokSt row R br bt bs bl (.slice Ar nr cr) (((xs ++ [Ex.sT [40]]) ++ S) ++ [Ex.sT [41]]) wq ∧ Fram (TSafe bl) w2 wq) (by kernel_rfl) rfl (by kernel_rfl) (by kernel_rfl) (by kernel_rfl) (by kernel_rfl) (fun i v w w' _ h => h) ?_ ?_ ?_
        · refine ⟨?_, ?_, fun h => absurd h (Nat.lt_irrefl _), trivial⟩
          · intro _ a W hI hun haft hi
            have e3 : a.eval (.tmp 3) = .pointer (some ⟨bt, 0, none⟩) := hun 3 (by kernel_rfl)
            exact b_same hi hI rfl _ (run_loadfn_op rfl e3 (agg_tf W) ((Blk.cell (K2.out.keep hI).t 0).trans rfl)) rfl
          · intro _ a W hI hun haft hi
            refine b_call hi hI rfl _ _ (run_call_op (args := #[.string ⟨#[41]⟩]) rfl (by simp [Act.eval]) (by kernel_rfl)) ?_
            exact (mk_shut W).mono fun e w' H => ⟨_, H.1, rfl, H.2⟩
        · intro vals a W hI hun hsl hp
          have f0 : a.eval (.tmp 32) = .func (.func 24) #[] #[.pointer (some ⟨bl, 0, none⟩)] := (hsl 0 _ _ rfl (by decide) rfl).trans (hp 0 (by decide))
          have f1 : a.eval (.tmp 33) = .agg #[.int .i64 5, .int .i64 0, .string ⟨#[41]⟩] := (hsl 1 _ _ rfl (by decide) rfl).trans (hp 1 (by decide))
          refine wpOp_enter rfl rfl _ _ (run_callv_op (args := #[.agg #[.int .i64 5, .int .i64 0, .string ⟨#[41]⟩]]) rfl f0 (by simp [f1]) rfl (by kernel_rfl)) ?_
          exact (tk1_any (Ex.sT [41]) (K2.out.keep hI) (by have := HLn.out; simp only [List.length_append, List.length_singleton]; omega)).mono fun e w2 h => ⟨_, h.1, _, rfl, fun vals2 _ h8 => ⟨h.2.1, (K2.out.fram hI).1.trans h.2.2⟩⟩
        · intro vals w3 hK
          have H3 := Lib.hid hK
          clear hK
          simp only [layN, List.size_toArray, List.length_cons, List.length_nil, List.range, List.range.loop, if_true, List.getElem?_toArray, List.getElem?_cons_zero, List.getElem?_cons_succ, Act.put, List.setIfInBounds_toArray, List.set_cons_zero, List.set_cons_succ, Nat.zero_add, Nat.reduceAdd]
          (try simp only [Exit.then])
          have HF := Lib.hid (show TokSt row R br bt bs bl (.slice Ar nr cr) (xs ++ Ex.sT [40] :: (S ++ [Ex.sT [41]])) w3 ∧ Fram (TSafe bl) w w3 from
            ⟨by have := H3.out.1; rwa [show xs ++ Ex.sT [40] :: (S ++ [Ex.sT [41]]) = ((xs ++ [Ex.sT [40]]) ++ S) ++ [Ex.sT [41]] by simp], (H1.out.2.trans H2.out.2).trans H3.out.2⟩)
          go_wp2_with fail
          go_end0
          exact ⟨rfl, HF.out⟩
  · rw [if_neg hlt] at hlen ⊢
    have HLn := Lib.hid hlen
    have hlt' : q ≤ ruleI k := by omega
    clear hlen hlt
    go_enter Tryz.func25, Tryz.ntmps25
    go_wp2_with (first
      | (refine wpList_val (o := ⟨some 9, _, _, _, _, _⟩) rfl (.pointer (some ⟨g, o + p * 8, none⟩)) w (run_indexAddr_op rfl rfl rfl (HAt.out w)) ?_)
      | fail)
    refine (HBb.out w).mono ?_
    rintro _ _ ⟨rfl, rfl⟩
    clear cR hcE
    go_upto_region 1 with fail
    refine wp_region_any (by kernel_rfl) ?_
    refine wpAny_last (fun iq uq wq => uq = ([.slice Ar nr cr, .int .i64 (p : Int), .pointer (some ⟨g, o + p * 8, none⟩), .agg #[.int .i64 k, .int .i64 vk, .int .i64 vn, .string ⟨vt.toArray⟩, .string ⟨vv.toArray⟩, .string ⟨pp.toArray⟩, .int .i64 l, .int .i64 r], .func (.func 24) #[] #[.pointer (some ⟨bl, 0, none⟩)], .func (.func 25) #[] #[.pointer (some ⟨br, 0, none⟩), .pointer (some ⟨bt, 0, none⟩), .pointer (some ⟨bs, 0, none⟩)], undef] : List Value).getD iq undef) _ w 6 _ (fun _ wq => TokSt row R br bt bs bl (.slice Ar nr cr) (xs ++ S) wq ∧ Fram (TSafe bl) w wq) (by kernel_rfl) rfl (by kernel_rfl) (by kernel_rfl) (by kernel_rfl) (by kernel_rfl) (fun i v w w' _ h => h) ?_ ?_ ?_
    · refine ⟨?_, ?_, ?_, ?_, ?_, ?_, fun h => absurd h (Nat.lt_irrefl _), trivial⟩
      · intro _ a W hI hun haft hi
        have e2 : a.eval (.tmp 2) = .pointer (some ⟨br, 0, none⟩) := hun 2 (by kernel_rfl)
        exact b_same hi hI rfl _ (run_loadsl_op rfl e2 Tryz.underlying22 ((Blk.cell (H0.out.keep hI).r 0).trans rfl)) rfl
      · intro _ a W hI hun haft hi
        have e0 : a.eval (.tmp 0) = .int .i64 (p : Int) := hun 0 (by kernel_rfl)
        exact b_same hi hI rfl _ (run_move_op rfl e0) rfl
      · intro _ a W hI hun haft hi
        have f0 : a.eval (.tmp 15) = .slice Ar nr cr := haft ⟨0, .data⟩ (by simp) rfl _ _ rfl rfl
        have f1 : a.eval (.tmp 16) = .int .i64 (p : Int) := haft ⟨1, .data⟩ (by simp) rfl _ _ rfl rfl
        exact b_same hi hI rfl _ (run_indexAddr_op rfl f0 f1 (HAt.out W)) rfl
      · intro _ a W hI hun haft hi
        have f2 : a.eval (.tmp 17) = .pointer (some ⟨g, o + p * 8, none⟩) := haft ⟨2, .data⟩ (by simp) rfl _ _ rfl rfl
        exact b_same hi hI rfl _ (run_loadmidT_op rfl f2 (HRg.out W _ (H0.out.keep hI)) Tryz.underlying49 rfl (by kernel_rfl)) rfl
      · intro _ a W hI hun haft hi
        have e3 : a.eval (.tmp 3) = .pointer (some ⟨bt, 0, none⟩) := hun 3 (by kernel_rfl)
        exact b_same hi hI rfl _ (run_loadfn_op rfl e3 (agg_tf W) ((Blk.cell (H0.out.keep hI).t 0).trans rfl)) rfl
      · intro _ a W hI hun haft hi
        have e4 : a.eval (.tmp 4) = .pointer (some ⟨bs, 0, none⟩) := hun 4 (by kernel_rfl)
        exact b_same hi hI rfl _ (run_loadfn_op rfl e4 (agg_sf W) ((Blk.cell (H0.out.keep hI).s 0).trans rfl)) rfl
    · intro vals a W hI hun hsl hp
      have f3 : a.eval (.tmp 18) = .agg #[.int .i64 k, .int .i64 vk, .int .i64 vn, .string ⟨vt.toArray⟩, .string ⟨vv.toArray⟩, .string ⟨pp.toArray⟩, .int .i64 l, .int .i64 r] := (hsl 3 _ _ rfl (by decide) rfl).trans (hp 3 (by decide))
      have f4 : a.eval (.tmp 19) = .func (.func 24) #[] #[.pointer (some ⟨bl, 0, none⟩)] := (hsl 4 _ _ rfl (by decide) rfl).trans (hp 4 (by decide))
      have f5 : a.eval (.tmp 20) = .func (.func 25) #[] #[.pointer (some ⟨br, 0, none⟩), .pointer (some ⟨bt, 0, none⟩), .pointer (some ⟨bs, 0, none⟩)] := (hsl 5 _ _ rfl (by decide) rfl).trans (hp 5 (by decide))
      refine wpOp_enter rfl rfl _ _ (run_call_op (args := #[.agg #[.int .i64 k, .int .i64 vk, .int .i64 vn, .string ⟨vt.toArray⟩, .string ⟨vv.toArray⟩, .string ⟨pp.toArray⟩, .int .i64 l, .int .i64 r], .func (.func 24) #[] #[.pointer (some ⟨bl, 0, none⟩)], .func (.func 25) #[] #[.pointer (some ⟨br, 0, none⟩), .pointer (some ⟨bt, 0, none⟩), .pointer (some ⟨bs, 0, none⟩)]]) rfl (by simp [f3, f4, f5]) (by kernel_rfl)) ?_
      exact (HSp.out xs HLn.out W (H0.out.keep hI)).mono fun e w2 h => ⟨_, h.1, _, rfl, fun vals2 _ h8 => ⟨h.2.1, (H0.out.fram hI).1.trans h.2.2⟩⟩
    · intro vals w1 hK
      have H1 := Lib.hid hK
      clear hK
      simp only [layN, List.size_toArray, List.length_cons, List.length_nil, List.range, List.range.loop, if_true, List.getElem?_toArray, List.getElem?_cons_zero, List.getElem?_cons_succ, Act.put, List.setIfInBounds_toArray, List.set_cons_zero, List.set_cons_succ, Nat.zero_add, Nat.reduceAdd]
      (try simp only [Exit.then])
      go_wp2_with fail
      refine bodyPost_ret (results_none rfl _ _ _) rfl ?_
      exact ⟨rfl, H1.out⟩

end Go.Proofs.YtdabanocofimmaaGreatDoor
