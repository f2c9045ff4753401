/-
  All rules of the grammar: the contracts, by induction on the tokens that are left. expr.Parse: the contract, by a walk. Conditions: lengths.
-/
import Derived.Test.YtdabanocofimmaaGreatDoorExPrim
namespace Go.Proofs.YtdabanocofimmaaGreatDoor
open Go.RowKit

theorem step_all {w0 : World} {b K : Nat} (q : Ex.P × Ex.P) (hw : WOk w0) (hB : BetwIs w0) (hO : ∀ K2, K2 + 1 = K → RuleC w0 b 40 q.1 K2) (hN : ∀ K2, K2 + 1 = K → RuleC w0 b 92 q.2 K2) :
    RuleC w0 b 40 (Ex.orO q) K ∧ RuleC w0 b 92 (Ex.notO q) K := by
  have hp := prim_rule q.1 hO hw
  have hm := mul_rule (Ex.primO q) hp hw hB
  have ha := add_rule (Ex.mulO q) hm hw hB
  have hc := cmp_rule (Ex.addO q) ha hw hB
  have hn := not_rule q.2 (Ex.cmpO q) hN hc hw
  have hd := and_rule (Ex.notO q) hn hw hB
  exact ⟨or_rule (Ex.andO q) hd hw hB, hn⟩
theorem rules_all {w0 : World} {b : Nat} (hw : WOk w0) (hB : BetwIs w0) : ∀ K n : Nat, K ≤ n → RuleC w0 b 40 (Ex.orO (Ex.toF n)) K ∧ RuleC w0 b 92 (Ex.notO (Ex.toF n)) K
  | 0, n, _ => step_all _ hw hB (fun K2 h => absurd h (Nat.succ_ne_zero _)) (fun K2 h => absurd h (Nat.succ_ne_zero _))
  | K + 1, n, h => by
    obtain ⟨n', rfl⟩ : ∃ n', n = n' + 1 := ⟨n - 1, by omega⟩
    have ih := rules_all (b := b) hw hB K n' (by omega)
    refine step_all _ hw hB (fun K2 hk => ?_) (fun K2 hk => ?_)
    · have e : K2 = K := by omega
      subst e
      exact ih.1
    · have e : K2 = K := by omega
      subst e
      exact ih.2

set_option maxRecDepth 100000 in
set_option maxHeartbeats 1000000 in
theorem cloneX_any (l : List Ex.X) (v : Value) (w : World) (hs : SlK encX 8 w v l) (hn : l.length ≤ 1000000) :
    Calls Tryz.prog 39 #[v] w fun e w' => ∃ u, e = .returned u ∧ OwnK encX w.heap.size 49 8 w' u l ∧ Below w.heap.size w w' := by
  obtain ⟨A, c, rfl, hlc, hx⟩ := hs
  have hs : SlK encX 8 w (.slice A l.length c) l := ⟨A, c, rfl, hlc, hx⟩
  obtain ⟨n, hn2⟩ : ∃ n, l.length = n := ⟨_, rfl⟩
  have hnil := fun n c => Lib.run_eql_slice_nil (P := Tryz.prog) w 22 49 A n c 0 0 Tryz.underlying22
  cases A with
  | none =>
    have hl : l = [] := Classical.byContradiction fun e => by obtain ⟨b, o, h, _⟩ := hx e; cases h
    subst hl
    simp only [List.length_nil] at hn2 hnil ⊢
    clear hs hn hlc hx hn2
    go_enter Tryz.func39, Tryz.ntmps39
    go_wp2_with (first
      | (refine wpList_val (o := ⟨some 4, _, _, _, _, _⟩) rfl (.bool true) w (run_bin_op rfl rfl rfl (by kernel_rfl) (hnil _ _)) ?_)
      | fail)
    go_ret
    exact ⟨_, rfl, OwnK.nil_ _ _ _ _ _, Below.refl _ _⟩
  | some ad =>
    rw [hn2] at hs ⊢
    have hba : Below w.heap.size w (w.alloc (.cells #[] 49)) := (Below.refl _ _).alloc (Nat.le_refl _) _
    have hem : OwnK encX w.heap.size 49 8 (w.alloc (.cells #[] 49)) (.slice (some ⟨w.heap.size, 0, none⟩) 0 0) [] := ⟨by simp, .inr ⟨w.heap.size, 0, #[], rfl, Nat.le_refl _, heap_alloc_new w _, Nat.le_refl _, Nat.zero_le _, by simp, by simp⟩⟩
    obtain ⟨v', w2, hr, ho, hg, _⟩ := append_x w.heap.size (w.alloc (.cells #[] 49)) _ [] hem _ l (hs.below hba) (by simp only [List.length_nil, Nat.zero_add]; omega) hba.size
    rw [List.nil_append] at ho
    have HA := Lib.hid hr
    have HO := Lib.hid ho
    have HB := Lib.hid (show Below w.heap.size w w2 from hba.grown hg hba.size (by intro k hk; simp [Value.ownBlock] at hk; omega))
    clear hs hn hlc hx hba hem hr ho hg hn2
    go_enter Tryz.func39, Tryz.ntmps39
    go_wp2_with (first
      | (refine wpList_val (o := ⟨some 4, _, _, _, _, _⟩) rfl (.bool false) w (run_bin_op rfl rfl rfl (by kernel_rfl) (hnil n c)) ?_)
      | (refine wpList_val (o := ⟨some 5, _, _, _, _, _⟩) rfl (.slice (some ⟨w.heap.size, 0, none⟩) 0 0) (w.alloc (.cells #[] 49)) (run_buildSlice_op (vs := #[]) rfl (by simp only [List.map_toArray, List.map_nil]) (by go_simp)) ?_)
      | (at_builtin; refine Lib.wpList_append_run (o := ⟨some 7, _, _, _, _, _⟩) _ rfl _ _ _ _ rfl _ _ rfl rfl _ _ HA.out ?_)
      | fail)
    go_ret
    exact ⟨_, rfl, HO.out, HB.out⟩

end Go.Proofs.YtdabanocofimmaaGreatDoor

namespace Go.Proofs.YtdabanocofimmaaGreatDoor
open Go.RowKit

theorem run_len_op {P : Program} {o : Oper} {ρ : Operand → Value} {w : World} {x : Operand} {t e : TypeId} {A : Option Addr} {n c : Nat} (hu : P.underlying t = some (.slice e)) (ho : o.op = .call { callee := .builtin .len, args := #[x], argTypes := #[t] }) (hx : ρ x = .slice A n c) : (execOp ρ o).run P w = .ok (.value (.int .i64 n)) w := by
  unfold execOp
  simp [ho, hx, resolve, invoke, builtin, Builtin.len_, run_underlying hu, go_sem]
theorem results_tmp4 {fn : Func} {t u v x : Tmp} (h : fn.results = #[.tmp t, .tmp u, .tmp v, .tmp x]) (tmps : Array Value) (P : Program) (w : World) :
    (results fn tmps).run P w = .ok (.tuple #[tmps.getD t undef, tmps.getD u undef, tmps.getD v undef, tmps.getD x undef]) w := by
  simp [results, h]
theorem at_tkreader0 (g : Nat) (w : World) : (Instr.fieldAt 66 (.pointer (some ⟨g, 0, none⟩)) 0).run Tryz.prog w = .ok (.pointer (some ⟨g, 0, none⟩)) w := by go_simp
theorem at_tkreader1 (g : Nat) (w : World) : (Instr.fieldAt 66 (.pointer (some ⟨g, 0, none⟩)) 1).run Tryz.prog w = .ok (.pointer (some ⟨g, 1, none⟩)) w := by go_simp
/-- A slice whose address, if it has one, is one of the world's. -/
def LoA (w : World) (v : Value) : Prop := ∀ g o s n c, v = .slice (some ⟨g, o, s⟩) n c → g < w.heap.size
/-- What Parse answers. -/
def ParseR (w : World) (L : List Lx.Tk) (row : List Ex.X) (u : Value) (w' : World) : Prop :=
  match Ex.parseF L row with
  | .ok (p, L3, row3) => ∃ v, u = .tuple #[v, .int .i64 (p : Nat), .int .i64 (L.length - L3.length : Nat), .int .i64 0] ∧ OwnK encX w.heap.size 49 8 w' v row3 ∧ L3.length ≤ L.length
  | .error e => u = .tuple #[.slice none 0 0, .int .i64 0, .int .i64 0, .int .i64 e] ∧ e ≠ 0

set_option maxRecDepth 100000 in
set_option maxHeartbeats 6000000 in
theorem xparse_any {w : World} {L : List Lx.Tk} {row : List Ex.X} {vl vr : Value} (hw : WOk w) (hB : BetwIs w) (hl : SlK encT 3 w vl L) (hlo : LoA w vl) (hr : SlK encX 8 w vr row) (hsm : TkSm L) (hn : row.length + 2 * L.length + 2 ≤ 1000000) :
    Calls Tryz.prog 17 #[vl, vr] w fun e w' => ∃ u, e = .returned u ∧ ParseR w L row u w' ∧ Below w.heap.size w w' := by
  obtain ⟨A, c, rfl, hlc, hx⟩ := hl
  have hl : SlK encT 3 w (.slice A L.length c) L := ⟨A, c, rfl, hlc, hx⟩
  have HCl := Lib.hid (cloneX_any row vr w hr (by omega))
  have HR := Lib.hid (fun b => (rules_all (w0 := w) (b := b) hw hB L.length L.length (Nat.le_refl _)).1)
  obtain ⟨n, hnn⟩ : ∃ n, L.length = n := ⟨_, rfl⟩
  have HE := Lib.hid (fun (w1 : World) (u : Value) (ho : OwnK encX w.heap.size 49 8 w1 u row) (hb : Below w.heap.size w w1) =>
    (show Est w w1.heap.size (w1.alloc (.cells #[.slice A n c, .int .i64 0, u, .int .i64 0] 69)) u L 0 row 0 by
      have hbb := hb.alloc hb.size (.cells #[.slice A n c, .int .i64 0, u, .int .i64 0] 69)
      have hk : Below w1.heap.size w1 (w1.alloc (.cells #[.slice A n c, .int .i64 0, u, .int .i64 0] 69)) := (Below.refl _ _).alloc (Nat.le_refl _) _
      refine ⟨⟨⟨_, ⟨Blk.new w1 _ _, hb.size, rfl, A, c, by rw [hnn]; rfl, hl.below hbb, fun g o s e => hlo g o s _ _ (by rw [e])⟩, rfl⟩, hbb⟩, ho.keep hk, fun e => ?_⟩
      have := (ho.lt _ e).2
      omega))
  have HF := Lib.hid (show TkSm L ∧ row.length + 2 * L.length + 2 ≤ 1000000 from ⟨hsm, hn⟩)
  have HNn := Lib.hid hnn
  rw [hnn]
  clear hw hB hl hlo hr hsm hn hlc hx hnn
  go_enter Tryz.func17, Tryz.ntmps17
  go_wp2_with (first
    | (refine wpList_build (o := ⟨some 11, _, _, _, _, _⟩) rfl _ _ rfl rfl ?_)
    | fail)
  refine HCl.out.mono ?_
  rintro e w1 ⟨u, rfl, ho, hb⟩
  have HE1 := Lib.hid (HE.out w1 u ho hb)
  have HB1 := Lib.hid hb
  obtain ⟨Ar, cr, rfl, _⟩ := ho.read encX_len
  obtain ⟨nr, hnr⟩ : ∃ nr, row.length = nr := ⟨_, rfl⟩
  rw [hnr] at HE1 ⊢
  obtain ⟨b, hbs⟩ : ∃ b, w1.heap.size = b := ⟨_, rfl⟩
  obtain ⟨X, hX⟩ : ∃ X, X = w1.alloc (.cells #[.slice A n c, .int .i64 0, .slice Ar nr cr, .int .i64 0] 69) := ⟨_, rfl⟩
  rw [hbs, ← hX] at HE1
  have HRu := Lib.hid (HR.out b X _ L 0 row 0 HE1.out HF.out.1 HF.out.2 (Nat.le_refl _) (by omega))
  have HX := Lib.hid hX
  have HBs := Lib.hid hbs
  clear ho hb hnr hbs hX HE HCl HR
  go_wp2_with (first
    | (refine wpList_build (o := ⟨some 14, _, _, _, _, _⟩) rfl _ _ rfl rfl ?_)
    | fail)
  rw [← HX.out, HBs.out]
  refine HRu.out.mono ?_
  rintro e w2 ⟨place, rfl, L2, er2, row2, ⟨v2, k1, k2⟩, k3, k4, k5, k6, k7⟩
  have h7 := k7 rfl
  obtain ⟨⟨⟨cs, g1, g2⟩, g3⟩, g4, g5⟩ := k1
  obtain ⟨A3, c3, q1, _, _⟩ := g1.left
  obtain ⟨q2, q3⟩ := cells2 g2
  obtain ⟨A2, c2, rfl, _⟩ := g4.read encX_len
  obtain ⟨n2, hn2⟩ : ∃ m, row2.length = m := ⟨_, rfl⟩
  obtain ⟨n3, hn3⟩ : ∃ m, L2.length = m := ⟨_, rfl⟩
  rw [hn2] at q2 g4
  rw [hn3] at q1
  have HE2 := Lib.hid g1.blk
  have HC0 := Lib.hid q1
  have HC1 := Lib.hid g1.err
  have HC2 := Lib.hid q2
  have HG4 := Lib.hid g4
  have HG3 := Lib.hid g3
  have H7 := Lib.hid (show match Ex.parseF L row with | .ok (p, L3, row3) => er2 = 0 ∧ place = p ∧ L2 = L3 ∧ row2 = row3 | .error e => er2 = e ∧ e ≠ 0 from h7)
  have HLe := Lib.hid (show n3 ≤ n by rw [← hn3, ← HNn.out]; exact k4)
  have HN3 := Lib.hid hn3
  have c1 : w2.cell? ⟨b, 1, none⟩ = some (.int .i64 er2) := (Blk.cell g1.blk 1).trans g1.err
  clear k2 k3 k4 k5 k6 k7 h7 g1 g2 g3 g4 g5 q1 q2 q3 hn2 hn3 HE1 HRu
  by_cases h0 : er2 = 0
  · have hb0 : (er2 == 0) = true := by rw [h0]; rfl
    obtain ⟨n4, hn4⟩ : ∃ n4 : Nat, n - n3 = n4 := ⟨_, rfl⟩
    have HSub := Lib.hid (fun W => show (binOp .sub 3 (.int .i64 (n : Int)) (.int .i64 (n3 : Int))).run Tryz.prog W = .ok (.int .i64 (n4 : Int)) W by
      have hle := HLe.out
      have hlt : n ≤ 1000000 := by have := HF.out.2; have := HNn.out; omega
      have hs : IntKind.i64.wrap ((n : Int) - (n3 : Int)) = (n4 : Int) := by rw [IntKind.wrap_i64]; omega
      go_simp)
    have HFin := Lib.hid (fun W (hI : Below w2.heap.size w2 W) => show ParseR w L row (.tuple #[.slice A2 n2 c2, .int .i64 (place : Int), .int .i64 (n4 : Int), .int .i64 0]) W ∧ Below w.heap.size w W by
      refine ⟨?_, HG3.out.trans (hI.mono HG3.out.size)⟩
      have h7 := H7.out
      unfold ParseR
      cases hq : Ex.parseF L row with
      | error e => rw [hq] at h7; exact absurd (h7.1.symm.trans h0) h7.2
      | ok q =>
        obtain ⟨p, L3, row3⟩ := q
        rw [hq] at h7
        obtain ⟨_, e2, e3, e4⟩ := h7
        subst e2 e3 e4
        have hn3 := HN3.out
        have hnn := HNn.out
        have hle := HLe.out
        refine ⟨_, ?_, HG4.out.keep hI, by omega⟩
        have e : L.length - L2.length = n4 := by omega
        (try dsimp only)
        rw [e])
    have HH0 := Lib.hid h0
    clear hn4 h0
    go_wp2_with fail
    go_upto_region 5 with fail
    refine wp_region_any (by kernel_rfl) ?_
    refine wpAny_below (fun iq uq wq => uq = ([.pointer (some ⟨b, 2, none⟩), .slice A2 n2 c2, .int .i64 (place : Int), .slice A n c, .int .i64 (n : Int), .pointer (some ⟨b, 0, none⟩), .pointer (some ⟨b, 0, none⟩), .slice A3 n3 c3, .int .i64 (n3 : Int), .int .i64 (n4 : Int), .slice A2 n2 c2, .int .i64 (place : Int), .int .i64 (n4 : Int), .int .i64 0] : List Value).getD iq undef) _ w2 (by kernel_rfl) (by kernel_rfl) (by kernel_rfl) (fun i v w w' _ h => h) ?_ ?_
    · refine ⟨?_, ?_, ?_, ?_, ?_, ?_, ?_, ?_, ?_, ?_, ?_, ?_, ?_, ?_, trivial⟩
      · intro a W hI hun haft hi
        have e8 : a.eval (.tmp 8) = .pointer (some ⟨b, 0, none⟩) := hun 8 (by kernel_rfl)
        exact b_same hi hI rfl _ (run_fieldAddr_any rfl e8 (at_reader1 _ 0 _)) rfl
      · intro a W hI hun haft hi
        have f0 : a.eval (.tmp 23) = .pointer (some ⟨b, 2, none⟩) := haft ⟨0, .data⟩ (by simp) rfl _ _ rfl rfl
        exact b_same hi hI rfl _ (run_loadsl_op rfl f0 Tryz.underlying22 ((Blk.cell (HE2.out.below hI HE2.out.lt) 2).trans HC2.out)) rfl
      · intro a W hI hun haft hi
        have e9 : a.eval (.tmp 9) = .int .i64 (place : Int) := hun 9 (by kernel_rfl)
        exact b_same hi hI rfl _ (run_move_op rfl e9) rfl
      · intro a W hI hun haft hi
        have e0 : a.eval (.tmp 0) = .slice A n c := hun 0 (by kernel_rfl)
        exact b_same hi hI rfl _ (run_move_op rfl e0) rfl
      · intro a W hI hun haft hi
        have f3 : a.eval (.tmp 26) = .slice A n c := haft ⟨3, .data⟩ (by simp) rfl _ _ rfl rfl
        exact b_same hi hI rfl _ (run_len_op Tryz.underlying25 rfl f3) rfl
      · intro a W hI hun haft hi
        have e8 : a.eval (.tmp 8) = .pointer (some ⟨b, 0, none⟩) := hun 8 (by kernel_rfl)
        exact b_same hi hI rfl _ (run_fieldAddr_any rfl e8 (at_reader0 _ _ _)) rfl
      · intro a W hI hun haft hi
        have f5 : a.eval (.tmp 28) = .pointer (some ⟨b, 0, none⟩) := haft ⟨5, .data⟩ (by simp) rfl _ _ rfl rfl
        exact b_same hi hI rfl _ (run_fieldAddr_any rfl f5 (at_tkreader0 _ _)) rfl
      · intro a W hI hun haft hi
        have f6 : a.eval (.tmp 29) = .pointer (some ⟨b, 0, none⟩) := haft ⟨6, .data⟩ (by simp) rfl _ _ rfl rfl
        exact b_same hi hI rfl _ (run_loadsl_op rfl f6 Tryz.underlying25 ((Blk.cell (HE2.out.below hI HE2.out.lt) 0).trans HC0.out)) rfl
      · intro a W hI hun haft hi
        have f7 : a.eval (.tmp 30) = .slice A3 n3 c3 := haft ⟨7, .data⟩ (by simp) rfl _ _ rfl rfl
        exact b_same hi hI rfl _ (run_len_op Tryz.underlying25 rfl f7) rfl
      · intro a W hI hun haft hi
        have f4 : a.eval (.tmp 27) = .int .i64 (n : Int) := haft ⟨4, .data⟩ (by simp) rfl _ _ rfl rfl
        have f8 : a.eval (.tmp 31) = .int .i64 (n3 : Int) := haft ⟨8, .data⟩ (by simp) rfl _ _ rfl rfl
        exact b_same hi hI rfl _ (run_bin_op rfl f4 f8 (by kernel_rfl) (HSub.out W)) rfl
      · intro a W hI hun haft hi
        have f1 : a.eval (.tmp 24) = .slice A2 n2 c2 := haft ⟨1, .data⟩ (by simp) rfl _ _ rfl rfl
        exact b_same hi hI rfl _ (run_assign_op rfl f1) rfl
      · intro a W hI hun haft hi
        have f2 : a.eval (.tmp 25) = .int .i64 (place : Int) := haft ⟨2, .data⟩ (by simp) rfl _ _ rfl rfl
        exact b_same hi hI rfl _ (run_assign_op rfl f2) rfl
      · intro a W hI hun haft hi
        have f9 : a.eval (.tmp 32) = .int .i64 (n4 : Int) := haft ⟨9, .data⟩ (by simp) rfl _ _ rfl rfl
        exact b_same hi hI rfl _ (run_assign_op rfl f9) rfl
      · intro a W hI hun haft hi
        exact b_same hi hI rfl _ (run_assign_op rfl rfl) rfl
    · intro vals W hI hp
      have hl10 : vals 10 = .slice A2 n2 c2 := hp 10 (by decide)
      have hl11 : vals 11 = .int .i64 (place : Int) := hp 11 (by decide)
      have hl12 : vals 12 = .int .i64 (n4 : Int) := hp 12 (by decide)
      have hl13 : vals 13 = .int .i64 0 := hp 13 (by decide)
      have HI := Lib.hid hI
      clear hp hI
      simp only [layN, List.size_toArray, List.length_cons, List.length_nil, List.range, List.range.loop, if_true, List.getElem?_toArray, List.getElem?_cons_zero, List.getElem?_cons_succ, Act.put, List.setIfInBounds_toArray, List.set_cons_zero, List.set_cons_succ, Nat.zero_add, Nat.reduceAdd, hl10, hl11, hl12, hl13]
      clear hl10 hl11 hl12 hl13
      (try simp only [Exit.then])
      go_wp2_with fail
      have HFi := Lib.hid (HFin.out W HI.out)
      refine bodyPost_ret (results_tmp4 rfl _ _ _) rfl ?_
      exact ⟨_, rfl, HFi.out⟩
  · have hb0 : (er2 == 0) = false := by rw [beq_eq_false_iff_ne]; exact h0
    have HFin := Lib.hid (fun W (hI : Below w2.heap.size w2 W) => show ParseR w L row (.tuple #[.slice none 0 0, .int .i64 0, .int .i64 0, .int .i64 er2]) W ∧ Below w.heap.size w W by
      refine ⟨?_, HG3.out.trans (hI.mono HG3.out.size)⟩
      have h7 := H7.out
      unfold ParseR
      cases hq : Ex.parseF L row with
      | error e => rw [hq] at h7; obtain ⟨e1, e2⟩ := h7; subst e1; exact ⟨rfl, e2⟩
      | ok q =>
        obtain ⟨p, L3, row3⟩ := q
        rw [hq] at h7
        exact absurd h7.1 h0)
    have HH0 := Lib.hid h0
    clear h0
    go_wp2_with fail
    go_upto_region 4 with fail
    refine wp_region_any (by kernel_rfl) ?_
    refine wpAny_below (fun iq uq wq => uq = ([.pointer (some ⟨b, 0, none⟩), .pointer (some ⟨b, 1, none⟩), .int .i64 er2, .slice none 0 0, .int .i64 0, .int .i64 0, .int .i64 er2] : List Value).getD iq undef) _ w2 (by kernel_rfl) (by kernel_rfl) (by kernel_rfl) (fun i v w w' _ h => h) ?_ ?_
    · refine ⟨?_, ?_, ?_, ?_, ?_, ?_, ?_, trivial⟩
      · intro a W hI hun haft hi
        have e8 : a.eval (.tmp 8) = .pointer (some ⟨b, 0, none⟩) := hun 8 (by kernel_rfl)
        exact b_same hi hI rfl _ (run_fieldAddr_any rfl e8 (at_reader0 _ _ _)) rfl
      · intro a W hI hun haft hi
        have f0 : a.eval (.tmp 20) = .pointer (some ⟨b, 0, none⟩) := haft ⟨0, .data⟩ (by simp) rfl _ _ rfl rfl
        exact b_same hi hI rfl _ (run_fieldAddr_any rfl f0 (at_tkreader1 _ _)) rfl
      · intro a W hI hun haft hi
        have f1 : a.eval (.tmp 21) = .pointer (some ⟨b, 1, none⟩) := haft ⟨1, .data⟩ (by simp) rfl _ _ rfl rfl
        exact b_same hi hI rfl _ (run_loadint_op rfl f1 Tryz.underlying28 ((Blk.cell (HE2.out.below hI HE2.out.lt) 1).trans HC1.out)) rfl
      · intro a W hI hun haft hi
        exact b_same hi hI rfl _ (run_assign_op rfl rfl) rfl
      · intro a W hI hun haft hi
        exact b_same hi hI rfl _ (run_assign_op rfl rfl) rfl
      · intro a W hI hun haft hi
        exact b_same hi hI rfl _ (run_assign_op rfl rfl) rfl
      · intro a W hI hun haft hi
        have f2 : a.eval (.tmp 22) = .int .i64 er2 := haft ⟨2, .data⟩ (by simp) rfl _ _ rfl rfl
        exact b_same hi hI rfl _ (run_assign_op rfl f2) rfl
    · intro vals W hI hp
      have hl3 : vals 3 = .slice none 0 0 := hp 3 (by decide)
      have hl4 : vals 4 = .int .i64 0 := hp 4 (by decide)
      have hl5 : vals 5 = .int .i64 0 := hp 5 (by decide)
      have hl6 : vals 6 = .int .i64 er2 := hp 6 (by decide)
      have HI := Lib.hid hI
      clear hp hI
      simp only [layN, List.size_toArray, List.length_cons, List.length_nil, List.range, List.range.loop, if_true, List.getElem?_toArray, List.getElem?_cons_zero, List.getElem?_cons_succ, Act.put, List.setIfInBounds_toArray, List.set_cons_zero, List.set_cons_succ, Nat.zero_add, Nat.reduceAdd, hl3, hl4, hl5, hl6]
      clear hl3 hl4 hl5 hl6
      (try simp only [Exit.then])
      go_wp2_with fail
      have HFi := Lib.hid (HFin.out W HI.out)
      refine bodyPost_ret (results_tmp4 rfl _ _ _) rfl ?_
      exact ⟨_, rfl, HFi.out⟩

end Go.Proofs.YtdabanocofimmaaGreatDoor
