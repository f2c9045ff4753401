/-
  expr.size: the contract, by walks. expr.size: the contract, by walks; how many tokens that is. Conditions: lengths.
-/
import Derived.Test.YtdabanocofimmaaGreatDoorExSpell
namespace Go.Proofs.YtdabanocofimmaaGreatDoor
open Go.RowKit
set_option linter.unusedVariables false

theorem setCell_twice (w : World) (b i : Nat) (u v : Value) : (w.setCell ⟨b, i, none⟩ u).setCell ⟨b, i, none⟩ v = w.setCell ⟨b, i, none⟩ v := by
  rw [Sort.setCell_eq, Sort.setCell_eq, Sort.mapBlock_mapBlock, Sort.setCell_eq]
  congr 1
  funext c
  simp
theorem SlK.kept2 {α : Type} {enc : α → List Value} {k : Nat} {w w' : World} {v : Value} {l : List α} (h : SlK enc k w v l) (hs : w.heap.size ≤ w'.heap.size) (hb : l ≠ [] → ∀ b o n c, v = .slice (some ⟨b, o, none⟩) n c → w'.heap[b]? = w.heap[b]?) : SlK enc k w' v l := by
  by_cases hn : l = []
  · subst hn
    obtain ⟨A, c, h1, h2, _⟩ := h
    exact ⟨A, c, h1, h2, fun h => absurd rfl h⟩
  · exact h.kept hs (hb hn)
theorem SlK.adr_lt {α : Type} {enc : α → List Value} {k : Nat} {w : World} {v : Value} {l : List α} (h : SlK enc k w v l) (hn : l ≠ []) {g o : Nat} {s : Option Nat} {n c : Nat} (hv : v = .slice (some ⟨g, o, s⟩) n c) : g < w.heap.size := by
  obtain ⟨A, c', h1, _, hx⟩ := h
  obtain ⟨b, o', h3, h4, _⟩ := hx hn
  rw [hv] at h1
  injection h1 with h1 _ _
  rw [h3] at h1
  injection h1 with h1
  injection h1 with h1
  rw [h1]; exact h4
/-- What an item counts. -/
def wtI (row : List Ex.X) (ah : List Int) : Itm → Int
  | .t _ => 1
  | .s i r => ah.getD i.toNat 0 + (if ruleI (row.getD i.toNat zEx).k < r then 2 else 0)
def cntI (row : List Ex.X) (ah : List Int) (l : List Itm) : Int := (l.map (wtI row ah)).sum
def sizeOne (row : List Ex.X) (e : Ex.X) (ah : List Int) : Int := cntI row ah (spellI e)
theorem cnt_snoc (row : List Ex.X) (ah : List Int) (l : List Itm) (x : Itm) : cntI row ah (l ++ [x]) = cntI row ah l + wtI row ah x := by
  unfold cntI
  simp
/-- The state of the count. -/
structure CntSt (row : List Ex.X) (ah : List Int) (bn ba br : Nat) (va vr : Value) (l : List Itm) (w : World) : Prop where
  n : Blk w bn 3 #[.int .i64 (cntI row ah l)]
  a : Blk w ba 57 #[va]
  r : Blk w br 22 #[vr]
  sa : SlK encZ 1 w va ah
  sr : SlK encX 8 w vr row
  apart : bn ≠ ba ∧ bn ≠ br ∧ (ah ≠ [] → ∀ g o s n c, va = .slice (some ⟨g, o, s⟩) n c → g ≠ bn) ∧ (row ≠ [] → ∀ g o s n c, vr = .slice (some ⟨g, o, s⟩) n c → g ≠ bn)
  betw : BetwIs w
  bb : bn ≠ 0
section
variable {row : List Ex.X} {ah : List Int} {bn ba br : Nat} {va vr : Value} {l : List Itm} {w w' : World}
theorem BetwIs.same (h : BetwIs w) (hs : w.heap.size ≤ w'.heap.size) (hb : w'.heap[0]? = w.heap[0]?) : BetwIs w' :=
  ⟨Nat.lt_of_lt_of_le h.1 hs, fun k hk => (World.cell?_of_block hb).trans (h.2 k hk)⟩
theorem CntSt.keep (h : CntSt row ah bn ba br va vr l w) (hb : Below w.heap.size w w') : CntSt row ah bn ba br va vr l w' :=
  ⟨h.n.below hb h.n.lt, h.a.below hb h.a.lt, h.r.below hb h.r.lt, h.sa.below hb, h.sr.below hb, h.apart, h.betw.same hb.size (hb.block _ h.betw.1), h.bb⟩
theorem CntSt.put (h : CntSt row ah bn ba br va vr l w) (x : Itm) : CntSt row ah bn ba br va vr (l ++ [x]) (w.setCell ⟨bn, 0, none⟩ (.int .i64 (cntI row ah l + wtI row ah x))) := by
  obtain ⟨p1, p2, p3, p4⟩ := h.apart
  have hk : ∀ k, k ≠ bn → (w.setCell ⟨bn, 0, none⟩ (.int .i64 (cntI row ah l + wtI row ah x))).heap[k]? = w.heap[k]? := fun k hk => Below.heap_setCell _ _ _ _ hk
  refine ⟨?_, (hk ba (fun e => p1 e.symm)).trans h.a, (hk br (fun e => p2 e.symm)).trans h.r, h.sa.kept2 (by simp) fun hn b o n c e => hk b (p3 hn b o none n c e), h.sr.kept2 (by simp) fun hn b o n c e => hk b (p4 hn b o none n c e), h.apart, h.betw.same (by simp) (hk _ (fun e => h.bb e.symm)), h.bb⟩
  rw [cnt_snoc]
  exact h.n.set_ 0 _
end

set_option maxRecDepth 100000 in
set_option maxHeartbeats 2000000 in
theorem sz1_any {row : List Ex.X} {ah : List Int} {bn ba br : Nat} {va vr : Value} {l : List Itm} {w : World} (x : Lx.Tk) (h : CntSt row ah bn ba br va vr l w) (hb : -1000000 ≤ cntI row ah l ∧ cntI row ah l ≤ 1000000) :
    Calls Tryz.prog 45 #[tkV x, .pointer (some ⟨bn, 0, none⟩)] w fun r w' => r = .returned (.tuple #[]) ∧ CntSt row ah bn ba br va vr (l ++ [.t x]) w' ∧ Fram (fun k _ => k ≠ bn) w w' := by
  obtain ⟨X, hX⟩ : ∃ X, X = w.alloc (.cells (tkC x) 43) := ⟨_, rfl⟩
  have hbX : Below w.heap.size w X := by rw [hX]; exact (Below.refl _ _).alloc (Nat.le_refl _) _
  have hk := h.keep hbX
  have c0 : X.cell? ⟨bn, 0, none⟩ = some (.int .i64 (cntI row ah l)) := (Blk.cell hk.n 0).trans rfl
  have f0 := Blk.free hk.n 0
  have HP := Lib.hid (show CntSt row ah bn ba br va vr (l ++ [.t x]) (X.setCell ⟨bn, 0, none⟩ (.int .i64 (cntI row ah l + 1))) ∧ Fram (fun k _ => k ≠ bn) w (X.setCell ⟨bn, 0, none⟩ (.int .i64 (cntI row ah l + 1))) from
    ⟨hk.put (.t x), ⟨hbX.os, hbX.tape, hbX.output, by simpa using hbX.size⟩, fun k hlt hne => ⟨(Below.heap_setCell _ _ _ _ hne).trans (hbX.block k hlt), hne⟩⟩)
  obtain ⟨N, hN⟩ : ∃ N, cntI row ah l = N := ⟨_, rfl⟩
  rw [hN] at c0 HP hb
  have HX := Lib.hid hX
  have hs := IntWalk.i64_in (N + 1) (by omega)
  clear hX hbX hk h hN hb
  obtain ⟨tk, tn, ts⟩ := x
  unfold tkC at HX
  unfold tkV
  dsimp only at HX ⊢
  go_enter Tryz.func45, Tryz.ntmps45
  go_upto_region 1 with fail
  rw [← HX.out]
  go_wp2_with fail
  go_end0
  exact ⟨rfl, HP.out⟩

set_option maxRecDepth 100000 in
set_option maxHeartbeats 3000000 in
theorem sz2_any {row : List Ex.X} {ah : List Int} {bn ba br : Nat} {va vr : Value} {l : List Itm} {w : World} (z r : Int) (h : CntSt row ah bn ba br va vr l w) (hz : 0 ≤ z ∧ z < ah.length) (hz2 : ah.length ≤ row.length) (hl : row.length ≤ 1000000) (hb : -1000000 ≤ cntI row ah l ∧ cntI row ah l ≤ 1000000) (hah : ∀ x ∈ ah, 0 ≤ x ∧ x ≤ 10000) :
    Calls Tryz.prog 46 #[.int .i64 z, .int .i64 r, .pointer (some ⟨bn, 0, none⟩), .pointer (some ⟨ba, 0, none⟩), .pointer (some ⟨br, 0, none⟩)] w fun e w' => e = .returned (.tuple #[]) ∧ CntSt row ah bn ba br va vr (l ++ [.s z r]) w' ∧ Fram (fun k _ => k ≠ bn) w w' := by
  obtain ⟨i, rfl⟩ := Int.eq_ofNat_of_zero_le hz.1
  have hi : i < ah.length := by omega
  obtain ⟨A, c, rfl, _, _⟩ := id h.sa
  obtain ⟨Ar, cr, rfl, _, _⟩ := id h.sr
  obtain ⟨y, hy⟩ : ∃ y, ah[i]? = some y := ⟨_, List.getElem?_eq_getElem hi⟩
  obtain ⟨e, he⟩ : ∃ e, row[i]? = some e := ⟨_, List.getElem?_eq_getElem (by omega)⟩
  obtain ⟨g, o, hA, hg, hc⟩ := h.sa.int_at hy
  obtain ⟨g2, o2, hA2, hg2, hc2⟩ := h.sr.x_at he
  have hyb := hah y (List.mem_of_getElem? hy)
  have HWt := Lib.hid (show wtI row ah (.s (i : Int) r) = y + (if ruleI e.k < r then 2 else 0) by
    show ah.getD (Int.toNat (i : Int)) 0 + (if ruleI (row.getD (Int.toNat (i : Int)) zEx).k < r then 2 else 0) = _
    rw [Int.toNat_natCast, List.getD_eq_getElem?_getD, hy, List.getD_eq_getElem?_getD, he]
    rfl)
  have HSt := Lib.hid h
  obtain ⟨N, hN⟩ : ∃ N, cntI row ah l = N := ⟨_, rfl⟩
  have HN := Lib.hid (show (#[Value.int .i64 (cntI row ah l)] : Array Value)[0]? = some (.int .i64 N) by rw [hN]; rfl)
  obtain ⟨n, hn⟩ : ∃ n, ah.length = n := ⟨_, rfl⟩
  obtain ⟨nr, hnr⟩ : ∃ n, row.length = n := ⟨_, rfl⟩
  have HNr := Lib.hid (show i < nr by omega)
  rw [hn] at HSt hi
  rw [hnr] at HSt
  rw [hN] at hb
  have HAt := Lib.hid (fun W => at_Z A g o c n i hA hi W)
  have HAt2 := Lib.hid (fun W => at_X Ar g2 o2 cr nr i hA2 HNr.out W)
  have HG := Lib.hid (And.intro hg hc)
  have HAdd := Lib.hid (fun W => show (binOp .add 3 (.int .i64 N) (.int .i64 y)).run Tryz.prog W = .ok (.int .i64 (N + y)) W by
    have hs := IntWalk.i64_in (N + y) (by omega)
    go_simp)
  have hs2 := Lib.hid (fun W => show (binOp .add 3 (.int .i64 (N + y)) (.int .i64 2)).run Tryz.prog W = .ok (.int .i64 (N + y + 2)) W by
    have hs := IntWalk.i64_in (N + y + 2) (by omega)
    go_simp)
  have hgb : g2 ≠ bn := HSt.out.apart.2.2.2 (by rintro rfl; cases he) g2 o2 none nr cr (by rw [hA2])
  have HR2 := Lib.hid (show g2 < w.heap.size ∧ g2 ≠ bn ∧ w.rangeAt g2 (o2 + i * 8) (encX e) from ⟨hg2, hgb, hc2⟩)
  have HFin := Lib.hid (fun (W : World) (q : Int) (hI : Below w.heap.size w W) (hq : q = N + y + (if ruleI e.k < r then 2 else 0)) =>
    (show CntSt row ah bn ba br (.slice A n c) (.slice Ar nr cr) (l ++ [.s (i : Int) r]) (W.setCell ⟨bn, 0, none⟩ (.int .i64 q)) ∧ Fram (fun k _ => k ≠ bn) w (W.setCell ⟨bn, 0, none⟩ (.int .i64 q)) from by
      have := (HSt.out.keep hI).put (.s (i : Int) r)
      rw [HWt.out, hN, show N + (y + if ruleI e.k < r then 2 else 0) = q by omega] at this
      exact ⟨this, ⟨hI.os, hI.tape, hI.output, by simpa using hI.size⟩, fun k hlt hne => ⟨(Below.heap_setCell _ _ _ _ hne).trans (hI.block k hlt), hne⟩⟩))
  obtain ⟨ek, hek⟩ : ∃ k, e.k = k := ⟨_, rfl⟩
  have HEk := Lib.hid hek
  rw [hek] at HFin
  rw [hn, hnr]
  clear h hz hz2 hl hb hah hi hy he hA hg hc hA2 hg2 hc2 hyb hN hn hnr hgb hek
  go_enter Tryz.func46, Tryz.ntmps46
  go_upto_region 0 with fail
  refine wp_region_any (by kernel_rfl) ?_
  refine wpAny_last (fun iq uq wq => uq = ([.int .i64 N, .slice A n c, .int .i64 (i : Int), .pointer (some ⟨g, o + i, none⟩), .int .i64 y, .int .i64 (N + y), undef] : List Value).getD iq undef) _ w 6 _ (fun _ wq => ∃ W, Below w.heap.size w W ∧ wq = W.setCell ⟨bn, 0, none⟩ (.int .i64 (N + y))) (by kernel_rfl) rfl (by kernel_rfl) (by kernel_rfl) (by kernel_rfl) (by kernel_rfl) (fun i v w w' _ h => h) ?_ ?_ ?_
  · refine ⟨?_, ?_, ?_, ?_, ?_, ?_, fun h => absurd h (Nat.lt_irrefl _), trivial⟩
    · intro _ a W hI hun haft hi
      have e2 : a.eval (.tmp 2) = .pointer (some ⟨bn, 0, none⟩) := hun 2 (by kernel_rfl)
      exact b_same hi hI rfl _ (run_loadint_op rfl e2 Tryz.underlying3 ((Blk.cell (HSt.out.keep hI).n 0).trans HN.out)) rfl
    · intro _ a W hI hun haft hi
      have e3 : a.eval (.tmp 3) = .pointer (some ⟨ba, 0, none⟩) := hun 3 (by kernel_rfl)
      exact b_same hi hI rfl _ (run_loadsl_op rfl e3 Tryz.underlying57 ((Blk.cell (HSt.out.keep hI).a 0).trans rfl)) rfl
    · intro _ a W hI hun haft hi
      have e0 : a.eval (.tmp 0) = .int .i64 (i : Int) := hun 0 (by kernel_rfl)
      exact b_same hi hI rfl _ (run_move_op rfl e0) rfl
    · intro _ a W hI hun haft hi
      have f1 : a.eval (.tmp 8) = .slice A n c := haft ⟨1, .data⟩ (by simp) rfl _ _ rfl rfl
      have f2 : a.eval (.tmp 9) = .int .i64 (i : Int) := haft ⟨2, .data⟩ (by simp) rfl _ _ rfl rfl
      exact b_same hi hI rfl _ (run_indexAddr_op rfl f1 f2 (HAt.out W)) rfl
    · intro _ a W hI hun haft hi
      have f3 : a.eval (.tmp 10) = .pointer (some ⟨g, o + i, none⟩) := haft ⟨3, .data⟩ (by simp) rfl _ _ rfl rfl
      exact b_same hi hI rfl _ (run_loadint_op rfl f3 Tryz.underlying3 ((World.cell?_of_block (hI.block g HG.out.1)).trans HG.out.2)) rfl
    · intro _ a W hI hun haft hi
      have f0 : a.eval (.tmp 7) = .int .i64 N := haft ⟨0, .data⟩ (by simp) rfl _ _ rfl rfl
      have f4 : a.eval (.tmp 11) = .int .i64 y := haft ⟨4, .data⟩ (by simp) rfl _ _ rfl rfl
      exact b_same hi hI rfl _ (run_bin_op rfl f0 f4 (by kernel_rfl) (HAdd.out W)) rfl
  · intro vals a W hI hun hsl hp
    have e2 : a.eval (.tmp 2) = .pointer (some ⟨bn, 0, none⟩) := hun 2 (by kernel_rfl)
    have f5 : a.eval (.tmp 12) = .int .i64 (N + y) := (hsl 5 _ _ rfl (by decide) rfl).trans (hp 5 (by decide))
    exact l_skip rfl rfl _ (run_store1_op rfl e2 f5 rfl rfl (by kernel_rfl) ((Blk.cell (HSt.out.keep hI).n 0).trans HN.out) (Blk.free (HSt.out.keep hI).n 0)) ⟨_, rfl, fun _ _ _ => ⟨W, hI, rfl⟩⟩
  · intro vals W1 hK
    obtain ⟨W, hI, hW1⟩ := hK
    have HI := Lib.hid hI
    have HW1 := Lib.hid hW1
    clear hI hW1
    simp only [layN, List.size_toArray, List.length_cons, List.length_nil, List.range, List.range.loop, if_true, List.getElem?_toArray, List.getElem?_cons_zero, List.getElem?_cons_succ, Act.put, List.setIfInBounds_toArray, List.set_cons_zero, List.set_cons_succ, Nat.zero_add, Nat.reduceAdd]
    (try simp only [Exit.then])
    have hst1 := (HSt.out.keep HI.out).put (.s (i : Int) r)
    have cR : W1.cell? ⟨br, 0, none⟩ = some (.slice Ar nr cr) := by
      rw [HW1.out]
      have := HSt.out.apart.2.1
      exact (World.cell?_of_block (Below.heap_setCell W ⟨bn, 0, none⟩ _ br (by exact this.symm))).trans ((Blk.cell (HSt.out.keep HI.out).r 0).trans rfl)
    have cE : W1.cell? ⟨g2, o2 + i * 8, none⟩ = some (.int .i64 ek) := by
      rw [HW1.out, ← HEk.out]
      exact (World.cell?_of_block ((Below.heap_setCell W ⟨bn, 0, none⟩ _ g2 (by exact HR2.out.2.1)).trans (HI.out.block g2 HR2.out.1))).trans (HR2.out.2.2 0 _ rfl)
    have hcn : W.cell? ⟨bn, 0, none⟩ = some (.int .i64 N) := (Blk.cell (HSt.out.keep HI.out).n 0).trans HN.out
    have HBn := Lib.hid (show Blk W1 bn 3 #[.int .i64 (N + y)] by rw [HW1.out]; exact (HSt.out.keep HI.out).n.set_ 0 _)
    have HSet := Lib.hid (fun u => show W1.setCell ⟨bn, 0, none⟩ u = W.setCell ⟨bn, 0, none⟩ u by rw [HW1.out]; exact setCell_twice W bn 0 _ u)
    clear hst1 hcn
    go_wp2_with (first
      | (refine wpList_val (o := ⟨some 15, _, _, _, _, _⟩) rfl (.pointer (some ⟨g2, o2 + i * 8, none⟩)) W1 (run_indexAddr_op rfl rfl rfl (HAt2.out W1)) ?_)
      | fail)
    refine (ruleOf_any ek W1).mono ?_
    rintro _ _ ⟨rfl, rfl⟩
    clear cR cE
    by_cases hr : ruleI ek < r
    · have cN : W1.cell? ⟨bn, 0, none⟩ = some (.int .i64 (N + y)) := (Blk.cell HBn.out 0).trans rfl
      have fN := Blk.free HBn.out 0
      have HF := Lib.hid (HFin.out W (N + y + 2) HI.out (by rw [if_pos hr]))
      go_wp2_with (first
        | (refine wpList_val (o := ⟨some 22, _, _, _, _, _⟩) rfl (.int .i64 (N + y + 2)) W1 (run_bin_op rfl rfl rfl (by kernel_rfl) (hs2.out W1)) ?_)
        | fail)
      rw [HSet.out]
      go_end0
      exact ⟨rfl, HF.out⟩
    · have HF := Lib.hid (HFin.out W (N + y) HI.out (by rw [if_neg hr]; omega))
      have hrr : ¬ ruleI ek < r := hr
      go_wp2_with fail
      go_end0
      exact ⟨rfl, by rw [HW1.out]; exact HF.out⟩

end Go.Proofs.YtdabanocofimmaaGreatDoor

namespace Go.Proofs.YtdabanocofimmaaGreatDoor
open Go.RowKit
set_option linter.unusedVariables false

theorem wt_bd {row : List Ex.X} {ah : List Int} (h : ∀ x ∈ ah, 0 ≤ x ∧ x ≤ 10000) (x : Itm) : 0 ≤ wtI row ah x ∧ wtI row ah x ≤ 10002 := by
  cases x with
  | t x => exact (show (0 : Int) ≤ 1 ∧ (1 : Int) ≤ 10002 from ⟨by decide, by decide⟩)
  | s i r =>
    show 0 ≤ ah.getD i.toNat 0 + (if ruleI (row.getD i.toNat zEx).k < r then 2 else 0) ∧ ah.getD i.toNat 0 + (if ruleI (row.getD i.toNat zEx).k < r then 2 else 0) ≤ 10002
    have hg : 0 ≤ ah.getD i.toNat 0 ∧ ah.getD i.toNat 0 ≤ 10000 := by
      rw [List.getD_eq_getElem?_getD]
      cases hq : ah[i.toNat]? with
      | none => exact ⟨by decide, by decide⟩
      | some y => exact h y (List.mem_of_getElem? hq)
    split <;> omega
theorem cnt_bd {row : List Ex.X} {ah : List Int} (h : ∀ x ∈ ah, 0 ≤ x ∧ x ≤ 10000) : ∀ l : List Itm, 0 ≤ cntI row ah l ∧ cntI row ah l ≤ 10002 * l.length
  | [] => (show (0 : Int) ≤ 0 ∧ (0 : Int) ≤ 10002 * ((0 : Nat) : Int) from ⟨by decide, by decide⟩)
  | x :: l => by
    have h1 := wt_bd (row := row) h x
    have h2 := cnt_bd (row := row) h l
    have e : cntI row ah (x :: l) = wtI row ah x + cntI row ah l := by unfold cntI; simp
    rw [e, List.length_cons]
    omega
theorem val_len (k n : Int) (s : List UInt8) : (valI k n s).length ≤ 2 := by
  unfold valI
  repeat' split
  all_goals simp
theorem val_side {k n : Int} {s : List UInt8} {i q : Int} : ¬ Itm.s i q ∈ valI k n s := by
  unfold valI
  repeat' split
  all_goals simp
theorem spell_len (e : Ex.X) : (spellI e).length ≤ 6 := by
  have := val_len e.vk e.vn e.vt
  unfold spellI propI twoI
  repeat' split
  all_goals (try simp)
  omega
theorem spell_side {e : Ex.X} (hk : 1 ≤ e.k ∧ e.k ≤ 18) {i q : Int} (h : Itm.s i q ∈ spellI e) : i ∈ sidesL e := by
  unfold spellI at h
  unfold sidesL
  by_cases h1 : e.k = 1
  · rw [if_pos h1] at h; exact absurd h val_side
  rw [if_neg h1] at h
  by_cases h2 : e.k = 2
  · rw [if_pos h2] at h; simp at h
  rw [if_neg h2] at h
  by_cases h3 : e.k = 3
  · rw [if_pos h3] at h; unfold propI at h; simp at h
  rw [if_neg h3] at h
  by_cases h4 : e.k = 4
  · rw [if_pos h4] at h; unfold propI at h; simp at h
  rw [if_neg h4] at h
  by_cases h5 : e.k = 5
  · rw [if_pos h5] at h; rw [if_pos (.inl h5)]; simp at h; simp [h.1]
  rw [if_neg h5] at h
  by_cases h6 : e.k = 6
  · rw [if_pos h6] at h; rw [if_pos (.inr (.inl h6))]; simp at h; simp [h.1]
  rw [if_neg h6] at h
  by_cases h7 : e.k = 7
  · rw [if_pos h7] at h; rw [if_pos (.inr (.inr h7))]; simp at h; simp [h.1]
  rw [if_neg h7] at h
  rw [if_neg (by omega), if_pos (by unfold twoB; simp; omega)]
  unfold twoI at h
  simp at h
  rcases h with h | h
  · simp [h.1]
  · simp [h.1]

set_option maxRecDepth 100000 in
set_option maxHeartbeats 3000000 in
theorem sizeone_any {row : List Ex.X} {e : Ex.X} {ah : List Int} {br : Nat} {v vr : Value} {w : World} (hbr : Blk w br 22 #[vr]) (hr : SlK encX 8 w vr row) (hv : SlK encZ 1 w v ah) (hB : BetwIs w) (hk : 1 ≤ e.k ∧ e.k ≤ 18) (hvn : e.k = 1 → -1099511627776 ≤ e.vn)
    (hs : ∀ s ∈ sidesL e, 0 ≤ s ∧ s < ah.length) (hl : ah.length ≤ row.length) (hn : row.length ≤ 1000000) (hah : ∀ x ∈ ah, 0 ≤ x ∧ x ≤ 10000) :
    Calls Tryz.prog 44 #[exV e, v, .pointer (some ⟨br, 0, none⟩)] w (Gives w (.int .i64 (sizeOne row e ah))) := by
  obtain ⟨A, c, rfl, _, _⟩ := id hv
  obtain ⟨na, hna⟩ : ∃ n, ah.length = n := ⟨_, rfl⟩
  obtain ⟨v, hvv⟩ : ∃ v, v = Value.slice A ah.length c := ⟨_, rfl⟩
  rw [← hvv] at hv
  obtain ⟨p, hp⟩ : ∃ p, w.heap.size = p := ⟨_, rfl⟩
  obtain ⟨X1, hX1⟩ : ∃ X, X = w.alloc (.cells (exC e) 49) := ⟨_, rfl⟩
  obtain ⟨X2, hX2⟩ : ∃ X, X = X1.alloc (.cells #[v] 57) := ⟨_, rfl⟩
  obtain ⟨X3, hX3⟩ : ∃ X, X = X2.alloc (.cells #[.int .i64 0] 3) := ⟨_, rfl⟩
  have s1 : X1.heap.size = p + 1 := by rw [hX1, ← hp]; simp
  have s2 : X2.heap.size = p + 2 := by rw [hX2]; simp [s1]
  have b1 : Below w.heap.size w X1 := by rw [hX1]; exact (Below.refl _ _).alloc (Nat.le_refl _) _
  have b2 : Below X1.heap.size X1 X2 := by rw [hX2]; exact (Below.refl _ _).alloc (Nat.le_refl _) _
  have b3 : Below X2.heap.size X2 X3 := by rw [hX3]; exact (Below.refl _ _).alloc (Nat.le_refl _) _
  have b13 : Below w.heap.size w X3 := (b1.trans (b2.mono b1.size)).trans (b3.mono (Nat.le_trans b1.size b2.size))
  have hE : Blk X3 p 49 (exC e) := by
    have : Blk X1 p 49 (exC e) := by rw [hX1, ← hp]; exact Blk.new w _ _
    exact (this.below b2 this.lt).below b3 (by omega)
  have hA : Blk X3 (p + 1) 57 #[v] := by
    have : Blk X2 (p + 1) 57 #[v] := by rw [hX2, ← s1]; exact Blk.new X1 _ _
    exact this.below b3 this.lt
  have hN : Blk X3 (p + 2) 3 #[.int .i64 0] := by rw [hX3, ← s2]; exact Blk.new X2 _ _
  have h0 : CntSt row ah (p + 2) (p + 1) br v vr [] X3 := by
    refine ⟨hN, hA, hbr.below b13 hbr.lt, hv.below b13, hr.below b13, ⟨by omega, by have := hbr.lt; omega, fun hne g o s n c e => ?_, fun hne g o s n c e => ?_⟩, hB.same b13.size (b13.block _ hB.1), by have := hB.1; omega⟩
    · have := hv.adr_lt hne e; omega
    · have := hr.adr_lt hne e; omega
  have hC : SpellC (CntSt row ah (p + 2) (p + 1) br v vr) (fun k _ => k ≠ p + 2) 45 46 #[.pointer (some ⟨p + 2, 0, none⟩)] #[.pointer (some ⟨p + 2, 0, none⟩), .pointer (some ⟨p + 1, 0, none⟩), .pointer (some ⟨br, 0, none⟩)] (spellI e) := by
    have hbd : ∀ {l : List Itm} {x : Itm}, (l ++ [x]) <+: spellI e → -1000000 ≤ cntI row ah l ∧ cntI row ah l ≤ 1000000 := by
      intro l x hp
      have h1 := hp.length_le
      have h2 := spell_len e
      have h3 := cnt_bd (row := row) hah l
      rw [List.length_append, List.length_singleton] at h1
      omega
    refine ⟨fun h hb => ⟨h.keep hb, ⟨⟨hb.os, hb.tape, hb.output, hb.size⟩, fun k hk hs => ⟨hb.block k hk, hs⟩⟩, fun k hk => by have := h.n.lt; omega⟩, fun {l} x {w} h hp => sz1_any x h (hbd hp), fun {l} i q {w} h hp => ?_, EntF.two fun a b W => by go_simp, ?_, fun h => h.betw⟩
    · have hm := spell_side hk (hp.subset (List.mem_append_right _ (List.mem_singleton.2 rfl)))
      exact sz2_any i q h (hs i hm) hl hn (hbd hp) hah
    · intro args W hs
      obtain ⟨la⟩ := args
      match la, hs with
      | [a, b, c, d, e], _ => go_simp
  have HS := Lib.hid (spell_any (l0 := []) (w := X3) e hC h0 hk hvn (by rw [List.nil_append]; exact List.prefix_rfl))
  have HFin := Lib.hid (fun (W : World) (h : CntSt row ah (p + 2) (p + 1) br v vr ([] ++ spellI e) W) (hf : Fram (fun k _ => k ≠ p + 2) X3 W) =>
    (show W.cell? ⟨p + 2, 0, none⟩ = some (.int .i64 (sizeOne row e ah)) ∧ Below w.heap.size w W from
      ⟨(Blk.cell h.n 0).trans rfl, b13.trans ⟨hf.1.1, hf.1.2.1, hf.1.2.2.1, hf.1.2.2.2, fun k hk => (hf.2 k (by have := b13.size; omega) (by omega)).1⟩⟩))
  have HX := Lib.hid (show X3 = ((w.alloc (.cells (exC e) 49)).alloc (.cells #[.slice A na c] 57)).alloc (.cells #[.int .i64 0] 3) by rw [hX3, hX2, hX1, hvv, hna])
  have HP := Lib.hid hp
  have HE := Lib.hid hE
  rw [hna]
  obtain ⟨Z, hZ⟩ : ∃ z, sizeOne row e ah = z := ⟨_, rfl⟩
  rw [hZ] at HFin
  rw [hZ]
  clear hX1 hX2 hX3 hvv hna hp s1 s2 b1 b2 b3 b13 hE hA hN h0 hC hbr hr hv hB hk hvn hs hl hn hah hZ
  obtain ⟨k, vk, vn, vt, vv, pp, l, r⟩ := e
  unfold exC at HX HE
  unfold exV exC at HS ⊢
  dsimp only at HX HE HS ⊢
  go_enter Tryz.func44, Tryz.ntmps44
  go_upto_region 2 with fail
  rw [← HX.out, HP.out]
  go_wp2_with (first
    | (refine wpList_load_row (o := ⟨some 7, _, _, _, _, _⟩) rfl 49 (.tmp 3) rfl p rfl _ #[.int .i64 k, .int .i64 vk, .int .i64 vn, .string ⟨vt.toArray⟩, .string ⟨vv.toArray⟩, .string ⟨pp.toArray⟩, .int .i64 l, .int .i64 r] _ _ HE.out Tryz.underlying49 rfl (by kernel_rfl) ?_)
    | fail)
  refine HS.out.mono ?_
  rintro _ w4 ⟨rfl, hi, hf⟩
  obtain ⟨cN, hb⟩ := HFin.out w4 hi hf
  have HB := Lib.hid hb
  clear hi hf hb
  go_wp2_with fail
  go_ret
  exact ⟨rfl, HB.out⟩

end Go.Proofs.YtdabanocofimmaaGreatDoor
