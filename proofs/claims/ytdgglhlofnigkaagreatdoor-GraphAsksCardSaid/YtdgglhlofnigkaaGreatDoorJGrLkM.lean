/-
  What a view of a row tells of edges. What a view of a row tells, and what the reference tells of the row, are the same: labels, names, values, lines. Strings out of bytes; slices just laid. hedgerowref01.Digits: the contract, by a walk. hedgerowref01.Text: the contract, by a walk. hedgerowref08.kept, Lines: the contracts, by walks. hedgerowref08.Lines: the contract, by a walk. hedgerowlaw08.same at equal rows of texts: the contract, by a walk. Conditions: lengths.
-/
import Derived.Test.YtdgglhlofnigkaaGreatDoorJGrFew
import Derived.Test.YtdgglhlofnigkaaGreatDoorGrAsk
import Derived.Test.YtdgglhlofnigkaaGreatDoorGrLine
import Derived.Test.YtdgglhlofnigkaaGreatDoorGrRefV
import Derived.Test.YtdgglhlofnigkaaGreatDoorJWords
import Derived.Lib.Strings
import Derived.Test.YtdgglhlofnigkaaGreatDoorJGrLinks
import Derived.Deep.RegionWith
import Derived.Deep.DeepCutAuto
import Derived.Test.YtdgglhlofnigkaaGreatDoorJValRefLink
import Derived.Test.YtdgglhlofnigkaaGreatDoorGrRefNm
import Derived.Test.YtdgglhlofnigkaaGreatDoorGrLines
namespace Go.Proofs.YtdgglhlofnigkaaGreatDoor
open Go.RowKit Go.MapKept Go.Sort
theorem row_ok {row : List Ev} (hc : CausL row) : ∀ x ∈ elsL row, ElOk x := fun x hx => by
 obtain ⟨e, he, rfl⟩ := (els_mem row x).1 hx
 have h := (hc.1 e he).1
 unfold okB changeB at h
 simp only [Bool.and_eq_true] at h
 exact elB_ok h.2.1
theorem viewL_has {row : List Ev} (hc : CausL row) (hl : ∀ e ∈ row, Lens e) (key : ByteArray) : hasV (viewL row) key = hasG row (nodeE key) := by
 show hasV (foldV (valsS (runS row)) (elsG row)) key = _
 rw [fold_is hc hl]
 exact has_eq (has_mem row) key
end Go.Proofs.YtdgglhlofnigkaaGreatDoor

namespace Go.Proofs.YtdgglhlofnigkaaGreatDoor
open Go.RowKit Go.MapKept Go.Sort
theorem pref_is {row : List Ev} (hc : CausL row) (hl : ∀ e ∈ row, Lens e) : foldV (valsS (runS row)) (elsG row) = prefV (valsS (runS row)) ((elsL row).filter (hasG row)) ((elsL row).filter (hasG row)) := fold_is hc hl
theorem viewL_lab {row : List Ev} (hc : CausL row) (hl : ∀ e ∈ row, Lens e) (key : ByteArray) : (viewL row).lab key = labR (hasG row) (elsL row) key := by
 show (foldV _ _).lab key = _
 rw [pref_is hc hl]
 exact (lab_eq (has_mem row) key).symm
theorem viewL_names {row : List Ev} (hc : CausL row) (hl : ∀ e ∈ row, Lens e) (x : El) : (((viewL row).part x).getD []).map (·.d) = namesR (hasG row) (elsL row) x := by
 show (((foldV _ _).part x).getD []).map _ = _
 rw [pref_is hc hl]
 exact (names_eq (has_mem row) (row_ok hc) x).symm
theorem viewL_haslink {row : List Ev} (hc : CausL row) (hl : ∀ e ∈ row, Lens e) (x : Lk) : ((viewL row).part (linkE x)).isSome = linkG row x := by
 show ((foldV _ _).part _).isSome = _
 rw [pref_is hc hl]
 exact haslink_eq (has_mem row) x
theorem live_none {row : List Ev} {x : El} (h : hasG row x = false) : liveL row x = [] := by
 unfold hasG at h
 have := of_decide_eq_false h
 exact List.length_eq_zero_iff.1 (by omega)
theorem viewL_val {row : List Ev} (hc : CausL row) (hl : ∀ e ∈ row, Lens e) (x : El) : (viewL row).val x = valsR row x := by
 show (foldV _ _).val x = _
 rw [pref_is hc hl, val_eq (has_mem row) x, vals_is hc hl]
 unfold valsR valsG
 have hs : seenH (hasG row) x = seenG row x := rfl
 unfold hasValR
 rw [hs]
 by_cases h4 : 4 ≤ x.k
 ·rw [decide_eq_true h4, Bool.true_and, Bool.true_and]
  cases hq : seenG row x
  ·simp
  ·cases hh : hasG row x
   ·rw [live_none hh]; simp [riseC]
   ·have h5 : x.k ≤ 5 := by
     unfold seenG at hq
     split at hq
     ·omega
     ·split at hq
      ·omega
      ·cases hq
    simp [h5]
 ·rw [decide_eq_false h4]; simp
end Go.Proofs.YtdgglhlofnigkaaGreatDoor

namespace Go.Proofs.YtdgglhlofnigkaaGreatDoor
open Go.RowKit
end Go.Proofs.YtdgglhlofnigkaaGreatDoor

namespace Go.Proofs.YtdgglhlofnigkaaGreatDoor
open Go.RowKit
end Go.Proofs.YtdgglhlofnigkaaGreatDoor

namespace Go.Proofs.YtdgglhlofnigkaaGreatDoor
open Go.RowKit
end Go.Proofs.YtdgglhlofnigkaaGreatDoor

namespace Go.Proofs.YtdgglhlofnigkaaGreatDoor
open Go.RowKit Go.MapKept Go.Sort
theorem valsR_len (l : List Ev) (x : El) : (valsR l x).length ≤ l.length := by
 unfold valsR
 split
 ·refine Nat.le_trans (riseC_len _) ?_
  rw [List.length_map]
  exact List.length_filter_le _ _
 ·exact Nat.zero_le _
theorem short_sizes {e : Ev} (h : shortB e = true) : e.a.size ≤ 300 ∧ e.b.size ≤ 300 ∧ e.cc.size ≤ 300 ∧ e.d.size ≤ 300 ∧ e.t.size ≤ 300 := by
 unfold shortB at h
 have := of_decide_eq_true h
 omega
theorem el_sizes {l : List Ev} (h : ∀ e ∈ l, shortB e = true) {x : El} (hx : x ∈ elsL l) : x.a.size ≤ 300 ∧ x.b.size ≤ 300 ∧ x.c.size ≤ 300 ∧ x.d.size ≤ 300 := by
 obtain ⟨e, he, rfl⟩ := (els_mem l x).1 hx
 have := short_sizes (h e he)
 exact ⟨this.1, this.2.1, this.2.2.1, this.2.2.2.1⟩
theorem labs_sizes {l : List Ev} (h : ∀ e ∈ l, shortB e = true) (key : ByteArray) : (labR (hasG l) (elsL l) key).length ≤ l.length ∧ ∀ s ∈ labR (hasG l) (elsL l) key, s.size ≤ 300 := by
 unfold labR
 refine ⟨by rw [List.length_map]; exact Nat.le_trans (List.length_filter_le _ _) (els_len l), fun s hs => ?_⟩
 obtain ⟨x, hx, rfl⟩ := List.mem_map.1 hs
 exact (el_sizes h (List.mem_filter.1 hx).1).2.2.2
theorem names_sizes {l : List Ev} (h : ∀ e ∈ l, shortB e = true) (y : El) : (namesR (hasG l) (elsL l) y).length ≤ l.length ∧ ∀ s ∈ namesR (hasG l) (elsL l) y, s.size ≤ 300 := by
 unfold namesR
 refine ⟨by rw [List.length_map]; exact Nat.le_trans (List.length_filter_le _ _) (els_len l), fun s hs => ?_⟩
 obtain ⟨x, hx, rfl⟩ := List.mem_map.1 hs
 exact (el_sizes h (List.mem_filter.1 hx).1).2.2.2
end Go.Proofs.YtdgglhlofnigkaaGreatDoor

namespace Go.Proofs.YtdgglhlofnigkaaGreatDoor
open Go.RowKit Go.MapKept Go.Sort
end Go.Proofs.YtdgglhlofnigkaaGreatDoor

namespace Go.Proofs.YtdgglhlofnigkaaGreatDoor
open Lib (hid)
open Go.RowKit Go.MapKept Go.Sort
theorem at_Sq (g o c n k : Nat) (h : k < n) (w : World) : (Instr.indexAt 32 (.slice (some ⟨g, o, none⟩) n c) (.int .i64 k)).run Tryz.prog w = .ok (.pointer (some ⟨g, o + k * 1, none⟩)) w := by
 have h2 : (k : Int) < n := by omega
 go_simp
theorem ne_SS (s : ByteArray) (w : World) : (binOp .neq 9 (.string s) (.string s)).run Tryz.prog w = .ok (.bool false) w := by
 go_simp
set_option maxRecDepth 100000 in
set_option maxHeartbeats 2000000 in
theorem sameS_any (l : List ByteArray) (A A2 : Option Addr) (N c c2 : Nat) (w : World) (h1 : SlK enS 1 w (.slice A N c) l) (h2 : SlK enS 1 w (.slice A2 N c2) l) (hN : l.length = N) (hN2 : N ≤ 1000000) :
  Calls Tryz.prog 11 #[.slice A N c, .slice A2 N c2] w (Gives w (.bool true)) := by
 have H1 := hid h1
 have H2 := hid h2
 have HN := hid hN
 have HN2 := hid hN2
 clear h1 h2 hN hN2
 go_enter Tryz.func11, Tryz.ntmps11
 go_wp2_with fail
 go_loopw [13] (fun v13 wr => ∃ k : Nat, v13 = .int .i64 k ∧ k ≤ N ∧ Below w.heap.size w wr) (fun v13 _ => N - (intOf v13).toNat)
 case atStart => exact ⟨0, rfl, Nat.zero_le _, Below.refl _ _⟩
 case round =>
  obtain ⟨k, rfl, hk, hbw⟩ := hrel
  obtain ⟨wo, rfl⟩ : ∃ wo, wo = wr := ⟨_, rfl⟩
  have HBw := hid hbw
  clear hbw
  by_cases hlt : k < N
  ·obtain ⟨s, hs⟩ : ∃ s, l[k]? = some s := ⟨l[k]'(by rw [HN.out]; exact hlt), List.getElem?_eq_getElem _⟩
   have hne : l ≠ [] := fun e => by rw [e] at hs; simp at hs
   obtain ⟨A', c', hA', _, hx1⟩ := H1.out
   obtain ⟨g, o, rfl, hg, hc1⟩ := hx1 hne
   obtain ⟨A2', c2', hA2', _, hx2⟩ := H2.out
   obtain ⟨g2, o2, rfl, hg2, hc2⟩ := hx2 hne
   simp only [Value.slice.injEq] at hA' hA2'
   obtain ⟨rfl, _, rfl⟩ := hA'
   obtain ⟨rfl, _, rfl⟩ := hA2'
   have HC1 := hid (show ∀ W, Below wo.heap.size wo W → W.cell? ⟨g, o + k * 1, none⟩ = some (.string s) from fun W h => rangeAt_below (hc1 k s hs) hg (HBw.out.trans (h.mono HBw.out.size)) 0 (.string s) rfl)
   have HC2 := hid (show ∀ W, Below wo.heap.size wo W → W.cell? ⟨g2, o2 + k * 1, none⟩ = some (.string s) from fun W h => rangeAt_below (hc2 k s hs) hg2 (HBw.out.trans (h.mono HBw.out.size)) 0 (.string s) rfl)
   have HW1 := hid (IntWalk.i64_in ((k : Int) + 1) (by have := HN2.out; omega))
   have HJ1 := hid (show ¬ 9223372036854775807 < k + 1 by have := HN2.out; omega)
   clear hs hne hg hc1 hg2 hc2 hx1 hx2
   go_upto_region 6 with fail
   try simp only [Act.put]
   refine wp_region_any (by kernel_rfl) ?_
   refine wpAny_below (fun iq uq wq => uq = ([.slice (some ⟨g, o, none⟩) N c, .int .i64 (k : Nat), .pointer (some ⟨g, o + k * 1, none⟩), .string s, .slice (some ⟨g2, o2, none⟩) N c2, .int .i64 (k : Nat), .pointer (some ⟨g2, o2 + k * 1, none⟩), .string s, .bool false] : List Value).getD iq undef) _ wo (by kernel_rfl) (by kernel_rfl) (by kernel_rfl) (fun i v w w' _ h => h) ?_ ?_
   ·refine ⟨?_, ?_, ?_, ?_, ?_, ?_, ?_, ?_, ?_, trivial⟩
    ·intro a W hI hun haft hi
     have e0 : a.eval (.tmp 0) = .slice (some ⟨g, o, none⟩) N c := hun 0 (by kernel_rfl)
     exact b_same hi hI rfl _ (run_move_op rfl e0) rfl
    ·intro a W hI hun haft hi
     have e5 : a.eval (.tmp 5) = .int .i64 (k : Nat) := hun 5 (by kernel_rfl)
     exact b_same hi hI rfl _ (run_move_op rfl e5) rfl
    ·intro a W hI hun haft hi
     have f0 : a.eval (.tmp 16) = .slice (some ⟨g, o, none⟩) N c := haft ⟨0, .data⟩ (by simp) rfl _ _ rfl rfl
     have f1 : a.eval (.tmp 17) = .int .i64 (k : Nat) := haft ⟨1, .data⟩ (by simp) rfl _ _ rfl rfl
     exact b_same hi hI rfl _ (run_indexAddr_op rfl f0 f1 (at_Sq g o c N k hlt W)) rfl
    ·intro a W hI hun haft hi
     have f2 : a.eval (.tmp 18) = .pointer (some ⟨g, o + k * 1, none⟩) := haft ⟨2, .data⟩ (by simp) rfl _ _ rfl rfl
     exact b_same hi hI rfl _ (run_loadstr_op rfl f2 Tryz.underlying9 (HC1.out W hI)) rfl
    ·intro a W hI hun haft hi
     have e1 : a.eval (.tmp 1) = .slice (some ⟨g2, o2, none⟩) N c2 := hun 1 (by kernel_rfl)
     exact b_same hi hI rfl _ (run_move_op rfl e1) rfl
    ·intro a W hI hun haft hi
     have e5 : a.eval (.tmp 5) = .int .i64 (k : Nat) := hun 5 (by kernel_rfl)
     exact b_same hi hI rfl _ (run_move_op rfl e5) rfl
    ·intro a W hI hun haft hi
     have f4 : a.eval (.tmp 20) = .slice (some ⟨g2, o2, none⟩) N c2 := haft ⟨4, .data⟩ (by simp) rfl _ _ rfl rfl
     have f5 : a.eval (.tmp 21) = .int .i64 (k : Nat) := haft ⟨5, .data⟩ (by simp) rfl _ _ rfl rfl
     exact b_same hi hI rfl _ (run_indexAddr_op rfl f4 f5 (at_Sq g2 o2 c2 N k hlt W)) rfl
    ·intro a W hI hun haft hi
     have f6 : a.eval (.tmp 22) = .pointer (some ⟨g2, o2 + k * 1, none⟩) := haft ⟨6, .data⟩ (by simp) rfl _ _ rfl rfl
     exact b_same hi hI rfl _ (run_loadstr_op rfl f6 Tryz.underlying9 (HC2.out W hI)) rfl
    ·intro a W hI hun haft hi
     have f3 : a.eval (.tmp 19) = .string s := haft ⟨3, .data⟩ (by simp) rfl _ _ rfl rfl
     have f7 : a.eval (.tmp 23) = .string s := haft ⟨7, .data⟩ (by simp) rfl _ _ rfl rfl
     exact b_same hi hI rfl (.bool false) (run_bin_op rfl f3 f7 (by kernel_rfl) (ne_SS s W)) rfl
   ·intro vals W hI hp
    have hl8 : vals 8 = .bool false := hp 8 (by decide)
    have HI := hid hI
    clear hp hI
    simp only [layN, layS, List.range, List.range.loop, if_true, Act.put, Nat.zero_add, Nat.reduceAdd, hl8]
    clear hl8
    have HBe := hid (HBw.out.trans (HI.out.mono HBw.out.size))
    have hw := HW1.out
    have hjm := HJ1.out
    clear HI
    go_wp2_with fail
    go_roundw
    case rel => exact ⟨k + 1, by go_num, by omega, HBe.out⟩
    case measure => simp [intOf] <;> omega
  ·go_wp2_with fail
   go_ret
   exact ⟨rfl, HBw.out⟩
end Go.Proofs.YtdgglhlofnigkaaGreatDoor
