/-
  hedgerowlaw09.closed: the contract, by a walk. hedgerowref07.Causal: the contract, by a walk, for up to a hundred events. Conditions: lengths.
-/
import Derived.Test.YtmhechlfpaciiaaAoWalk
import Derived.Test.YtmhechlfpaciiaaStCausal
namespace Go.Proofs.Ytmhechlfpaciiaa
open Go.RowKit Go.MapKept Go.Sort

def belowC (e f : Ev) : Bool := decide (e.p f.r.toNat < f.c) || (List.range 16).all fun i => decide (f.p i ≤ e.p i)
def closedB (row : List Ev) : Bool := row.all fun e => row.all (belowC e)
theorem closed_no {row : List Ev} {i j : Nat} {e f : Ev} (he : row[i]? = some e) (hf : row[j]? = some f) (h : belowC e f = false) : closedB row = false := by
  unfold closedB
  refine List.all_eq_false.2 ⟨e, List.mem_of_getElem? he, ?_⟩
  rw [List.all_eq_false.2 ⟨f, List.mem_of_getElem? hf, by rw [h]; decide⟩]
  decide
theorem closed_yes {row : List Ev} (h : ∀ (k : Nat) (e : Ev), row[k]? = some e → row.all (belowC e) = true) : closedB row = true := by
  unfold closedB
  refine List.all_eq_true.2 fun e he => ?_
  obtain ⟨k, hk⟩ := List.mem_iff_getElem?.1 he
  exact h k e hk
theorem below_no {e f : Ev} {k : Nat} (h1 : ¬ e.p f.r.toNat < f.c) (hk : k < 16) (h2 : ¬ f.p k ≤ e.p k) : belowC e f = false := by
  unfold belowC
  rw [decide_eq_false h1, Bool.false_or]
  exact List.all_eq_false.2 ⟨k, List.mem_range.2 hk, by simpa using h2⟩
theorem below_yes {e f : Ev} (h : ∀ k, k < 16 → f.p k ≤ e.p k) : belowC e f = true := by
  unfold belowC
  rw [Bool.or_eq_true]
  exact .inr (List.all_eq_true.2 fun k hk => decide_eq_true (h k (List.mem_range.1 hk)))
theorem EB.pastc {w : World} {g : Nat} {e : Ev} (h : EB w g e) (k : Nat) (hk : k < 16) : w.cell? ⟨g, 2 + k, none⟩ = some (.int .i64 (e.p k)) := by
  refine EB.past h k _ ?_
  rw [Array.getElem?_toList]
  exact vA_at e.p k hk

set_option maxRecDepth 100000 in
set_option maxHeartbeats 4000000 in
theorem closed_any (row : List Ev) (A : Option Addr) (N c : Nat) (w : World) (hs : SlK encE 27 w (.slice A N c) row) (hN : row.length = N) (hN2 : N ≤ 1000) (hd : ∀ e ∈ row, 0 ≤ e.r ∧ e.r < 16) :
    Calls Try.prog 33 #[.slice A N c] w (Gives w (.bool (closedB row))) := by
  have HS := Lib.hid hs
  have HN := Lib.hid (And.intro hN hN2)
  have HD := Lib.hid hd
  have HZe := Lib.hid (zero_of_info zeroE).1
  clear hs hN hN2 hd
  go_enter Try.func33, Try.ntmps33
  go_wp2_with fail
  go_loopw [10] (fun v10 wr => ∃ i : Nat, v10 = .int .i64 (i : Nat) ∧ i ≤ N ∧ Below w.heap.size w wr ∧ ∀ (k : Nat) (e : Ev), k < i → row[k]? = some e → row.all (belowC e) = true) (fun v10 _ => N - (intOf v10).toNat)
  case atStart => exact ⟨0, rfl, Nat.zero_le _, Below.refl _ _, fun k e h => absurd h (Nat.not_lt_zero k)⟩
  case round =>
    obtain ⟨i, rfl, hi, hbr, hall⟩ := hrel
    obtain ⟨wo, rfl⟩ : ∃ wo, wo = wr := ⟨_, rfl⟩
    have HBr := Lib.hid hbr
    have HAll := Lib.hid hall
    clear hbr hall
    by_cases hlt : i < N
    case neg =>
      have hiN : i = N := by omega
      subst hiN
      have HT := Lib.hid (show closedB row = true from closed_yes fun k e hk => HAll.out k e (by rw [← HN.out.1]; exact (List.getElem?_eq_some_iff.1 hk).1) hk)
      go_wp2
      go_ret
      exact ⟨by rw [HT.out]; rfl, HBr.out⟩
    obtain ⟨e, he⟩ : ∃ e, row[i]? = some e := ⟨row[i]'(by rw [HN.out.1]; exact hlt), List.getElem?_eq_getElem _⟩
    have HE := Lib.hid he
    obtain ⟨g, o, hA', _, hce⟩ := (HS.out.below HBr.out).ev he
    have HCe := Lib.hid hce
    have HAt := Lib.hid (show (Instr.indexAt 22 (.slice A N c) (.int .i64 ((i : Nat) : Int))).run Try.prog wo = .ok (.pointer (some ⟨g, o + i * 27, none⟩)) wo by rw [hA']; exact at_Ev g o c N i hlt wo)
    have HAl := Lib.hid fun cs => World.setRow_alloc_new wo (evC ev0) cs 39
    have HZz := Lib.hid (show Blk (wo.alloc (.cells (evC ev0) 39)) wo.heap.size 39 (evC ev0) from Blk.new _ _ _)
    obtain ⟨X, hX⟩ : ∃ X, X = wo.alloc (.cells (evC e) 39) := ⟨_, rfl⟩
    have hbX : Below wo.heap.size wo X := by rw [hX]; exact (Below.refl _ _).alloc (Nat.le_refl _) _
    have HBX := Lib.hid (show EB X wo.heap.size e by rw [hX]; exact Blk.new _ _ _)
    have HBe := Lib.hid (HBr.out.trans (hbX.mono HBr.out.size))
    obtain ⟨q, hq⟩ : ∃ q, wo.heap.size = q := ⟨_, rfl⟩
    have HXe := Lib.hid hX
    rw [hq] at HBX HZz HAl
    have HQ := Lib.hid hq
    obtain ⟨i1, hi1⟩ : ∃ i1, i + 1 = i1 := ⟨_, rfl⟩
    have HI1 := Lib.hid (And.intro hi1 hlt)
    clear hX hbX hce hA' he hq hi hi1
    have hz := HZe.out
    go_wp2_with (first
      | (refine wpList_val (o := ⟨some 12, _, _, _, _, _⟩) rfl (.pointer (some ⟨g, o + i * 27, none⟩)) wo (run_indexAddr_op rfl rfl rfl HAt.out) ?_)
      | (refine' wpList_load_midif ?q1 39 (.tmp 12) ?q2 g (o + i * 27) ?q3 (encE e) _ ?q4 Try.underlying39 ?q5 ?q6 ?_; (case q2 => rfl); (case q1 => rfl); (case q3 => rfl); (case q4 => exact HCe.out); (case q5 => rfl); (case q6 => exact (sizeE e)))
      | (rw [HQ.out]; refine wpList_store_row (o := ⟨none, _, _, _, _, _⟩) rfl 39 (.tmp 4) (.tmp 13) rfl q (evC e) rfl rfl _ _ HZz.out (sizeE e) rfl (by kernel_rfl) ?_; rw [HAl.out, ← HXe.out])
      | fail)
    clear hz hlt
    go_loopw [16] (fun v16 wr => ∃ j : Nat, v16 = .int .i64 (j : Nat) ∧ j ≤ N ∧ Below X.heap.size X wr ∧ ∀ (k : Nat) (f : Ev), k < j → row[k]? = some f → belowC e f = true) (fun v16 _ => N - (intOf v16).toNat)
    case atStart => exact ⟨0, rfl, Nat.zero_le _, Below.refl _ _, fun k f h => absurd h (Nat.not_lt_zero k)⟩
    case round =>
      obtain ⟨j, rfl, hj, hbw, hdone⟩ := hrel
      obtain ⟨wi, rfl⟩ : ∃ wi, wi = wr := ⟨_, rfl⟩
      have HBw := Lib.hid hbw
      have HDn := Lib.hid hdone
      clear hbw hdone
      by_cases hlt : j < N
      case neg =>
        have hjN : j = N := by omega
        subst hjN
        have HTe := Lib.hid (show row.all (belowC e) = true from List.all_eq_true.2 fun f hf => by
          obtain ⟨k, hk⟩ := List.mem_iff_getElem?.1 hf
          exact HDn.out k f (by rw [← HN.out.1]; exact (List.getElem?_eq_some_iff.1 hk).1) hk)
        have HBn := Lib.hid (HBe.out.trans (HBw.out.mono HBe.out.size))
        clear hlt hj
        go_wp2_with (first
          | (refine wpList_val (o := ⟨some 44, _, _, _, _, _⟩) rfl (.int .i64 ((i1 : Nat) : Int)) _ (run_bin_op rfl rfl rfl (guardI _ _ _ _ _ _ _) (add_h i 1 i1 HI1.out.1 (by have := HI1.out; have := HN.out; omega) _)) ?_)
          | fail)
        go_roundw
        case rel =>
          refine ⟨i1, rfl, by have := HI1.out; omega, HBn.out, fun k f hk hf => ?_⟩
          by_cases hki : k = i
          · subst hki
            have h1 := HE.out
            rw [hf] at h1
            injection h1 with h1
            rw [h1]
            exact HTe.out
          · exact HAll.out k f (by have := HI1.out; omega) hf
        case measure => have := HI1.out; simp [intOf] <;> omega
      case pos =>
        as_aux_lemma =>
        obtain ⟨f, hf⟩ : ∃ f, row[j]? = some f := ⟨row[j]'(by rw [HN.out.1]; exact hlt), List.getElem?_eq_getElem _⟩
        have HFj := Lib.hid hf
        have hbl : Below w.heap.size w wi := HBe.out.trans (HBw.out.mono HBe.out.size)
        obtain ⟨g1, o1, hA1, _, hce⟩ := (HS.out.below hbl).ev hf
        have HCe1 := Lib.hid hce
        have HAt1 := Lib.hid (show (Instr.indexAt 22 (.slice A N c) (.int .i64 ((j : Nat) : Int))).run Try.prog wi = .ok (.pointer (some ⟨g1, o1 + j * 27, none⟩)) wi by rw [hA1]; exact at_Ev g1 o1 c N j hlt wi)
        obtain ⟨r, hr⟩ : ∃ r, wi.heap.size = r := ⟨_, rfl⟩
        obtain ⟨Y, hY⟩ : ∃ Y, Y = wi.alloc (.cells (evC f) 39) := ⟨_, rfl⟩
        have hbY : Below wi.heap.size wi Y := by rw [hY]; exact (Below.refl _ _).alloc (Nat.le_refl _) _
        have HBY := Lib.hid (show EB Y r f by rw [hY, ← hr]; exact Blk.new _ _ _)
        have HEY := Lib.hid (show EB Y q e from EB.keep (Blk.below HBX.out HBw.out (Blk.lt HBX.out)) hbY)
        have HBY2 := Lib.hid (show Below X.heap.size X Y from HBw.out.trans (hbY.mono HBw.out.size))
        have HAl1 := Lib.hid fun cs => World.setRow_alloc_new wi (evC ev0) cs 39
        have HZ1 := Lib.hid (show Blk (wi.alloc (.cells (evC ev0) 39)) r 39 (evC ev0) from by rw [← hr]; exact Blk.new _ _ _)
        rw [hr] at HAl1
        have HYe := Lib.hid hY
        have HRr := Lib.hid hr
        obtain ⟨hd1, hd2⟩ := HD.out f (List.mem_of_getElem? hf)
        obtain ⟨n, hn⟩ : ∃ n : Nat, f.r = (n : Int) := ⟨f.r.toNat, by omega⟩
        have hrn : f.r.toNat = n := by omega
        have HNr := Lib.hid (show n < 16 ∧ f.r = (n : Int) ∧ f.r.toNat = n from ⟨by omega, hn, hrn⟩)
        obtain ⟨lt, hl⟩ : ∃ lt, decide (e.p n < f.c) = lt := ⟨_, rfl⟩
        have HLt := Lib.hid hl
        obtain ⟨j1, hj1⟩ : ∃ j1, j + 1 = j1 := ⟨_, rfl⟩
        have HJ1 := Lib.hid (And.intro hj1 hlt)
        clear hbl hf hA1 hce hr hY hbY hd1 hd2 hn hrn hl hj1 hj
        have hz := HZe.out
        go_upto_region 7 with (first
          | (refine wpList_val (o := ⟨some 18, _, _, _, _, _⟩) rfl (.pointer (some ⟨g1, o1 + j * 27, none⟩)) wi (run_indexAddr_op rfl rfl rfl HAt1.out) ?_)
          | (refine' wpList_load_midif ?q1 39 (.tmp 18) ?q2 g1 (o1 + j * 27) ?q3 (encE f) _ ?q4 Try.underlying39 ?q5 ?q6 ?_; (case q2 => rfl); (case q1 => rfl); (case q3 => rfl); (case q4 => exact HCe1.out); (case q5 => rfl); (case q6 => exact (sizeE f)))
          | (rw [HRr.out]; refine wpList_store_row (o := ⟨none, _, _, _, _, _⟩) rfl 39 (.tmp 6) (.tmp 19) rfl r (evC f) rfl rfl _ _ HZ1.out (sizeE f) rfl (by kernel_rfl) ?_; rw [HAl1.out, ← HYe.out])
          | fail)
        clear hz hlt
        refine wp_region_any (by kernel_rfl) ?_
        refine wpAny_below (fun iq uq _ => uq = ([(.pointer (some ⟨r, 0, none⟩) : Value), .pointer (some ⟨r, 0, none⟩), .int .i64 (n : Nat), .pointer (some ⟨q, 2, none⟩), .pointer (some ⟨q, 2 + n, none⟩), .int .i64 (e.p n), .pointer (some ⟨r, 0, none⟩), .pointer (some ⟨r, 1, none⟩), .int .i64 f.c, .bool lt] : List Value).getD iq undef) _ Y (by kernel_rfl) (by kernel_rfl) (by kernel_rfl) (fun i v w w' _ h => h) ?_ ?_
        · refine ⟨?_, ?_, ?_, ?_, ?_, ?_, ?_, ?_, ?_, ?_, trivial⟩
          · intro ac W hI hun haft hi
            have e6 : ac.eval (.tmp 6) = .pointer (some ⟨r, 0, none⟩) := hun 6 (by kernel_rfl)
            exact b_same hi hI rfl _ (run_fieldAddr_any rfl e6 (at_evd r 0 W)) rfl
          · intro ac W hI hun haft hi
            have f0 : ac.eval (.tmp 20) = .pointer (some ⟨r, 0, none⟩) := haft ⟨0, .data⟩ (by simp) rfl _ _ rfl rfl
            exact b_same hi hI rfl _ (run_fieldAddr_any rfl f0 (at_dd0 r 0 W)) rfl
          · intro ac W hI hun haft hi
            have f1 : ac.eval (.tmp 21) = .pointer (some ⟨r, 0, none⟩) := haft ⟨1, .data⟩ (by simp) rfl _ _ rfl rfl
            exact b_same hi hI rfl _ (run_loadint_op rfl f1 Try.underlying3 ((Blk.cell (HBY.out.keep hI) 0).trans (by show some (Value.int .i64 f.r) = _; rw [HNr.out.2.1]))) rfl
          · intro ac W hI hun haft hi
            have e4 : ac.eval (.tmp 4) = .pointer (some ⟨q, 0, none⟩) := hun 4 (by kernel_rfl)
            exact b_same hi hI rfl _ (run_fieldAddr_any rfl e4 (at_ev1 q W)) rfl
          · intro ac W hI hun haft hi
            have f3 : ac.eval (.tmp 23) = .pointer (some ⟨q, 2, none⟩) := haft ⟨3, .data⟩ (by simp) rfl _ _ rfl rfl
            have f2 : ac.eval (.tmp 22) = .int .i64 (n : Nat) := haft ⟨2, .data⟩ (by simp) rfl _ _ rfl rfl
            exact b_same hi hI rfl _ (run_indexAddr_op rfl f3 f2 (at_past q n HNr.out.1 W)) rfl
          · intro ac W hI hun haft hi
            have f4 : ac.eval (.tmp 24) = .pointer (some ⟨q, 2 + n, none⟩) := haft ⟨4, .data⟩ (by simp) rfl _ _ rfl rfl
            exact b_same hi hI rfl _ (run_loadint_op rfl f4 Try.underlying3 (EB.pastc (HEY.out.keep hI) n (by have := HNr.out; omega))) rfl
          · intro ac W hI hun haft hi
            have e6 : ac.eval (.tmp 6) = .pointer (some ⟨r, 0, none⟩) := hun 6 (by kernel_rfl)
            exact b_same hi hI rfl _ (run_fieldAddr_any rfl e6 (at_evd r 0 W)) rfl
          · intro ac W hI hun haft hi
            have f6 : ac.eval (.tmp 26) = .pointer (some ⟨r, 0, none⟩) := haft ⟨6, .data⟩ (by simp) rfl _ _ rfl rfl
            exact b_same hi hI rfl _ (run_fieldAddr_any rfl f6 (at_dd1 r W)) rfl
          · intro ac W hI hun haft hi
            have f7 : ac.eval (.tmp 27) = .pointer (some ⟨r, 1, none⟩) := haft ⟨7, .data⟩ (by simp) rfl _ _ rfl rfl
            exact b_same hi hI rfl _ (run_loadint_op rfl f7 Try.underlying3 ((Blk.cell (HBY.out.keep hI) 1).trans rfl)) rfl
          · intro ac W hI hun haft hi
            have f5 : ac.eval (.tmp 25) = .int .i64 (e.p n) := haft ⟨5, .data⟩ (by simp) rfl _ _ rfl rfl
            have f8 : ac.eval (.tmp 28) = .int .i64 f.c := haft ⟨8, .data⟩ (by simp) rfl _ _ rfl rfl
            exact b_same hi hI rfl _ (run_bin_op rfl f5 f8 (guardI _ _ _ _ _ _ _) (lt_isS _ _ _ HLt.out W)) rfl
        · intro vals2 Y2 hI hp
          have h9 : vals2 9 = .bool lt := hp 9 (by decide)
          have HB3 := Lib.hid (HBY2.out.trans (hI.mono HBY2.out.size))
          have HEf := Lib.hid (HBY.out.keep hI)
          have HEe := Lib.hid (HEY.out.keep hI)
          clear hp hI
          simp only [layN, List.size_toArray, List.length_cons, List.length_nil, List.range, List.range.loop, if_true, List.getElem?_toArray, List.getElem?_cons_zero, List.getElem?_cons_succ, Act.put, List.setIfInBounds_toArray, List.set_cons_zero, List.set_cons_succ, Nat.zero_add, Nat.reduceAdd, h9]
          clear h9
          cases lt
          · go_wp2_with fail
            go_loopw [30] (fun v30 wr => ∃ k : Nat, v30 = .int .i64 (k : Nat) ∧ k ≤ 16 ∧ Below Y2.heap.size Y2 wr ∧ ∀ m, m < k → f.p m ≤ e.p m) (fun v30 _ => 16 - (intOf v30).toNat)
            case atStart => exact ⟨0, rfl, Nat.zero_le _, Below.refl _ _, fun m h => absurd h (Nat.not_lt_zero m)⟩
            case round =>
              obtain ⟨k, rfl, hk, hby, hle⟩ := hrel
              obtain ⟨wk, rfl⟩ : ∃ wk, wk = wr := ⟨_, rfl⟩
              have HBk := Lib.hid (HB3.out.trans (hby.mono HB3.out.size))
              have HBy := Lib.hid hby
              have HLe := Lib.hid hle
              have HEf := Lib.hid (HEf.out.keep hby)
              have HEe := Lib.hid (HEe.out.keep hby)
              clear hby hle
              by_cases hlt : k < 16
              case neg =>
                have hk16 : k = 16 := by omega
                subst hk16
                have HYs := Lib.hid (show belowC e f = true from below_yes HLe.out)
                clear hlt hk
                go_wp2_with (first
                  | (refine wpList_val (o := ⟨some 43, _, _, _, _, _⟩) rfl (.int .i64 ((j1 : Nat) : Int)) _ (run_bin_op rfl rfl rfl (guardI _ _ _ _ _ _ _) (add_h j 1 j1 HJ1.out.1 (by have := HJ1.out; have := HN.out; omega) _)) ?_)
                  | fail)
                go_roundw
                case rel =>
                  refine ⟨j1, rfl, by have := HJ1.out; omega, HBk.out, fun m x hm hx => ?_⟩
                  by_cases hmj : m = j
                  · subst hmj
                    have h1 := HFj.out
                    rw [hx] at h1
                    injection h1 with h1
                    rw [h1]
                    exact HYs.out
                  · exact HDn.out m x (by have := HJ1.out; omega) hx
                case measure => have := HJ1.out; simp [intOf] <;> omega
              obtain ⟨k1, hk1⟩ : ∃ k1, k + 1 = k1 := ⟨_, rfl⟩
              have HK1 := Lib.hid (And.intro hk1 hlt)
              obtain ⟨gt, hgt⟩ : ∃ gt, decide (e.p k < f.p k) = gt := ⟨_, rfl⟩
              have HGt := Lib.hid hgt
              clear hk1 hgt hk
              go_upto_region 11 with fail
              clear hlt
              refine wp_region_any (by kernel_rfl) ?_
              refine wpAny_below (fun iq uq _ => uq = ([(.int .i64 ((k : Nat) : Int) : Value), .pointer (some ⟨r, 2, none⟩), .pointer (some ⟨r, 2 + k, none⟩), .int .i64 (f.p k), .int .i64 ((k : Nat) : Int), .pointer (some ⟨q, 2, none⟩), .pointer (some ⟨q, 2 + k, none⟩), .int .i64 (e.p k), .bool gt] : List Value).getD iq undef) _ wk (by kernel_rfl) (by kernel_rfl) (by kernel_rfl) (fun i v w w' _ h => h) ?_ ?_
              · refine ⟨?_, ?_, ?_, ?_, ?_, ?_, ?_, ?_, ?_, trivial⟩
                · intro ac W hI hun haft hi
                  have e7 : ac.eval (.tmp 7) = .int .i64 ((k : Nat) : Int) := hun 7 (by kernel_rfl)
                  exact b_same hi hI rfl _ (run_move_op rfl e7) rfl
                · intro ac W hI hun haft hi
                  have e6 : ac.eval (.tmp 6) = .pointer (some ⟨r, 0, none⟩) := hun 6 (by kernel_rfl)
                  exact b_same hi hI rfl _ (run_fieldAddr_any rfl e6 (at_ev1 r W)) rfl
                · intro ac W hI hun haft hi
                  have f1 : ac.eval (.tmp 34) = .pointer (some ⟨r, 2, none⟩) := haft ⟨1, .data⟩ (by simp) rfl _ _ rfl rfl
                  have f0 : ac.eval (.tmp 33) = .int .i64 ((k : Nat) : Int) := haft ⟨0, .data⟩ (by simp) rfl _ _ rfl rfl
                  exact b_same hi hI rfl _ (run_indexAddr_op rfl f1 f0 (at_past r k HK1.out.2 W)) rfl
                · intro ac W hI hun haft hi
                  have f2 : ac.eval (.tmp 35) = .pointer (some ⟨r, 2 + k, none⟩) := haft ⟨2, .data⟩ (by simp) rfl _ _ rfl rfl
                  exact b_same hi hI rfl _ (run_loadint_op rfl f2 Try.underlying3 (EB.pastc (HEf.out.keep hI) k (by have := HK1.out; omega))) rfl
                · intro ac W hI hun haft hi
                  have e7 : ac.eval (.tmp 7) = .int .i64 ((k : Nat) : Int) := hun 7 (by kernel_rfl)
                  exact b_same hi hI rfl _ (run_move_op rfl e7) rfl
                · intro ac W hI hun haft hi
                  have e4 : ac.eval (.tmp 4) = .pointer (some ⟨q, 0, none⟩) := hun 4 (by kernel_rfl)
                  exact b_same hi hI rfl _ (run_fieldAddr_any rfl e4 (at_ev1 q W)) rfl
                · intro ac W hI hun haft hi
                  have f5 : ac.eval (.tmp 38) = .pointer (some ⟨q, 2, none⟩) := haft ⟨5, .data⟩ (by simp) rfl _ _ rfl rfl
                  have f4 : ac.eval (.tmp 37) = .int .i64 ((k : Nat) : Int) := haft ⟨4, .data⟩ (by simp) rfl _ _ rfl rfl
                  exact b_same hi hI rfl _ (run_indexAddr_op rfl f5 f4 (at_past q k HK1.out.2 W)) rfl
                · intro ac W hI hun haft hi
                  have f6 : ac.eval (.tmp 39) = .pointer (some ⟨q, 2 + k, none⟩) := haft ⟨6, .data⟩ (by simp) rfl _ _ rfl rfl
                  exact b_same hi hI rfl _ (run_loadint_op rfl f6 Try.underlying3 (EB.pastc (HEe.out.keep hI) k (by have := HK1.out; omega))) rfl
                · intro ac W hI hun haft hi
                  have f3 : ac.eval (.tmp 36) = .int .i64 (f.p k) := haft ⟨3, .data⟩ (by simp) rfl _ _ rfl rfl
                  have f7 : ac.eval (.tmp 40) = .int .i64 (e.p k) := haft ⟨7, .data⟩ (by simp) rfl _ _ rfl rfl
                  exact b_same hi hI rfl _ (run_bin_op rfl f3 f7 (guardI _ _ _ _ _ _ _) (gt_isS _ _ _ HGt.out W)) rfl
              · intro vals3 Y3 hI hp
                have h8 : vals3 8 = .bool gt := hp 8 (by decide)
                have HB4 := Lib.hid (HBk.out.trans (hI.mono HBk.out.size))
                have HB5 := Lib.hid (HBy.out.trans (hI.mono HBy.out.size))
                clear hp hI
                simp only [layN, List.size_toArray, List.length_cons, List.length_nil, List.range, List.range.loop, if_true, List.getElem?_toArray, List.getElem?_cons_zero, List.getElem?_cons_succ, Act.put, List.setIfInBounds_toArray, List.set_cons_zero, List.set_cons_succ, Nat.zero_add, Nat.reduceAdd, h8]
                clear h8
                cases gt
                · go_wp2_with (first
                    | (refine wpList_val (o := ⟨some 42, _, _, _, _, _⟩) rfl (.int .i64 ((k1 : Nat) : Int)) _ (run_bin_op rfl rfl rfl (guardI _ _ _ _ _ _ _) (add_h k 1 k1 HK1.out.1 (by have := HK1.out; omega) _)) ?_)
                    | fail)
                  go_roundw
                  case rel =>
                    refine ⟨k1, rfl, by have := HK1.out; omega, HB5.out, fun m hm => ?_⟩
                    by_cases hmk : m = k
                    · subst hmk
                      have := of_decide_eq_false HGt.out
                      omega
                    · exact HLe.out m (by have := HK1.out; omega)
                  case measure => have := HK1.out; simp [intOf] <;> omega
                · have HF := Lib.hid (show closedB row = false from closed_no HE.out HFj.out (below_no (k := k) (by rw [HNr.out.2.2]; exact of_decide_eq_false HLt.out) HK1.out.2 (by have := of_decide_eq_true HGt.out; omega)))
                  go_wp2_with fail
                  go_ret
                  exact ⟨by rw [HF.out]; rfl, HBe.out.trans (HB4.out.mono HBe.out.size)⟩
          · have HYs := Lib.hid (show belowC e f = true by unfold belowC; rw [HNr.out.2.2, HLt.out]; rfl)
            go_wp2_with (first
              | (refine wpList_val (o := ⟨some 43, _, _, _, _, _⟩) rfl (.int .i64 ((j1 : Nat) : Int)) _ (run_bin_op rfl rfl rfl (guardI _ _ _ _ _ _ _) (add_h j 1 j1 HJ1.out.1 (by have := HJ1.out; have := HN.out; omega) _)) ?_)
              | fail)
            go_roundw
            case rel =>
              refine ⟨j1, rfl, by have := HJ1.out; omega, HB3.out, fun m x hm hx => ?_⟩
              by_cases hmj : m = j
              · subst hmj
                have h1 := HFj.out
                rw [hx] at h1
                injection h1 with h1
                rw [h1]
                exact HYs.out
              · exact HDn.out m x (by have := HJ1.out; omega) hx
            case measure => have := HJ1.out; simp [intOf] <;> omega

end Go.Proofs.Ytmhechlfpaciiaa

namespace Go.Proofs.Ytmhechlfpaciiaa
open Go.RowKit Go.MapKept Go.Sort

set_option maxRecDepth 100000 in
set_option maxHeartbeats 2000000 in
theorem causal8_any (l : List Ev) (A : Option Addr) (N c : Nat) (w : World) (hs : SlK encE 27 w (.slice A N c) l) (hN : l.length = N) (hN2 : N ≤ 100) (ht : ∀ e ∈ l, Tiny e) :
    Calls Try.prog 12 #[.slice A N c] w fun x w' => ∃ v, x = .returned (.tuple #[v, .agg (vA (causC l).2)]) ∧ OwnK encE w.heap.size 39 27 w' v (causC l).1 ∧ Below w.heap.size w w' := by
  obtain ⟨i0, hi, hz0, hz1, hz2⟩ := info_parts infoEv
  obtain ⟨p, hp⟩ : ∃ p, w.heap.size = p := ⟨_, rfl⟩
  have HP := Lib.hid hp
  have HS := Lib.hid hs
  have HN := Lib.hid hN
  have HN2 := Lib.hid hN2
  have HTi := Lib.hid ht
  have HZe := Lib.hid (zero_of_info zeroE).1
  have hzv := (zero_of_info zeroV).1
  clear hp hs hN hN2 ht
  go_enter Try.func12, Try.ntmps12
  go_wp2_with fail
  rw [HP.out]
  have hY : Below p w ((w.alloc (.cells (vA fun _ => 0) 27)).alloc (.cells (vA fun _ => 0) 27)) := ((Below.refl _ _).alloc (by rw [HP.out]; exact Nat.le_refl _) _).alloc (by simp; have := HP.out; omega) _
  have hV0 : VB ((w.alloc (.cells (vA fun _ => 0) 27)).alloc (.cells (vA fun _ => 0) 27)) p (fun _ => 0) := by rw [← HP.out]; exact (VB.new_ _ rfl).alloc_ _
  have hV1 : VB ((w.alloc (.cells (vA fun _ => 0) 27)).alloc (.cells (vA fun _ => 0) 27)) (p + 1) (fun _ => 0) := by rw [← HP.out]; exact VB.new_ _ (by simp)
  have HY := Lib.hid hY
  have HV0 := Lib.hid hV0
  have HV1 := Lib.hid hV1
  clear hY hV0 hV1 hzv
  go_loopw [4, 12] (fun v4 v12 wr => ∃ j : Nat, v12 = .int .i64 j ∧ j ≤ N ∧ OwnK encE p 39 27 wr v4 (causC (l.take j)).1 ∧ VB wr (p + 1) (causC (l.take j)).2 ∧ VB wr p (fun _ => 0) ∧ Below p w wr) (fun _ v12 _ => N - (intOf v12).toNat)
  case atStart => exact ⟨0, rfl, Nat.zero_le _, OwnK.nil_ _ _ _ _ _, HV1.out, HV0.out, HY.out⟩
  case round =>
    obtain ⟨j, rfl, hj, ho, hv1, hv0, hbw⟩ := hrel
    obtain ⟨wo, rfl⟩ : ∃ wo, wo = wr := ⟨_, rfl⟩
    have HO := Lib.hid ho
    have HV1 := Lib.hid hv1
    have HV0 := Lib.hid hv0
    have HBw := Lib.hid hbw
    clear ho hv1 hv0 hbw HY
    by_cases hlt : j < N
    · obtain ⟨e, he⟩ : ∃ e, l[j]? = some e := ⟨l[j]'(by rw [HN.out]; exact hlt), List.getElem?_eq_getElem _⟩
      have hSw : SlK encE 27 wo (.slice A N c) l := HS.out.below (by rw [HP.out]; exact HBw.out)
      obtain ⟨g, o, rfl, hgl, hce⟩ := hSw.ev he
      have HCe := Lib.hid hce
      have HTe := Lib.hid (HTi.out e (List.mem_of_getElem? he))
      have HAt := Lib.hid (at_Ev g o c N j hlt wo)
      have HNx := Lib.hid (causC_next he)
      have HAl := Lib.hid fun c => World.setRow_alloc_new wo (evC ev0) c 39
      have HZz := Lib.hid (show Blk (wo.alloc (.cells (evC ev0) 39)) wo.heap.size 39 (evC ev0) from Blk.new _ _ _)
      obtain ⟨S, hS⟩ : ∃ S, causC (l.take j) = S := ⟨_, rfl⟩
      obtain ⟨row, f⟩ := S
      rw [hS] at HO HV1 HNx
      dsimp only at HO HV1
      have hrow : row.length ≤ 100 := by
        have h1 := causC_len (l.take j)
        rw [hS] at h1
        have h2 := List.length_take_le j l
        have h3 := HN2.out
        dsimp only at h1
        omega
      have HRl := Lib.hid hrow
      obtain ⟨X, hX⟩ : ∃ X, X = wo.alloc (.cells (evC e) 39) := ⟨_, rfl⟩
      have hbX : Below wo.heap.size wo X := by rw [hX]; exact (Below.refl _ _).alloc (Nat.le_refl _) _
      have hBX : EB X wo.heap.size e := by rw [hX]; exact Blk.new _ _ _
      have hpw : p ≤ wo.heap.size := by have := HBw.out.size; have := HP.out; omega
      have HXe := Lib.hid hX
      have HBX := Lib.hid hBX
      have HbX := Lib.hid (HBw.out.trans (hbX.mono hpw))
      have HVX := Lib.hid (VB.keep HV1.out hbX)
      have HUX := Lib.hid (VB.keep HV0.out hbX)
      have HOX := Lib.hid (HO.out.keep hbX)
      have HOl := Lib.hid (fun g (h : u4.ownBlock = some g) => (HO.out.lt g h).2)
      have HpX := Lib.hid (Nat.le_trans hpw hbX.size)
      have HGo : Hid (∀ W, Below X.heap.size X W → OwnK encE p 39 27 W u4 row ∧ VB W (p + 1) f ∧ VB W p (fun _ => 0) ∧ Below p w W ∧ EB W wo.heap.size e) := Lib.hid fun W h =>
        ⟨HOX.out.keep h, VB.keep HVX.out h, VB.keep HUX.out h, HbX.out.trans (h.mono HpX.out), EB.keep HBX.out h⟩
      clear hX hbX hBX hce hgl he hS hpw hSw hrow HVX HUX HbX HO HV1 HV0
      have hw := IntWalk.i64_in ((j : Int) + 1) (by have := HN2.out; omega)
      have hjm : ¬ 9223372036854775807 < j + 1 := by have := HN2.out; omega
      have HJ1 := Lib.hid hjm
      have HW1 := Lib.hid hw
      clear hw hjm
      have hz := HZe.out
      go_upto_region 6 with (first
        | (refine wpList_val (o := ⟨some 14, _, _, _, _, _⟩) rfl (.pointer (some ⟨g, o + j * 27, none⟩)) wo (run_indexAddr_op rfl rfl rfl HAt.out) ?_)
        | (refine wpList_load_midif rfl 39 (.tmp 14) rfl g (o + j * 27) rfl (encE e) _ HCe.out Try.underlying39 rfl (sizeE e) ?_)
        | (refine wpList_store_row rfl 39 (.tmp 7) (.tmp 15) rfl wo.heap.size (evC e) rfl rfl _ _ HZz.out (sizeE e) rfl (by kernel_rfl) ?_; rw [HAl.out, ← HXe.out]))
      clear hz
      cases hok : okB e
      · have HRt := Lib.hid (refright_is7 e HTe.out false hok)
        have HMy : Hid (mayC (row, f).2 e = false) := Lib.hid (by unfold mayC; rw [hok]; rfl)
        clear hok
        refine wp_region_any (by kernel_rfl) ?_
        refine wpAny_below (fun i uq _ => uq = ([evV e, .bool false, .bool true, .bool true, undef, undef, undef, undef, undef, undef, undef, undef, undef, undef, .bool true] : List Value).getD i undef) _ X (by kernel_rfl) (by kernel_rfl) (by kernel_rfl) (fun i v w w' _ h => h) ?_ ?_
        · refine ⟨?_, ?_, ?_, ?_, ?_, ?_, ?_, ?_, ?_, ?_, ?_, ?_, ?_, ?_, ?_, trivial⟩
          · intro a W hI hun haft hi
            have e7 : a.eval (.tmp 7) = .pointer (some ⟨wo.heap.size, 0, none⟩) := hun 7 (by kernel_rfl)
            exact b_same hi hI rfl _ (run_load_op rfl e7 (EB.keep HBX.out hI) Try.underlying39 rfl (sizeE e)) rfl
          · intro a W hI hun haft hi
            have f0 : a.eval (.tmp 16) = evV e := haft ⟨0, .data⟩ (by simp) rfl _ _ rfl rfl
            refine b_call hi hI rfl _ _ (run_call_op (args := #[evV e]) rfl (by simp [f0]) (by kernel_rfl)) ?_
            exact (HRt.out W).mono fun e w' H => ⟨_, H.1, rfl, H.2⟩
          · intro a W hI hun haft hi
            have f1 : a.eval (.tmp 17) = .bool false := haft ⟨1, .data⟩ (by simp) rfl _ _ rfl rfl
            exact b_same hi hI rfl _ (run_not_op rfl f1) rfl
          · intro a W hI hun haft hi
            have f2 : a.eval (.tmp 18) = .bool true := haft ⟨2, .data⟩ (by simp) rfl _ _ rfl rfl
            exact b_same hi hI rfl _ (run_move_op rfl f2) rfl
          · intro a W hI hun haft hi
            have fg : a.eval (.tmp 19) = .bool true := haft ⟨3, .guard⟩ (by simp) rfl _ _ rfl rfl
            exact b_skip hi hI (guard_no rfl rfl rfl (.inl fg)) rfl
          · intro a W hI hun haft hi
            have fg : a.eval (.tmp 19) = .bool true := haft ⟨3, .guard⟩ (by simp) rfl _ _ rfl rfl
            exact b_skip hi hI (guard_no rfl rfl rfl (.inl fg)) rfl
          · intro a W hI hun haft hi
            have fg : a.eval (.tmp 19) = .bool true := haft ⟨3, .guard⟩ (by simp) rfl _ _ rfl rfl
            exact b_skip hi hI (guard_no rfl rfl rfl (.inl fg)) rfl
          · intro a W hI hun haft hi
            have fg : a.eval (.tmp 19) = .bool true := haft ⟨3, .guard⟩ (by simp) rfl _ _ rfl rfl
            exact b_skip hi hI (guard_no rfl rfl rfl (.inl fg)) rfl
          · intro a W hI hun haft hi
            have fg : a.eval (.tmp 19) = .bool true := haft ⟨3, .guard⟩ (by simp) rfl _ _ rfl rfl
            exact b_skip hi hI (guard_no rfl rfl rfl (.inl fg)) rfl
          · intro a W hI hun haft hi
            have fg : a.eval (.tmp 19) = .bool true := haft ⟨3, .guard⟩ (by simp) rfl _ _ rfl rfl
            exact b_skip hi hI (guard_no rfl rfl rfl (.inl fg)) rfl
          · intro a W hI hun haft hi
            have fg : a.eval (.tmp 19) = .bool true := haft ⟨3, .guard⟩ (by simp) rfl _ _ rfl rfl
            exact b_skip hi hI (guard_no rfl rfl rfl (.inl fg)) rfl
          · intro a W hI hun haft hi
            have fg : a.eval (.tmp 19) = .bool true := haft ⟨3, .guard⟩ (by simp) rfl _ _ rfl rfl
            exact b_skip hi hI (guard_no rfl rfl rfl (.inl fg)) rfl
          · intro a W hI hun haft hi
            have fg : a.eval (.tmp 19) = .bool true := haft ⟨3, .guard⟩ (by simp) rfl _ _ rfl rfl
            exact b_skip hi hI (guard_no rfl rfl rfl (.inl fg)) rfl
          · intro a W hI hun haft hi
            have fg : a.eval (.tmp 19) = .bool true := haft ⟨3, .guard⟩ (by simp) rfl _ _ rfl rfl
            exact b_skip hi hI (guard_no rfl rfl rfl (.inl fg)) rfl
          · intro a W hI hun haft hi
            have f3 : a.eval (.tmp 19) = .bool true := haft ⟨3, .data⟩ (by simp) rfl _ _ rfl rfl
            have f13 : a.eval (.tmp 29) = undef := haft ⟨13, .data⟩ (by simp) rfl _ _ rfl rfl
            exact b_same hi hI rfl _ (run_pick_op (b := true) rfl f3 rfl f13) rfl
        · intro vals W hI hp
          have hl0 : vals 0 = evV e := hp 0 (by decide)
          have hl1 : vals 1 = .bool false := hp 1 (by decide)
          have hl2 : vals 2 = .bool true := hp 2 (by decide)
          have hl3 : vals 3 = .bool true := hp 3 (by decide)
          have hl4 : vals 4 = undef := hp 4 (by decide)
          have hl5 : vals 5 = undef := hp 5 (by decide)
          have hl6 : vals 6 = undef := hp 6 (by decide)
          have hl7 : vals 7 = undef := hp 7 (by decide)
          have hl8 : vals 8 = undef := hp 8 (by decide)
          have hl9 : vals 9 = undef := hp 9 (by decide)
          have hl10 : vals 10 = undef := hp 10 (by decide)
          have hl11 : vals 11 = undef := hp 11 (by decide)
          have hl12 : vals 12 = undef := hp 12 (by decide)
          have hl13 : vals 13 = undef := hp 13 (by decide)
          have hl14 : vals 14 = .bool true := hp 14 (by decide)
          have HI := Lib.hid hI
          clear hp hI
          simp only [layN, List.size_toArray, List.length_cons, List.length_nil, List.range, List.range.loop, if_true, List.getElem?_toArray, List.getElem?_cons_zero, List.getElem?_cons_succ, Act.put, List.setIfInBounds_toArray, List.set_cons_zero, List.set_cons_succ, Nat.zero_add, Nat.reduceAdd, hl0, hl1, hl2, hl3, hl4, hl5, hl6, hl7, hl8, hl9, hl10, hl11, hl12, hl13, hl14]
          clear hl0 hl1 hl2 hl3 hl4 hl5 hl6 hl7 hl8 hl9 hl10 hl11 hl12 hl13 hl14
          have hjm := HJ1.out
          have hw := HW1.out
          go_wp2
          go_roundw
          case rel => exact ⟨j + 1, by go_num, by omega, by rw [HNx.out, comeC_no HMy.out]; exact (HGo.out _ HI.out).1, by rw [HNx.out, comeC_no HMy.out]; exact (HGo.out _ HI.out).2.1, (HGo.out _ HI.out).2.2.1, (HGo.out _ HI.out).2.2.2.1⟩
          case measure => simp [intOf] <;> omega
      · have HRt := Lib.hid (refright_is7 e HTe.out true hok)
        obtain ⟨n, hrn, hnl, hc1, hc2⟩ := ok_dot hok
        have HRn := Lib.hid hrn
        have HNl := Lib.hid hnl
        have HCb := Lib.hid (show 1 ≤ e.c ∧ e.c ≤ 1048576 from ⟨hc1, hc2⟩)
        have HOk := Lib.hid hok
        clear hrn hnl hc1 hc2 hok
        cases hq : (f n == e.c - 1)
        · have HMy : Hid (mayC (row, f).2 e = false) := Lib.hid (by unfold mayC; dsimp only; rw [HOk.out, HRn.out, Int.toNat_natCast, hq]; rfl)
          refine wp_region_any (by kernel_rfl) ?_
          refine wpAny_below (fun i uq _ => uq = ([evV e, .bool true, .bool false, .bool false, .pointer (some ⟨wo.heap.size, 0, none⟩), .pointer (some ⟨wo.heap.size, 0, none⟩), .int .i64 n, .pointer (some ⟨p + 1, n, none⟩), .int .i64 (f n), .pointer (some ⟨wo.heap.size, 0, none⟩), .pointer (some ⟨wo.heap.size, 1, none⟩), .int .i64 e.c, .int .i64 (e.c - 1), .bool true, .bool true] : List Value).getD i undef) _ X (by kernel_rfl) (by kernel_rfl) (by kernel_rfl) (fun i v w w' _ h => h) ?_ ?_
          · refine ⟨?_, ?_, ?_, ?_, ?_, ?_, ?_, ?_, ?_, ?_, ?_, ?_, ?_, ?_, ?_, trivial⟩
            · intro a W hI hun haft hi
              have e7 : a.eval (.tmp 7) = .pointer (some ⟨wo.heap.size, 0, none⟩) := hun 7 (by kernel_rfl)
              exact b_same hi hI rfl _ (run_load_op rfl e7 (EB.keep HBX.out hI) Try.underlying39 rfl (sizeE e)) rfl
            · intro a W hI hun haft hi
              have f0 : a.eval (.tmp 16) = evV e := haft ⟨0, .data⟩ (by simp) rfl _ _ rfl rfl
              refine b_call hi hI rfl _ _ (run_call_op (args := #[evV e]) rfl (by simp [f0]) (by kernel_rfl)) ?_
              exact (HRt.out W).mono fun e w' H => ⟨_, H.1, rfl, H.2⟩
            · intro a W hI hun haft hi
              have f1 : a.eval (.tmp 17) = .bool true := haft ⟨1, .data⟩ (by simp) rfl _ _ rfl rfl
              exact b_same hi hI rfl _ (run_not_op rfl f1) rfl
            · intro a W hI hun haft hi
              have f2 : a.eval (.tmp 18) = .bool false := haft ⟨2, .data⟩ (by simp) rfl _ _ rfl rfl
              exact b_same hi hI rfl _ (run_move_op rfl f2) rfl
            · intro a W hI hun haft hi
              have fg : a.eval (.tmp 19) = .bool false := haft ⟨3, .guard⟩ (by simp) rfl _ _ rfl rfl
              have e7 : a.eval (.tmp 7) = .pointer (some ⟨wo.heap.size, 0, none⟩) := hun 7 (by kernel_rfl)
              exact b_same hi hI (guard_ok rfl rfl rfl fg) _ (run_fieldAddr_any rfl e7 (at_event0 _ 0 _)) rfl
            · intro a W hI hun haft hi
              have fg : a.eval (.tmp 19) = .bool false := haft ⟨3, .guard⟩ (by simp) rfl _ _ rfl rfl
              have f4 : a.eval (.tmp 20) = .pointer (some ⟨wo.heap.size, 0, none⟩) := haft ⟨4, .data⟩ (by simp) rfl _ _ rfl rfl
              exact b_same hi hI (guard_ok rfl rfl rfl fg) _ (run_fieldAddr_any rfl f4 (at_dot0' _ 0 _)) rfl
            · intro a W hI hun haft hi
              have fg : a.eval (.tmp 19) = .bool false := haft ⟨3, .guard⟩ (by simp) rfl _ _ rfl rfl
              have f5 : a.eval (.tmp 21) = .pointer (some ⟨wo.heap.size, 0, none⟩) := haft ⟨5, .data⟩ (by simp) rfl _ _ rfl rfl
              exact b_same hi hI (guard_ok rfl rfl rfl fg) _ (run_loadint_op rfl f5 Try.underlying3 ((Blk.cell (EB.keep HBX.out hI) 0).trans (by rw [show (evC e)[0]? = some (.int .i64 e.r) from rfl, HRn.out]))) rfl
            · intro a W hI hun haft hi
              have fg : a.eval (.tmp 19) = .bool false := haft ⟨3, .guard⟩ (by simp) rfl _ _ rfl rfl
              have e5 : a.eval (.tmp 5) = .pointer (some ⟨p + 1, 0, none⟩) := hun 5 (by kernel_rfl)
              have f6 : a.eval (.tmp 22) = .int .i64 n := haft ⟨6, .data⟩ (by simp) rfl _ _ rfl rfl
              exact b_same hi hI (guard_ok rfl rfl rfl fg) _ (run_indexAddr_op rfl e5 f6 (at_vec _ n HNl.out _)) rfl
            · intro a W hI hun haft hi
              have fg : a.eval (.tmp 19) = .bool false := haft ⟨3, .guard⟩ (by simp) rfl _ _ rfl rfl
              have f7 : a.eval (.tmp 23) = .pointer (some ⟨p + 1, n, none⟩) := haft ⟨7, .data⟩ (by simp) rfl _ _ rfl rfl
              exact b_same hi hI (guard_ok rfl rfl rfl fg) _ (run_loadint_op rfl f7 Try.underlying3 (VB.cell_ (HGo.out W hI).2.1 n HNl.out)) rfl
            · intro a W hI hun haft hi
              have fg : a.eval (.tmp 19) = .bool false := haft ⟨3, .guard⟩ (by simp) rfl _ _ rfl rfl
              have e7 : a.eval (.tmp 7) = .pointer (some ⟨wo.heap.size, 0, none⟩) := hun 7 (by kernel_rfl)
              exact b_same hi hI (guard_ok rfl rfl rfl fg) _ (run_fieldAddr_any rfl e7 (at_event0 _ 0 _)) rfl
            · intro a W hI hun haft hi
              have fg : a.eval (.tmp 19) = .bool false := haft ⟨3, .guard⟩ (by simp) rfl _ _ rfl rfl
              have f9 : a.eval (.tmp 25) = .pointer (some ⟨wo.heap.size, 0, none⟩) := haft ⟨9, .data⟩ (by simp) rfl _ _ rfl rfl
              exact b_same hi hI (guard_ok rfl rfl rfl fg) _ (run_fieldAddr_any rfl f9 (at_dot1' _ 0 _)) rfl
            · intro a W hI hun haft hi
              have fg : a.eval (.tmp 19) = .bool false := haft ⟨3, .guard⟩ (by simp) rfl _ _ rfl rfl
              have f10 : a.eval (.tmp 26) = .pointer (some ⟨wo.heap.size, 1, none⟩) := haft ⟨10, .data⟩ (by simp) rfl _ _ rfl rfl
              exact b_same hi hI (guard_ok rfl rfl rfl fg) _ (run_loadint_op rfl f10 Try.underlying3 ((Blk.cell (EB.keep HBX.out hI) 1).trans rfl)) rfl
            · intro a W hI hun haft hi
              have fg : a.eval (.tmp 19) = .bool false := haft ⟨3, .guard⟩ (by simp) rfl _ _ rfl rfl
              have f11 : a.eval (.tmp 27) = .int .i64 e.c := haft ⟨11, .data⟩ (by simp) rfl _ _ rfl rfl
              exact b_same hi hI (guard_ok rfl rfl rfl fg) (.int .i64 (e.c - 1)) (run_bin_op rfl f11 rfl (guardI _ _ _ _ _ _ _) (run_sub1 e.c HCb.out _)) rfl
            · intro a W hI hun haft hi
              have fg : a.eval (.tmp 19) = .bool false := haft ⟨3, .guard⟩ (by simp) rfl _ _ rfl rfl
              have f8 : a.eval (.tmp 24) = .int .i64 (f n) := haft ⟨8, .data⟩ (by simp) rfl _ _ rfl rfl
              have f12 : a.eval (.tmp 28) = .int .i64 (e.c - 1) := haft ⟨12, .data⟩ (by simp) rfl _ _ rfl rfl
              exact b_same hi hI (guard_ok rfl rfl rfl fg) (.bool true) (run_bin_op rfl f8 f12 (guardI _ _ _ _ _ _ _) (run_nei hq _)) rfl
            · intro a W hI hun haft hi
              have f3 : a.eval (.tmp 19) = .bool false := haft ⟨3, .data⟩ (by simp) rfl _ _ rfl rfl
              have f13 : a.eval (.tmp 29) = .bool true := haft ⟨13, .data⟩ (by simp) rfl _ _ rfl rfl
              exact b_same hi hI rfl _ (run_pick_op (b := false) rfl f3 rfl f13) rfl
          · intro vals W hI hp
            have hl0 : vals 0 = evV e := hp 0 (by decide)
            have hl1 : vals 1 = .bool true := hp 1 (by decide)
            have hl2 : vals 2 = .bool false := hp 2 (by decide)
            have hl3 : vals 3 = .bool false := hp 3 (by decide)
            have hl4 : vals 4 = .pointer (some ⟨wo.heap.size, 0, none⟩) := hp 4 (by decide)
            have hl5 : vals 5 = .pointer (some ⟨wo.heap.size, 0, none⟩) := hp 5 (by decide)
            have hl6 : vals 6 = .int .i64 n := hp 6 (by decide)
            have hl7 : vals 7 = .pointer (some ⟨p + 1, n, none⟩) := hp 7 (by decide)
            have hl8 : vals 8 = .int .i64 (f n) := hp 8 (by decide)
            have hl9 : vals 9 = .pointer (some ⟨wo.heap.size, 0, none⟩) := hp 9 (by decide)
            have hl10 : vals 10 = .pointer (some ⟨wo.heap.size, 1, none⟩) := hp 10 (by decide)
            have hl11 : vals 11 = .int .i64 e.c := hp 11 (by decide)
            have hl12 : vals 12 = .int .i64 (e.c - 1) := hp 12 (by decide)
            have hl13 : vals 13 = .bool true := hp 13 (by decide)
            have hl14 : vals 14 = .bool true := hp 14 (by decide)
            have HI := Lib.hid hI
            clear hp hI
            simp only [layN, List.size_toArray, List.length_cons, List.length_nil, List.range, List.range.loop, if_true, List.getElem?_toArray, List.getElem?_cons_zero, List.getElem?_cons_succ, Act.put, List.setIfInBounds_toArray, List.set_cons_zero, List.set_cons_succ, Nat.zero_add, Nat.reduceAdd, hl0, hl1, hl2, hl3, hl4, hl5, hl6, hl7, hl8, hl9, hl10, hl11, hl12, hl13, hl14]
            clear hl0 hl1 hl2 hl3 hl4 hl5 hl6 hl7 hl8 hl9 hl10 hl11 hl12 hl13 hl14
            have hjm := HJ1.out
            have hw := HW1.out
            go_wp2
            go_roundw
            case rel => exact ⟨j + 1, by go_num, by omega, by rw [HNx.out, comeC_no HMy.out]; exact (HGo.out _ HI.out).1, by rw [HNx.out, comeC_no HMy.out]; exact (HGo.out _ HI.out).2.1, (HGo.out _ HI.out).2.2.1, (HGo.out _ HI.out).2.2.2.1⟩
            case measure => simp [intOf] <;> omega
        · have HMy : Hid (mayC (row, f).2 e = (List.range 16).all fun i => decide (e.p i ≤ f i)) := Lib.hid (by unfold mayC; dsimp only; rw [HOk.out, HRn.out, Int.toNat_natCast, hq]; rfl)
          refine wp_region_any (by kernel_rfl) ?_
          refine wpAny_below (fun i uq _ => uq = ([evV e, .bool true, .bool false, .bool false, .pointer (some ⟨wo.heap.size, 0, none⟩), .pointer (some ⟨wo.heap.size, 0, none⟩), .int .i64 n, .pointer (some ⟨p + 1, n, none⟩), .int .i64 (f n), .pointer (some ⟨wo.heap.size, 0, none⟩), .pointer (some ⟨wo.heap.size, 1, none⟩), .int .i64 e.c, .int .i64 (e.c - 1), .bool false, .bool false] : List Value).getD i undef) _ X (by kernel_rfl) (by kernel_rfl) (by kernel_rfl) (fun i v w w' _ h => h) ?_ ?_
          · refine ⟨?_, ?_, ?_, ?_, ?_, ?_, ?_, ?_, ?_, ?_, ?_, ?_, ?_, ?_, ?_, trivial⟩
            · intro a W hI hun haft hi
              have e7 : a.eval (.tmp 7) = .pointer (some ⟨wo.heap.size, 0, none⟩) := hun 7 (by kernel_rfl)
              exact b_same hi hI rfl _ (run_load_op rfl e7 (EB.keep HBX.out hI) Try.underlying39 rfl (sizeE e)) rfl
            · intro a W hI hun haft hi
              have f0 : a.eval (.tmp 16) = evV e := haft ⟨0, .data⟩ (by simp) rfl _ _ rfl rfl
              refine b_call hi hI rfl _ _ (run_call_op (args := #[evV e]) rfl (by simp [f0]) (by kernel_rfl)) ?_
              exact (HRt.out W).mono fun e w' H => ⟨_, H.1, rfl, H.2⟩
            · intro a W hI hun haft hi
              have f1 : a.eval (.tmp 17) = .bool true := haft ⟨1, .data⟩ (by simp) rfl _ _ rfl rfl
              exact b_same hi hI rfl _ (run_not_op rfl f1) rfl
            · intro a W hI hun haft hi
              have f2 : a.eval (.tmp 18) = .bool false := haft ⟨2, .data⟩ (by simp) rfl _ _ rfl rfl
              exact b_same hi hI rfl _ (run_move_op rfl f2) rfl
            · intro a W hI hun haft hi
              have fg : a.eval (.tmp 19) = .bool false := haft ⟨3, .guard⟩ (by simp) rfl _ _ rfl rfl
              have e7 : a.eval (.tmp 7) = .pointer (some ⟨wo.heap.size, 0, none⟩) := hun 7 (by kernel_rfl)
              exact b_same hi hI (guard_ok rfl rfl rfl fg) _ (run_fieldAddr_any rfl e7 (at_event0 _ 0 _)) rfl
            · intro a W hI hun haft hi
              have fg : a.eval (.tmp 19) = .bool false := haft ⟨3, .guard⟩ (by simp) rfl _ _ rfl rfl
              have f4 : a.eval (.tmp 20) = .pointer (some ⟨wo.heap.size, 0, none⟩) := haft ⟨4, .data⟩ (by simp) rfl _ _ rfl rfl
              exact b_same hi hI (guard_ok rfl rfl rfl fg) _ (run_fieldAddr_any rfl f4 (at_dot0' _ 0 _)) rfl
            · intro a W hI hun haft hi
              have fg : a.eval (.tmp 19) = .bool false := haft ⟨3, .guard⟩ (by simp) rfl _ _ rfl rfl
              have f5 : a.eval (.tmp 21) = .pointer (some ⟨wo.heap.size, 0, none⟩) := haft ⟨5, .data⟩ (by simp) rfl _ _ rfl rfl
              exact b_same hi hI (guard_ok rfl rfl rfl fg) _ (run_loadint_op rfl f5 Try.underlying3 ((Blk.cell (EB.keep HBX.out hI) 0).trans (by rw [show (evC e)[0]? = some (.int .i64 e.r) from rfl, HRn.out]))) rfl
            · intro a W hI hun haft hi
              have fg : a.eval (.tmp 19) = .bool false := haft ⟨3, .guard⟩ (by simp) rfl _ _ rfl rfl
              have e5 : a.eval (.tmp 5) = .pointer (some ⟨p + 1, 0, none⟩) := hun 5 (by kernel_rfl)
              have f6 : a.eval (.tmp 22) = .int .i64 n := haft ⟨6, .data⟩ (by simp) rfl _ _ rfl rfl
              exact b_same hi hI (guard_ok rfl rfl rfl fg) _ (run_indexAddr_op rfl e5 f6 (at_vec _ n HNl.out _)) rfl
            · intro a W hI hun haft hi
              have fg : a.eval (.tmp 19) = .bool false := haft ⟨3, .guard⟩ (by simp) rfl _ _ rfl rfl
              have f7 : a.eval (.tmp 23) = .pointer (some ⟨p + 1, n, none⟩) := haft ⟨7, .data⟩ (by simp) rfl _ _ rfl rfl
              exact b_same hi hI (guard_ok rfl rfl rfl fg) _ (run_loadint_op rfl f7 Try.underlying3 (VB.cell_ (HGo.out W hI).2.1 n HNl.out)) rfl
            · intro a W hI hun haft hi
              have fg : a.eval (.tmp 19) = .bool false := haft ⟨3, .guard⟩ (by simp) rfl _ _ rfl rfl
              have e7 : a.eval (.tmp 7) = .pointer (some ⟨wo.heap.size, 0, none⟩) := hun 7 (by kernel_rfl)
              exact b_same hi hI (guard_ok rfl rfl rfl fg) _ (run_fieldAddr_any rfl e7 (at_event0 _ 0 _)) rfl
            · intro a W hI hun haft hi
              have fg : a.eval (.tmp 19) = .bool false := haft ⟨3, .guard⟩ (by simp) rfl _ _ rfl rfl
              have f9 : a.eval (.tmp 25) = .pointer (some ⟨wo.heap.size, 0, none⟩) := haft ⟨9, .data⟩ (by simp) rfl _ _ rfl rfl
              exact b_same hi hI (guard_ok rfl rfl rfl fg) _ (run_fieldAddr_any rfl f9 (at_dot1' _ 0 _)) rfl
            · intro a W hI hun haft hi
              have fg : a.eval (.tmp 19) = .bool false := haft ⟨3, .guard⟩ (by simp) rfl _ _ rfl rfl
              have f10 : a.eval (.tmp 26) = .pointer (some ⟨wo.heap.size, 1, none⟩) := haft ⟨10, .data⟩ (by simp) rfl _ _ rfl rfl
              exact b_same hi hI (guard_ok rfl rfl rfl fg) _ (run_loadint_op rfl f10 Try.underlying3 ((Blk.cell (EB.keep HBX.out hI) 1).trans rfl)) rfl
            · intro a W hI hun haft hi
              have fg : a.eval (.tmp 19) = .bool false := haft ⟨3, .guard⟩ (by simp) rfl _ _ rfl rfl
              have f11 : a.eval (.tmp 27) = .int .i64 e.c := haft ⟨11, .data⟩ (by simp) rfl _ _ rfl rfl
              exact b_same hi hI (guard_ok rfl rfl rfl fg) (.int .i64 (e.c - 1)) (run_bin_op rfl f11 rfl (guardI _ _ _ _ _ _ _) (run_sub1 e.c HCb.out _)) rfl
            · intro a W hI hun haft hi
              have fg : a.eval (.tmp 19) = .bool false := haft ⟨3, .guard⟩ (by simp) rfl _ _ rfl rfl
              have f8 : a.eval (.tmp 24) = .int .i64 (f n) := haft ⟨8, .data⟩ (by simp) rfl _ _ rfl rfl
              have f12 : a.eval (.tmp 28) = .int .i64 (e.c - 1) := haft ⟨12, .data⟩ (by simp) rfl _ _ rfl rfl
              exact b_same hi hI (guard_ok rfl rfl rfl fg) (.bool false) (run_bin_op rfl f8 f12 (guardI _ _ _ _ _ _ _) (run_nei hq _)) rfl
            · intro a W hI hun haft hi
              have f3 : a.eval (.tmp 19) = .bool false := haft ⟨3, .data⟩ (by simp) rfl _ _ rfl rfl
              have f13 : a.eval (.tmp 29) = .bool false := haft ⟨13, .data⟩ (by simp) rfl _ _ rfl rfl
              exact b_same hi hI rfl _ (run_pick_op (b := false) rfl f3 rfl f13) rfl
          · intro vals W hI hp
            have hl0 : vals 0 = evV e := hp 0 (by decide)
            have hl1 : vals 1 = .bool true := hp 1 (by decide)
            have hl2 : vals 2 = .bool false := hp 2 (by decide)
            have hl3 : vals 3 = .bool false := hp 3 (by decide)
            have hl4 : vals 4 = .pointer (some ⟨wo.heap.size, 0, none⟩) := hp 4 (by decide)
            have hl5 : vals 5 = .pointer (some ⟨wo.heap.size, 0, none⟩) := hp 5 (by decide)
            have hl6 : vals 6 = .int .i64 n := hp 6 (by decide)
            have hl7 : vals 7 = .pointer (some ⟨p + 1, n, none⟩) := hp 7 (by decide)
            have hl8 : vals 8 = .int .i64 (f n) := hp 8 (by decide)
            have hl9 : vals 9 = .pointer (some ⟨wo.heap.size, 0, none⟩) := hp 9 (by decide)
            have hl10 : vals 10 = .pointer (some ⟨wo.heap.size, 1, none⟩) := hp 10 (by decide)
            have hl11 : vals 11 = .int .i64 e.c := hp 11 (by decide)
            have hl12 : vals 12 = .int .i64 (e.c - 1) := hp 12 (by decide)
            have hl13 : vals 13 = .bool false := hp 13 (by decide)
            have hl14 : vals 14 = .bool false := hp 14 (by decide)
            have HI := Lib.hid hI
            clear hp hI
            simp only [layN, List.size_toArray, List.length_cons, List.length_nil, List.range, List.range.loop, if_true, List.getElem?_toArray, List.getElem?_cons_zero, List.getElem?_cons_succ, Act.put, List.setIfInBounds_toArray, List.set_cons_zero, List.set_cons_succ, Nat.zero_add, Nat.reduceAdd, hl0, hl1, hl2, hl3, hl4, hl5, hl6, hl7, hl8, hl9, hl10, hl11, hl12, hl13, hl14]
            clear hl0 hl1 hl2 hl3 hl4 hl5 hl6 hl7 hl8 hl9 hl10 hl11 hl12 hl13 hl14
            clear hq
            go_wp2_with fail
            go_loopw [8, 31] (fun v8 v31 wr => ∃ k : Nat, v31 = .int .i64 k ∧ k ≤ 16 ∧ v8 = .bool ((List.range k).all fun i => decide (e.p i ≤ f i)) ∧ Below X.heap.size X wr) (fun _ v31 _ => 16 - (intOf v31).toNat)
            case atStart => exact ⟨0, rfl, Nat.zero_le _, rfl, HI.out⟩
            case round =>
              obtain ⟨k, rfl, hk, rfl, hbi⟩ := hrel
              have HBi := Lib.hid hbi
              have HE1 := Lib.hid (HGo.out wr hbi).2.2.2.2
              have HV2 := Lib.hid (HGo.out wr hbi).2.1
              clear hbi HI
              obtain ⟨kb, hkb⟩ : ∃ kb, ((List.range k).all fun i => decide (e.p i ≤ f i)) = kb := ⟨_, rfl⟩
              rw [hkb]
              have HKb := Lib.hid hkb
              clear hkb
              by_cases hlk : k < 16
              · have HKl := Lib.hid hlk
                cases kb
                · go_upto_region 11 with fail
                  refine wp_region_any (by kernel_rfl) ?_
                  refine Lt.wpAny_late (fun i uq _ => uq = ([.bool false, .bool false, undef, undef, undef, undef, undef, undef, undef, undef, .bool false, .bool false] : List Value).getD i undef) _ wr (by kernel_rfl) (by kernel_rfl) (by kernel_rfl) (fun i v w w' _ h => h) ?_ ?_
                  · refine ⟨?_, ?_, ?_, ?_, ?_, ?_, ?_, ?_, ?_, ?_, ?_, ?_, trivial⟩
                    · intro a W hI hun haft hi
                      have e8 : a.eval (.tmp 8) = .bool false := hun 8 (by kernel_rfl)
                      exact b_same hi hI rfl _ (run_move_op rfl e8) rfl
                    · intro a W hI hun haft hi
                      have f0 : a.eval (.tmp 34) = .bool false := haft ⟨0, .data⟩ (by simp) rfl _ _ rfl rfl
                      exact b_same hi hI rfl _ (run_move_op rfl f0) rfl
                    · intro a W hI hun haft hi
                      have fg : a.eval (.tmp 35) = .bool false := haft ⟨1, .guard⟩ (by simp) rfl _ _ rfl rfl
                      exact b_skip hi hI (guard_no rfl rfl rfl (.inl fg)) rfl
                    · intro a W hI hun haft hi
                      have fg : a.eval (.tmp 35) = .bool false := haft ⟨1, .guard⟩ (by simp) rfl _ _ rfl rfl
                      exact b_skip hi hI (guard_no rfl rfl rfl (.inl fg)) rfl
                    · intro a W hI hun haft hi
                      have fg : a.eval (.tmp 35) = .bool false := haft ⟨1, .guard⟩ (by simp) rfl _ _ rfl rfl
                      exact b_skip hi hI (guard_no rfl rfl rfl (.inl fg)) rfl
                    · intro a W hI hun haft hi
                      have fg : a.eval (.tmp 35) = .bool false := haft ⟨1, .guard⟩ (by simp) rfl _ _ rfl rfl
                      exact b_skip hi hI (guard_no rfl rfl rfl (.inl fg)) rfl
                    · intro a W hI hun haft hi
                      have fg : a.eval (.tmp 35) = .bool false := haft ⟨1, .guard⟩ (by simp) rfl _ _ rfl rfl
                      exact b_skip hi hI (guard_no rfl rfl rfl (.inl fg)) rfl
                    · intro a W hI hun haft hi
                      have fg : a.eval (.tmp 35) = .bool false := haft ⟨1, .guard⟩ (by simp) rfl _ _ rfl rfl
                      exact b_skip hi hI (guard_no rfl rfl rfl (.inl fg)) rfl
                    · intro a W hI hun haft hi
                      have fg : a.eval (.tmp 35) = .bool false := haft ⟨1, .guard⟩ (by simp) rfl _ _ rfl rfl
                      exact b_skip hi hI (guard_no rfl rfl rfl (.inl fg)) rfl
                    · intro a W hI hun haft hi
                      have fg : a.eval (.tmp 35) = .bool false := haft ⟨1, .guard⟩ (by simp) rfl _ _ rfl rfl
                      exact b_skip hi hI (guard_no rfl rfl rfl (.inl fg)) rfl
                    · intro a W hI hun haft hi
                      have f1 : a.eval (.tmp 35) = .bool false := haft ⟨1, .data⟩ (by simp) rfl _ _ rfl rfl
                      have f9 : a.eval (.tmp 43) = undef := haft ⟨9, .data⟩ (by simp) rfl _ _ rfl rfl
                      exact b_same hi hI rfl _ (run_pick_op (b := false) rfl f1 f9 rfl) rfl
                    · intro a W hI hun haft hi
                      have f10 : a.eval (.tmp 44) = .bool false := haft ⟨10, .data⟩ (by simp) rfl _ _ rfl rfl
                      exact b_same hi hI rfl _ (run_assign_op rfl f10) rfl
                  · intro vals W hI hp
                    have hl0 : vals 0 = .bool false := hp 0 (by decide)
                    have hl1 : vals 1 = .bool false := hp 1 (by decide)
                    have hl2 : vals 2 = undef := hp 2 (by decide)
                    have hl3 : vals 3 = undef := hp 3 (by decide)
                    have hl4 : vals 4 = undef := hp 4 (by decide)
                    have hl5 : vals 5 = undef := hp 5 (by decide)
                    have hl6 : vals 6 = undef := hp 6 (by decide)
                    have hl7 : vals 7 = undef := hp 7 (by decide)
                    have hl8 : vals 8 = undef := hp 8 (by decide)
                    have hl9 : vals 9 = undef := hp 9 (by decide)
                    have hl10 : vals 10 = .bool false := hp 10 (by decide)
                    have hl11 : vals 11 = .bool false := hp 11 (by decide)
                    have HI := Lib.hid hI
                    clear hp hI
                    simp only [layN, List.size_toArray, List.length_cons, List.length_nil, List.range, List.range.loop, if_true, List.getElem?_toArray, List.getElem?_cons_zero, List.getElem?_cons_succ, Act.put, List.setIfInBounds_toArray, List.set_cons_zero, List.set_cons_succ, Nat.zero_add, Nat.reduceAdd, hl0, hl1, hl2, hl3, hl4, hl5, hl6, hl7, hl8, hl9, hl10, hl11]
                    clear hl0 hl1 hl2 hl3 hl4 hl5 hl6 hl7 hl8 hl9 hl10 hl11
                    go_wp2
                    go_roundw
                    case rel => exact ⟨k + 1, by go_num, by omega, by rw [List.range_succ, List.all_append, HKb.out]; rfl, HBi.out.trans (HI.out.mono HBi.out.size)⟩
                    case measure => simp [intOf] <;> omega
                · cases hc : decide (e.p k ≤ f k)
                  · go_upto_region 11 with fail
                    refine wp_region_any (by kernel_rfl) ?_
                    refine Lt.wpAny_late (fun i uq _ => uq = ([.bool true, .bool true, .int .i64 k, .pointer (some ⟨wo.heap.size, 2, none⟩), .pointer (some ⟨wo.heap.size, 2 + k, none⟩), .int .i64 (e.p k), .int .i64 k, .pointer (some ⟨p + 1, k, none⟩), .int .i64 (f k), .bool false, .bool false, .bool false] : List Value).getD i undef) _ wr (by kernel_rfl) (by kernel_rfl) (by kernel_rfl) (fun i v w w' _ h => h) ?_ ?_
                    · refine ⟨?_, ?_, ?_, ?_, ?_, ?_, ?_, ?_, ?_, ?_, ?_, ?_, trivial⟩
                      · intro a W hI hun haft hi
                        have e8 : a.eval (.tmp 8) = .bool true := hun 8 (by kernel_rfl)
                        exact b_same hi hI rfl _ (run_move_op rfl e8) rfl
                      · intro a W hI hun haft hi
                        have f0 : a.eval (.tmp 34) = .bool true := haft ⟨0, .data⟩ (by simp) rfl _ _ rfl rfl
                        exact b_same hi hI rfl _ (run_move_op rfl f0) rfl
                      · intro a W hI hun haft hi
                        have fg : a.eval (.tmp 35) = .bool true := haft ⟨1, .guard⟩ (by simp) rfl _ _ rfl rfl
                        have e9 : a.eval (.tmp 9) = .int .i64 k := hun 9 (by kernel_rfl)
                        exact b_same hi hI (guard_ok rfl rfl rfl fg) _ (run_move_op rfl e9) rfl
                      · intro a W hI hun haft hi
                        have fg : a.eval (.tmp 35) = .bool true := haft ⟨1, .guard⟩ (by simp) rfl _ _ rfl rfl
                        have e7 : a.eval (.tmp 7) = .pointer (some ⟨wo.heap.size, 0, none⟩) := hun 7 (by kernel_rfl)
                        exact b_same hi hI (guard_ok rfl rfl rfl fg) _ (run_fieldAddr_any rfl e7 (at_event1 _ 0 _)) rfl
                      · intro a W hI hun haft hi
                        have fg : a.eval (.tmp 35) = .bool true := haft ⟨1, .guard⟩ (by simp) rfl _ _ rfl rfl
                        have f3 : a.eval (.tmp 37) = .pointer (some ⟨wo.heap.size, 2, none⟩) := haft ⟨3, .data⟩ (by simp) rfl _ _ rfl rfl
                        have f2 : a.eval (.tmp 36) = .int .i64 k := haft ⟨2, .data⟩ (by simp) rfl _ _ rfl rfl
                        exact b_same hi hI (guard_ok rfl rfl rfl fg) _ (run_indexAddr_op rfl f3 f2 (at_past _ k HKl.out _)) rfl
                      · intro a W hI hun haft hi
                        have fg : a.eval (.tmp 35) = .bool true := haft ⟨1, .guard⟩ (by simp) rfl _ _ rfl rfl
                        have f4 : a.eval (.tmp 38) = .pointer (some ⟨wo.heap.size, 2 + k, none⟩) := haft ⟨4, .data⟩ (by simp) rfl _ _ rfl rfl
                        exact b_same hi hI (guard_ok rfl rfl rfl fg) _ (run_loadint_op rfl f4 Try.underlying3 ((Blk.cell (EB.keep HE1.out hI) (2 + k)).trans (past_at e k HKl.out))) rfl
                      · intro a W hI hun haft hi
                        have fg : a.eval (.tmp 35) = .bool true := haft ⟨1, .guard⟩ (by simp) rfl _ _ rfl rfl
                        have e9 : a.eval (.tmp 9) = .int .i64 k := hun 9 (by kernel_rfl)
                        exact b_same hi hI (guard_ok rfl rfl rfl fg) _ (run_move_op rfl e9) rfl
                      · intro a W hI hun haft hi
                        have fg : a.eval (.tmp 35) = .bool true := haft ⟨1, .guard⟩ (by simp) rfl _ _ rfl rfl
                        have e5 : a.eval (.tmp 5) = .pointer (some ⟨p + 1, 0, none⟩) := hun 5 (by kernel_rfl)
                        have f6 : a.eval (.tmp 40) = .int .i64 k := haft ⟨6, .data⟩ (by simp) rfl _ _ rfl rfl
                        exact b_same hi hI (guard_ok rfl rfl rfl fg) _ (run_indexAddr_op rfl e5 f6 (at_vec _ k HKl.out _)) rfl
                      · intro a W hI hun haft hi
                        have fg : a.eval (.tmp 35) = .bool true := haft ⟨1, .guard⟩ (by simp) rfl _ _ rfl rfl
                        have f7 : a.eval (.tmp 41) = .pointer (some ⟨p + 1, k, none⟩) := haft ⟨7, .data⟩ (by simp) rfl _ _ rfl rfl
                        exact b_same hi hI (guard_ok rfl rfl rfl fg) _ (run_loadint_op rfl f7 Try.underlying3 (VB.cell_ (VB.keep HV2.out hI) k HKl.out)) rfl
                      · intro a W hI hun haft hi
                        have fg : a.eval (.tmp 35) = .bool true := haft ⟨1, .guard⟩ (by simp) rfl _ _ rfl rfl
                        have f5 : a.eval (.tmp 39) = .int .i64 (e.p k) := haft ⟨5, .data⟩ (by simp) rfl _ _ rfl rfl
                        have f8 : a.eval (.tmp 42) = .int .i64 (f k) := haft ⟨8, .data⟩ (by simp) rfl _ _ rfl rfl
                        exact b_same hi hI (guard_ok rfl rfl rfl fg) (.bool false) (run_bin_op rfl f5 f8 (guardI _ _ _ _ _ _ _) (run_lei hc _)) rfl
                      · intro a W hI hun haft hi
                        have f1 : a.eval (.tmp 35) = .bool true := haft ⟨1, .data⟩ (by simp) rfl _ _ rfl rfl
                        have f9 : a.eval (.tmp 43) = .bool false := haft ⟨9, .data⟩ (by simp) rfl _ _ rfl rfl
                        exact b_same hi hI rfl _ (run_pick_op (b := true) rfl f1 f9 rfl) rfl
                      · intro a W hI hun haft hi
                        have f10 : a.eval (.tmp 44) = .bool false := haft ⟨10, .data⟩ (by simp) rfl _ _ rfl rfl
                        exact b_same hi hI rfl _ (run_assign_op rfl f10) rfl
                    · intro vals W hI hp
                      have hl0 : vals 0 = .bool true := hp 0 (by decide)
                      have hl1 : vals 1 = .bool true := hp 1 (by decide)
                      have hl2 : vals 2 = .int .i64 k := hp 2 (by decide)
                      have hl3 : vals 3 = .pointer (some ⟨wo.heap.size, 2, none⟩) := hp 3 (by decide)
                      have hl4 : vals 4 = .pointer (some ⟨wo.heap.size, 2 + k, none⟩) := hp 4 (by decide)
                      have hl5 : vals 5 = .int .i64 (e.p k) := hp 5 (by decide)
                      have hl6 : vals 6 = .int .i64 k := hp 6 (by decide)
                      have hl7 : vals 7 = .pointer (some ⟨p + 1, k, none⟩) := hp 7 (by decide)
                      have hl8 : vals 8 = .int .i64 (f k) := hp 8 (by decide)
                      have hl9 : vals 9 = .bool false := hp 9 (by decide)
                      have hl10 : vals 10 = .bool false := hp 10 (by decide)
                      have hl11 : vals 11 = .bool false := hp 11 (by decide)
                      have HI := Lib.hid hI
                      clear hp hI
                      simp only [layN, List.size_toArray, List.length_cons, List.length_nil, List.range, List.range.loop, if_true, List.getElem?_toArray, List.getElem?_cons_zero, List.getElem?_cons_succ, Act.put, List.setIfInBounds_toArray, List.set_cons_zero, List.set_cons_succ, Nat.zero_add, Nat.reduceAdd, hl0, hl1, hl2, hl3, hl4, hl5, hl6, hl7, hl8, hl9, hl10, hl11]
                      clear hl0 hl1 hl2 hl3 hl4 hl5 hl6 hl7 hl8 hl9 hl10 hl11
                      go_wp2
                      go_roundw
                      case rel => exact ⟨k + 1, by go_num, by omega, by rw [List.range_succ, List.all_append, HKb.out]; simp only [List.all_cons, List.all_nil, hc]; rfl, HBi.out.trans (HI.out.mono HBi.out.size)⟩
                      case measure => simp [intOf] <;> omega
                  · go_upto_region 11 with fail
                    refine wp_region_any (by kernel_rfl) ?_
                    refine Lt.wpAny_late (fun i uq _ => uq = ([.bool true, .bool true, .int .i64 k, .pointer (some ⟨wo.heap.size, 2, none⟩), .pointer (some ⟨wo.heap.size, 2 + k, none⟩), .int .i64 (e.p k), .int .i64 k, .pointer (some ⟨p + 1, k, none⟩), .int .i64 (f k), .bool true, .bool true, .bool true] : List Value).getD i undef) _ wr (by kernel_rfl) (by kernel_rfl) (by kernel_rfl) (fun i v w w' _ h => h) ?_ ?_
                    · refine ⟨?_, ?_, ?_, ?_, ?_, ?_, ?_, ?_, ?_, ?_, ?_, ?_, trivial⟩
                      · intro a W hI hun haft hi
                        have e8 : a.eval (.tmp 8) = .bool true := hun 8 (by kernel_rfl)
                        exact b_same hi hI rfl _ (run_move_op rfl e8) rfl
                      · intro a W hI hun haft hi
                        have f0 : a.eval (.tmp 34) = .bool true := haft ⟨0, .data⟩ (by simp) rfl _ _ rfl rfl
                        exact b_same hi hI rfl _ (run_move_op rfl f0) rfl
                      · intro a W hI hun haft hi
                        have fg : a.eval (.tmp 35) = .bool true := haft ⟨1, .guard⟩ (by simp) rfl _ _ rfl rfl
                        have e9 : a.eval (.tmp 9) = .int .i64 k := hun 9 (by kernel_rfl)
                        exact b_same hi hI (guard_ok rfl rfl rfl fg) _ (run_move_op rfl e9) rfl
                      · intro a W hI hun haft hi
                        have fg : a.eval (.tmp 35) = .bool true := haft ⟨1, .guard⟩ (by simp) rfl _ _ rfl rfl
                        have e7 : a.eval (.tmp 7) = .pointer (some ⟨wo.heap.size, 0, none⟩) := hun 7 (by kernel_rfl)
                        exact b_same hi hI (guard_ok rfl rfl rfl fg) _ (run_fieldAddr_any rfl e7 (at_event1 _ 0 _)) rfl
                      · intro a W hI hun haft hi
                        have fg : a.eval (.tmp 35) = .bool true := haft ⟨1, .guard⟩ (by simp) rfl _ _ rfl rfl
                        have f3 : a.eval (.tmp 37) = .pointer (some ⟨wo.heap.size, 2, none⟩) := haft ⟨3, .data⟩ (by simp) rfl _ _ rfl rfl
                        have f2 : a.eval (.tmp 36) = .int .i64 k := haft ⟨2, .data⟩ (by simp) rfl _ _ rfl rfl
                        exact b_same hi hI (guard_ok rfl rfl rfl fg) _ (run_indexAddr_op rfl f3 f2 (at_past _ k HKl.out _)) rfl
                      · intro a W hI hun haft hi
                        have fg : a.eval (.tmp 35) = .bool true := haft ⟨1, .guard⟩ (by simp) rfl _ _ rfl rfl
                        have f4 : a.eval (.tmp 38) = .pointer (some ⟨wo.heap.size, 2 + k, none⟩) := haft ⟨4, .data⟩ (by simp) rfl _ _ rfl rfl
                        exact b_same hi hI (guard_ok rfl rfl rfl fg) _ (run_loadint_op rfl f4 Try.underlying3 ((Blk.cell (EB.keep HE1.out hI) (2 + k)).trans (past_at e k HKl.out))) rfl
                      · intro a W hI hun haft hi
                        have fg : a.eval (.tmp 35) = .bool true := haft ⟨1, .guard⟩ (by simp) rfl _ _ rfl rfl
                        have e9 : a.eval (.tmp 9) = .int .i64 k := hun 9 (by kernel_rfl)
                        exact b_same hi hI (guard_ok rfl rfl rfl fg) _ (run_move_op rfl e9) rfl
                      · intro a W hI hun haft hi
                        have fg : a.eval (.tmp 35) = .bool true := haft ⟨1, .guard⟩ (by simp) rfl _ _ rfl rfl
                        have e5 : a.eval (.tmp 5) = .pointer (some ⟨p + 1, 0, none⟩) := hun 5 (by kernel_rfl)
                        have f6 : a.eval (.tmp 40) = .int .i64 k := haft ⟨6, .data⟩ (by simp) rfl _ _ rfl rfl
                        exact b_same hi hI (guard_ok rfl rfl rfl fg) _ (run_indexAddr_op rfl e5 f6 (at_vec _ k HKl.out _)) rfl
                      · intro a W hI hun haft hi
                        have fg : a.eval (.tmp 35) = .bool true := haft ⟨1, .guard⟩ (by simp) rfl _ _ rfl rfl
                        have f7 : a.eval (.tmp 41) = .pointer (some ⟨p + 1, k, none⟩) := haft ⟨7, .data⟩ (by simp) rfl _ _ rfl rfl
                        exact b_same hi hI (guard_ok rfl rfl rfl fg) _ (run_loadint_op rfl f7 Try.underlying3 (VB.cell_ (VB.keep HV2.out hI) k HKl.out)) rfl
                      · intro a W hI hun haft hi
                        have fg : a.eval (.tmp 35) = .bool true := haft ⟨1, .guard⟩ (by simp) rfl _ _ rfl rfl
                        have f5 : a.eval (.tmp 39) = .int .i64 (e.p k) := haft ⟨5, .data⟩ (by simp) rfl _ _ rfl rfl
                        have f8 : a.eval (.tmp 42) = .int .i64 (f k) := haft ⟨8, .data⟩ (by simp) rfl _ _ rfl rfl
                        exact b_same hi hI (guard_ok rfl rfl rfl fg) (.bool true) (run_bin_op rfl f5 f8 (guardI _ _ _ _ _ _ _) (run_lei hc _)) rfl
                      · intro a W hI hun haft hi
                        have f1 : a.eval (.tmp 35) = .bool true := haft ⟨1, .data⟩ (by simp) rfl _ _ rfl rfl
                        have f9 : a.eval (.tmp 43) = .bool true := haft ⟨9, .data⟩ (by simp) rfl _ _ rfl rfl
                        exact b_same hi hI rfl _ (run_pick_op (b := true) rfl f1 f9 rfl) rfl
                      · intro a W hI hun haft hi
                        have f10 : a.eval (.tmp 44) = .bool true := haft ⟨10, .data⟩ (by simp) rfl _ _ rfl rfl
                        exact b_same hi hI rfl _ (run_assign_op rfl f10) rfl
                    · intro vals W hI hp
                      have hl0 : vals 0 = .bool true := hp 0 (by decide)
                      have hl1 : vals 1 = .bool true := hp 1 (by decide)
                      have hl2 : vals 2 = .int .i64 k := hp 2 (by decide)
                      have hl3 : vals 3 = .pointer (some ⟨wo.heap.size, 2, none⟩) := hp 3 (by decide)
                      have hl4 : vals 4 = .pointer (some ⟨wo.heap.size, 2 + k, none⟩) := hp 4 (by decide)
                      have hl5 : vals 5 = .int .i64 (e.p k) := hp 5 (by decide)
                      have hl6 : vals 6 = .int .i64 k := hp 6 (by decide)
                      have hl7 : vals 7 = .pointer (some ⟨p + 1, k, none⟩) := hp 7 (by decide)
                      have hl8 : vals 8 = .int .i64 (f k) := hp 8 (by decide)
                      have hl9 : vals 9 = .bool true := hp 9 (by decide)
                      have hl10 : vals 10 = .bool true := hp 10 (by decide)
                      have hl11 : vals 11 = .bool true := hp 11 (by decide)
                      have HI := Lib.hid hI
                      clear hp hI
                      simp only [layN, List.size_toArray, List.length_cons, List.length_nil, List.range, List.range.loop, if_true, List.getElem?_toArray, List.getElem?_cons_zero, List.getElem?_cons_succ, Act.put, List.setIfInBounds_toArray, List.set_cons_zero, List.set_cons_succ, Nat.zero_add, Nat.reduceAdd, hl0, hl1, hl2, hl3, hl4, hl5, hl6, hl7, hl8, hl9, hl10, hl11]
                      clear hl0 hl1 hl2 hl3 hl4 hl5 hl6 hl7 hl8 hl9 hl10 hl11
                      go_wp2
                      go_roundw
                      case rel => exact ⟨k + 1, by go_num, by omega, by rw [List.range_succ, List.all_append, HKb.out]; simp only [List.all_cons, List.all_nil, hc]; rfl, HBi.out.trans (HI.out.mono HBi.out.size)⟩
                      case measure => simp [intOf] <;> omega
              · have hk16 : k = 16 := by omega
                subst hk16
                cases kb
                · have HMy' : Hid (mayC (row, f).2 e = false) := Lib.hid (HMy.out.trans HKb.out)
                  clear HMy
                  have HMy := HMy'
                  have hjm := HJ1.out
                  have hw := HW1.out
                  go_wp2
                  go_roundw
                  case rel => exact ⟨j + 1, by go_num, by omega, by rw [HNx.out, comeC_no HMy.out]; exact (HGo.out _ HBi.out).1, by rw [HNx.out, comeC_no HMy.out]; exact (HGo.out _ HBi.out).2.1, (HGo.out _ HBi.out).2.2.1, (HGo.out _ HBi.out).2.2.2.1⟩
                  case measure => simp [intOf] <;> omega
                · have HMy' : Hid (mayC (row, f).2 e = true) := Lib.hid (HMy.out.trans HKb.out)
                  have hOi := (HGo.out wr HBi.out).1
                  have hpi : p ≤ wr.heap.size := Nat.le_trans HpX.out HBi.out.size
                  have hba : Below wr.heap.size wr (wr.alloc (.cells (evC e) 39)) := (Below.refl _ _).alloc (Nat.le_refl _) _
                  have HOa := Lib.hid (hOi.keep hba)
                  have HVa := Lib.hid (VB.keep HV2.out hba)
                  have HUa := Lib.hid (VB.keep (HGo.out wr HBi.out).2.2.1 hba)
                  have HEa := Lib.hid (EB.keep HE1.out hba)
                  have HBa := Lib.hid ((HGo.out wr HBi.out).2.2.2.1.trans (hba.mono hpi))
                  have HNC := Lib.hid (fun j u (hu : (encE e)[j]? = some u) => show (wr.alloc (.cells (evC e) 39)).cell? ((⟨wr.heap.size, 0, none⟩ : Addr).add j) = some u by
                    rw [Addr.add_lit, Blk.cell (Blk.new wr _ _)]
                    simpa [encE] using hu)
                  have Hpi := Lib.hid (show p ≤ (wr.alloc (.cells (evC e) 39)).heap.size by simp; omega)
                  clear hOi hpi hba
                  have hjm := HJ1.out
                  have hw := HW1.out
                  go_wp2_with (first
                    | (refine wpList_load_if rfl 39 (.tmp 7) rfl wo.heap.size rfl _ _ _ _ HE1.out Try.underlying39 rfl (sizeE e) ?_)
                    | (refine wpList_val (o := ⟨some 49, _, _, _, _, _⟩) rfl (.slice (some ⟨wr.heap.size, 0, none⟩) 1 1) (wr.alloc (.cells (evC e) 39)) (run_buildSlice_op (vs := #[(0, .agg (evC e))]) rfl (by simp only [List.map_toArray, List.map_cons, List.map_nil]; rfl) (bsEv e wr)) ?_)
                    | (at_builtin; refine wpList_append_own _ rfl _ _ 22 rfl p 39 i0 _ 27 256 Try.underlying22 hi hz0 hz1 hz2 rfl (by decide) _ _ _ rfl HOa.out ⟨wr.heap.size, 0, none⟩ 1 1 (encE e) rfl rfl HNC.out (encE_one e) (by have := HRl.out; unfold maxLen; omega) (by have := HRl.out; omega) Hpi.out ?_; intro v' W6 hown' hgrow hnil'
                       have hne1 := own_ne_blk HOa.out HVa.out (by decide)
                       have hne0 := own_ne_blk HOa.out HUa.out (by decide)
                       have hE6 : EB W6 wo.heap.size e := (hgrow.block _ (Blk.lt HEa.out) (fun h => absurd (HOl.out _ h.symm) (Nat.lt_irrefl _))).trans HEa.out
                       have hV6 : VB W6 (p + 1) f := (hgrow.block _ (Blk.lt HVa.out) (fun h => hne1 h.symm)).trans HVa.out
                       have hU6 : VB W6 p (fun _ => 0) := (hgrow.block _ (Blk.lt HUa.out) (fun h => hne0 h.symm)).trans HUa.out
                       have hB6 : Below p w W6 := HBa.out.grown hgrow Hpi.out (fun q h => (HOa.out.lt q h).1)
                       have HO6 := Lib.hid (show OwnK encE p 39 27 W6 v' (row ++ [e]) by unfold OwnK; rw [List.length_append, List.flatMap_append]; simpa using hown')
                       have HV6 := Lib.hid hV6
                       have HU6 := Lib.hid hU6
                       have HB6 := Lib.hid hB6
                       have c0 : W6.cell? ⟨wo.heap.size, 0, none⟩ = some (.int .i64 n) := (Blk.cell hE6 0).trans (by rw [show (evC e)[0]? = some (.int .i64 e.r) from rfl, HRn.out])
                       have c1 : W6.cell? ⟨wo.heap.size, 1, none⟩ = some (.int .i64 e.c) := (Blk.cell hE6 1).trans rfl
                       have cv : W6.cell? ⟨p + 1, n, none⟩ = some (.int .i64 (f n)) := VB.cell_ hV6 n HNl.out
                       have fv : W6.frozen? ⟨p + 1, n, none⟩ = false := Blk.free hV6 n
                       clear hown' hgrow hnil' hne1 hne0 hE6 hV6 hU6 hB6)
                    | (refine wpList_val (o := ⟨some 57, _, _, _, _, _⟩) rfl (.pointer (some ⟨p + 1, n, none⟩)) _ (run_indexAddr_op rfl rfl rfl (at_vec (p + 1) n HNl.out _)) ?_)
                    | go_in)
                  have hne6 := own_ne_blk HO6.out HV6.out (by decide)
                  have hO7 := HO6.out.same (w' := W6.setCell ⟨p + 1, n, none⟩ (.int .i64 e.c)) (fun q h => Below.heap_setCell _ _ _ _ (fun e => hne6 (by rw [h, e])))
                  have hV7 := VB.put HV6.out n e.c
                  have hU7 : VB (W6.setCell ⟨p + 1, n, none⟩ (.int .i64 e.c)) p (fun _ => 0) := Blk.far HU6.out (by simp) _
                  have hB7 := HB6.out.setCell (p := ⟨p + 1, n, none⟩) (Nat.le_succ p) (.int .i64 e.c)
                  have HO7 := Lib.hid hO7
                  have HV7 := Lib.hid hV7
                  have HU7 := Lib.hid hU7
                  have HB7 := Lib.hid hB7
                  clear hne6 hO7 hV7 hU7 hB7 c0 c1 cv fv
                  go_roundw
                  case rel => exact ⟨j + 1, by go_num, by omega, by rw [HNx.out, comeC_yes HMy'.out]; exact HO7.out, by rw [HNx.out, comeC_yes HMy'.out, HRn.out, Int.toNat_natCast]; exact HV7.out, HU7.out, HB7.out⟩
                  case measure => simp [intOf] <;> omega
    · have hjN : j = N := by omega
      subst hjN
      rw [List.take_of_length_le (Nat.le_of_eq HN.out)] at HO HV1
      go_upto_region 17 with fail
      refine wp_region_any (by kernel_rfl) ?_
      refine wpAny_last (fun i uq _ => uq = ([u4, .agg (vA (causC l).2), u4, undef] : List Value).getD i undef) _ wo 3 _ (fun vals wq => (∀ j, j < 3 → vals j = ([u4, .agg (vA (causC l).2), u4, undef] : List Value).getD j undef) ∧ (fun w' => Blk w' p 27 (vA (causC l).2) ∧ OwnK encE p 39 27 w' u4 (causC l).1 ∧ Below p w w') wq) (by kernel_rfl) rfl (by kernel_rfl) (by kernel_rfl) (by kernel_rfl) (by kernel_rfl) (fun i v w w' _ h => h) ?_ ?_ ?_
      · refine ⟨?_, ?_, ?_, fun h => absurd h (Nat.lt_irrefl _), trivial⟩
        · intro _ a W hI hun haft hi
          have e4 : a.eval (.tmp 4) = u4 := hun 4 (by kernel_rfl)
          exact b_same hi hI rfl _ (run_move_op rfl e4) rfl
        · intro _ a W hI hun haft hi
          have e5 : a.eval (.tmp 5) = .pointer (some ⟨p + 1, 0, none⟩) := hun 5 (by kernel_rfl)
          exact b_same hi hI rfl _ (run_load_op rfl e5 (Blk.below HV1.out hI (Blk.lt HV1.out)) Try.underlying27 rfl (sizeV _)) rfl
        · intro _ a W hI hun haft hi
          have f0 : a.eval (.tmp 59) = u4 := haft ⟨0, .data⟩ (by simp) rfl _ _ rfl rfl
          exact b_same hi hI rfl _ (run_assign_op rfl f0) rfl
      · intro vals a W hI hun hsl hp
        have e3 : a.eval (.tmp 3) = .pointer (some ⟨p, 0, none⟩) := hun 3 (by kernel_rfl)
        have f1 : a.eval (.tmp 60) = .agg (vA (causC l).2) := (hsl 1 _ _ rfl (by decide) rfl).trans (hp 1 (by decide))
        have hz : Blk W p 27 (vA fun _ => 0) := Blk.below HV0.out hI (Blk.lt HV0.out)
        have hoW := HO.out.keep hI
        have hne := own_ne_blk hoW hz (by decide)
        have hpW : p ≤ wo.heap.size := Nat.le_of_lt (Blk.lt HV0.out)
        refine l_skip rfl rfl (W.setRow p (vA (causC l).2)) (run_storerow_op rfl e3 f1 hz (sizeV _) (by rw [vA_size, vA_size]) (vA_one _)) ⟨_, rfl, fun vals' h1 _ => ⟨fun j hj => (h1 j hj).trans (hp j hj), setRow_blk _ _ _ _ _ hz, hoW.same (fun q h => setRow_other _ _ _ _ (fun e => hne (by rw [h, e]))), (HBw.out.trans (hI.mono hpW)).trans (setRow_below _ _ _ _ (Nat.le_refl _))⟩⟩
      · rintro vals W ⟨hv, hJ⟩
        have hl0 : vals 0 = u4 := hv 0 (by decide)
        have hl1 : vals 1 = .agg (vA (causC l).2) := hv 1 (by decide)
        have hl2 : vals 2 = u4 := hv 2 (by decide)
        have HJ := Lib.hid hJ
        clear hv hJ
        simp only [layN, List.size_toArray, List.length_cons, List.length_nil, List.range, List.range.loop, if_true, List.getElem?_toArray, List.getElem?_cons_zero, List.getElem?_cons_succ, Act.put, List.setIfInBounds_toArray, List.set_cons_zero, List.set_cons_succ, Nat.zero_add, Nat.reduceAdd, hl0, hl1, hl2]
        clear hl0 hl1 hl2
        go_wp2_with fail
        refine bodyPost_ret (ret_cell2 rfl _ _ _ _ _ _ u4 rfl HJ.out.1 Try.underlying27 rfl (sizeV _) rfl) rfl ?_
        exact ⟨u4, rfl, by rw [HP.out]; exact HJ.out.2.1, by rw [HP.out]; exact HJ.out.2.2⟩

end Go.Proofs.Ytmhechlfpaciiaa
