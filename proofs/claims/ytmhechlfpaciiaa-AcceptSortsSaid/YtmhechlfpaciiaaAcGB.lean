/-
  accept.Lacks, Row: the contracts, by walks. accept.byPast: the contract, by a walk. A region that draws its order and stores twice; one element of a slice of the call's own turns. Two events sorted: slices.Clone, insertionSortCmpFunc, stableCmpFunc, SortStableFunc at events; accept.Sort of two: the contracts, by walks. Conditions: lengths, CutOk.
-/
import Derived.Test.YtmhechlfpaciiaaAcGA
import Derived.Test.YtmhechlfpaciiaaStAll
namespace Go.Proofs.Ytmhechlfpaciiaa
open Go.RowKit Go.MapKept Go.Sort

/-- Those that a vector doesn't know. -/
def lackL (f : Nat → Int) (l : List Ev) : List Ev := l.filter fun e => !knowsB f e.r e.c
theorem lack_next {f : Nat → Int} {l : List Ev} {j : Nat} {e : Ev} (h : l[j]? = some e) : lackL f (l.take (j + 1)) = lackL f (l.take j) ++ (if knowsB f e.r e.c then [] else [e]) := by
  unfold lackL
  rw [List.take_add_one, h, List.filter_append]
  congr 1
  cases hk : knowsB f e.r e.c <;> simp [hk]

set_option maxRecDepth 100000 in
set_option maxHeartbeats 2000000 in
theorem lacks_any (l : List Ev) (A : Option Addr) (N c : Nat) (f : Nat → Int) (w : World) (hs : SlK encE 27 w (.slice A N c) l) (hN : l.length = N) (hN2 : N ≤ 10000) :
    Calls Try.prog 31 #[.agg (vA f), .slice A N c] w fun x w' => ∃ v, x = .returned v ∧ OwnK encE w.heap.size 39 27 w' v (lackL f l) ∧ Below w.heap.size w w' := by
  obtain ⟨p, hp⟩ : ∃ p, w.heap.size = p := ⟨_, rfl⟩
  have HP := Lib.hid hp
  have HS := Lib.hid hs
  have HN := Lib.hid hN
  have HN2 := Lib.hid hN2
  have HZe := Lib.hid (zero_of_info zeroE).1
  clear hp hs hN hN2
  go_enter Try.func31, Try.ntmps31
  go_wp2_with fail
  rw [HP.out]
  obtain ⟨X, hX⟩ : ∃ X, X = w.alloc (.cells (vA f) 27) := ⟨_, rfl⟩
  have HV0 := Lib.hid (show VB X p f by rw [hX, ← HP.out]; exact VB.new_ f rfl)
  have HY := Lib.hid (show Below p w X by rw [hX]; exact (Below.refl _ _).alloc (by rw [HP.out]; exact Nat.le_refl _) _)
  rw [← hX]
  clear hX
  go_loopw [5, 10] (fun v5 v10 wr => ∃ j : Nat, v10 = .int .i64 j ∧ j ≤ N ∧ OwnK encE p 39 27 wr v5 (lackL f (l.take j)) ∧ VB wr p f ∧ Below p w wr) (fun _ v10 _ => N - (intOf v10).toNat)
  case atStart => exact ⟨0, rfl, Nat.zero_le _, OwnK.nil_ _ _ _ _ _, HV0.out, HY.out⟩
  case round =>
    obtain ⟨j, rfl, hj, ho, hv, hbw⟩ := hrel
    obtain ⟨wo, rfl⟩ : ∃ wo, wo = wr := ⟨_, rfl⟩
    have HO := Lib.hid ho
    have HV := Lib.hid hv
    have HBw := Lib.hid hbw
    clear ho hv hbw HY HV0
    by_cases hlt : j < N
    · obtain ⟨e, he⟩ : ∃ e, l[j]? = some e := ⟨l[j]'(by rw [HN.out]; exact hlt), List.getElem?_eq_getElem _⟩
      have hSw : SlK encE 27 wo (.slice A N c) l := HS.out.below (by rw [HP.out]; exact HBw.out)
      obtain ⟨g, o, rfl, hgl, hce⟩ := hSw.ev he
      have HCe := Lib.hid hce
      have HAt := Lib.hid (at_Ev g o c N j hlt wo)
      have HNx := Lib.hid (lack_next (f := f) he)
      have HAl := Lib.hid fun c => World.setRow_alloc_new wo (evC ev0) c 39
      have HZz := Lib.hid (show Blk (wo.alloc (.cells (evC ev0) 39)) wo.heap.size 39 (evC ev0) from Blk.new _ _ _)
      obtain ⟨X, hX⟩ : ∃ X, X = wo.alloc (.cells (evC e) 39) := ⟨_, rfl⟩
      have hbX : Below wo.heap.size wo X := by rw [hX]; exact (Below.refl _ _).alloc (Nat.le_refl _) _
      have hBX : EB X wo.heap.size e := by rw [hX]; exact Blk.new _ _ _
      have hpw : p ≤ wo.heap.size := by have := HBw.out.size; have := HP.out; omega
      have HXe := Lib.hid hX
      have HBX := Lib.hid hBX
      have HbX := Lib.hid (HBw.out.trans (hbX.mono hpw))
      have HVX := Lib.hid (VB.keep HV.out hbX)
      have HOX := Lib.hid (HO.out.keep hbX)
      have HpX := Lib.hid (Nat.le_trans hpw hbX.size)
      have hll : (lackL f (l.take j)).length ≤ 10000 := by
        have h1 : (lackL f (l.take j)).length ≤ (l.take j).length := List.length_filter_le _ _
        have h2 := List.length_take_le j l
        have h3 := HN2.out
        omega
      have HLl := Lib.hid hll
      clear hX hbX hBX hce hgl he hpw hSw HO HV hll
      have hw := IntWalk.i64_in ((j : Int) + 1) (by have := HN2.out; omega)
      have hjm : ¬ 9223372036854775807 < j + 1 := by have := HN2.out; omega
      have HJ1 := Lib.hid hjm
      have HW1 := Lib.hid hw
      clear hw hjm
      have hz := HZe.out
      go_wp2_with (first
        | (refine wpList_val (o := ⟨some 12, _, _, _, _, _⟩) rfl (.pointer (some ⟨g, o + j * 27, none⟩)) wo (run_indexAddr_op rfl rfl rfl HAt.out) ?_)
        | (refine' wpList_load_midif ?q1 39 (.tmp 12) ?q2 g (o + j * 27) ?q3 (encE e) _ ?q4 Try.underlying39 ?q5 ?q6 ?_; (case q2 => rfl); (case q1 => rfl); (case q3 => rfl); (case q4 => exact HCe.out); (case q5 => rfl); (case q6 => exact (sizeE e)))
        | (refine wpList_store_row (o := ⟨none, _, _, _, _, _⟩) rfl 39 (.tmp 7) (.tmp 13) rfl wo.heap.size (evC e) rfl rfl _ _ HZz.out (sizeE e) rfl (by kernel_rfl) ?_; rw [HAl.out, ← HXe.out])
        | (refine' wpList_load_if ?q1 27 (.tmp 2) ?q2 p ?q3 _ _ _ _ ?q4 Try.underlying27 ?q5 ?q6 ?_; (case q2 => rfl); (case q1 => rfl); (case q3 => rfl); (case q4 => exact HVX.out); (case q5 => rfl); (case q6 => exact (sizeV _)))
        | (refine' wpList_load_midif ?q1 33 (.tmp 15) ?q2 wo.heap.size 0 ?q3 _ _ ?q4 Try.underlying33 ?q5 ?q6 ?_; (case q2 => rfl); (case q1 => rfl); (case q3 => rfl); (case q4 => exact HBX.out.dot); (case q5 => rfl); (case q6 => exact (by kernel_rfl)))
        | fail)
      clear hz
      cases hk : knowsB f e.r e.c
      · refine (knows_is8 f e.r e.c false hk X).mono ?_
        rintro x w2 ⟨rfl, hb⟩
        rw [hk] at HNx
        clear hk
        have hE2 := EB.keep HBX.out hb
        have hO2 := HOX.out.keep hb
        have hV2 := VB.keep HVX.out hb
        have hp2 : p ≤ w2.heap.size := Nat.le_trans HpX.out hb.size
        have hB2 := HbX.out.trans (hb.mono HpX.out)
        have hba : Below w2.heap.size w2 (w2.alloc (.cells (evC e) 39)) := (Below.refl _ _).alloc (Nat.le_refl _) _
        have hsl : SlK encE 27 (w2.alloc (.cells (evC e) 39)) (.slice (some ⟨w2.heap.size, 0, none⟩) 1 1) [e] := ⟨_, _, rfl, Nat.le_refl _, fun _ => ⟨w2.heap.size, 0, rfl, by simp, fun q y hq => by
          have hq0 : q = 0 := by have := (List.getElem?_eq_some_iff.1 hq).1; simp at this; exact this
          subst hq0
          have hy : y = e := by simpa using hq.symm
          subst hy
          intro i u hu
          rw [Blk.cell (Blk.new w2 _ _)]
          simpa [encE] using hu⟩⟩
        obtain ⟨u', w3, hr3, ho3, hg3, _⟩ := append_ev p (w2.alloc (.cells (evC e) 39)) u5 _ (hO2.keep hba) _ [e] hsl (by have := HLl.out; simp; omega) (Nat.le_trans hp2 hba.size)
        have HA := Lib.hid hr3
        have hne := own_ne_blk (hO2.keep hba) (VB.keep hV2 hba) (by decide)
        have HV3 := Lib.hid (show VB w3 p f from (hg3.block p (Nat.lt_of_lt_of_le (Blk.lt hV2) hba.size) (fun h => hne h.symm)).trans (VB.keep hV2 hba))
        have HO3 := Lib.hid ho3
        have HB3 := Lib.hid ((hB2.trans (hba.mono hp2)).grown hg3 (Nat.le_trans hp2 hba.size) (fun q hq => (hO2.lt q hq).1))
        have HE2 := Lib.hid hE2
        clear hb hE2 hO2 hV2 hp2 hB2 hba hsl hr3 ho3 hg3 hne
        have hjm := HJ1.out
        have hw := HW1.out
        go_wp2_with (first
          | (refine' wpList_load_if ?q1 39 (.tmp 7) ?q2 wo.heap.size ?q3 _ _ _ _ ?q4 Try.underlying39 ?q5 ?q6 ?_; (case q2 => rfl); (case q1 => rfl); (case q3 => rfl); (case q4 => exact HE2.out); (case q5 => rfl); (case q6 => exact (sizeE e)))
          | (refine wpList_val (o := ⟨some 21, _, _, _, _, _⟩) rfl (.slice (some ⟨w2.heap.size, 0, none⟩) 1 1) (w2.alloc (.cells (evC e) 39)) (run_buildSlice_op (vs := #[(0, .agg (evC e))]) rfl (by simp only [List.map_toArray, List.map_cons, List.map_nil]; rfl) (bsEv e w2)) ?_)
          | (at_builtin; refine Lib.wpList_append_run (o := ⟨some 22, _, _, _, _, _⟩) _ rfl _ _ _ _ rfl _ _ rfl rfl _ _ HA.out ?_)
          | fail)
        go_roundw
        case rel => exact ⟨j + 1, by go_num, by omega, by rw [HNx.out]; exact HO3.out, HV3.out, HB3.out⟩
        case measure => simp [intOf] <;> omega
      · refine (knows_is8 f e.r e.c true hk X).mono ?_
        rintro x w2 ⟨rfl, hb⟩
        rw [hk] at HNx
        clear hk
        have HO2 := Lib.hid (HOX.out.keep hb)
        have HV2 := Lib.hid (VB.keep HVX.out hb)
        have HB2 := Lib.hid (HbX.out.trans (hb.mono HpX.out))
        clear hb
        have hjm := HJ1.out
        have hw := HW1.out
        go_wp2
        go_roundw
        case rel => exact ⟨j + 1, by go_num, by omega, by rw [HNx.out, if_pos trivial, List.append_nil]; exact HO2.out, HV2.out, HB2.out⟩
        case measure => simp [intOf] <;> omega
    · have hjN : j = N := by omega
      subst hjN
      rw [List.take_of_length_le (Nat.le_of_eq HN.out)] at HO
      go_wp2
      go_ret
      exact ⟨_, rfl, by rw [HP.out]; exact HO.out, by rw [HP.out]; exact HBw.out⟩

/-- Whether all come to the vector of nothing. -/
def rowB (l : List Ev) : Bool := decide ((allA l [] fun _ => 0).1.length = l.length)

set_option maxRecDepth 100000 in
set_option maxHeartbeats 2000000 in
theorem row8_any (l : List Ev) (A : Option Addr) (N c : Nat) (w : World) (hs : SlK encE 27 w (.slice A N c) l) (hN : l.length = N) (hN2 : N ≤ 10000) (hl : ∀ e ∈ l, Lens e) (hw : CutOk w) :
    Calls Try.prog 32 #[.slice A N c] w (Gives w (.bool (rowB l))) := by
  have HA := Lib.hid (all8_any l A N c (fun _ => 0) w hs hN hN2 hl hw)
  have HN := Lib.hid hN
  have hzv := (zero_of_info zeroV).1
  clear hs hN2 hl hw
  go_enter Try.func32, Try.ntmps32
  go_wp2_with (first
    | (refine wpList_val (o := ⟨some 7, _, _, _, _, _⟩) rfl (.agg (vA fun _ => 0)) w (by kernel_rfl) ?_)
    | fail)
  refine HA.out.mono ?_
  rintro x w1 ⟨v, rfl, ho, hb⟩
  obtain ⟨h, hh⟩ : ∃ h, (allA l [] fun _ => 0).2.1 = h := ⟨_, rfl⟩
  obtain ⟨cc, hcc⟩ : ∃ cc, (allA l [] fun _ => 0).2.2 = cc := ⟨_, rfl⟩
  obtain ⟨D, hD⟩ : ∃ D, (allA l [] fun _ => 0).1 = D := ⟨_, rfl⟩
  rw [hh, hcc]
  rw [hD] at ho
  obtain ⟨A1, c1, rfl, _, _⟩ := ho.read encE_len
  obtain ⟨n1, hn1⟩ : ∃ n1, D.length = n1 := ⟨_, rfl⟩
  rw [hn1]
  have HB1 := Lib.hid hb
  have HQ := Lib.hid (show rowB l = decide ((n1 : Int) = (N : Int)) by
    unfold rowB
    rw [hD, hn1, HN.out]
    exact decide_eq_decide.2 (by omega))
  clear hh hcc hD hn1 ho hb
  have hAl := fun c => World.setRow_alloc_new w1 (vA fun _ => 0) c 27
  have hZ : Blk (w1.alloc (.cells (vA fun _ => 0) 27)) w1.heap.size 27 (vA fun _ => 0) := Blk.new _ _ _
  go_wp2_with (first
    | (refine wpList_store_row (o := ⟨none, _, _, _, _, _⟩) rfl 27 (.tmp 4) (.tmp 11) rfl w1.heap.size (vA h) rfl rfl _ _ hZ (sizeV _) (by rw [vA_size, vA_size]) (vA_one _) ?_; rw [hAl])
    | fail)
  go_ret
  refine ⟨by rw [HQ.out]; first | rfl | simp, HB1.out.alloc HB1.out.size _⟩

end Go.Proofs.Ytmhechlfpaciiaa

namespace Go.Proofs.Ytmhechlfpaciiaa
open Go.RowKit Go.MapKept Go.Sort

theorem bs3 (a b c : Int) (w : World) : (Instr.buildSlice 73 3 #[(0, .int .i64 a), (1, .int .i64 b), (2, .int .i64 c)]).run Try.prog w = .ok (.slice (some ⟨w.heap.size, 0, none⟩) 3 3) (w.alloc (.cells #[.int .i64 a, .int .i64 b, .int .i64 c] 3)) := by
  go_simp
theorem cmpint8 (x y : Int) (w : World) : Calls Try.prog 55 #[.int .i64 x, .int .i64 y] w (Gives w (.int .i64 (Lib.compareInt x y))) :=
  (cmpint x y w).mono fun _ _ h => ⟨h.1, h.2.below⟩
/-- The order of Sort. -/
def cfP (x y : Ev) : Int := orI [Lib.compareInt (sumN x.p 16) (sumN y.p 16), Lib.compareInt x.r y.r, Lib.compareInt x.c y.c]

set_option maxRecDepth 100000 in
set_option maxHeartbeats 2000000 in
theorem byPast_any (x y : Ev) (w : World) : Calls Try.prog 64 #[evV x, evV y] w (Gives w (.int .i64 (cfP x y))) := by
  obtain ⟨Y, hY⟩ : ∃ Y, Y = (w.alloc (.cells (evC x) 39)).alloc (.cells (evC y) 39) := ⟨_, rfl⟩
  obtain ⟨q, hq⟩ : ∃ q, w.heap.size = q := ⟨_, rfl⟩
  have HY := Lib.hid hY
  have HQ := Lib.hid hq
  have KX := Lib.hid (show EB Y q x by rw [hY, ← hq]; exact (EB.new_ w x).keep ((Below.refl _ _).alloc (Nat.le_refl _) _))
  have KY := Lib.hid (show EB Y (q + 1) y by
    rw [hY, ← hq]
    have := EB.new_ (w.alloc (.cells (evC x) 39)) y
    simpa using this)
  have BY := Lib.hid (show Below w.heap.size w Y by rw [hY]; exact ((Below.refl _ _).alloc (Nat.le_refl _) _).alloc (by simp) _)
  clear hY hq
  unfold evV
  go_enter Try.func64, Try.ntmps64
  go_upto_region 1 with fail
  rw [← HY.out, HQ.out]
  refine wp_region_any (by kernel_rfl) ?_
  refine wpAny_below (fun i uq wq => if i = 21 then ∃ gs, uq = .slice (some ⟨gs, 0, none⟩) 3 3 ∧ Blk wq gs 3 ([Lib.compareInt (sumN x.p 16) (sumN y.p 16), Lib.compareInt x.r y.r, Lib.compareInt x.c y.c].map fun z => Value.int .i64 z).toArray else uq = ([.pointer (some ⟨q, 2, none⟩), .agg (vA x.p), .int .i64 (sumN x.p 16), .pointer (some ⟨q + 1, 2, none⟩), .agg (vA y.p), .int .i64 (sumN y.p 16), .int .i64 (Lib.compareInt ((sumN x.p 16)) ((sumN y.p 16))), .pointer (some ⟨q, 0, none⟩), .pointer (some ⟨q, 0, none⟩), .int .i64 x.r, .pointer (some ⟨q + 1, 0, none⟩), .pointer (some ⟨q + 1, 0, none⟩), .int .i64 y.r, .int .i64 (Lib.compareInt (x.r) (y.r)), .pointer (some ⟨q, 0, none⟩), .pointer (some ⟨q, 1, none⟩), .int .i64 x.c, .pointer (some ⟨q + 1, 0, none⟩), .pointer (some ⟨q + 1, 1, none⟩), .int .i64 y.c, .int .i64 (Lib.compareInt (x.c) (y.c)), undef, .int .i64 (orI [Lib.compareInt (sumN x.p 16) (sumN y.p 16), Lib.compareInt x.r y.r, Lib.compareInt x.c y.c]), .int .i64 (orI [Lib.compareInt (sumN x.p 16) (sumN y.p 16), Lib.compareInt x.r y.r, Lib.compareInt x.c y.c])] : List Value).getD i undef) _ Y (by kernel_rfl) (by kernel_rfl) (by kernel_rfl) ?_ ?_ ?_
  · intro i v w w' hb hp
    by_cases h5 : i = 21
    · rw [if_pos h5] at hp ⊢
      obtain ⟨n, h1, h2⟩ := hp
      exact ⟨n, h1, Blk.below h2 hb (Blk.lt h2)⟩
    · rw [if_neg h5] at hp ⊢
      exact hp
  · refine ⟨?_, ?_, ?_, ?_, ?_, ?_, ?_, ?_, ?_, ?_, ?_, ?_, ?_, ?_, ?_, ?_, ?_, ?_, ?_, ?_, ?_, ?_, ?_, ?_, trivial⟩
    · intro a W hI hun haft hi
      have e2 : a.eval (.tmp 2) = .pointer (some ⟨q, 0, none⟩) := hun 2 (by kernel_rfl)
      exact b_same hi hI rfl _ (run_fieldAddr_any rfl e2 (at_event1 _ 0 _)) rfl
    · intro a W hI hun haft hi
      have f0 : a.eval (.tmp 5) = .pointer (some ⟨q, 2, none⟩) := haft ⟨0, .data⟩ (by simp) rfl _ _ rfl rfl
      exact b_same hi hI rfl _ (run_loadmid_op rfl f0 ((EB.keep KX.out hI).past) Try.underlying27 rfl (sizeV _)) rfl
    · intro a W hI hun haft hi
      have f1 : a.eval (.tmp 6) = .agg (vA x.p) := haft ⟨1, .data⟩ (by simp) rfl _ _ rfl rfl
      refine b_call hi hI rfl _ _ (run_call_op (args := #[.agg (vA x.p)]) rfl (by simp [f1]) (by kernel_rfl)) ?_
      exact (sum_any _ W).mono fun e w' H => ⟨_, H.1, rfl, H.2⟩
    · intro a W hI hun haft hi
      have e3 : a.eval (.tmp 3) = .pointer (some ⟨q + 1, 0, none⟩) := hun 3 (by kernel_rfl)
      exact b_same hi hI rfl _ (run_fieldAddr_any rfl e3 (at_event1 _ 0 _)) rfl
    · intro a W hI hun haft hi
      have f3 : a.eval (.tmp 8) = .pointer (some ⟨q + 1, 2, none⟩) := haft ⟨3, .data⟩ (by simp) rfl _ _ rfl rfl
      exact b_same hi hI rfl _ (run_loadmid_op rfl f3 ((EB.keep KY.out hI).past) Try.underlying27 rfl (sizeV _)) rfl
    · intro a W hI hun haft hi
      have f4 : a.eval (.tmp 9) = .agg (vA y.p) := haft ⟨4, .data⟩ (by simp) rfl _ _ rfl rfl
      refine b_call hi hI rfl _ _ (run_call_op (args := #[.agg (vA y.p)]) rfl (by simp [f4]) (by kernel_rfl)) ?_
      exact (sum_any _ W).mono fun e w' H => ⟨_, H.1, rfl, H.2⟩
    · intro a W hI hun haft hi
      have f2 : a.eval (.tmp 7) = .int .i64 (sumN x.p 16) := haft ⟨2, .data⟩ (by simp) rfl _ _ rfl rfl
      have f5 : a.eval (.tmp 10) = .int .i64 (sumN y.p 16) := haft ⟨5, .data⟩ (by simp) rfl _ _ rfl rfl
      refine b_call hi hI rfl _ _ (run_call_op (args := #[.int .i64 (sumN x.p 16), .int .i64 (sumN y.p 16)]) rfl (by simp [f2, f5]) (by kernel_rfl)) ?_
      exact (cmpint8 _ _ W).mono fun e w' H => ⟨_, H.1, rfl, H.2⟩
    · intro a W hI hun haft hi
      have e2 : a.eval (.tmp 2) = .pointer (some ⟨q, 0, none⟩) := hun 2 (by kernel_rfl)
      exact b_same hi hI rfl _ (run_fieldAddr_any rfl e2 (at_event0 _ 0 _)) rfl
    · intro a W hI hun haft hi
      have f7 : a.eval (.tmp 12) = .pointer (some ⟨q, 0, none⟩) := haft ⟨7, .data⟩ (by simp) rfl _ _ rfl rfl
      exact b_same hi hI rfl _ (run_fieldAddr_any rfl f7 (at_dot0' _ 0 _)) rfl
    · intro a W hI hun haft hi
      have f8 : a.eval (.tmp 13) = .pointer (some ⟨q, 0, none⟩) := haft ⟨8, .data⟩ (by simp) rfl _ _ rfl rfl
      exact b_same hi hI rfl _ (run_loadint_op rfl f8 Try.underlying3 ((Blk.cell (EB.keep KX.out hI) 0).trans rfl)) rfl
    · intro a W hI hun haft hi
      have e3 : a.eval (.tmp 3) = .pointer (some ⟨q + 1, 0, none⟩) := hun 3 (by kernel_rfl)
      exact b_same hi hI rfl _ (run_fieldAddr_any rfl e3 (at_event0 _ 0 _)) rfl
    · intro a W hI hun haft hi
      have f10 : a.eval (.tmp 15) = .pointer (some ⟨q + 1, 0, none⟩) := haft ⟨10, .data⟩ (by simp) rfl _ _ rfl rfl
      exact b_same hi hI rfl _ (run_fieldAddr_any rfl f10 (at_dot0' _ 0 _)) rfl
    · intro a W hI hun haft hi
      have f11 : a.eval (.tmp 16) = .pointer (some ⟨q + 1, 0, none⟩) := haft ⟨11, .data⟩ (by simp) rfl _ _ rfl rfl
      exact b_same hi hI rfl _ (run_loadint_op rfl f11 Try.underlying3 ((Blk.cell (EB.keep KY.out hI) 0).trans rfl)) rfl
    · intro a W hI hun haft hi
      have f9 : a.eval (.tmp 14) = .int .i64 x.r := haft ⟨9, .data⟩ (by simp) rfl _ _ rfl rfl
      have f12 : a.eval (.tmp 17) = .int .i64 y.r := haft ⟨12, .data⟩ (by simp) rfl _ _ rfl rfl
      refine b_call hi hI rfl _ _ (run_call_op (args := #[.int .i64 x.r, .int .i64 y.r]) rfl (by simp [f9, f12]) (by kernel_rfl)) ?_
      exact (cmpint8 _ _ W).mono fun e w' H => ⟨_, H.1, rfl, H.2⟩
    · intro a W hI hun haft hi
      have e2 : a.eval (.tmp 2) = .pointer (some ⟨q, 0, none⟩) := hun 2 (by kernel_rfl)
      exact b_same hi hI rfl _ (run_fieldAddr_any rfl e2 (at_event0 _ 0 _)) rfl
    · intro a W hI hun haft hi
      have f14 : a.eval (.tmp 19) = .pointer (some ⟨q, 0, none⟩) := haft ⟨14, .data⟩ (by simp) rfl _ _ rfl rfl
      exact b_same hi hI rfl _ (run_fieldAddr_any rfl f14 (at_dot1' _ 0 _)) rfl
    · intro a W hI hun haft hi
      have f15 : a.eval (.tmp 20) = .pointer (some ⟨q, 1, none⟩) := haft ⟨15, .data⟩ (by simp) rfl _ _ rfl rfl
      exact b_same hi hI rfl _ (run_loadint_op rfl f15 Try.underlying3 ((Blk.cell (EB.keep KX.out hI) 1).trans rfl)) rfl
    · intro a W hI hun haft hi
      have e3 : a.eval (.tmp 3) = .pointer (some ⟨q + 1, 0, none⟩) := hun 3 (by kernel_rfl)
      exact b_same hi hI rfl _ (run_fieldAddr_any rfl e3 (at_event0 _ 0 _)) rfl
    · intro a W hI hun haft hi
      have f17 : a.eval (.tmp 22) = .pointer (some ⟨q + 1, 0, none⟩) := haft ⟨17, .data⟩ (by simp) rfl _ _ rfl rfl
      exact b_same hi hI rfl _ (run_fieldAddr_any rfl f17 (at_dot1' _ 0 _)) rfl
    · intro a W hI hun haft hi
      have f18 : a.eval (.tmp 23) = .pointer (some ⟨q + 1, 1, none⟩) := haft ⟨18, .data⟩ (by simp) rfl _ _ rfl rfl
      exact b_same hi hI rfl _ (run_loadint_op rfl f18 Try.underlying3 ((Blk.cell (EB.keep KY.out hI) 1).trans rfl)) rfl
    · intro a W hI hun haft hi
      have f16 : a.eval (.tmp 21) = .int .i64 x.c := haft ⟨16, .data⟩ (by simp) rfl _ _ rfl rfl
      have f19 : a.eval (.tmp 24) = .int .i64 y.c := haft ⟨19, .data⟩ (by simp) rfl _ _ rfl rfl
      refine b_call hi hI rfl _ _ (run_call_op (args := #[.int .i64 x.c, .int .i64 y.c]) rfl (by simp [f16, f19]) (by kernel_rfl)) ?_
      exact (cmpint8 _ _ W).mono fun e w' H => ⟨_, H.1, rfl, H.2⟩
    · intro a W hI hun haft hi
      have f6 : a.eval (.tmp 11) = .int .i64 (Lib.compareInt ((sumN x.p 16)) ((sumN y.p 16))) := haft ⟨6, .data⟩ (by simp) rfl _ _ rfl rfl
      have f13 : a.eval (.tmp 18) = .int .i64 (Lib.compareInt (x.r) (y.r)) := haft ⟨13, .data⟩ (by simp) rfl _ _ rfl rfl
      have f20 : a.eval (.tmp 25) = .int .i64 (Lib.compareInt (x.c) (y.c)) := haft ⟨20, .data⟩ (by simp) rfl _ _ rfl rfl
      exact b_val hi hI rfl _ _ (run_buildSlice_op (vs := #[(0, .int .i64 (Lib.compareInt ((sumN x.p 16)) ((sumN y.p 16)))), (1, .int .i64 (Lib.compareInt (x.r) (y.r))), (2, .int .i64 (Lib.compareInt (x.c) (y.c)))]) rfl (by simp only [List.map_toArray, List.map_cons, List.map_nil, f6, f13, f20]) (bs3 _ _ _ _)) ((Below.refl _ _).alloc (Nat.le_refl _) _) ⟨_, rfl, Blk.new _ _ _⟩
    · intro a W hI hun haft hi
      obtain ⟨gs, fs, hs⟩ : ∃ gs, a.eval (.tmp 26) = .slice (some ⟨gs, 0, none⟩) 3 3 ∧ Blk W gs 3 ([Lib.compareInt (sumN x.p 16) (sumN y.p 16), Lib.compareInt x.r y.r, Lib.compareInt x.c y.c].map fun z => Value.int .i64 z).toArray := haft ⟨21, .data⟩ (by simp) rfl _ _ rfl rfl
      refine b_call hi hI rfl _ _ (run_call_op (args := #[.slice (some ⟨gs, 0, none⟩) 3 3]) rfl (by simp [fs]) (by kernel_rfl)) ?_
      exact (or_any [Lib.compareInt (sumN x.p 16) (sumN y.p 16), Lib.compareInt x.r y.r, Lib.compareInt x.c y.c] gs W hs (by simp)).mono fun e w' H => ⟨_, H.1, rfl, by rw [H.2]; exact Below.refl _ _⟩
    · intro a W hI hun haft hi
      have f22 : a.eval (.tmp 27) = .int .i64 (orI [Lib.compareInt (sumN x.p 16) (sumN y.p 16), Lib.compareInt x.r y.r, Lib.compareInt x.c y.c]) := haft ⟨22, .data⟩ (by simp) rfl _ _ rfl rfl
      exact b_same hi hI rfl _ (run_assign_op rfl f22) rfl
  · intro vals W hI hp
    have hl23 : vals 23 = .int .i64 (orI [Lib.compareInt (sumN x.p 16) (sumN y.p 16), Lib.compareInt x.r y.r, Lib.compareInt x.c y.c]) := hp 23 (by decide)
    have HI := Lib.hid hI
    clear hp hI
    simp only [layN, List.size_toArray, List.length_cons, List.length_nil, List.range, List.range.loop, if_true, List.getElem?_toArray, List.getElem?_cons_zero, List.getElem?_cons_succ, Act.put, List.setIfInBounds_toArray, List.set_cons_zero, List.set_cons_succ, Nat.zero_add, Nat.reduceAdd, hl23]
    clear hl23
    go_wp2
    go_ret
    exact ⟨rfl, BY.out.trans (HI.out.mono BY.out.size)⟩

end Go.Proofs.Ytmhechlfpaciiaa

namespace Go.Proofs.Ytmhechlfpaciiaa
open Go.RowKit Go.MapKept Go.Sort

section
variable {P : Program} {ops : Array Oper} {Q : Exit → Act → World → Prop} {md : Region.Mode}
/-- THE RULE for two stores, the second one the last: who reads memory is read ahead of the first one. -/
theorem wpAny_swap (p : Nat → Value → Prop) (a0 : Act) (w1 : World) (s1 s2 : Nat) (o1 o2 : Oper) (O M F : World → Prop)
    (hsz : ops.size = s2 + 1) (h12 : s1 < s2) (ho1 : ops[s1]? = some o1) (ho2 : ops[s2]? = some o2) (hd1 : o1.dst = none) (hd2 : o2.dst = none)
    (hwl : aftB md o2 s1 = true)
    (hap : apartB ops = true) (hah : aheadB md ops = true) (hin : (List.range ops.size).all (fun i => match ops[i]? with | some o => (match o.dst with | some d => decide (d < a0.tmps.size) | none => true) | none => true) = true)
    (h0 : O w1.drew)
    (hop : AllIdx (fun i o => i ≠ s1 → i ≠ s2 → ∀ (a : Act) (w : World), (∀ d : Tmp, (ops.all fun oj => oj.dst != some d) = true → a.eval (.tmp d) = a0.eval (.tmp d)) →
      (∀ e ∈ o.after, Region.binds md e = true → ∀ oj d, ops[e.on]? = some oj → oj.dst = some d → p e.on (a.eval (.tmp d))) → (aftB md o1 i = true → O w) → ops[i]? = some o →
      wpOp P ops Q i (fun a' w' => ∃ v, a' = a.put o.dst v ∧ w' = w ∧ p i v) a w) 0 ops.toList)
    (h1 : ∀ (a : Act) (w : World), O w → (∀ e ∈ o1.after, Region.binds md e = true → ∀ oj d, ops[e.on]? = some oj → oj.dst = some d → p e.on (a.eval (.tmp d))) →
      wpOp P ops Q s1 (fun a' w' => a' = a.put o1.dst undef ∧ M w') a w)
    (h2 : ∀ (a : Act) (w : World), M w → (∀ e ∈ o2.after, Region.binds md e = true → ∀ oj d, ops[e.on]? = some oj → oj.dst = some d → p e.on (a.eval (.tmp d))) →
      wpOp P ops Q s2 (fun a' w' => a' = a.put o2.dst undef ∧ F w') a w)
    (hend : ∀ vals w, F w → (∀ i, i < ops.size → i ≠ s1 → i ≠ s2 → p i (vals i)) → Q .normal (layN ops (fun _ => true) vals (List.range ops.size) a0) w) :
    wpAny P md ops Q ops.size (Array.replicate ops.size false) a0 w1.drew := by
  obtain ⟨Inv, hInv⟩ : ∃ Inv : (Nat → Bool) → (Nat → Value) → World → Prop, Inv = fun L vals w => (∀ i, L i = true → i ≠ s1 → i ≠ s2 → p i (vals i)) ∧ (if L s2 = true then F w else if L s1 = true then M w else O w) := ⟨_, rfl⟩
  have aft_of : ∀ {o : Oper} {j : Nat}, aftB md o j = true → ∃ e ∈ o.after, e.on = j ∧ Region.binds md e = true := by
    intro o j h
    unfold aftB at h
    rw [Array.any_eq_true'] at h
    obtain ⟨e, he, h2⟩ := h
    simp only [Bool.and_eq_true, beq_iff_eq] at h2
    exact ⟨e, he, h2.1, h2.2⟩
  refine Lt.wpAny_inv Inv a0 w1.drew hap hah hin (fun L h => ?_) (Lt.allIdx_of _ _ fun i o hi => ?_) (fun L vals w hL hI => ?_)
  · rw [hInv]
    refine ⟨fun i hl => (by rw [h i] at hl; cases hl), ?_⟩
    rw [if_neg (by rw [h]; exact Bool.false_ne_true), if_neg (by rw [h]; exact Bool.false_ne_true)]
    exact h0
  · rw [Nat.zero_add]
    intro L vals a w hF hI
    rw [hInv] at hI
    obtain ⟨hv, hw⟩ := hI
    have dep : ∀ e ∈ o.after, Region.binds md e = true → ∀ oj d, ops[e.on]? = some oj → oj.dst = some d → p e.on (a.eval (.tmp d)) := by
      intro e he hb oj d hoj hd
      have hl := hF.ahead e he hb
      rw [hF.slot e.on oj d hoj hd hl]
      refine hv e.on hl (fun h => ?_) (fun h => ?_)
      · rw [h, ho1] at hoj; cases hoj; rw [hd1] at hd; cases hd
      · rw [h, ho2] at hoj; cases hoj; rw [hd2] at hd; cases hd
    have late : ∀ (j : Nat) (oj : Oper), ops[j]? = some oj → aftB md oj i = true → L j = false := by
      intro j oj hj ha
      cases hl : L j with
      | false => rfl
      | true =>
        obtain ⟨e, he, h1, h2⟩ := aft_of ha
        have := hF.closed j oj hj hl e he h2
        rw [h1, hF.open_] at this
        cases this
    by_cases i1 : i = s1
    · subst i1
      have hoo : o = o1 := by have := hF.it; rw [ho1] at this; exact (Option.some.inj this).symm
      subst hoo
      have hs2 : L s2 = false := late s2 o2 ho2 hwl
      rw [if_neg (by rw [hs2]; exact Bool.false_ne_true), if_neg (by rw [hF.open_]; exact Bool.false_ne_true)] at hw
      refine wpOp_mono ?_ (h1 a w hw dep)
      rintro a' w' ⟨rfl, hM⟩
      refine ⟨undef, rfl, fun L' q1 q2 => ?_⟩
      rw [hInv]
      refine ⟨fun j hl n1 n2 => ?_, ?_⟩
      · have hji : j ≠ i := n1
        simp only [hji, if_false]
        exact hv j (by rw [← q1 j hji]; exact hl) n1 n2
      · rw [if_neg (by rw [q1 s2 (by omega), hs2]; exact Bool.false_ne_true), if_pos q2]
        exact hM
    · by_cases i2 : i = s2
      · subst i2
        have hoo : o = o2 := by have := hF.it; rw [ho2] at this; exact (Option.some.inj this).symm
        subst hoo
        have hl1 : L s1 = true := by
          obtain ⟨e, he, h1, h2⟩ := aft_of hwl
          rw [← h1]; exact hF.ahead e he h2
        rw [if_neg (by rw [hF.open_]; exact Bool.false_ne_true), if_pos hl1] at hw
        refine wpOp_mono ?_ (h2 a w hw dep)
        rintro a' w' ⟨rfl, hM⟩
        refine ⟨undef, rfl, fun L' q1 q2 => ?_⟩
        rw [hInv]
        refine ⟨fun j hl n1 n2 => ?_, ?_⟩
        · have hji : j ≠ i := n2
          simp only [hji, if_false]
          exact hv j (by rw [← q1 j hji]; exact hl) n1 n2
        · rw [if_pos q2]
          exact hM
      · have h3 := allIdx_get ops.toList 0 i o hop (by simpa using hi)
        rw [Nat.zero_add] at h3
        refine wpOp_mono ?_ (h3 i1 i2 a w hF.old dep (fun ha => ?_) hF.it)
        · rintro a' w' ⟨v, rfl, rfl, hp⟩
          refine ⟨v, rfl, fun L' q1 q2 => ?_⟩
          rw [hInv]
          refine ⟨fun j hl n1 n2 => ?_, ?_⟩
          · by_cases hji : j = i
            · subst hji; simpa using hp
            · simp only [hji, if_false]
              exact hv j (by rw [← q1 j hji]; exact hl) n1 n2
          · rw [q1 s2 (fun h => i2 h.symm), q1 s1 (fun h => i1 h.symm)]
            exact hw
        · have hl1 : L s1 = false := late s1 o1 ho1 ha
          have hl2 : L s2 = false := by
            cases hl : L s2 with
            | false => rfl
            | true =>
              obtain ⟨e, he, h1, h2⟩ := aft_of hwl
              have := hF.closed s2 o2 ho2 hl e he h2
              rw [h1, hl1] at this
              cases this
          rw [if_neg (by rw [hl2]; exact Bool.false_ne_true), if_neg (by rw [hl1]; exact Bool.false_ne_true)] at hw
          exact hw
  · rw [hInv] at hI
    obtain ⟨hv, hw⟩ := hI
    rw [if_pos (hL s2 (by omega))] at hw
    exact hend vals w hw fun i hi n1 n2 => hv i (hL i hi) n1 n2
end

/-! ### One element of a slice of the call's own turns -/
theorem setCells_blk {g : Nat} {t : TypeId} : ∀ (vs : List Value) (o : Nat) (w : World) (cur : Array Value), Blk w g t cur → ∃ cur', Blk (w.setCells g o vs) g t cur' ∧ cur'.size = cur.size
  | [], _, _, cur, h => ⟨cur, h, rfl⟩
  | v :: vs, o, w, cur, h => by
    obtain ⟨cur', h3, h4⟩ := setCells_blk vs (o + 1) _ _ (h.set_ o v)
    exact ⟨cur', h3, by simpa using h4⟩
section
variable {α : Type} {enc : α → List Value} {k base n cap g : Nat} {e : TypeId} {w : World} {l : List α}
theorem own_of_ranges (hk : ∀ x, (enc x).length = k) (hk0 : 0 < k) {cur : Array Value} (hb : Blk w g e cur) (hB : base ≤ g) (h1 : l.length ≤ cap) (h2 : cap ≤ maxLen) (h3 : cur.size = cap * k) (hr : ∀ (j : Nat) (x : α), l[j]? = some x → w.rangeAt g (j * k) (enc x)) : OwnK enc base e k w (.slice (some ⟨g, 0, none⟩) l.length cap) l := by
  refine ⟨flat_length hk l, .inr ⟨g, cap, cur, rfl, hB, hb, h1, h2, h3, ?_⟩⟩
  apply List.ext_getElem?
  intro t
  by_cases ht : t < l.length * k
  · have hj : t / k < l.length := (Nat.div_lt_iff_lt_mul hk0).2 ht
    have hi : t % k < k := Nat.mod_lt _ hk0
    have e1 : t / k * k + t % k = t := by rw [Nat.mul_comm]; exact Nat.div_add_mod t k
    have hx := List.getElem?_eq_getElem hj
    have h5 := flat_at hk l (t / k) (t % k) _ hx hi
    rw [e1] at h5
    have hu : (enc l[t / k])[t % k]? = some ((enc l[t / k])[t % k]'(by rw [hk]; exact hi)) := List.getElem?_eq_getElem _
    have h6 := hr (t / k) _ hx (t % k) _ hu
    rw [e1, hb.cell t] at h6
    rw [List.getElem?_take_of_lt ht, Array.getElem?_toList, h6, h5, hu]
  · rw [List.getElem?_eq_none (by rw [List.length_take]; omega), List.getElem?_eq_none (by rw [flat_length hk]; omega)]
theorem OwnK.put_ (hk : ∀ x, (enc x).length = k) (hk0 : 0 < k) (h : OwnK enc base e k w (.slice (some ⟨g, 0, none⟩) n cap) l) {j : Nat} (hj : j < l.length) (x : α) :
    w.there g (j * k) k ∧ OwnK enc base e k (w.setCells g (j * k) (enc x)) (.slice (some ⟨g, 0, none⟩) n cap) (l.set j x) ∧ g < w.heap.size := by
  have hn : l ≠ [] := by rintro rfl; simp at hj
  obtain ⟨g', cap', cur, hv, hB, hg, h1, h2, h3, h4⟩ := h.block hn
  injection hv with e1 e2 e3
  injection e1 with e1
  injection e1 with e1
  subst e1 e2 e3
  have hb : Blk w g e cur := hg
  have hjk : j * k + k ≤ cur.size := by
    rw [h3, ← Nat.succ_mul]
    exact Nat.mul_le_mul_right k (by omega)
  have hth : w.there g (j * k) k := fun i hi => ⟨by rw [hb.cell, Array.getElem?_eq_getElem (by omega)]; rfl, hb.free _⟩
  obtain ⟨cur', hb', hc'⟩ := setCells_blk (enc x) (j * k) w cur hb
  refine ⟨hth, ?_, hb.lt⟩
  have hl : (l.set j x).length = l.length := List.length_set
  have := own_of_ranges (base := base) (l := l.set j x) (cap := cap) hk hk0 hb' hB (by rw [hl]; exact h1) h2 (by rw [hc', h3]) (fun i y hy => ?_)
  · rw [hl] at this; exact this
  · by_cases hij : j = i
    · subst hij
      rw [List.getElem?_set_self hj] at hy
      rw [← Option.some.inj hy]
      exact World.rangeAt_setCells_same w g (j * k) (enc x) (by rw [hk]; exact hth)
    · rw [List.getElem?_set_ne hij] at hy
      obtain ⟨g2, hA, _, _, h7⟩ := h.at_ hk hy
      injection hA with hA
      injection hA with hA
      subst hA
      refine World.rangeAt_setCells_apart h7 g (j * k) (enc x) (.inr ?_)
      rw [hk, hk]
      rcases Nat.lt_or_gt_of_ne hij with hlt | hgt
      · right; rw [← Nat.succ_mul]; exact Nat.mul_le_mul_right k hlt
      · left; rw [← Nat.succ_mul]; exact Nat.mul_le_mul_right k hgt
end

end Go.Proofs.Ytmhechlfpaciiaa

namespace Go.Proofs.Ytmhechlfpaciiaa
open Go.RowKit Go.MapKept Go.Sort

theorem run_storemid_op {P : Program} {o : Oper} {ρ : Operand → Value} {w : World} {ty : TypeId} {x y : Operand} {g k : Nat} {cs : Array Value} (ho : o.op = .store ty x y) (hx : ρ x = .pointer (some ⟨g, k, none⟩)) (hy : ρ y = .agg cs) (ht : w.there g k cs.size)
    (hi : (P.info? ty).map (·.size) = some cs.size) (h1 : cs.all (·.oneCell') = true) : (execOp ρ o).run P w = .ok .skip (w.setCells g k cs.toList) := by
  unfold execOp
  simp only [ho, hx, hy, Sem.run_bind, Sem.run_pure, Result.andThen_ok, run_storeAt_mid w g k ty cs ht hi h1]
theorem run_dyncall_op {P : Program} {o : Oper} {a : Act} {w : World} {f : FuncId} {xs : Array Operand} {ts : Array TypeId} {c : Operand} {args : Array Value} (ho : o.op = .call { callee := .value c, args := xs, argTypes := ts }) (hc : a.eval c = .func (.func f) #[] #[]) (hargs : xs.map a.eval = args)
    (hf : (callFunc f args).run P w = .ok (.enter f args) w) : (execOp a.eval o).run P w = .ok (.enter f args) w := by
  have h1 : resolve a.eval { callee := .value c, args := xs, argTypes := ts } o.type = pure { target := .fn (.func f) #[], args := #[] ++ xs.map a.eval } := by
    simp [resolve, hc, Deferred.ofValue]
  unfold execOp
  simp only [ho, h1, Sem.run_bind, Sem.run_pure, Result.andThen_ok, invoke, Array.append_empty, Array.empty_append, hargs]
  exact hf
theorem at_E1 (g c : Nat) (w : World) : (Instr.indexAt 22 (.slice (some ⟨g, 0, none⟩) 2 c) (.int .i64 1)).run Try.prog w = .ok (.pointer (some ⟨g, 27, none⟩)) w := by go_simp
theorem at_E0 (g c : Nat) (w : World) : (Instr.indexAt 22 (.slice (some ⟨g, 0, none⟩) 2 c) (.int .i64 0)).run Try.prog w = .ok (.pointer (some ⟨g, 0, none⟩)) w := by go_simp
theorem sub10 (w : World) : (binOp .sub 3 (.int .i64 1) (.int .i64 1)).run Try.prog w = .ok (.int .i64 0) w := by go_simp; first | rfl | decide
theorem gt10 (w : World) : (binOp .gtr 3 (.int .i64 1) (.int .i64 0)).run Try.prog w = .ok (.bool true) w := by go_simp
theorem gt00 (w : World) : (binOp .gtr 3 (.int .i64 0) (.int .i64 0)).run Try.prog w = .ok (.bool false) w := by go_simp
theorem ltc (c : Int) (h : c < 0) (w : World) : (binOp .lss 3 (.int .i64 c) (.int .i64 0)).run Try.prog w = .ok (.bool true) w := by go_simp
/-- Two events in a slice, all else as it was. -/
def TwoAt (w0 : World) (B g cap : Nat) (x y : Ev) (w : World) : Prop := OwnK encE B 39 27 w (.slice (some ⟨g, 0, none⟩) 2 cap) [x, y] ∧ Out (fun i => i = g) w0 w
theorem TwoAt.r0 {w0 w : World} {B g cap : Nat} {x y : Ev} (h : TwoAt w0 B g cap x y w) : w.rangeAt g 0 (encE x) := by
  obtain ⟨g2, hA, _, _, hr⟩ := h.1.at_ encE_len (j := 0) (x := x) rfl
  injection hA with hA
  injection hA with hA
  subst hA
  simpa using hr
theorem TwoAt.r1 {w0 w : World} {B g cap : Nat} {x y : Ev} (h : TwoAt w0 B g cap x y w) : w.rangeAt g 27 (encE y) := by
  obtain ⟨g2, hA, _, _, hr⟩ := h.1.at_ encE_len (j := 1) (x := y) rfl
  injection hA with hA
  injection hA with hA
  subst hA
  simpa using hr
theorem TwoAt.below {w0 w w' : World} {B g cap : Nat} {x y : Ev} (h : TwoAt w0 B g cap x y w) (hb : Below w.heap.size w w') : TwoAt w0 B g cap x y w' := ⟨h.1.keep hb, h.2.trans' (Out.of_below hb)⟩
theorem size_sc (b : Nat) : ∀ (vs : List Value) (o : Nat) (w : World), (w.setCells b o vs).heap.size = w.heap.size
  | [], _, _ => rfl
  | v :: r, o, w => by rw [World.setCells, size_sc b r]; simp [World.setCell]
theorem tape_sc (b : Nat) : ∀ (vs : List Value) (o : Nat) (w : World), (w.setCells b o vs).tape = w.tape
  | [], _, _ => rfl
  | v :: r, o, w => by rw [World.setCells, tape_sc b r]; rfl
theorem os_sc (b : Nat) : ∀ (vs : List Value) (o : Nat) (w : World), (w.setCells b o vs).os = w.os
  | [], _, _ => rfl
  | v :: r, o, w => by rw [World.setCells, os_sc b r]; rfl
theorem out_sc (b : Nat) : ∀ (vs : List Value) (o : Nat) (w : World), (w.setCells b o vs).output = w.output
  | [], _, _ => rfl
  | v :: r, o, w => by rw [World.setCells, out_sc b r]; rfl
theorem heap_sc (b k : Nat) (h : k ≠ b) : ∀ (vs : List Value) (o : Nat) (w : World), (w.setCells b o vs).heap[k]? = w.heap[k]?
  | [], _, _ => rfl
  | v :: r, o, w => by rw [World.setCells, heap_sc b k h r]; exact Below.heap_setCell w ⟨b, o, none⟩ v k h
theorem out_set {w0 w : World} {g o : Nat} {vs : List Value} (h : Out (fun i => i = g) w0 w) : Out (fun i => i = g) w0 (w.setCells g o vs) :=
  h.trans' ⟨os_sc g vs o w, tape_sc g vs o w, out_sc g vs o w, by rw [size_sc]; exact Nat.le_refl _, fun k _ hn => heap_sc g k hn vs o w⟩
theorem TwoAt.set1 {w0 w : World} {B g cap : Nat} {x y : Ev} (h : TwoAt w0 B g cap x y w) (z : Ev) : w.there g 27 27 ∧ TwoAt w0 B g cap x z (w.setCells g 27 (encE z)) := by
  obtain ⟨h1, h2, _⟩ := h.1.put_ encE_len (by decide) (j := 1) (by simp) z
  exact ⟨by simpa using h1, by simpa using h2, out_set h.2⟩
theorem TwoAt.set0 {w0 w : World} {B g cap : Nat} {x y : Ev} (h : TwoAt w0 B g cap x y w) (z : Ev) : w.there g 0 27 ∧ TwoAt w0 B g cap z y (w.setCells g 0 (encE z)) := by
  obtain ⟨h1, h2, _⟩ := h.1.put_ encE_len (by decide) (j := 0) (by simp) z
  exact ⟨by simpa using h1, by simpa using h2, out_set h.2⟩

set_option maxRecDepth 100000 in
set_option maxHeartbeats 3000000 in
theorem ins2_any (x y : Ev) (B g cap : Nat) (w : World) (h : OwnK encE B 39 27 w (.slice (some ⟨g, 0, none⟩) 2 cap) [x, y]) (hc : cfP y x < 0) :
    Calls Try.prog 100 #[.slice (some ⟨g, 0, none⟩) 2 cap, .int .i64 0, .int .i64 2, .func (.func 64) #[] #[]] w fun e w' => e = .returned (.tuple #[]) ∧ TwoAt w B g cap y x w' := by
  have H := Lib.hid (show TwoAt w B g cap x y w from ⟨h, Out.refl _ _⟩)
  have HC := Lib.hid hc
  clear h hc
  go_enter Try.func100, Try.ntmps100
  go_wp2_with fail
  go_loopw [8] (fun v8 wr => (v8 = .int .i64 1 ∧ TwoAt w B g cap x y wr) ∨ (v8 = .int .i64 2 ∧ TwoAt w B g cap y x wr)) (fun v8 _ => 2 - (intOf v8).toNat)
  case atStart => exact .inl ⟨rfl, H.out⟩
  case round =>
    rcases hrel with ⟨rfl, ht⟩ | ⟨rfl, ht⟩
    · have HT := Lib.hid ht
      clear ht
      go_wp2_with fail
      go_loopw [9] (fun v9 wr => (v9 = .int .i64 1 ∧ TwoAt w B g cap x y wr) ∨ (v9 = .int .i64 0 ∧ TwoAt w B g cap y x wr)) (fun v9 _ => (intOf v9).toNat)
      case atStart => exact .inl ⟨rfl, HT.out⟩
      case round =>
        rcases hrel with ⟨rfl, ht⟩ | ⟨rfl, ht⟩
        · have HT2 := Lib.hid ht
          clear ht HT
          go_upto_region 4 with fail
          refine wp_region_any (by kernel_rfl) ?_
          refine wpAny_below (fun i uq _ => uq = ([.int .i64 1, .int .i64 0, .bool true, .bool true, .func (.func 64) #[] #[], .slice (some ⟨g, 0, none⟩) 2 cap, .int .i64 1, .pointer (some ⟨g, 27, none⟩), evV y, .slice (some ⟨g, 0, none⟩) 2 cap, .int .i64 1, .int .i64 0, .pointer (some ⟨g, 0, none⟩), evV x, .int .i64 (cfP y x), .bool true, .bool true] : List Value).getD i undef) _ wr (by kernel_rfl) (by kernel_rfl) (by kernel_rfl) (fun i v w w' _ h => h) ?_ ?_
          · refine ⟨?_, ?_, ?_, ?_, ?_, ?_, ?_, ?_, ?_, ?_, ?_, ?_, ?_, ?_, ?_, ?_, ?_, trivial⟩
            · intro a W hI hun haft hi
              have e9 : a.eval (.tmp 9) = .int .i64 1 := hun 9 (by kernel_rfl)
              exact b_same hi hI rfl _ (run_move_op rfl e9) rfl
            · intro a W hI hun haft hi
              have e1 : a.eval (.tmp 1) = .int .i64 0 := hun 1 (by kernel_rfl)
              exact b_same hi hI rfl _ (run_move_op rfl e1) rfl
            · intro a W hI hun haft hi
              have f0 : a.eval (.tmp 18) = .int .i64 1 := haft ⟨0, .data⟩ (by simp) rfl _ _ rfl rfl
              have f1 : a.eval (.tmp 19) = .int .i64 0 := haft ⟨1, .data⟩ (by simp) rfl _ _ rfl rfl
              exact b_same hi hI rfl (.bool true) (run_bin_op rfl f0 f1 (guardI _ _ _ _ _ _ _) (gt10 _)) rfl
            · intro a W hI hun haft hi
              have f2 : a.eval (.tmp 20) = .bool true := haft ⟨2, .data⟩ (by simp) rfl _ _ rfl rfl
              exact b_same hi hI rfl _ (run_move_op rfl f2) rfl
            · intro a W hI hun haft hi
              have fg : a.eval (.tmp 21) = .bool true := haft ⟨3, .guard⟩ (by simp) rfl _ _ rfl rfl
              have e3 : a.eval (.tmp 3) = .func (.func 64) #[] #[] := hun 3 (by kernel_rfl)
              exact b_same hi hI (guard_ok rfl rfl rfl fg) _ (run_move_op rfl e3) rfl
            · intro a W hI hun haft hi
              have fg : a.eval (.tmp 21) = .bool true := haft ⟨3, .guard⟩ (by simp) rfl _ _ rfl rfl
              have e0 : a.eval (.tmp 0) = .slice (some ⟨g, 0, none⟩) 2 cap := hun 0 (by kernel_rfl)
              exact b_same hi hI (guard_ok rfl rfl rfl fg) _ (run_move_op rfl e0) rfl
            · intro a W hI hun haft hi
              have fg : a.eval (.tmp 21) = .bool true := haft ⟨3, .guard⟩ (by simp) rfl _ _ rfl rfl
              have e9 : a.eval (.tmp 9) = .int .i64 1 := hun 9 (by kernel_rfl)
              exact b_same hi hI (guard_ok rfl rfl rfl fg) _ (run_move_op rfl e9) rfl
            · intro a W hI hun haft hi
              have fg : a.eval (.tmp 21) = .bool true := haft ⟨3, .guard⟩ (by simp) rfl _ _ rfl rfl
              have f5 : a.eval (.tmp 23) = .slice (some ⟨g, 0, none⟩) 2 cap := haft ⟨5, .data⟩ (by simp) rfl _ _ rfl rfl
              have f6 : a.eval (.tmp 24) = .int .i64 1 := haft ⟨6, .data⟩ (by simp) rfl _ _ rfl rfl
              exact b_same hi hI (guard_ok rfl rfl rfl fg) _ (run_indexAddr_op rfl f5 f6 (at_E1 g cap _)) rfl
            · intro a W hI hun haft hi
              have fg : a.eval (.tmp 21) = .bool true := haft ⟨3, .guard⟩ (by simp) rfl _ _ rfl rfl
              have f7 : a.eval (.tmp 25) = .pointer (some ⟨g, 27, none⟩) := haft ⟨7, .data⟩ (by simp) rfl _ _ rfl rfl
              exact b_same hi hI (guard_ok rfl rfl rfl fg) _ (run_loadmid_op rfl f7 (HT2.out.below hI).r1 Try.underlying39 rfl (sizeE y)) rfl
            · intro a W hI hun haft hi
              have fg : a.eval (.tmp 21) = .bool true := haft ⟨3, .guard⟩ (by simp) rfl _ _ rfl rfl
              have e0 : a.eval (.tmp 0) = .slice (some ⟨g, 0, none⟩) 2 cap := hun 0 (by kernel_rfl)
              exact b_same hi hI (guard_ok rfl rfl rfl fg) _ (run_move_op rfl e0) rfl
            · intro a W hI hun haft hi
              have fg : a.eval (.tmp 21) = .bool true := haft ⟨3, .guard⟩ (by simp) rfl _ _ rfl rfl
              have e9 : a.eval (.tmp 9) = .int .i64 1 := hun 9 (by kernel_rfl)
              exact b_same hi hI (guard_ok rfl rfl rfl fg) _ (run_move_op rfl e9) rfl
            · intro a W hI hun haft hi
              have fg : a.eval (.tmp 21) = .bool true := haft ⟨3, .guard⟩ (by simp) rfl _ _ rfl rfl
              have f10 : a.eval (.tmp 28) = .int .i64 1 := haft ⟨10, .data⟩ (by simp) rfl _ _ rfl rfl
              exact b_same hi hI (guard_ok rfl rfl rfl fg) (.int .i64 0) (run_bin_op rfl f10 rfl (guardI _ _ _ _ _ _ _) (sub10 _)) rfl
            · intro a W hI hun haft hi
              have fg : a.eval (.tmp 21) = .bool true := haft ⟨3, .guard⟩ (by simp) rfl _ _ rfl rfl
              have f9 : a.eval (.tmp 27) = .slice (some ⟨g, 0, none⟩) 2 cap := haft ⟨9, .data⟩ (by simp) rfl _ _ rfl rfl
              have f11 : a.eval (.tmp 29) = .int .i64 0 := haft ⟨11, .data⟩ (by simp) rfl _ _ rfl rfl
              exact b_same hi hI (guard_ok rfl rfl rfl fg) _ (run_indexAddr_op rfl f9 f11 (at_E0 g cap _)) rfl
            · intro a W hI hun haft hi
              have fg : a.eval (.tmp 21) = .bool true := haft ⟨3, .guard⟩ (by simp) rfl _ _ rfl rfl
              have f12 : a.eval (.tmp 30) = .pointer (some ⟨g, 0, none⟩) := haft ⟨12, .data⟩ (by simp) rfl _ _ rfl rfl
              exact b_same hi hI (guard_ok rfl rfl rfl fg) _ (run_loadmid_op rfl f12 (HT2.out.below hI).r0 Try.underlying39 rfl (sizeE x)) rfl
            · intro a W hI hun haft hi
              have fg : a.eval (.tmp 21) = .bool true := haft ⟨3, .guard⟩ (by simp) rfl _ _ rfl rfl
              have f4 : a.eval (.tmp 22) = .func (.func 64) #[] #[] := haft ⟨4, .data⟩ (by simp) rfl _ _ rfl rfl
              have f8 : a.eval (.tmp 26) = evV y := haft ⟨8, .data⟩ (by simp) rfl _ _ rfl rfl
              have f13 : a.eval (.tmp 31) = evV x := haft ⟨13, .data⟩ (by simp) rfl _ _ rfl rfl
              refine b_call hi hI (guard_ok rfl rfl rfl fg) _ _ (run_dyncall_op (args := #[evV y, evV x]) rfl f4 (by simp [f8, f13]) (by kernel_rfl)) ?_
              exact (byPast_any y x W).mono fun e w' H => ⟨_, H.1, rfl, H.2⟩
            · intro a W hI hun haft hi
              have fg : a.eval (.tmp 21) = .bool true := haft ⟨3, .guard⟩ (by simp) rfl _ _ rfl rfl
              have f14 : a.eval (.tmp 32) = .int .i64 (cfP y x) := haft ⟨14, .data⟩ (by simp) rfl _ _ rfl rfl
              exact b_same hi hI (guard_ok rfl rfl rfl fg) (.bool true) (run_bin_op rfl f14 rfl (guardI _ _ _ _ _ _ _) (ltc _ HC.out _)) rfl
            · intro a W hI hun haft hi
              have f3 : a.eval (.tmp 21) = .bool true := haft ⟨3, .data⟩ (by simp) rfl _ _ rfl rfl
              have f15 : a.eval (.tmp 33) = .bool true := haft ⟨15, .data⟩ (by simp) rfl _ _ rfl rfl
              exact b_same hi hI rfl _ (run_pick_op (b := true) rfl f3 f15 rfl) rfl
          · intro vals W hI hp
            have hl0 : vals 0 = .int .i64 1 := hp 0 (by decide)
            have hl1 : vals 1 = .int .i64 0 := hp 1 (by decide)
            have hl2 : vals 2 = .bool true := hp 2 (by decide)
            have hl3 : vals 3 = .bool true := hp 3 (by decide)
            have hl4 : vals 4 = .func (.func 64) #[] #[] := hp 4 (by decide)
            have hl5 : vals 5 = .slice (some ⟨g, 0, none⟩) 2 cap := hp 5 (by decide)
            have hl6 : vals 6 = .int .i64 1 := hp 6 (by decide)
            have hl7 : vals 7 = .pointer (some ⟨g, 27, none⟩) := hp 7 (by decide)
            have hl8 : vals 8 = evV y := hp 8 (by decide)
            have hl9 : vals 9 = .slice (some ⟨g, 0, none⟩) 2 cap := hp 9 (by decide)
            have hl10 : vals 10 = .int .i64 1 := hp 10 (by decide)
            have hl11 : vals 11 = .int .i64 0 := hp 11 (by decide)
            have hl12 : vals 12 = .pointer (some ⟨g, 0, none⟩) := hp 12 (by decide)
            have hl13 : vals 13 = evV x := hp 13 (by decide)
            have hl14 : vals 14 = .int .i64 (cfP y x) := hp 14 (by decide)
            have hl15 : vals 15 = .bool true := hp 15 (by decide)
            have hl16 : vals 16 = .bool true := hp 16 (by decide)
            have HI := Lib.hid hI
            clear hp hI
            simp only [layN, List.size_toArray, List.length_cons, List.length_nil, List.range, List.range.loop, if_true, List.getElem?_toArray, List.getElem?_cons_zero, List.getElem?_cons_succ, Act.put, List.setIfInBounds_toArray, List.set_cons_zero, List.set_cons_succ, Nat.zero_add, Nat.reduceAdd, hl0, hl1, hl2, hl3, hl4, hl5, hl6, hl7, hl8, hl9, hl10, hl11, hl12, hl13, hl14, hl15, hl16]
            clear hl0 hl1 hl2 hl3 hl4 hl5 hl6 hl7 hl8 hl9 hl10 hl11 hl12 hl13 hl14 hl15 hl16
            have HT3 := Lib.hid (HT2.out.below HI.out)
            clear HI HT2
            go_upto_region 6 with fail
            refine wp_region_any (by kernel_rfl) ?_
            refine wpAny_swap (fun i uq => uq = ([.slice (some ⟨g, 0, none⟩) 2 cap, .int .i64 1, .slice (some ⟨g, 0, none⟩) 2 cap, .int .i64 1, .int .i64 0, .slice (some ⟨g, 0, none⟩) 2 cap, .int .i64 1, .int .i64 0, .pointer (some ⟨g, 0, none⟩), evV x, .slice (some ⟨g, 0, none⟩) 2 cap, .int .i64 1, .pointer (some ⟨g, 27, none⟩), evV y, .pointer (some ⟨g, 27, none⟩), undef, .pointer (some ⟨g, 0, none⟩), undef] : List Value).getD i undef) _ W 15 17 _ _ (TwoAt w B g cap x y) (TwoAt w B g cap x x) (TwoAt w B g cap y x) (by kernel_rfl) (by decide) rfl rfl rfl rfl (by kernel_rfl) (by kernel_rfl) (by kernel_rfl) (by kernel_rfl) (HT3.out.below (Below.refl _ _).drew) ?_ ?_ ?_ ?_
            · refine ⟨?_, ?_, ?_, ?_, ?_, ?_, ?_, ?_, ?_, ?_, ?_, ?_, ?_, ?_, ?_, ?_, ?_, ?_, trivial⟩
              · intro _ _ a W hun haft hO hi
                have e0 : a.eval (.tmp 0) = .slice (some ⟨g, 0, none⟩) 2 cap := hun 0 (by kernel_rfl)
                exact wpOp_val hi rfl (.slice (some ⟨g, 0, none⟩) 2 cap) _ (run_move_op rfl e0) ⟨_, rfl, rfl, rfl⟩
              · intro _ _ a W hun haft hO hi
                have e9 : a.eval (.tmp 9) = .int .i64 1 := hun 9 (by kernel_rfl)
                exact wpOp_val hi rfl (.int .i64 1) _ (run_move_op rfl e9) ⟨_, rfl, rfl, rfl⟩
              · intro _ _ a W hun haft hO hi
                have e0 : a.eval (.tmp 0) = .slice (some ⟨g, 0, none⟩) 2 cap := hun 0 (by kernel_rfl)
                exact wpOp_val hi rfl (.slice (some ⟨g, 0, none⟩) 2 cap) _ (run_move_op rfl e0) ⟨_, rfl, rfl, rfl⟩
              · intro _ _ a W hun haft hO hi
                have e9 : a.eval (.tmp 9) = .int .i64 1 := hun 9 (by kernel_rfl)
                exact wpOp_val hi rfl (.int .i64 1) _ (run_move_op rfl e9) ⟨_, rfl, rfl, rfl⟩
              · intro _ _ a W hun haft hO hi
                have f3 : a.eval (.tmp 40) = .int .i64 1 := haft ⟨3, .data⟩ (by simp) rfl _ _ rfl rfl
                exact wpOp_val hi rfl (.int .i64 0) _ (run_bin_op rfl f3 rfl (guardI _ _ _ _ _ _ _) (sub10 _)) ⟨_, rfl, rfl, rfl⟩
              · intro _ _ a W hun haft hO hi
                have e0 : a.eval (.tmp 0) = .slice (some ⟨g, 0, none⟩) 2 cap := hun 0 (by kernel_rfl)
                exact wpOp_val hi rfl (.slice (some ⟨g, 0, none⟩) 2 cap) _ (run_move_op rfl e0) ⟨_, rfl, rfl, rfl⟩
              · intro _ _ a W hun haft hO hi
                have e9 : a.eval (.tmp 9) = .int .i64 1 := hun 9 (by kernel_rfl)
                exact wpOp_val hi rfl (.int .i64 1) _ (run_move_op rfl e9) ⟨_, rfl, rfl, rfl⟩
              · intro _ _ a W hun haft hO hi
                have f6 : a.eval (.tmp 43) = .int .i64 1 := haft ⟨6, .data⟩ (by simp) rfl _ _ rfl rfl
                exact wpOp_val hi rfl (.int .i64 0) _ (run_bin_op rfl f6 rfl (guardI _ _ _ _ _ _ _) (sub10 _)) ⟨_, rfl, rfl, rfl⟩
              · intro _ _ a W hun haft hO hi
                have f5 : a.eval (.tmp 42) = .slice (some ⟨g, 0, none⟩) 2 cap := haft ⟨5, .data⟩ (by simp) rfl _ _ rfl rfl
                have f7 : a.eval (.tmp 44) = .int .i64 0 := haft ⟨7, .data⟩ (by simp) rfl _ _ rfl rfl
                exact wpOp_val hi rfl (.pointer (some ⟨g, 0, none⟩)) _ (run_indexAddr_op rfl f5 f7 (at_E0 g cap _)) ⟨_, rfl, rfl, rfl⟩
              · intro _ _ a W hun haft hO hi
                have f8 : a.eval (.tmp 45) = .pointer (some ⟨g, 0, none⟩) := haft ⟨8, .data⟩ (by simp) rfl _ _ rfl rfl
                exact wpOp_val hi rfl (evV x) _ (run_loadmid_op rfl f8 (hO (by kernel_rfl)).r0 Try.underlying39 rfl (sizeE x)) ⟨_, rfl, rfl, rfl⟩
              · intro _ _ a W hun haft hO hi
                have e0 : a.eval (.tmp 0) = .slice (some ⟨g, 0, none⟩) 2 cap := hun 0 (by kernel_rfl)
                exact wpOp_val hi rfl (.slice (some ⟨g, 0, none⟩) 2 cap) _ (run_move_op rfl e0) ⟨_, rfl, rfl, rfl⟩
              · intro _ _ a W hun haft hO hi
                have e9 : a.eval (.tmp 9) = .int .i64 1 := hun 9 (by kernel_rfl)
                exact wpOp_val hi rfl (.int .i64 1) _ (run_move_op rfl e9) ⟨_, rfl, rfl, rfl⟩
              · intro _ _ a W hun haft hO hi
                have f10 : a.eval (.tmp 47) = .slice (some ⟨g, 0, none⟩) 2 cap := haft ⟨10, .data⟩ (by simp) rfl _ _ rfl rfl
                have f11 : a.eval (.tmp 48) = .int .i64 1 := haft ⟨11, .data⟩ (by simp) rfl _ _ rfl rfl
                exact wpOp_val hi rfl (.pointer (some ⟨g, 27, none⟩)) _ (run_indexAddr_op rfl f10 f11 (at_E1 g cap _)) ⟨_, rfl, rfl, rfl⟩
              · intro _ _ a W hun haft hO hi
                have f12 : a.eval (.tmp 49) = .pointer (some ⟨g, 27, none⟩) := haft ⟨12, .data⟩ (by simp) rfl _ _ rfl rfl
                exact wpOp_val hi rfl (evV y) _ (run_loadmid_op rfl f12 (hO (by kernel_rfl)).r1 Try.underlying39 rfl (sizeE y)) ⟨_, rfl, rfl, rfl⟩
              · intro _ _ a W hun haft hO hi
                have f0 : a.eval (.tmp 37) = .slice (some ⟨g, 0, none⟩) 2 cap := haft ⟨0, .data⟩ (by simp) rfl _ _ rfl rfl
                have f1 : a.eval (.tmp 38) = .int .i64 1 := haft ⟨1, .data⟩ (by simp) rfl _ _ rfl rfl
                exact wpOp_val hi rfl (.pointer (some ⟨g, 27, none⟩)) _ (run_indexAddr_op rfl f0 f1 (at_E1 g cap _)) ⟨_, rfl, rfl, rfl⟩
              · intro h1 h2; exact absurd rfl h1
              · intro _ _ a W hun haft hO hi
                have f2 : a.eval (.tmp 39) = .slice (some ⟨g, 0, none⟩) 2 cap := haft ⟨2, .data⟩ (by simp) rfl _ _ rfl rfl
                have f4 : a.eval (.tmp 41) = .int .i64 0 := haft ⟨4, .data⟩ (by simp) rfl _ _ rfl rfl
                exact wpOp_val hi rfl (.pointer (some ⟨g, 0, none⟩)) _ (run_indexAddr_op rfl f2 f4 (at_E0 g cap _)) ⟨_, rfl, rfl, rfl⟩
              · intro h1 h2; exact absurd rfl h2
            · intro a W hO haft
              have f14 : a.eval (.tmp 51) = .pointer (some ⟨g, 27, none⟩) := haft ⟨14, .data⟩ (by simp) rfl _ _ rfl rfl
              have f9 : a.eval (.tmp 46) = evV x := haft ⟨9, .data⟩ (by simp) rfl _ _ rfl rfl
              obtain ⟨q1, q2⟩ := hO.set1 x
              exact l_skip rfl rfl _ (run_storemid_op rfl f14 f9 q1 (sizeE x) (evC_one x)) ⟨rfl, q2⟩
            · intro a W hO haft
              have f16 : a.eval (.tmp 52) = .pointer (some ⟨g, 0, none⟩) := haft ⟨16, .data⟩ (by simp) rfl _ _ rfl rfl
              have f13 : a.eval (.tmp 50) = evV y := haft ⟨13, .data⟩ (by simp) rfl _ _ rfl rfl
              obtain ⟨q1, q2⟩ := hO.set0 y
              exact l_skip rfl rfl _ (run_storemid_op rfl f16 f13 q1 (sizeE y) (evC_one y)) ⟨rfl, q2⟩
            · intro vals W hF hp
              have hl0 : vals 0 = .slice (some ⟨g, 0, none⟩) 2 cap := hp 0 (by decide) (by decide) (by decide)
              have hl1 : vals 1 = .int .i64 1 := hp 1 (by decide) (by decide) (by decide)
              have hl2 : vals 2 = .slice (some ⟨g, 0, none⟩) 2 cap := hp 2 (by decide) (by decide) (by decide)
              have hl3 : vals 3 = .int .i64 1 := hp 3 (by decide) (by decide) (by decide)
              have hl4 : vals 4 = .int .i64 0 := hp 4 (by decide) (by decide) (by decide)
              have hl5 : vals 5 = .slice (some ⟨g, 0, none⟩) 2 cap := hp 5 (by decide) (by decide) (by decide)
              have hl6 : vals 6 = .int .i64 1 := hp 6 (by decide) (by decide) (by decide)
              have hl7 : vals 7 = .int .i64 0 := hp 7 (by decide) (by decide) (by decide)
              have hl8 : vals 8 = .pointer (some ⟨g, 0, none⟩) := hp 8 (by decide) (by decide) (by decide)
              have hl9 : vals 9 = evV x := hp 9 (by decide) (by decide) (by decide)
              have hl10 : vals 10 = .slice (some ⟨g, 0, none⟩) 2 cap := hp 10 (by decide) (by decide) (by decide)
              have hl11 : vals 11 = .int .i64 1 := hp 11 (by decide) (by decide) (by decide)
              have hl12 : vals 12 = .pointer (some ⟨g, 27, none⟩) := hp 12 (by decide) (by decide) (by decide)
              have hl13 : vals 13 = evV y := hp 13 (by decide) (by decide) (by decide)
              have hl14 : vals 14 = .pointer (some ⟨g, 27, none⟩) := hp 14 (by decide) (by decide) (by decide)
              have hl16 : vals 16 = .pointer (some ⟨g, 0, none⟩) := hp 16 (by decide) (by decide) (by decide)
              have HF := Lib.hid hF
              clear hp hF
              simp only [layN, List.size_toArray, List.length_cons, List.length_nil, List.range, List.range.loop, if_true, List.getElem?_toArray, List.getElem?_cons_zero, List.getElem?_cons_succ, Act.put, List.setIfInBounds_toArray, List.set_cons_zero, List.set_cons_succ, Nat.zero_add, Nat.reduceAdd, hl0, hl1, hl2, hl3, hl4, hl5, hl6, hl7, hl8, hl9, hl10, hl11, hl12, hl13, hl14, hl16]
              clear hl0 hl1 hl2 hl3 hl4 hl5 hl6 hl7 hl8 hl9 hl10 hl11 hl12 hl13 hl14 hl16
              go_wp2
              go_roundw
              case rel => exact .inr ⟨by go_num, HF.out⟩
              case measure => simp [intOf] <;> omega
        · have HT2 := Lib.hid ht
          clear ht HT
          go_upto_region 4 with fail
          refine wp_region_any (by kernel_rfl) ?_
          refine wpAny_below (fun i uq _ => uq = ([.int .i64 0, .int .i64 0, .bool false, .bool false, undef, undef, undef, undef, undef, undef, undef, undef, undef, undef, undef, undef, .bool false] : List Value).getD i undef) _ wr (by kernel_rfl) (by kernel_rfl) (by kernel_rfl) (fun i v w w' _ h => h) ?_ ?_
          · refine ⟨?_, ?_, ?_, ?_, ?_, ?_, ?_, ?_, ?_, ?_, ?_, ?_, ?_, ?_, ?_, ?_, ?_, trivial⟩
            · intro a W hI hun haft hi
              have e9 : a.eval (.tmp 9) = .int .i64 0 := hun 9 (by kernel_rfl)
              exact b_same hi hI rfl _ (run_move_op rfl e9) rfl
            · intro a W hI hun haft hi
              have e1 : a.eval (.tmp 1) = .int .i64 0 := hun 1 (by kernel_rfl)
              exact b_same hi hI rfl _ (run_move_op rfl e1) rfl
            · intro a W hI hun haft hi
              have f0 : a.eval (.tmp 18) = .int .i64 0 := haft ⟨0, .data⟩ (by simp) rfl _ _ rfl rfl
              have f1 : a.eval (.tmp 19) = .int .i64 0 := haft ⟨1, .data⟩ (by simp) rfl _ _ rfl rfl
              exact b_same hi hI rfl (.bool false) (run_bin_op rfl f0 f1 (guardI _ _ _ _ _ _ _) (gt00 _)) rfl
            · intro a W hI hun haft hi
              have f2 : a.eval (.tmp 20) = .bool false := haft ⟨2, .data⟩ (by simp) rfl _ _ rfl rfl
              exact b_same hi hI rfl _ (run_move_op rfl f2) rfl
            · intro a W hI hun haft hi
              have fg : a.eval (.tmp 21) = .bool false := haft ⟨3, .guard⟩ (by simp) rfl _ _ rfl rfl
              exact b_skip hi hI (guard_no rfl rfl rfl (.inl fg)) rfl
            · intro a W hI hun haft hi
              have fg : a.eval (.tmp 21) = .bool false := haft ⟨3, .guard⟩ (by simp) rfl _ _ rfl rfl
              exact b_skip hi hI (guard_no rfl rfl rfl (.inl fg)) rfl
            · intro a W hI hun haft hi
              have fg : a.eval (.tmp 21) = .bool false := haft ⟨3, .guard⟩ (by simp) rfl _ _ rfl rfl
              exact b_skip hi hI (guard_no rfl rfl rfl (.inl fg)) rfl
            · intro a W hI hun haft hi
              have fg : a.eval (.tmp 21) = .bool false := haft ⟨3, .guard⟩ (by simp) rfl _ _ rfl rfl
              exact b_skip hi hI (guard_no rfl rfl rfl (.inl fg)) rfl
            · intro a W hI hun haft hi
              have fg : a.eval (.tmp 21) = .bool false := haft ⟨3, .guard⟩ (by simp) rfl _ _ rfl rfl
              exact b_skip hi hI (guard_no rfl rfl rfl (.inl fg)) rfl
            · intro a W hI hun haft hi
              have fg : a.eval (.tmp 21) = .bool false := haft ⟨3, .guard⟩ (by simp) rfl _ _ rfl rfl
              exact b_skip hi hI (guard_no rfl rfl rfl (.inl fg)) rfl
            · intro a W hI hun haft hi
              have fg : a.eval (.tmp 21) = .bool false := haft ⟨3, .guard⟩ (by simp) rfl _ _ rfl rfl
              exact b_skip hi hI (guard_no rfl rfl rfl (.inl fg)) rfl
            · intro a W hI hun haft hi
              have fg : a.eval (.tmp 21) = .bool false := haft ⟨3, .guard⟩ (by simp) rfl _ _ rfl rfl
              exact b_skip hi hI (guard_no rfl rfl rfl (.inl fg)) rfl
            · intro a W hI hun haft hi
              have fg : a.eval (.tmp 21) = .bool false := haft ⟨3, .guard⟩ (by simp) rfl _ _ rfl rfl
              exact b_skip hi hI (guard_no rfl rfl rfl (.inl fg)) rfl
            · intro a W hI hun haft hi
              have fg : a.eval (.tmp 21) = .bool false := haft ⟨3, .guard⟩ (by simp) rfl _ _ rfl rfl
              exact b_skip hi hI (guard_no rfl rfl rfl (.inl fg)) rfl
            · intro a W hI hun haft hi
              have fg : a.eval (.tmp 21) = .bool false := haft ⟨3, .guard⟩ (by simp) rfl _ _ rfl rfl
              exact b_skip hi hI (guard_no rfl rfl rfl (.inl fg)) rfl
            · intro a W hI hun haft hi
              have fg : a.eval (.tmp 21) = .bool false := haft ⟨3, .guard⟩ (by simp) rfl _ _ rfl rfl
              exact b_skip hi hI (guard_no rfl rfl rfl (.inl fg)) rfl
            · intro a W hI hun haft hi
              have f3 : a.eval (.tmp 21) = .bool false := haft ⟨3, .data⟩ (by simp) rfl _ _ rfl rfl
              have f15 : a.eval (.tmp 33) = undef := haft ⟨15, .data⟩ (by simp) rfl _ _ rfl rfl
              exact b_same hi hI rfl _ (run_pick_op (b := false) rfl f3 f15 rfl) rfl
          · intro vals W hI hp
            have hl0 : vals 0 = .int .i64 0 := hp 0 (by decide)
            have hl1 : vals 1 = .int .i64 0 := hp 1 (by decide)
            have hl2 : vals 2 = .bool false := hp 2 (by decide)
            have hl3 : vals 3 = .bool false := hp 3 (by decide)
            have hl4 : vals 4 = undef := hp 4 (by decide)
            have hl5 : vals 5 = undef := hp 5 (by decide)
            have hl6 : vals 6 = undef := hp 6 (by decide)
            have hl7 : vals 7 = undef := hp 7 (by decide)
            have hl8 : vals 8 = undef := hp 8 (by decide)
            have hl9 : vals 9 = undef := hp 9 (by decide)
            have hl10 : vals 10 = undef := hp 10 (by decide)
            have hl11 : vals 11 = undef := hp 11 (by decide)
            have hl12 : vals 12 = undef := hp 12 (by decide)
            have hl13 : vals 13 = undef := hp 13 (by decide)
            have hl14 : vals 14 = undef := hp 14 (by decide)
            have hl15 : vals 15 = undef := hp 15 (by decide)
            have hl16 : vals 16 = .bool false := hp 16 (by decide)
            have HI := Lib.hid hI
            clear hp hI
            simp only [layN, List.size_toArray, List.length_cons, List.length_nil, List.range, List.range.loop, if_true, List.getElem?_toArray, List.getElem?_cons_zero, List.getElem?_cons_succ, Act.put, List.setIfInBounds_toArray, List.set_cons_zero, List.set_cons_succ, Nat.zero_add, Nat.reduceAdd, hl0, hl1, hl2, hl3, hl4, hl5, hl6, hl7, hl8, hl9, hl10, hl11, hl12, hl13, hl14, hl15, hl16]
            clear hl0 hl1 hl2 hl3 hl4 hl5 hl6 hl7 hl8 hl9 hl10 hl11 hl12 hl13 hl14 hl15 hl16
            have HT3 := Lib.hid (HT2.out.below HI.out)
            clear HI HT2
            go_wp2
            go_roundw
            case rel => exact .inr ⟨by go_num, HT3.out⟩
            case measure => simp [intOf] <;> omega
    · have HT := Lib.hid ht
      clear ht
      go_wp2
      go_end0
      exact ⟨rfl, HT.out⟩

set_option maxRecDepth 100000 in
set_option maxHeartbeats 2000000 in
theorem stable2_any (x y : Ev) (B g cap : Nat) (w : World) (h : OwnK encE B 39 27 w (.slice (some ⟨g, 0, none⟩) 2 cap) [x, y]) (hc : cfP y x < 0) :
    Calls Try.prog 84 #[.slice (some ⟨g, 0, none⟩) 2 cap, .int .i64 2, .func (.func 64) #[] #[]] w fun e w' => e = .returned (.tuple #[]) ∧ TwoAt w B g cap y x w' := by
  have HI := Lib.hid (ins2_any x y B g cap w h hc)
  clear h hc
  go_enter Try.func84, Try.ntmps84
  go_wp2_with fail
  go_loopw [7, 8] (fun v7 v8 wr => v7 = .int .i64 0 ∧ v8 = .int .i64 20 ∧ w = wr) (fun _ _ _ => 0)
  case atStart => exact ⟨rfl, rfl, rfl⟩
  case round =>
    obtain ⟨rfl, rfl, hw⟩ := hrel
    subst hw
    go_wp2_with fail
    refine HI.out.mono ?_
    rintro e w1 ⟨rfl, ht⟩
    have HT := Lib.hid ht
    clear ht
    go_wp2_with fail
    go_loopw [6] (fun v6 wr => v6 = .int .i64 20 ∧ TwoAt w B g cap y x wr) (fun _ _ => 0)
    case atStart => exact ⟨rfl, HT.out⟩
    case round =>
      obtain ⟨rfl, ht⟩ := hrel
      have HT2 := Lib.hid ht
      clear ht
      go_wp2
      go_end0
      exact ⟨rfl, HT2.out⟩

set_option maxRecDepth 100000 in
set_option maxHeartbeats 1000000 in
theorem sortS2_any (x y : Ev) (B g cap : Nat) (w : World) (h : OwnK encE B 39 27 w (.slice (some ⟨g, 0, none⟩) 2 cap) [x, y]) (hc : cfP y x < 0) :
    Calls Try.prog 63 #[.slice (some ⟨g, 0, none⟩) 2 cap, .func (.func 64) #[] #[]] w fun e w' => e = .returned (.tuple #[]) ∧ TwoAt w B g cap y x w' := by
  have HI := Lib.hid (stable2_any x y B g cap w h hc)
  clear h hc
  go_enter Try.func63, Try.ntmps63
  go_wp2_with fail
  refine HI.out.mono ?_
  rintro e w1 ⟨rfl, ht⟩
  have HT := Lib.hid ht
  clear ht
  go_wp2
  go_end0
  exact ⟨rfl, HT.out⟩

set_option maxRecDepth 100000 in
set_option maxHeartbeats 1000000 in
theorem clone_any (l : List Ev) (b o n c : Nat) (w : World) (hs : SlK encE 27 w (.slice (some ⟨b, o, none⟩) n c) l) (hn : n ≤ 1000000) :
    Calls Try.prog 62 #[.slice (some ⟨b, o, none⟩) n c] w fun e w' => ∃ v, e = .returned v ∧ OwnK encE w.heap.size 39 27 w' v l ∧ Below w.heap.size w w' := by
  have hba : Below w.heap.size w (w.alloc (.cells #[] 39)) := (Below.refl _ _).alloc (Nat.le_refl _) _
  obtain ⟨v', w2, hr, ho, hb⟩ := append_new w.heap.size (w.alloc (.cells #[] 39)) _ l (hs.below hba) (by have := hs.len_; omega) w.heap.size (own_empty w) hba.size
  have HA := Lib.hid hr
  have HO := Lib.hid ho
  have HB := Lib.hid (hba.trans (hb.mono hba.size))
  have hnil := fun n c => Lib.run_eql_slice_nil (P := Try.prog) w 22 39 (some ⟨b, o, none⟩) n c 0 0 Try.underlying22
  clear hs hn hba hr ho hb
  go_enter Try.func62, Try.ntmps62
  go_wp2_with (first
    | (refine wpList_val (o := ⟨some 4, _, _, _, _, _⟩) rfl (.bool false) w (run_bin_op rfl rfl rfl (by kernel_rfl) (hnil n c)) ?_)
    | (refine wpList_val (o := ⟨some 5, _, _, _, _, _⟩) rfl (.slice (some ⟨w.heap.size, 0, none⟩) 0 0) (w.alloc (.cells #[] 39)) (run_buildSlice_op (vs := #[]) rfl (by simp only [List.map_toArray, List.map_nil]) (bsNil w)) ?_)
    | (at_builtin; refine Lib.wpList_append_run (o := ⟨some 7, _, _, _, _, _⟩) _ rfl _ _ _ _ rfl _ _ rfl rfl _ _ HA.out ?_)
    | fail)
  go_ret
  exact ⟨_, rfl, HO.out, HB.out⟩

set_option maxRecDepth 100000 in
set_option maxHeartbeats 1000000 in
theorem sort2_any (x y : Ev) (b o c : Nat) (w : World) (hs : SlK encE 27 w (.slice (some ⟨b, o, none⟩) 2 c) [x, y]) (hc : cfP y x < 0) :
    Calls Try.prog 34 #[.slice (some ⟨b, o, none⟩) 2 c] w fun e w' => ∃ g cap, e = .returned (.slice (some ⟨g, 0, none⟩) 2 cap) ∧ OwnK encE w.heap.size 39 27 w' (.slice (some ⟨g, 0, none⟩) 2 cap) [y, x] ∧ Below w.heap.size w w' := by
  have HCl := Lib.hid (clone_any [x, y] b o 2 c w hs (by decide))
  have HC := Lib.hid hc
  clear hs hc
  go_enter Try.func34, Try.ntmps34
  go_wp2_with fail
  refine HCl.out.mono ?_
  rintro e w1 ⟨v, rfl, ho, hb⟩
  obtain ⟨g, cap, cur, rfl, hg, _⟩ := ho.block (by simp)
  simp only [List.length_cons, List.length_nil] at ho ⊢
  have HB := Lib.hid hb
  have HG := Lib.hid hg
  have HS := Lib.hid (sortS2_any x y w.heap.size g cap w1 ho HC.out)
  clear ho hb hg
  go_wp2_with fail
  refine HS.out.mono ?_
  rintro e w2 ⟨rfl, ht⟩
  have HT := Lib.hid ht.1
  have HB2 := Lib.hid (HB.out.trans (ht.2.below HB.out.size fun i hi => by rw [hi]; exact HG.out))
  clear ht
  go_wp2
  go_ret
  exact ⟨g, cap, rfl, HT.out, HB2.out⟩

end Go.Proofs.Ytmhechlfpaciiaa
