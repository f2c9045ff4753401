/-
  hedgerowlaw12.few: the contract, by a walk. Conditions: lengths.
-/
import Derived.Test.YtejljikikhecnaaGreatSnShort
namespace Go.Proofs.YtejljikikhecnaaGreat
open Go.RowKit Go.MapKept Go.Sort

/-- Is an item not too great? -/
def itemF (q : El × List (Dt × Va)) : Bool := decide (q.2.length ≤ 20) && decide (q.1.a.size + q.1.b.size + q.1.c.size + q.1.d.size ≤ 300) && q.2.all fun r => decide (r.2.t.size ≤ 300)
/-- Is a snapshot not too great? -/
def fewS (I : List (El × List (Dt × Va))) (E : List Ev) : Bool := decide (I.length ≤ 30) && decide (E.length ≤ 30) && I.all itemF && E.all shortB
theorem fewS_longI {I : List (El × List (Dt × Va))} {E : List Ev} (h : ¬ I.length ≤ 30) : fewS I E = false := by
  unfold fewS; rw [decide_eq_false h]; rfl
theorem fewS_longE {I : List (El × List (Dt × Va))} {E : List Ev} (h : ¬ E.length ≤ 30) : fewS I E = false := by
  unfold fewS; rw [decide_eq_false h, Bool.and_false]; rfl
theorem fewS_it {I : List (El × List (Dt × Va))} {E : List Ev} {j : Nat} {q : El × List (Dt × Va)} (hj : I[j]? = some q) (h : itemF q = false) : fewS I E = false := by
  unfold fewS
  rw [show I.all itemF = false from List.all_eq_false.2 ⟨q, List.mem_of_getElem? hj, by simp [h]⟩, Bool.and_false, Bool.false_and]
theorem fewS_ev {I : List (El × List (Dt × Va))} {E : List Ev} {j : Nat} {e : Ev} (hj : E[j]? = some e) (h : shortB e = false) : fewS I E = false := by
  unfold fewS
  rw [show E.all shortB = false from List.all_eq_false.2 ⟨e, List.mem_of_getElem? hj, by simp [h]⟩, Bool.and_false]
theorem fewS_yes {I : List (El × List (Dt × Va))} {E : List Ev} (h1 : I.length ≤ 30) (h2 : E.length ≤ 30) (h3 : ∀ (k : Nat) q, I[k]? = some q → itemF q = true) (h4 : ∀ (k : Nat) e, E[k]? = some e → shortB e = true) : fewS I E = true := by
  unfold fewS
  rw [decide_eq_true h1, decide_eq_true h2, List.all_eq_true.2 (fun q hq => by
    obtain ⟨k, hk⟩ := List.getElem?_of_mem hq
    exact h3 k q hk), List.all_eq_true.2 (fun e he => by
    obtain ⟨k, hk⟩ := List.getElem?_of_mem he
    exact h4 k e hk)]
  rfl
theorem itemF_long {x : El} {l : List (Dt × Va)} (h : ¬ l.length ≤ 20) : itemF (x, l) = false := by
  unfold itemF; rw [decide_eq_false h]; rfl
theorem itemF_text {x : El} {l : List (Dt × Va)} (h : ¬ x.a.size + x.b.size + x.c.size + x.d.size ≤ 300) : itemF (x, l) = false := by
  unfold itemF; dsimp only; rw [decide_eq_false h, Bool.and_false]; rfl
theorem itemF_en {x : El} {l : List (Dt × Va)} {k : Nat} {r : Dt × Va} (hk : l[k]? = some r) (h : ¬ r.2.t.size ≤ 300) : itemF (x, l) = false := by
  unfold itemF; dsimp only
  rw [show (l.all fun r => decide (r.2.t.size ≤ 300)) = false from List.all_eq_false.2 ⟨r, List.mem_of_getElem? hk, by simpa using h⟩, Bool.and_false]
theorem itemF_yes {x : El} {l : List (Dt × Va)} (h1 : l.length ≤ 20) (h2 : x.a.size + x.b.size + x.c.size + x.d.size ≤ 300) (h3 : ∀ (k : Nat) r, l[k]? = some r → r.2.t.size ≤ 300) : itemF (x, l) = true := by
  unfold itemF; dsimp only
  rw [decide_eq_true h1, decide_eq_true h2, List.all_eq_true.2 (fun r hr => by
    obtain ⟨k, hk⟩ := List.getElem?_of_mem hr
    exact decide_eq_true (h3 k r hk))]
  rfl
theorem short_is12 (e : Ev) (hl : Fit e) (b : Bool) (h : shortB e = b) (w : World) : Calls Tryz.prog 15 #[evV e] w (Gives w (.bool b)) := by
  have := short_any e w hl; rwa [h] at this
/-- Texts and rows that can be. -/
def ItCan (q : El × List (Dt × Va)) : Prop := q.1.a.size ≤ 140737488355328 ∧ q.1.b.size ≤ 140737488355328 ∧ q.1.c.size ≤ 140737488355328 ∧ q.1.d.size ≤ 140737488355328 ∧ q.2.length ≤ 140737488355328 ∧ ∀ r ∈ q.2, r.2.t.size ≤ 140737488355328

set_option maxRecDepth 100000 in
set_option maxHeartbeats 6000000 in
theorem few12_any (f : Nat → Int) (I : List (El × List (Dt × Va))) (E : List Ev) (A A2 : Option Addr) (N c N2 c2 : Nat) (w : World) (hi : ItsIs w (.slice A N c) I) (hN : I.length = N) (hx : ∀ q ∈ I, ItCan q) (he : SlK encE 27 w (.slice A2 N2 c2) E) (hM : E.length = N2) (hF : ∀ e ∈ E, Fit e) :
    Calls Tryz.prog 7 #[sV f (.slice A N c) (.slice A2 N2 c2)] w (Gives w (.bool (fewS I E))) := by
  obtain ⟨bb, hbb⟩ : ∃ bb, fewS I E = bb := ⟨_, rfl⟩
  rw [hbb]
  obtain ⟨p, hp⟩ : ∃ p, w.heap.size = p := ⟨_, rfl⟩
  obtain ⟨X, hX⟩ : ∃ X, X = w.alloc (.cells (sC f (.slice A N c) (.slice A2 N2 c2)) 27) := ⟨_, rfl⟩
  have hbX : Below w.heap.size w X := by rw [hX]; exact (Below.refl _ _).alloc (Nat.le_refl _) _
  have hmb : SB X p f (.slice A N c) (.slice A2 N2 c2) := by rw [hX, ← hp]; exact SB.new_ w f _ _
  have c16 := hmb.its
  have c17 := hmb.evs
  have HM := Lib.hid hmb
  have HI := Lib.hid (hi.below hbX)
  have HS := Lib.hid (he.below hbX)
  have HX := Lib.hid hX
  have HP := Lib.hid hp
  have HB := Lib.hid hbX
  have HBB := Lib.hid hbb
  have HN := Lib.hid hN
  have HM2 := Lib.hid hM
  have HFt := Lib.hid hx
  have HF := Lib.hid hF
  have HZe := Lib.hid (zero_of_info zeroE).1
  have HZi := Lib.hid (zero_of_info zeroI).1
  have HZn := Lib.hid (zero_of_info zeroN).1
  clear hbb hi hN hx he hM hF hX hbX hmb hp
  unfold sV
  go_enter Tryz.func7, Tryz.ntmps7
  go_upto_region 1 with fail
  rw [← HX.out, HP.out]
  by_cases h1 : N ≤ 30
  case neg =>
    have d1 : decide ((30 : Int) < (N : Int)) = true := decide_eq_true (by omega)
    have HR : Hid (bb = false) := Lib.hid (HBB.out.symm.trans (fewS_longI (by rw [HN.out]; exact h1)))
    clear h1
    go_wp2_with fail
    go_ret
    exact ⟨by rw [HR.out]; rfl, HB.out⟩
  have d1 : decide ((30 : Int) < (N : Int)) = false := decide_eq_false (by omega)
  have HN1 := Lib.hid h1
  clear h1
  by_cases h2 : N2 ≤ 30
  case neg =>
    have d2 : decide ((30 : Int) < (N2 : Int)) = true := decide_eq_true (by omega)
    have HR : Hid (bb = false) := Lib.hid (HBB.out.symm.trans (fewS_longE (by rw [HM2.out]; exact h2)))
    clear h2
    go_wp2_with fail
    go_ret
    exact ⟨by rw [HR.out]; rfl, HB.out⟩
  have d2 : decide ((30 : Int) < (N2 : Int)) = false := decide_eq_false (by omega)
  have HN2 := Lib.hid h2
  clear h2
  go_wp2_with fail
  clear d1 d2 c16 c17
  go_loopw [22] (fun v22 wr => ∃ j : Nat, v22 = .int .i64 j ∧ j ≤ N ∧ (∀ k q, k < j → I[k]? = some q → itemF q = true) ∧ Below X.heap.size X wr) (fun v22 _ => N - (intOf v22).toNat)
  case atStart => exact ⟨0, rfl, Nat.zero_le _, fun k q hk => absurd hk (Nat.not_lt_zero _), Below.refl _ _⟩
  case round =>
    obtain ⟨j, rfl, hj, hall, hb⟩ := hrel
    obtain ⟨wi, rfl⟩ : ∃ wi, wi = wr := ⟨_, rfl⟩
    have HAll := Lib.hid hall
    have HBi := Lib.hid hb
    clear hall
    by_cases hlt : j < N
    case neg =>
      have hjN : N = j := by omega
      subst hjN
      have HAI := Lib.hid (show ∀ (k : Nat) q, I[k]? = some q → itemF q = true from fun k q hk => HAll.out k q (by rw [← HN.out]; exact (List.getElem?_eq_some_iff.1 hk).1) hk)
      have c17 := (HM.out.keep HBi.out).evs
      clear hb hj hlt HAll
      go_wp2_with fail
      clear c17
      go_loopw [69] (fun v69 wr => ∃ j : Nat, v69 = .int .i64 j ∧ j ≤ N2 ∧ (∀ k e, k < j → E[k]? = some e → shortB e = true) ∧ Below X.heap.size X wr) (fun v69 _ => N2 - (intOf v69).toNat)
      case atStart => exact ⟨0, rfl, Nat.zero_le _, fun k e hk => absurd hk (Nat.not_lt_zero _), HBi.out⟩
      case round =>
        obtain ⟨j, rfl, hj, hok, hbw⟩ := hrel
        have HOk := Lib.hid hok
        have HBx := Lib.hid hbw
        have HBw := Lib.hid (HB.out.trans (hbw.mono HB.out.size))
        clear hok hbw
        by_cases hlt : j < N2
        · obtain ⟨e, he⟩ : ∃ e, E[j]? = some e := ⟨E[j]'(by rw [HM2.out]; exact hlt), List.getElem?_eq_getElem _⟩
          obtain ⟨g, o, rfl, hgl, hce⟩ := (HS.out.below HBx.out).ev he
          have HCe := Lib.hid hce
          have HFe := Lib.hid (HF.out e (List.mem_of_getElem? he))
          have HAt := Lib.hid (at_Ev g o c2 N2 j hlt wr)
          have He := Lib.hid he
          have hAl := fun c => World.setRow_alloc_new wr (evC ev0) c 49
          have hZ : Blk (wr.alloc (.cells (evC ev0) 49)) wr.heap.size 49 (evC ev0) := Blk.new _ _ _
          obtain ⟨Y, hY⟩ : ∃ Y, Y = wr.alloc (.cells (evC e) 49) := ⟨_, rfl⟩
          have hbY : Below wr.heap.size wr Y := by rw [hY]; exact (Below.refl _ _).alloc (Nat.le_refl _) _
          have hBY : Blk Y wr.heap.size 49 (evC e) := by rw [hY]; exact Blk.new _ _ _
          have HYe := Lib.hid hY
          have HBY := Lib.hid hBY
          have HbY := Lib.hid (HBw.out.trans (hbY.mono HBw.out.size))
          have HbX := Lib.hid (HBx.out.trans (hbY.mono HBx.out.size))
          have HAl := Lib.hid hAl
          have HZz := Lib.hid hZ
          clear hY hbY hBY hce hgl he hAl hZ
          cases hsh : shortB e
          · have HSh := Lib.hid (short_is12 e HFe.out false hsh)
            have HR : Hid (bb = false) := Lib.hid (HBB.out.symm.trans (fewS_ev He.out hsh))
            clear hsh
            have hz := HZe.out
            go_wp2_with (first
              | (refine wpList_val (o := ⟨some 71, _, _, _, _, _⟩) rfl (.pointer (some ⟨g, o + j * 27, none⟩)) wr (run_indexAddr_op rfl rfl rfl HAt.out) ?_)
              | (refine wpList_load_midif rfl 49 (.tmp 71) rfl g (o + j * 27) rfl (encE e) _ HCe.out Tryz.underlying49 rfl (sizeE e) ?_)
              | (refine wpList_store_row rfl 49 (.tmp 8) (.tmp 72) rfl wr.heap.size (evC e) rfl rfl _ _ HZz.out (sizeE e) rfl (by kernel_rfl) ?_; rw [HAl.out, ← HYe.out])
              | (refine wpList_load_if rfl 49 (.tmp 8) rfl wr.heap.size rfl _ _ _ _ HBY.out Tryz.underlying49 rfl (sizeE e) ?_)
              | fail)
            clear hz
            refine (HSh.out Y).mono ?_
            rintro e1 w2 ⟨rfl, hb2⟩
            have HE := Lib.hid (HbY.out.trans (hb2.mono HbY.out.size))
            clear hb2
            go_wp2
            go_ret
            exact ⟨by rw [HR.out]; rfl, HE.out⟩
          · have HSh := Lib.hid (short_is12 e HFe.out true hsh)
            have HSt := Lib.hid hsh
            clear hsh
            have hz := HZe.out
            go_wp2_with (first
              | (refine wpList_val (o := ⟨some 71, _, _, _, _, _⟩) rfl (.pointer (some ⟨g, o + j * 27, none⟩)) wr (run_indexAddr_op rfl rfl rfl HAt.out) ?_)
              | (refine wpList_load_midif rfl 49 (.tmp 71) rfl g (o + j * 27) rfl (encE e) _ HCe.out Tryz.underlying49 rfl (sizeE e) ?_)
              | (refine wpList_store_row rfl 49 (.tmp 8) (.tmp 72) rfl wr.heap.size (evC e) rfl rfl _ _ HZz.out (sizeE e) rfl (by kernel_rfl) ?_; rw [HAl.out, ← HYe.out])
              | (refine wpList_load_if rfl 49 (.tmp 8) rfl wr.heap.size rfl _ _ _ _ HBY.out Tryz.underlying49 rfl (sizeE e) ?_)
              | fail)
            clear hz
            refine (HSh.out Y).mono ?_
            rintro e1 w2 ⟨rfl, hb2⟩
            have HE := Lib.hid (HbX.out.trans (hb2.mono HbX.out.size))
            clear hb2
            have hw := IntWalk.i64_in ((j : Int) + 1) (by have := HN2.out; omega)
            have hjm : ¬ 9223372036854775807 < j + 1 := by have := HN2.out; omega
            go_wp2
            go_roundw
            case rel => exact ⟨j + 1, by go_num, by omega, fun k f hk hf => by
              rcases Nat.lt_succ_iff_lt_or_eq.1 hk with h | h
              · exact HOk.out k f h hf
              · rw [h, He.out] at hf
                rw [← Option.some.inj hf]; exact HSt.out, HE.out⟩
            case measure => simp [intOf] <;> omega
        · have hjN : j = N2 := by omega
          subst hjN
          have HR : Hid (bb = true) := Lib.hid (HBB.out.symm.trans (fewS_yes (by rw [HN.out]; exact HN1.out) (by rw [HM2.out]; exact HN2.out) HAI.out (fun k e hk => HOk.out k e (by rw [← HM2.out]; exact (List.getElem?_eq_some_iff.1 hk).1) hk)))
          go_wp2
          go_ret
          exact ⟨by rw [HR.out]; rfl, HBw.out⟩
    obtain ⟨q, hq⟩ : ∃ q, I[j]? = some q := ⟨I[j]'(by rw [HN.out]; exact hlt), List.getElem?_eq_getElem _⟩
    obtain ⟨A3, c3, g, o, rfl, hgl, hce, hsl⟩ := (HI.out.below hb).at_ hq
    obtain ⟨x, l⟩ := q
    dsimp only at hce hsl
    obtain ⟨n2, hn2⟩ : ∃ n2, l.length = n2 := ⟨_, rfl⟩
    rw [hn2] at hce hsl
    have hft := HFt.out (x, l) (List.mem_of_getElem? hq)
    have HQ := Lib.hid hq
    have HFq := Lib.hid hft
    have HNq := Lib.hid hn2
    have HCe := Lib.hid hce
    have HAt := Lib.hid (at_It g o c N j hlt wi)
    have HLt := Lib.hid hlt
    have HAl := Lib.hid fun c => World.setRow_alloc_new wi (cI zI) c 61
    have HZz := Lib.hid (show Blk (wi.alloc (.cells (cI zI) 61)) wi.heap.size 61 (cI zI) from Blk.new _ _ _)
    obtain ⟨Y, hY⟩ : ∃ Y, Y = wi.alloc (.cells (cI (x, .slice A3 n2 c3)) 61) := ⟨_, rfl⟩
    have hbY : Below wi.heap.size wi Y := by rw [hY]; exact (Below.refl _ _).alloc (Nat.le_refl _) _
    have HBY := Lib.hid (show Blk Y wi.heap.size 61 (cI (x, .slice A3 n2 c3)) by rw [hY]; exact Blk.new _ _ _)
    have HYe := Lib.hid hY
    have HbY := Lib.hid (show Below X.heap.size X Y from hb.trans (hbY.mono hb.size))
    have HSl := Lib.hid (hsl.below hbY)
    have HW1 := Lib.hid (IntWalk.i64_in ((j : Int) + 1) (by have := HN1.out; omega))
    have HJ1 := Lib.hid (show ¬ 9223372036854775807 < j + 1 by have := HN1.out; omega)
    clear hq hn2 hgl hce hY hbY hb hsl hft
    have hz := HZi.out
    go_upto_region 6 with (first
      | (refine wpList_val (o := ⟨some 24, _, _, _, _, _⟩) rfl (.pointer (some ⟨g, o + j * 6, none⟩)) wi (run_indexAddr_op rfl rfl rfl HAt.out) ?_)
      | (refine' wpList_load_midif ?q1 61 (.tmp 24) ?q2 g (o + j * 6) ?q3 (enI (x, .slice A3 n2 c3)) _ ?q4 Tryz.underlying61 ?q5 ?q6 ?_; (case q2 => rfl); (case q1 => rfl); (case q3 => rfl); (case q4 => exact HCe.out); (case q5 => rfl); (case q6 => exact (sizeIi (x, .slice A3 n2 c3))))
      | (refine wpList_store_row (o := ⟨none, _, _, _, _, _⟩) rfl 61 (.tmp 4) (.tmp 25) rfl wi.heap.size (cI (x, .slice A3 n2 c3)) rfl rfl _ _ HZz.out (sizeIi _) rfl (by simp [cI, Value.oneCell']) ?_; rw [HAl.out, ← HYe.out])
      | fail)
    clear hz HZz HAl HYe HAt HCe
    obtain ⟨b4, hb4⟩ : ∃ b4, wi.heap.size = b4 := ⟨_, rfl⟩
    rw [hb4] at HBY ⊢
    clear hb4
    try simp only [Act.put]
    have c5 : Y.cell? ⟨b4, 5, none⟩ = some (.slice A3 n2 c3) := (Blk.cell HBY.out 5).trans rfl
    by_cases h20 : n2 ≤ 20
    case neg =>
      have d1 : decide ((20 : Int) < (n2 : Int)) = true := decide_eq_true (by omega)
      have HR : Hid (bb = false) := Lib.hid (HBB.out.symm.trans (fewS_it HQ.out (itemF_long (by rw [HNq.out]; exact h20))))
      clear h20 hlt hj
      go_wp2_with fail
      go_ret
      exact ⟨by rw [HR.out]; rfl, HB.out.trans (HbY.out.mono HB.out.size)⟩
    have d1 : decide ((20 : Int) < (n2 : Int)) = false := decide_eq_false (by omega)
    have H20 := Lib.hid h20
    clear h20 hlt hj
    have c1 : Y.cell? ⟨b4, 1, none⟩ = some (.string x.a) := (Blk.cell HBY.out 1).trans rfl
    have c2' : Y.cell? ⟨b4, 2, none⟩ = some (.string x.b) := (Blk.cell HBY.out 2).trans rfl
    have c3' : Y.cell? ⟨b4, 3, none⟩ = some (.string x.c) := (Blk.cell HBY.out 3).trans rfl
    have c4 : Y.cell? ⟨b4, 4, none⟩ = some (.string x.d) := (Blk.cell HBY.out 4).trans rfl
    have l1 := HFq.out.1
    have l2 := HFq.out.2.1
    have l3 := HFq.out.2.2.1
    have l4 := HFq.out.2.2.2.1
    dsimp only at l1 l2 l3 l4
    by_cases h3 : x.a.size + x.b.size + x.c.size + x.d.size ≤ 300
    case neg =>
      have d2 : decide ((300 : Int) < (x.a.size : Int) + x.b.size + x.c.size + x.d.size) = true := decide_eq_true (by omega)
      have HR : Hid (bb = false) := Lib.hid (HBB.out.symm.trans (fewS_it HQ.out (itemF_text h3)))
      clear h3
      go_wp2_with fail
      go_ret
      exact ⟨by rw [HR.out]; rfl, HB.out.trans (HbY.out.mono HB.out.size)⟩
    have d2 : decide ((300 : Int) < (x.a.size : Int) + x.b.size + x.c.size + x.d.size) = false := decide_eq_false (by omega)
    have H3 := Lib.hid h3
    clear h3
    go_wp2_with fail
    clear d1 d2 c1 c2' c3' c4 c5 l1 l2 l3 l4
    go_loopw [55] (fun v55 wr => ∃ k : Nat, v55 = .int .i64 k ∧ k ≤ n2 ∧ (∀ i r, i < k → l[i]? = some r → r.2.t.size ≤ 300) ∧ Below Y.heap.size Y wr) (fun v55 _ => n2 - (intOf v55).toNat)
    case atStart => exact ⟨0, rfl, Nat.zero_le _, fun k q hk => absurd hk (Nat.not_lt_zero _), Below.refl _ _⟩
    case round =>
      obtain ⟨k, rfl, hk, hok, hbw⟩ := hrel
      obtain ⟨wo, rfl⟩ : ∃ wo, wo = wr := ⟨_, rfl⟩
      have HOk := Lib.hid hok
      have HBw := Lib.hid hbw
      have HbX := Lib.hid (HbY.out.trans (hbw.mono HbY.out.size))
      clear hok
      by_cases hkn : k < n2
      case neg =>
        have hkN : n2 = k := by omega
        subst hkN
        have HT := Lib.hid (show itemF (x, l) = true from itemF_yes (by rw [HNq.out]; exact H20.out) H3.out (fun i r hr => HOk.out i r (by rw [← HNq.out]; exact (List.getElem?_eq_some_iff.1 hr).1) hr))
        have hw := HW1.out
        have hjm := HJ1.out
        have hlt := HLt.out
        clear hbw hk hkn
        go_wp2
        go_roundw
        case rel => exact ⟨j + 1, by go_num, HLt.out, fun i r hi hr => by
          rcases Nat.lt_succ_iff_lt_or_eq.1 hi with h | h
          · exact HAll.out i r h hr
          · rw [h, HQ.out] at hr
            rw [← Option.some.inj hr]; exact HT.out, HbX.out⟩
        case measure => simp [intOf] <;> omega
      obtain ⟨r, hr⟩ : ∃ r, l[k]? = some r := ⟨l[k]'(by rw [HNq.out]; exact hkn), List.getElem?_eq_getElem _⟩
      obtain ⟨g2, o2, rfl, hgl2, hce2⟩ := (HSl.out.below hbw).at_ hr
      have HCe := Lib.hid hce2
      have HAt := Lib.hid (at_En g2 o2 c3 n2 k hkn wo)
      have HRr := Lib.hid hr
      have HRf := Lib.hid (HFq.out.2.2.2.2.2 r (List.mem_of_getElem? hr))
      have HAl := Lib.hid fun c => World.setRow_alloc_new wo (cN zN) c 63
      have HZz := Lib.hid (show Blk (wo.alloc (.cells (cN zN) 63)) wo.heap.size 63 (cN zN) from Blk.new _ _ _)
      obtain ⟨V, hV⟩ : ∃ V, V = wo.alloc (.cells (cN r) 63) := ⟨_, rfl⟩
      have hbV : Below wo.heap.size wo V := by rw [hV]; exact (Below.refl _ _).alloc (Nat.le_refl _) _
      have HBV := Lib.hid (show Blk V wo.heap.size 63 (cN r) by rw [hV]; exact Blk.new _ _ _)
      have HVe := Lib.hid hV
      have HbV := Lib.hid (show Below X.heap.size X V from HbX.out.trans (hbV.mono HbX.out.size))
      have HbVY := Lib.hid (show Below Y.heap.size Y V from hbw.trans (hbV.mono hbw.size))
      have HKn := Lib.hid hkn
      clear hr hgl2 hce2 hV hbV hbw hkn hk
      have hz := HZn.out
      go_upto_region 11 with (first
        | (refine wpList_val (o := ⟨some 57, _, _, _, _, _⟩) rfl (.pointer (some ⟨g2, o2 + k * 5, none⟩)) wo (run_indexAddr_op rfl rfl rfl HAt.out) ?_)
        | (refine' wpList_load_midif ?q1 63 (.tmp 57) ?q2 g2 (o2 + k * 5) ?q3 (enN r) _ ?q4 Tryz.underlying63 ?q5 ?q6 ?_; (case q2 => rfl); (case q1 => rfl); (case q3 => rfl); (case q4 => exact HCe.out); (case q5 => rfl); (case q6 => exact (sizeNn r)))
        | (refine wpList_store_row (o := ⟨none, _, _, _, _, _⟩) rfl 63 (.tmp 6) (.tmp 58) rfl wo.heap.size (cN r) rfl rfl _ _ HZz.out (sizeNn _) rfl (by simp [cN, Value.oneCell']) ?_; rw [HAl.out, ← HVe.out])
        | fail)
      clear hz HZz HAl HVe HAt HCe
      obtain ⟨b6, hb6⟩ : ∃ b6, wo.heap.size = b6 := ⟨_, rfl⟩
      rw [hb6] at HBV ⊢
      clear hb6
      try simp only [Act.put]
      have c4 : V.cell? ⟨b6, 4, none⟩ = some (.string r.2.t) := (Blk.cell HBV.out 4).trans rfl
      have l1 := HRf.out
      by_cases h3 : r.2.t.size ≤ 300
      case neg =>
        have d2 : decide ((300 : Int) < (r.2.t.size : Int)) = true := decide_eq_true (by omega)
        have HR : Hid (bb = false) := Lib.hid (HBB.out.symm.trans (fewS_it HQ.out (itemF_en HRr.out h3)))
        clear h3
        go_wp2_with fail
        go_ret
        exact ⟨by rw [HR.out]; rfl, HB.out.trans (HbV.out.mono HB.out.size)⟩
      have d2 : decide ((300 : Int) < (r.2.t.size : Int)) = false := decide_eq_false (by omega)
      have H4 := Lib.hid h3
      clear h3
      have hw := IntWalk.i64_in ((k : Int) + 1) (by have := H20.out; have := HKn.out; omega)
      have hjm : ¬ 9223372036854775807 < k + 1 := by have := H20.out; have := HKn.out; omega
      have hkn := HKn.out
      go_wp2
      go_roundw
      case rel => exact ⟨k + 1, by go_num, HKn.out, fun i s hi hs => by
        rcases Nat.lt_succ_iff_lt_or_eq.1 hi with h | h
        · exact HOk.out i s h hs
        · rw [h, HRr.out] at hs
          rw [← Option.some.inj hs]; exact H4.out, HbVY.out⟩
      case measure => simp [intOf] <;> omega

end Go.Proofs.YtejljikikhecnaaGreat
