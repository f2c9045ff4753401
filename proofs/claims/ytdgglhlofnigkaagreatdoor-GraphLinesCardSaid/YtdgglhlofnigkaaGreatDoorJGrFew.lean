/-
  hedgerowlaw08.few. What is seen of a row of events. What a view of a row tells of edges. What a view of a row tells, and what the reference tells of the row, are the same. Strings out of bytes. Conditions: lengths.
-/import Derived.Test.YtdgglhlofnigkaaGreatDoorGrLines
import Derived.Test.YtdgglhlofnigkaaGreatDoorGrAsk
import Derived.Test.YtdgglhlofnigkaaGreatDoorGrLine
import Derived.Test.YtdgglhlofnigkaaGreatDoorGrRefV
import Derived.Test.YtdgglhlofnigkaaGreatDoorJWords
import Derived.Lib.Strings
namespace Go.Proofs.YtdgglhlofnigkaaGreatDoor
open Lib (hid)
open Go.RowKit Go.MapKept Go.Sort
def few8B (l : List Ev) : Bool := l.all shortB && decide (l.length ≤ 50)
theorem few8B_no {l : List Ev} {j : Nat} {e : Ev} (hj : l[j]? = some e) (h : shortB e = false) : few8B l = false := by
 unfold few8B
 rw [Bool.and_eq_false_iff]
 exact .inl (List.all_eq_false.2 ⟨e, List.mem_of_getElem? hj, by simp [h]⟩)
theorem few8B_yes {l : List Ev} (h : ∀ (k : Nat) (e : Ev), l[k]? = some e → shortB e = true) : few8B l = decide (l.length ≤ 50) := by
 unfold few8B
 rw [List.all_eq_true.2 (fun e he => by
  obtain ⟨k, hk⟩ := List.getElem?_of_mem he
  exact h k e hk), Bool.true_and]
set_option maxRecDepth 100000 in
set_option maxHeartbeats 2000000 in
theorem few8_any (l : List Ev) (A : Option Addr) (N c : Nat) (w : World) (hs : SlK encE 27 w (.slice A N c) l) (hN : l.length = N) (hN2 : N ≤ 4611686018427387903) (hf : ∀ e ∈ l, Fit e) :
  Calls Tryz.prog 8 #[.slice A N c] w (Gives w (.bool (few8B l))) := by
 obtain ⟨b, hb⟩ : ∃ b, few8B l = b := ⟨_, rfl⟩
 rw [hb]
 have HB := hid hb
 have HS := hid hs
 have HN := hid hN
 have HN2 := hid hN2
 have HF := hid hf
 have HZe := hid (zero_of_info zeroE).1
 clear hb hs hN hN2 hf
 go_enter Tryz.func8, Tryz.ntmps8
 go_wp2_with fail
 go_loopw [7] (fun v7 wr => ∃ j : Nat, v7 = .int .i64 j ∧ j ≤ N ∧ (∀ k e, k < j → l[k]? = some e → shortB e = true) ∧ Below w.heap.size w wr) (fun v7 _ => N - (intOf v7).toNat)
 case atStart => exact ⟨0, rfl, Nat.zero_le _, fun k e hk => absurd hk (Nat.not_lt_zero _), Below.refl _ _⟩
 case round =>
  obtain ⟨j, rfl, hj, hok, hbw⟩ := hrel
  have HOk := hid hok
  have HBw := hid hbw
  clear hok hbw
  by_cases hlt : j < N
  ·obtain ⟨e, he⟩ : ∃ e, l[j]? = some e := ⟨l[j]'(by rw [HN.out]; exact hlt), List.getElem?_eq_getElem _⟩
   obtain ⟨g, o, rfl, hgl, hce⟩ := (HS.out.below HBw.out).ev he
   have HCe := hid hce
   have HFe := hid (HF.out e (List.mem_of_getElem? he))
   have HAt := hid (at_Ev g o c N j hlt wr)
   have He := hid he
   have hAl := fun c => World.setRow_alloc_new wr (evC ev0) c 60
   have hZ : Blk (wr.alloc (.cells (evC ev0) 60)) wr.heap.size 60 (evC ev0) := Blk.new _ _ _
   obtain ⟨X, hX⟩ : ∃ X, X = wr.alloc (.cells (evC e) 60) := ⟨_, rfl⟩
   have hbX : Below wr.heap.size wr X := by rw [hX]; exact (Below.refl _ _).alloc (Nat.le_refl _) _
   have hBX : Blk X wr.heap.size 60 (evC e) := by rw [hX]; exact Blk.new _ _ _
   have HXe := hid hX
   have HBX := hid hBX
   have HbX := hid (HBw.out.trans (hbX.mono HBw.out.size))
   have HAl := hid hAl
   have HZz := hid hZ
   clear hX hbX hBX hce hgl he hAl hZ
   cases hsh : shortB e
   ·have HSh := hid (short_is7 e HFe.out false hsh)
    have hbf : b = false := by rw [← HB.out]; exact few8B_no He.out hsh
    subst hbf
    clear hsh
    have hz := HZe.out
    go_wp2_with (first
     | (refine wpList_val (o := ⟨some 9, _, _, _, _, _⟩) rfl (.pointer (some ⟨g, o + j * 27, none⟩)) wr (run_indexAddr_op rfl rfl rfl HAt.out) ?_)
     | (refine wpList_load_midif rfl 60 (.tmp 9) rfl g (o + j * 27) rfl (encE e) _ HCe.out Tryz.underlying60 rfl (sizeE e) ?_)
     | (refine wpList_store_row rfl 60 (.tmp 4) (.tmp 10) rfl wr.heap.size (evC e) rfl rfl _ _ HZz.out (sizeE e) rfl (by kernel_rfl) ?_; rw [HAl.out, ← HXe.out])
     | (refine wpList_load_if rfl 60 (.tmp 4) rfl wr.heap.size rfl _ _ _ _ HBX.out Tryz.underlying60 rfl (sizeE e) ?_)
     | fail)
    clear hz
    refine (HSh.out X).mono ?_
    rintro e1 w2 ⟨rfl, hb2⟩
    have HE := hid (HbX.out.trans (hb2.mono HbX.out.size))
    clear hb2
    go_wp2
    go_ret
    exact ⟨rfl, HE.out⟩
   ·have HSh := hid (short_is7 e HFe.out true hsh)
    have HSt := hid hsh
    clear hsh
    have hz := HZe.out
    go_wp2_with (first
     | (refine wpList_val (o := ⟨some 9, _, _, _, _, _⟩) rfl (.pointer (some ⟨g, o + j * 27, none⟩)) wr (run_indexAddr_op rfl rfl rfl HAt.out) ?_)
     | (refine wpList_load_midif rfl 60 (.tmp 9) rfl g (o + j * 27) rfl (encE e) _ HCe.out Tryz.underlying60 rfl (sizeE e) ?_)
     | (refine wpList_store_row rfl 60 (.tmp 4) (.tmp 10) rfl wr.heap.size (evC e) rfl rfl _ _ HZz.out (sizeE e) rfl (by kernel_rfl) ?_; rw [HAl.out, ← HXe.out])
     | (refine wpList_load_if rfl 60 (.tmp 4) rfl wr.heap.size rfl _ _ _ _ HBX.out Tryz.underlying60 rfl (sizeE e) ?_)
     | fail)
    clear hz
    refine (HSh.out X).mono ?_
    rintro e1 w2 ⟨rfl, hb2⟩
    have HE := hid (HbX.out.trans (hb2.mono HbX.out.size))
    clear hb2
    have hw := IntWalk.i64_in ((j : Int) + 1) (by have := HN2.out; omega)
    have hjm : ¬ 9223372036854775807 < j + 1 := by have := HN2.out; omega
    go_wp2
    go_roundw
    case rel => exact ⟨j + 1, by go_num, by omega, fun k f hk hf => by
     rcases Nat.lt_succ_iff_lt_or_eq.1 hk with h | h
     ·exact HOk.out k f h hf
     ·rw [h, He.out] at hf
      rw [← Option.some.inj hf]; exact HSt.out, HE.out⟩
    case measure => simp [intOf] <;> omega
  ·have hjN : j = N := by omega
   subst hjN
   have hbe : decide ((j : Int) ≤ 50) = b := by
    rw [← HB.out, few8B_yes (fun k e hk => HOk.out k e (by rw [← HN.out]; exact (List.getElem?_eq_some_iff.1 hk).1) hk), HN.out]
    exact decide_eq_decide.2 (by omega)
   have HBe := hid hbe
   clear hbe
   go_wp2
   go_ret
   exact ⟨by first | (rw [HBe.out]; rfl) | (rw [← HBe.out]; rfl) | (rw [← HBe.out]; simp) | (simp [HBe.out]), HBw.out⟩
def elsG (row : List Ev) : List El := (elsL row).filter (hasG row)
def viewL (row : List Ev) : Vw := finV (foldV (valsS (runS row)) (elsG row))
theorem elB_ok {x : El} (h : elB x = true) : ElOk x := by
 obtain ⟨k, a, b, c, d⟩ := x
 unfold elB elemB at h
 dsimp only at h
 simp only [Bool.and_eq_true, decide_eq_true_eq] at h
 obtain ⟨⟨h1, h2⟩, ⟨⟨_, hb⟩, hc⟩, hd⟩ := h
 have hz : ∀ s : ByteArray, heldB s.data.toList false = true → s = ⟨#[]⟩ := fun s hs => by
  unfold heldB at hs
  rw [if_neg Bool.false_ne_true] at hs
  exact ba_ext (by simpa using hs)
 refine ⟨h1, h2, fun hk => ?_, fun hk => ?_⟩
 ·dsimp only at hk
  subst hk
  rw [hz b hb, hz c hc, hz d hd]; rfl
 ·dsimp only at hk
  subst hk
  rw [hz d hd]; rfl
theorem kinds_of {σ : List (El × List (Dt × Va))} (h : OkS σ) : ∀ x ∈ keysL σ, elB x = true := fun x hx => by
 obtain ⟨q, hq, rfl⟩ := List.mem_map.1 hx
 exact (h.2 q hq).1
theorem els_keys {row : List Ev} (hc : CausL row) (hl : ∀ e ∈ row, Lens e) : (elsG row).Perm (keysL (runS row)) := by
 have hr : Rise (elsG row) := (els_rise row).filter _
 refine (List.perm_ext_iff_of_nodup (rise_nodup hr) (runS_ok row hl).1.1).2 fun x => ?_
 unfold elsG
 rw [List.mem_filter, (runS_ok row hl).1.key_iff, els_mem]
 have hlen := live_len hc hl x
 unfold hasG
 simp only [decide_eq_true_eq]
 constructor
 ·rintro ⟨_, h⟩ e
  rw [e] at hlen
  simp at hlen
  omega
 ·intro h
  have hpos : 0 < (liveL row x).length := by rw [← hlen]; exact List.length_pos_iff.2 h
  obtain ⟨e, he⟩ := List.exists_mem_of_length_pos hpos
  have := List.mem_filter.1 he
  refine ⟨⟨e, this.1, ?_⟩, hpos⟩
  have h2 := this.2
  unfold liveB at h2
  simp only [Bool.and_eq_true, decide_eq_true_eq] at h2
  exact h2.1.1
theorem els_ok {row : List Ev} (hc : CausL row) (hl : ∀ e ∈ row, Lens e) : ∀ x ∈ elsG row, ElOk x := fun x hx => elB_ok (kinds_of (runS_ok row hl).1 x ((els_keys hc hl).mem_iff.1 hx))
theorem els_krise (row : List Ev) : KRise (elsG row) := by
 have hr : Rise (elsG row) := (els_rise row).filter _
 refine hr.imp fun {a b} hab => ⟨?_, fun e => by rw [e, cfE_self] at hab; omega⟩
 unfold cfE at hab
 rw [orI] at hab
 rcases ci_cases a.k b.k with ⟨h, e⟩ | ⟨h, e⟩ | ⟨h, e⟩ <;> first
  | omega
  | (rw [if_neg (by omega)] at hab; omega)
theorem fold_is {row : List Ev} (hc : CausL row) (hl : ∀ e ∈ row, Lens e) : foldV (valsS (runS row)) (elsG row) = prefV (valsS (runS row)) (elsG row) (elsG row) := by
 have hk : ∀ j, j ≤ (elsG row).length → foldV (valsS (runS row)) ((elsG row).take j) = prefV (valsS (runS row)) (elsG row) ((elsG row).take j) := by
  intro j
  induction j with
  | zero => intro _; rw [List.take_zero, pref_start]; rfl
  | succ j ih =>
   intro h
   have hj : (elsG row)[j]? = some ((elsG row)[j]'h) := List.getElem?_eq_getElem h
   rw [foldV_next hj, ih (by omega), see_take hj (els_krise row) (els_ok hc hl)]
 have := hk (elsG row).length (Nat.le_refl _)
 rwa [List.take_length] at this
theorem has_mem (row : List Ev) : ∀ x, hasG row x = true → x ∈ elsL row := fun x hx => by
 have hpos : 0 < (liveL row x).length := of_decide_eq_true hx
 obtain ⟨e, he⟩ := List.exists_mem_of_length_pos hpos
 have := List.mem_filter.1 he
 rw [els_mem]
 refine ⟨e, this.1, ?_⟩
 have h2 := this.2
 unfold liveB at h2
 simp only [Bool.and_eq_true, decide_eq_true_eq] at h2
 exact h2.1.1
theorem OwnT.rebase {α : Type} {own : Nat → Option Tg} {t : Tg} {enc : α → List Value} {R R' k : Nat} {e : TypeId} {w : World} {v : Value} {l : List α} (h : OwnT own t enc R e k w v l) (hR : R' ≤ R) : OwnT own t enc R' e k w v l := ⟨h.1.base_ hR, h.2⟩
theorem RowsIs.rebase {α β : Type} [DecidableEq α] {eK : α → Value} {enc : β → List Value} {e : TypeId} {k : Nat} {tm : Tg} {tg : α → Tg} {own : Nat → Option Tg} {R R' b : Nat} {w : World} {f : α → Option (List β)} (h : RowsIs eK enc e k tm tg own R w b f) (hR : R' ≤ R) : RowsIs eK enc e k tm tg own R' w b f := by
 obtain ⟨hb, I, hI, hf⟩ := h
 refine ⟨hb, I, hI, fun x => ?_⟩
 have := hf x
 cases hg : getL x I with
 | none => rw [hg] at this; exact this
 | some v =>
  rw [hg] at this
  obtain ⟨l, h1, h2⟩ := this
  exact ⟨l, h1, h2.rebase hR⟩
theorem VIs.rebase {own : Nat → Option Tg} {R R' vb b1 b2 b3 b4 b5 : Nat} {w : World} {V : Vw} {nv lv : Value} (h : VIs own R w vb V nv lv b1 b2 b3 b4 b5) (hR : R' ≤ R) : VIs own R' w vb V nv lv b1 b2 b3 b4 b5 := by
 obtain ⟨f1, a1, r1⟩ := h.lab
 obtain ⟨f2, a2, r2⟩ := h.out
 obtain ⟨f3, a3, r3⟩ := h.inn
 obtain ⟨f5, a5, r5⟩ := h.val
 exact ⟨h.self, h.blk, h.nodes.rebase hR, h.links.rebase hR, ⟨f1, a1, r1.rebase hR⟩, ⟨f2, a2, r2.rebase hR⟩, ⟨f3, a3, r3.rebase hR⟩, h.part.rebase hR, ⟨f5, a5, r5.rebase hR⟩, fun g e => ⟨Nat.le_trans hR (h.lt g e).1, (h.lt g e).2⟩⟩
theorem elsG_len (row : List Ev) : (elsG row).length ≤ row.length := Nat.le_trans (List.length_filter_le _ _) (els_len row)
set_option maxRecDepth 100000 in
set_option maxHeartbeats 4000000 in
theorem view_any (row : List Ev) (A : Option Addr) (N c : Nat) (w : World) (hs : SlK encE 27 w (.slice A N c) row) (hN : row.length = N) (hN2 : N ≤ 100) (hc : CausL row) (hl : ∀ e ∈ row, Lens e) (hw : CutOk w) :
  Calls Tryz.prog 10 #[.slice A N c] w fun e w' => ∃ vb, e = .returned (.pointer (some ⟨vb, 0, none⟩)) ∧ (∃ own nv lv b1 b2 b3 b4 b5, VIs own w.heap.size w' vb (viewL row) nv lv b1 b2 b3 b4 b5) ∧ Below w.heap.size w w' := by
 obtain ⟨p, hp⟩ : ∃ p, w.heap.size = p := ⟨_, rfl⟩
 obtain ⟨X, hX⟩ : ∃ X, X = w.alloc (.cells #[.map none] 91) := ⟨_, rfl⟩
 have hbX : Below w.heap.size w X := by rw [hX]; exact (Below.refl _ _).alloc (Nat.le_refl _) _
 have hsX : X.heap.size = p + 1 := by rw [hX, ← hp]; simp
 have HSt0 := hid (show StAt X p X.heap.size [] from by have := new_at w X.heap.size; rw [← hX, hp] at this; exact this)
 have hKb := fun wr (h : Kept p (p + 1) X wr) => show Below w.heap.size w wr from hbX.trans (h.below (by omega) (by omega) hbX.size)
 have HKb := hid hKb
 have HS := hid (fun wr (h : Kept p (p + 1) X wr) => show SlK encE 27 wr (.slice A N c) row from hs.below (hKb wr h))
 rw [hsX] at HSt0
 have HN := hid hN
 have HN2 := hid hN2
 have HC := hid hc
 have HL := hid hl
 have HW := hid hw
 have HX := hid hX
 have HP := hid hp
 have HSx := hid hsX
 have HZe := hid (zero_of_info zeroE).1
 clear hs hN hN2 hc hl hw hbX hX hp hsX hKb
 go_enter Tryz.func10, Tryz.ntmps10
 go_wp2_with fail
 refine (new_any w).mono ?_
 rintro e w1 ⟨rfl, hw1⟩
 rw [← HX.out] at hw1
 have hx1 := hw1.symm
 clear hw1
 subst hx1
 rw [HP.out]
 go_wp2_with fail
 go_loopw [9] (fun v9 wr => ∃ j : Nat, v9 = .int .i64 j ∧ j ≤ N ∧ StAt wr p (p + 1) (runS (row.take j)) ∧ Kept p (p + 1) X wr) (fun v9 _ => N - (intOf v9).toNat)
 case atStart => exact ⟨0, rfl, Nat.zero_le _, HSt0.out, Kept.refl⟩
 case round =>
  obtain ⟨j, rfl, hj, hst, hk⟩ := hrel
  obtain ⟨wp, rfl⟩ : ∃ wp, wp = wr := ⟨_, rfl⟩
  by_cases hlt : j < N
  ·obtain ⟨e, he⟩ : ∃ e, row[j]? = some e := ⟨row[j]'(by rw [HN.out]; exact hlt), List.getElem?_eq_getElem _⟩
   obtain ⟨g, o, rfl, hgl, hce⟩ := (HS.out wp hk).ev he
   have HCe := hid hce
   have hmem := List.mem_of_getElem? he
   have HAt := hid (at_Ev g o c N j hlt wp)
   obtain ⟨Y, hY⟩ : ∃ Y, Y = wp.alloc (.cells (evC e) 60) := ⟨_, rfl⟩
   have hbY : Below wp.heap.size wp Y := by rw [hY]; exact (Below.refl _ _).alloc (Nat.le_refl _) _
   have HBY := hid (show Blk Y wp.heap.size 60 (evC e) by rw [hY]; exact Blk.new _ _ _)
   have HAl := hid (fun c => World.setRow_alloc_new wp (evC ev0) c 60)
   have HZz := hid (show Blk (wp.alloc (.cells (evC ev0) 60)) wp.heap.size 60 (evC ev0) from Blk.new _ _ _)
   have HNx := hid (show runS (row.take (j + 1)) = doS e (runS (row.take j)) by rw [runS_next he, (HC.out.1 e hmem).1]; rfl)
   have hpw : p + 1 ≤ Y.heap.size := by have h1 := hk.size; have h2 := HSx.out; have h3 := hbY.size; omega
   have HDo := hid (do_yes (hst.keep hbY) hpw e (HL.out e hmem) (HW.out.below ((HKb.out wp hk).trans (hbY.mono (HKb.out wp hk).size))) (HC.out.1 e hmem).1 (runS (row.take (j + 1))) HNx.out.symm)
   have HKY := hid (Kept.trans hk (Kept.of_below (sb := p) (B := p + 1) hbY))
   have HXe := hid hY
   have hw := IntWalk.i64_in ((j : Int) + 1) (by have := HN2.out; omega)
   have hjm : ¬ 9223372036854775807 < j + 1 := by have := HN2.out; omega
   have HJ1 := hid hjm
   have HW1 := hid hw
   clear hw hjm hY hbY hce hgl he hmem hst hk hpw
   have hz := HZe.out
   go_wp2_with (first
    | (refine wpList_val (o := ⟨some 11, _, _, _, _, _⟩) rfl (.pointer (some ⟨g, o + j * 27, none⟩)) wp (run_indexAddr_op rfl rfl rfl HAt.out) ?_)
    | (refine wpList_load_midif rfl 60 (.tmp 11) rfl g (o + j * 27) rfl (encE e) _ HCe.out Tryz.underlying60 rfl (sizeE e) ?_)
    | (refine wpList_store_row rfl 60 (.tmp 5) (.tmp 12) rfl wp.heap.size (evC e) rfl rfl _ _ HZz.out (sizeE e) rfl (by kernel_rfl) ?_; rw [HAl.out, ← HXe.out])
    | (refine wpList_load_if rfl 60 (.tmp 5) rfl wp.heap.size rfl _ _ _ _ HBY.out Tryz.underlying60 rfl (sizeE e) ?_)
    | fail)
   clear hz
   refine HDo.out.mono ?_
   rintro e1 w2 ⟨rfl, hs2, hk2⟩
   have HS2 := hid hs2
   have HK2 := hid (Kept.trans HKY.out hk2)
   clear hs2 hk2
   have hw := HW1.out
   have hjm := HJ1.out
   go_wp2
   go_roundw
   case rel => exact ⟨j + 1, by go_num, by omega, HS2.out, HK2.out⟩
   case measure => simp [intOf] <;> omega
  ·have hjN : N = j := by omega
   subst hjN
   have htk : row.take N = row := by rw [← HN.out, List.take_length]
   rw [htk] at hst
   obtain ⟨F, hS, hF⟩ := hst
   have hso := runS_ok row HL.out
   have hlen : (runS row).length ≤ 1000000 := by have h1 := hso.1.len; have h2 := hso.2; have h3 := HN2.out; have h4 := HN.out; omega
   have hent : ∀ x, (entS x (runS row)).length ≤ 1000000 := fun x => by have h1 := tot_ent (x := x) (σ := runS row); have h2 := hso.2; have h3 := HN2.out; have h4 := HN.out; omega
   have HOf := hid (ofP_any p F (runS row) wp hS hlen hent fun x hx => ⟨(elB_ok (kinds_of hso.1 x hx)).lo, (elB_ok (kinds_of hso.1 x hx)).hi⟩)
   have HBw := hid (HKb.out wp hk)
   clear hS hF hso hlen hent htk hk hlt hj
   go_wp2_with fail
   refine HOf.out.mono ?_
   rintro e1 w2 ⟨es, vb, rfl, hes, hsrt, own, nv, lv, b1, b2, b3, b4, b5, hV, hb2⟩
   have hee : es = elsG row := el_unique hes hsrt (els_keys HC.out HL.out) (rise_sorted ((els_rise row).filter _))
   subst hee
   have HV := hid hV
   have HB2 := hid (HBw.out.trans (hb2.mono HBw.out.size))
   have HRb := hid HBw.out.size
   clear hV hb2 hes hsrt
   go_wp2_with fail
   go_ret
   exact ⟨vb, rfl, ⟨own, nv, lv, b1, b2, b3, b4, b5, HV.out.rebase HRb.out⟩, HB2.out⟩
theorem row_ok {row : List Ev} (hc : CausL row) : ∀ x ∈ elsL row, ElOk x := fun x hx => by
 obtain ⟨e, he, rfl⟩ := (els_mem row x).1 hx
 have h := (hc.1 e he).1
 unfold okB changeB at h
 simp only [Bool.and_eq_true] at h
 exact elB_ok h.2.1
theorem viewL_links {row : List Ev} (hc : CausL row) (hl : ∀ e ∈ row, Lens e) : (viewL row).links = sortK (linksR (hasG row) (elsL row)) := by
 unfold viewL finV
 rw [fold_is hc hl]
 show sortK _ = _
 rw [links_eq (vals := valsS (runS row)) (has_mem row) (row_ok hc)]
 rfl
theorem pref_is {row : List Ev} (hc : CausL row) (hl : ∀ e ∈ row, Lens e) : foldV (valsS (runS row)) (elsG row) = prefV (valsS (runS row)) ((elsL row).filter (hasG row)) ((elsL row).filter (hasG row)) := fold_is hc hl
theorem viewL_nodes {row : List Ev} (hc : CausL row) (hl : ∀ e ∈ row, Lens e) : (viewL row).nodes = nodesR (hasG row) (elsL row) := by
 show (foldV _ _).nodes = _
 rw [pref_is hc hl]
 exact (nodes_eq (row_ok hc)).symm
theorem viewL_lab {row : List Ev} (hc : CausL row) (hl : ∀ e ∈ row, Lens e) (key : ByteArray) : (viewL row).lab key = labR (hasG row) (elsL row) key := by
 show (foldV _ _).lab key = _
 rw [pref_is hc hl]
 exact (lab_eq (has_mem row) key).symm
theorem viewL_names {row : List Ev} (hc : CausL row) (hl : ∀ e ∈ row, Lens e) (x : El) : (((viewL row).part x).getD []).map (·.d) = namesR (hasG row) (elsL row) x := by
 show (((foldV _ _).part x).getD []).map _ = _
 rw [pref_is hc hl]
 exact (names_eq (has_mem row) (row_ok hc) x).symm
theorem live_none {row : List Ev} {x : El} (h : hasG row x = false) : liveL row x = [] := by
 unfold hasG at h
 have := of_decide_eq_false h
 exact List.length_eq_zero_iff.1 (by omega)
theorem viewL_val {row : List Ev} (hc : CausL row) (hl : ∀ e ∈ row, Lens e) (x : El) : (viewL row).val x = valsR row x := by
 show (foldV _ _).val x = _
 rw [pref_is hc hl, val_eq (has_mem row) x, vals_is hc hl]
 unfold valsR valsG
 have hs : seenH (hasG row) x = seenG row x := rfl
 unfold hasValR
 rw [hs]
 by_cases h4 : 4 ≤ x.k
 ·rw [decide_eq_true h4, Bool.true_and, Bool.true_and]
  cases hq : seenG row x
  ·simp
  ·cases hh : hasG row x
   ·rw [live_none hh]; simp [riseC]
   ·have h5 : x.k ≤ 5 := by
     unfold seenG at hq
     split at hq
     ·omega
     ·split at hq
      ·omega
      ·cases hq
    simp [h5]
 ·rw [decide_eq_false h4]; simp
def sp1 : ByteArray := ⟨#[32]⟩
def keptR (w : ByteArray) (vs : List Va) : ByteArray := vs.foldl (fun w v => (w ++ sp1) ++ txV v) w
def labsR (w : ByteArray) (ls : List ByteArray) : ByteArray := ls.foldl (fun w s => (w ++ sp1) ++ s) w
def wNode1 : ByteArray := ⟨#[110, 111, 100, 101, 32]⟩
def wProp1 : ByteArray := ⟨#[112, 114, 111, 112, 32]⟩
def wEdge1 : ByteArray := ⟨#[101, 100, 103, 101, 32]⟩
def wTrait1 : ByteArray := ⟨#[116, 114, 97, 105, 116, 32]⟩
def propE (key nm : ByteArray) : El := ⟨4, key, ⟨#[]⟩, ⟨#[]⟩, nm⟩
def traitE (x : Lk) (nm : ByteArray) : El := ⟨5, x.f, x.t, x.y, nm⟩
def wordsR (x : Lk) : ByteArray := (((x.f ++ sp1) ++ x.y) ++ sp1) ++ x.t
def nodeR (row : List Ev) (key : ByteArray) : List ByteArray := labsR (wNode1 ++ key) (labR (hasG row) (elsL row) key) :: (namesR (hasG row) (elsL row) (nodeE key)).map fun nm => keptR (((wProp1 ++ key) ++ sp1) ++ nm) (valsR row (propE key nm))
def linkR8 (row : List Ev) (x : Lk) : List ByteArray := (wEdge1 ++ wordsR x) :: (namesR (hasG row) (elsL row) (linkE x)).map fun nm => keptR (((wTrait1 ++ wordsR x) ++ sp1) ++ nm) (valsR row (traitE x nm))
def linesR (row : List Ev) : List ByteArray := (nodesR (hasG row) (elsL row)).flatMap (nodeR row) ++ (sortK (linksR (hasG row) (elsL row))).flatMap (linkR8 row)
theorem app_list (a b : ByteArray) : (a ++ b).data.toList = a.data.toList ++ b.data.toList := by
 show (ByteArray.append a b).data.toList = _
 simp
theorem join_snoc (a : List UInt8) (ls : List (List UInt8)) (s : List UInt8) : Lib.join (a :: (ls ++ [s])) [32] = Lib.join (a :: ls) [32] ++ [32] ++ s := by
 rw [Lib.join_cons, Lib.join_cons]
 simp [Lib.joinTail, List.append_assoc]
theorem joinG_snoc (a : ByteArray) (ls : List ByteArray) (s : ByteArray) : joinG ((a :: ls) ++ [s]) = (joinG (a :: ls) ++ sp1) ++ s := by
 apply ba_ext
 rw [app_list, app_list]
 unfold joinG
 simp only [List.map_append, List.map_cons, List.map_nil, List.cons_append]
 rw [join_snoc]
 rfl
theorem joinG_one (a : ByteArray) : joinG [a] = a := by
 apply ba_ext
 unfold joinG
 rw [List.map_cons, List.map_nil, Lib.join_one]
theorem fold_join (a : ByteArray) (ls ss : List ByteArray) : ss.foldl (fun w s => (w ++ sp1) ++ s) (joinG (a :: ls)) = joinG ((a :: ls) ++ ss) := by
 induction ss generalizing ls with
 | nil => simp
 | cons s ss ih =>
  rw [List.foldl_cons, ← joinG_snoc a ls s, List.cons_append, ih (ls ++ [s])]
  simp
theorem kept_join (a : ByteArray) (ls : List ByteArray) (vs : List Va) : keptR (joinG (a :: ls)) vs = joinG ((a :: ls) ++ vs.map txV) := by
 rw [← fold_join]
 unfold keptR
 rw [List.foldl_map]
theorem part_mem {row : List Ev} (hc : CausL row) (hl : ∀ e ∈ row, Lens e) {x y : El} (h : y ∈ ((viewL row).part x).getD []) : elB y = true ∧ partOf x y = true := by
 have h' : y ∈ ((foldV (valsS (runS row)) (elsG row)).part x).getD [] := h
 rw [pref_is hc hl] at h'
 unfold prefV at h'
 dsimp only at h'
 split at h'
 ·simp only [Option.getD_some, List.mem_filter] at h'
  refine ⟨?_, h'.2⟩
  obtain ⟨e, he, rfl⟩ := (els_mem row y).1 h'.1.1
  have ho := (hc.1 e he).1
  unfold okB changeB at ho
  simp only [Bool.and_eq_true] at ho
  exact ho.2.1
 ·simp at h'
theorem el_prop {y : El} {key : ByteArray} (h : elB y = true) (hp : partOf (nodeE key) y = true) : y = propE key y.d := by
 obtain ⟨k, a, b, c, d⟩ := y
 unfold partOf nodeE at hp
 dsimp only at hp
 simp only [Bool.or_eq_true, Bool.and_eq_true] at hp
 rcases hp with ⟨_, q4, qa⟩ | ⟨h3, _⟩
 ·have e4 : k = 4 := of_decide_eq_true q4
  have ea : a = key := of_decide_eq_true qa
  clear q4 qa
  subst e4 ea
  unfold elB elemB at h
  dsimp only at h
  simp only [Bool.and_eq_true, decide_eq_true_eq] at h
  obtain ⟨_, ⟨⟨_, hb⟩, hcc⟩, _⟩ := h
  have hz : ∀ s : ByteArray, heldB s.data.toList false = true → s = ⟨#[]⟩ := fun s hs => by
   unfold heldB at hs
   rw [if_neg Bool.false_ne_true] at hs
   exact ba_ext (by simpa using hs)
  rw [hz b hb, hz c hcc]
  rfl
 ·exact absurd (of_decide_eq_true h3) (by decide)
theorem el_trait {y : El} {x : Lk} (hp : partOf (linkE x) y = true) : y = traitE x y.d := by
 obtain ⟨k, a, b, c, d⟩ := y
 unfold partOf linkE at hp
 dsimp only at hp
 simp only [Bool.or_eq_true, Bool.and_eq_true] at hp
 rcases hp with ⟨h1, _⟩ | ⟨_, q5, qa, qb, qc⟩
 ·exact absurd (of_decide_eq_true h1) (by decide)
 ·have e5 : k = 5 := of_decide_eq_true q5
  have ea : a = x.f := of_decide_eq_true qa
  have eb : b = x.t := of_decide_eq_true qb
  have ec : c = x.y := of_decide_eq_true qc
  subst e5 ea eb ec; rfl
theorem words_join (w w1 : ByteArray) (h : w1 = w ++ sp1) (x : Lk) : joinG [w, x.f, x.y, x.t] = w1 ++ wordsR x := by
 have h1 := joinG_snoc w [] x.f
 have h2 := joinG_snoc w [x.f] x.y
 have h3 := joinG_snoc w [x.f, x.y] x.t
 rw [joinG_one] at h1
 simp only [List.cons_append, List.nil_append] at h1 h2 h3
 rw [h3, h2, h1, h]
 unfold wordsR
 apply ba_ext
 simp only [app_list, List.append_assoc]
theorem lines_is {row : List Ev} (hc : CausL row) (hl : ∀ e ∈ row, Lens e) : linesV (viewL row) = linesR row := by
 unfold linesV linesR
 rw [viewL_nodes hc hl, viewL_links hc hl]
 congr 1
 ·congr 1
  funext key
  unfold nodeLines nodeR
  congr 1
  ·rw [viewL_lab hc hl]
   have h1 := joinG_snoc wNode [] key
   rw [joinG_one] at h1
   have h2 := fold_join wNode [key] (labR (hasG row) (elsL row) key)
   simp only [List.cons_append, List.nil_append] at h1 h2 ⊢
   rw [← h2, h1]
   rfl
  ·unfold partLinesV
   rw [← viewL_names hc hl, List.map_map]
   refine List.map_congr_left fun y hy => ?_
   obtain ⟨he, hp⟩ := part_mem hc hl hy
   have hye := el_prop he hp
   show partLine _ _ y = keptR _ (valsR row (propE key y.d))
   rw [← hye]
   unfold partLine
   rw [viewL_val hc hl]
   have h1 := joinG_snoc wProp [] key
   rw [joinG_one] at h1
   have h3 := joinG_snoc (joinG [wProp, key]) [] y.d
   rw [joinG_one] at h3
   simp only [List.cons_append, List.nil_append] at h1 h3
   have h4 := kept_join (joinG [wProp, key]) [y.d] (valsR row y)
   simp only [List.cons_append, List.nil_append] at h4 ⊢
   rw [← h4, h3, h1]
   rfl
 ·congr 1
  funext x
  unfold linkLines linkR8
  congr 1
  ·exact words_join wEdge wEdge1 rfl x
  ·unfold partLinesV
   rw [← viewL_names hc hl, List.map_map]
   refine List.map_congr_left fun y hy => ?_
   obtain ⟨he, hp⟩ := part_mem hc hl hy
   have hye := el_trait hp
   show partLine _ _ y = keptR _ (valsR row (traitE x y.d))
   rw [← hye]
   unfold partLine
   rw [viewL_val hc hl]
   have h1 := words_join wTrait wTrait1 rfl x
   have h3 := joinG_snoc (joinG [wTrait, x.f, x.y, x.t]) [] y.d
   rw [joinG_one] at h3
   simp only [List.cons_append, List.nil_append] at h3
   have h4 := kept_join (joinG [wTrait, x.f, x.y, x.t]) [y.d] (valsR row y)
   simp only [List.cons_append, List.nil_append] at h4 ⊢
   rw [← h4, h3, h1]
open Go.RowKit
theorem run_string_sl {P : Program} (w : World) (src dst e : TypeId) (hs : P.underlying src = some (.slice e)) (he : P.underlying e = some (.int .u8)) (hd : P.underlying dst = some .string)
  (v : Value) (l : List UInt8) (h : Sl bv w v l) : (convert src dst v).run P w = .ok (.string ⟨l.toArray⟩) w := by
 obtain ⟨A, c, rfl, hlc, hx⟩ := h
 by_cases hn : l = []
 ·subst hn
  rcases A with _ | ad
  ·exact run_convert_bytes_nil w src e hs he 0 c dst hd
  ·rw [run_convert_bytes_string w src dst e _ _ c hs he hd, run_bytesToString w ad _ c [] (by simp [loadCells, loadCellsFrom])]
   rfl
 ·obtain ⟨b, o, rfl, hb, hcell⟩ := hx hn
  have := run_convert_bytes_arg (P := P) w src e hs he b o l.length c (l.map fun x => (x.toNat : Int)) (by simp) (fun i hi => by
   rw [hcell i l[i] (List.getElem?_eq_getElem hi)]
   simp [bv, List.getD, hi]) dst hd
  rw [this]
  have e2 : ((l.map fun x => (x.toNat : Int)).map fun n => UInt8.ofNat n.toNat) = l := by
   rw [List.map_map]
   conv => rhs; rw [← List.map_id l]
   exact List.map_congr_left fun x _ => by simp
  unfold strOfNums
  rw [e2]
theorem sl_laid_m (w : World) (l : List UInt8) (cs : Array Value) (t : TypeId) (fr : Nat × Nat) (n : Nat) (hn : n = l.length) (hcs : cs = (bs l).toArray) : Sl bv (w.alloc (.cells cs t fr)) (.slice (some ⟨w.heap.size, 0, none⟩) n n) l := by
 subst hn hcs
 refine ⟨_, _, rfl, Nat.le_refl _, fun _ => ⟨w.heap.size, 0, rfl, by simp, fun j u hu => ?_⟩⟩
 rw [cell_of_row _ w.heap.size (0 + j) _ t fr (heap_alloc_new w _)]
 simp [bs, hu]
theorem sl_laid (w : World) (l : List UInt8) (cs : Array Value) (t : TypeId) (n : Nat) (hn : n = l.length) (hcs : cs = (bs l).toArray) : Sl bv (w.alloc (.cells cs t)) (.slice (some ⟨w.heap.size, 0, none⟩) n n) l := sl_laid_m w l cs t (0, 0) n hn hcs
end Go.Proofs.YtdgglhlofnigkaaGreatDoor
