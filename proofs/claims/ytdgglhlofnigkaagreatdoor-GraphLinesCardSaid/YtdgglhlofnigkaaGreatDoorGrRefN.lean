/- hedgerowref08.Nodes, Labels. -/import Derived.Test.YtdgglhlofnigkaaGreatDoorGrAsk
set_option maxHeartbeats 4000000
set_option maxRecDepth 100000
namespace Go.Proofs.YtdgglhlofnigkaaGreatDoor
open Lib (hid)
open Go.RowKit Go.MapKept Go.Sort
theorem fm_yes {els : List El} {p : El → Bool} {f : El → ByteArray} {j : Nat} {x : El} (h : els[j]? = some x) (hq : p x = true) : ((els.take (j + 1)).filter p).map f = ((els.take j).filter p).map f ++ [f x] := by
 rw [List.take_add_one, h, Option.toList_some, List.filter_append, List.map_append, List.filter_cons_of_pos hq]
 rfl
theorem fm_no {els : List El} {p : El → Bool} {f : El → ByteArray} {j : Nat} {x : El} (h : els[j]? = some x) (hq : p x = false) : ((els.take (j + 1)).filter p).map f = ((els.take j).filter p).map f := by
 rw [List.take_add_one, h, Option.toList_some, List.filter_append, List.map_append, List.filter_cons_of_neg (by rw [hq]; decide)]
 simp
theorem fm_len {p : El → Bool} {f : El → ByteArray} (els : List El) (j : Nat) : (((els.take j).filter p).map f).length ≤ els.length := by
 rw [List.length_map]
 exact Nat.le_trans (List.length_filter_le _ _) (by rw [List.length_take]; omega)
theorem nodes8_any (l : List Ev) (A : Option Addr) (N c : Nat) (w : World) (hs : SlK encE 27 w (.slice A N c) l) (hN : l.length = N) (hN2 : N ≤ 10000) (hok : ∀ e ∈ l, okB e = true) :
  Calls Tryz.prog 15 #[.slice A N c] w fun e w' => ∃ v, e = .returned v ∧ OwnK enS w.heap.size 9 1 w' v (nodesR (hasG l) (elsL l)) ∧ Below w.heap.size w w' := by
 obtain ⟨p, hp⟩ : ∃ p, w.heap.size = p := ⟨_, rfl⟩
 obtain ⟨els, hels⟩ : ∃ els, elsL l = els := ⟨_, rfl⟩
 have hE := els_any l A N c w hs hN hN2
 have hlen := els_len l
 rw [hels] at hE hlen ⊢
 have HEls := hid hE
 have HHas := hid (show ∀ (x : El) (W : World), Below w.heap.size w W → Calls Tryz.prog 49 #[.slice A N c, .agg #[.int .i64 x.k, .string x.a, .string x.b, .string x.c, .string x.d]] W (Gives W (.bool (hasG l x))) from fun x W h => has8_any x l A N c W (hs.below h) hN hN2 hok)
 have HSeen := hid (show ∀ (x : El) (W : World), Below w.heap.size w W → Calls Tryz.prog 45 #[.slice A N c, .agg #[.int .i64 x.k, .string x.a, .string x.b, .string x.c, .string x.d]] W (Gives W (.bool (seenG l x))) from fun x W h => seen8_any x l A N c W (hs.below h) hN hN2 hok)
 have HNode := hid (show ∀ (k : ByteArray) (W : World), Below w.heap.size w W → Calls Tryz.prog 19 #[.slice A N c, .string k] W (Gives W (.bool (hasG l (nodeE k)))) from fun k W h => node8_any k l A N c W (hs.below h) hN hN2 hok)
 have HLen := hid (show els.length ≤ 10000 by omega)
 have HP := hid hp
 clear hE hlen hels hs hN hN2 hok
 go_enter Tryz.func15, Tryz.ntmps15
 go_wp2_with fail
 refine HEls.out.mono ?_
 rintro e w1 ⟨u, rfl, ho, hb1⟩
 obtain ⟨A2, c2, rfl, _, _⟩ := ho.read enL_len
 obtain ⟨n, hn⟩ : ∃ n, els.length = n := ⟨_, rfl⟩
 rw [hn] at ho HLen ⊢
 have HO := hid ho
 have HNn := hid hn
 have HB1 := hid hb1
 have HP1 := hid (show p ≤ w1.heap.size by rw [← hp]; exact hb1.size)
 clear ho hn hb1 hp HEls
 go_wp2_with fail
 go_loopw [3, 9] (fun v3 v9 wr => ∃ j : Nat, v9 = .int .i64 j ∧ j ≤ n ∧ OwnK enS w1.heap.size 9 1 wr v3 (((els.take j).filter (fun e => decide (e.k = 1) && hasG l (nodeE e.a))).map (·.a)) ∧ Below w1.heap.size w1 wr) (fun _ v9 _ => n - (intOf v9).toNat)
 case atStart => exact ⟨0, rfl, Nat.zero_le _, OwnK.nil_ _ _ _ _ _, Below.refl _ _⟩
 case round =>
  obtain ⟨j, rfl, hj, ho, hbw⟩ := hrel
  obtain ⟨wo, rfl⟩ : ∃ wo, wo = wr := ⟨_, rfl⟩
  by_cases hlt : j < n
  ·obtain ⟨x, hx⟩ : ∃ x, els[j]? = some x := ⟨els[j]'(by rw [HNn.out]; exact hlt), List.getElem?_eq_getElem _⟩
   obtain ⟨g, rfl, _, hg, hce⟩ := (HO.out.keep hbw).at_ enL_len hx
   have HYes := hid (fun h : (fun e => decide (e.k = 1) && hasG l (nodeE e.a)) x = true => fm_yes (p := fun e => decide (e.k = 1) && hasG l (nodeE e.a)) (f := (·.a)) hx h)
   have HNo := hid (fun h : (fun e => decide (e.k = 1) && hasG l (nodeE e.a)) x = false => fm_no (p := fun e => decide (e.k = 1) && hasG l (nodeE e.a)) (f := (·.a)) hx h)
   have HFl := hid (fm_len (p := fun e => decide (e.k = 1) && hasG l (nodeE e.a)) (f := (·.a)) els j)
   obtain ⟨xk, xa, xb, xc, xd⟩ := x
   have HCe := hid (show wo.rangeAt g (j * 5) [.int .i64 xk, .string xa, .string xb, .string xc, .string xd] from hce)
   have HAt := hid (at_El0 g c2 n j hlt wo)
   obtain ⟨q, hq⟩ : ∃ q, wo.heap.size = q := ⟨_, rfl⟩
   obtain ⟨Y, hY⟩ : ∃ Y, Y = wo.alloc (.cells #[.int .i64 xk, .string xa, .string xb, .string xc, .string xd] 38) := ⟨_, rfl⟩
   have hbY : Below wo.heap.size wo Y := by rw [hY]; exact (Below.refl _ _).alloc (Nat.le_refl _) _
   have hEY : Blk Y q 38 #[.int .i64 xk, .string xa, .string xb, .string xc, .string xd] := by rw [hY, ← hq]; exact Blk.new _ _ _
   have HEY := hid (show ∀ W, Below Y.heap.size Y W → Blk W q 38 #[.int .i64 xk, .string xa, .string xb, .string xc, .string xd] from fun W h => hEY.below h hEY.lt)
   have HbY := hid (hbw.trans (hbY.mono hbw.size))
   have HOY := hid (ho.keep hbY)
   have HW1 := hid (IntWalk.i64_in ((j : Int) + 1) (by have := HLen.out; omega))
   have HJ1 := hid (show ¬ 9223372036854775807 < j + 1 by have := HLen.out; omega)
   have HYe := hid hY
   have HQ := hid hq
   have hz := (zero_of_info infoElG).1
   clear hx hg hce hq hY hbY hEY hbw ho
   go_upto_region 5 with (first
    | (refine wpList_val (o := ⟨some 11, _, _, _, _, _⟩) rfl (.pointer (some ⟨g, j * 5, none⟩)) wo (run_indexAddr_op rfl rfl rfl HAt.out) ?_)
    | (refine wpList_load_midif rfl 38 (.tmp 11) rfl g (j * 5) rfl [.int .i64 xk, .string xa, .string xb, .string xc, .string xd] _ HCe.out Tryz.underlying38 rfl (by kernel_rfl) ?_)
    | fail)
   clear hz HAt HCe
   rw [HQ.out, ← HYe.out]
   have c0 : Y.cell? ⟨q, 0, none⟩ = some (.int .i64 xk) := (Blk.cell (HEY.out Y (Below.refl _ _)) 0).trans rfl
   have c1 : Y.cell? ⟨q, 1, none⟩ = some (.string xa) := (Blk.cell (HEY.out Y (Below.refl _ _)) 1).trans rfl
   by_cases h2 : xk = 1
   ·subst h2
    go_wp2_with fail
    refine (HNode.out xa Y (HB1.out.trans (HbY.out.mono HB1.out.size))).mono ?_
    rintro e w5 ⟨rfl, hb5⟩
    have HB5 := hid hb5
    clear hb5 c0 c1
    cases hq1 : hasG l (nodeE xa) with
    | false =>
     have HF := hid (HOY.out.keep HB5.out)
     rw [← HNo.out (by show (_ && hasG l (nodeE xa)) = false; rw [hq1]; simp)] at HF
     have HBF := hid (HbY.out.trans (HB5.out.mono HbY.out.size))
     have hw := HW1.out
     have hjm := HJ1.out
     go_wp2_with fail
     go_roundw
     case rel => exact ⟨j + 1, by go_num, by omega, HF.out, HBF.out⟩
     case measure => simp [intOf] <;> omega
    | true =>
     have HSB := hid (HbY.out.trans (HB5.out.mono HbY.out.size))
     have hpW : w1.heap.size ≤ w5.heap.size := HSB.out.size
     obtain ⟨Z, hZ⟩ : ∃ Z, Z = w5.alloc (.cells #[.string xa] 9) := ⟨_, rfl⟩
     have hbZ : Below w5.heap.size w5 Z := by rw [hZ]; exact (Below.refl _ _).alloc (Nat.le_refl _) _
     obtain ⟨v', w', hr, ho', hb'⟩ := own_app (ty := 32) apS ((HOY.out.keep HB5.out).keep hbZ) (Nat.le_trans hpW hbZ.size) (by rw [hZ]; exact sl_S xa w5) (by have h1 := HFl.out; have h2 := HLen.out; have h3 := HNn.out; simp only [List.length_cons, List.length_nil]; omega) (by have h1 := HFl.out; have h2 := HLen.out; have h3 := HNn.out; simp only [List.length_cons, List.length_nil]; omega)
     rw [← HYes.out (by show (decide ((1 : Int) = 1) && hasG l (nodeE xa)) = true; rw [hq1]; simp)] at ho'
     obtain ⟨i, hi⟩ : ∃ i, w5.heap.size = i := ⟨_, rfl⟩
     rw [hi] at hr
     have HR := hid hr
     have HO' := hid ho'
     have HB' := hid (HSB.out.trans ((hbZ.mono HSB.out.size).trans hb'))
     have HZe := hid hZ
     have HI := hid hi
     have cF : w5.cell? ⟨q, 1, none⟩ = some (.string xa) := (Blk.cell (HEY.out w5 HB5.out) 1).trans rfl
     have hw := HW1.out
     have hjm := HJ1.out
     clear hr ho' hb' hZ hi hbZ hpW
     go_wp2_with (first
      | (at_builtin; rw [← HZe.out, HI.out]; refine Lib.wpList_append_run (o := ⟨some 26, _, _, _, _, _⟩) _ rfl _ _ _ _ rfl _ _ rfl rfl _ _ HR.out ?_)
      | fail)
     go_roundw
     case rel => exact ⟨j + 1, by go_num, by omega, HO'.out, HB'.out⟩
     case measure => simp [intOf] <;> omega
   ·have hd : (xk == 1) = false := by rw [beq_eq_false_iff_ne]; exact h2
    have HF := hid (HOY.out)
    rw [← HNo.out (by show (decide (xk = 1) && _) = false; rw [decide_eq_false h2]; rfl)] at HF
    have HBF := hid (HbY.out)
    have hw := HW1.out
    have hjm := HJ1.out
    go_wp2_with fail
    go_roundw
    case rel => exact ⟨j + 1, by go_num, by omega, HF.out, HBF.out⟩
    case measure => simp [intOf] <;> omega
  ·go_wp2_with fail
   go_ret
   have hjN : j = n := by omega
   rw [hjN, List.take_of_length_le (by rw [HNn.out]; exact Nat.le_refl _)] at ho
   exact ⟨_, rfl, by rw [HP.out]; exact ho.base_ HP1.out, HB1.out.trans (hbw.mono HB1.out.size)⟩
theorem labels8_any (key : ByteArray) (l : List Ev) (A : Option Addr) (N c : Nat) (w : World) (hs : SlK encE 27 w (.slice A N c) l) (hN : l.length = N) (hN2 : N ≤ 10000) (hok : ∀ e ∈ l, okB e = true) :
  Calls Tryz.prog 21 #[.slice A N c, .string key] w fun e w' => ∃ v, e = .returned v ∧ OwnK enS w.heap.size 9 1 w' v (labR (hasG l) (elsL l) key) ∧ Below w.heap.size w w' := by
 obtain ⟨p, hp⟩ : ∃ p, w.heap.size = p := ⟨_, rfl⟩
 obtain ⟨els, hels⟩ : ∃ els, elsL l = els := ⟨_, rfl⟩
 have hE := els_any l A N c w hs hN hN2
 have hlen := els_len l
 rw [hels] at hE hlen ⊢
 have HEls := hid hE
 have HHas := hid (show ∀ (x : El) (W : World), Below w.heap.size w W → Calls Tryz.prog 49 #[.slice A N c, .agg #[.int .i64 x.k, .string x.a, .string x.b, .string x.c, .string x.d]] W (Gives W (.bool (hasG l x))) from fun x W h => has8_any x l A N c W (hs.below h) hN hN2 hok)
 have HSeen := hid (show ∀ (x : El) (W : World), Below w.heap.size w W → Calls Tryz.prog 45 #[.slice A N c, .agg #[.int .i64 x.k, .string x.a, .string x.b, .string x.c, .string x.d]] W (Gives W (.bool (seenG l x))) from fun x W h => seen8_any x l A N c W (hs.below h) hN hN2 hok)
 have HNode := hid (show ∀ (k : ByteArray) (W : World), Below w.heap.size w W → Calls Tryz.prog 19 #[.slice A N c, .string k] W (Gives W (.bool (hasG l (nodeE k)))) from fun k W h => node8_any k l A N c W (hs.below h) hN hN2 hok)
 have HLen := hid (show els.length ≤ 10000 by omega)
 have HP := hid hp
 clear hE hlen hels hs hN hN2 hok
 go_enter Tryz.func21, Tryz.ntmps21
 go_wp2_with fail
 refine HEls.out.mono ?_
 rintro e w1 ⟨u, rfl, ho, hb1⟩
 obtain ⟨A2, c2, rfl, _, _⟩ := ho.read enL_len
 obtain ⟨n, hn⟩ : ∃ n, els.length = n := ⟨_, rfl⟩
 rw [hn] at ho HLen ⊢
 have HO := hid ho
 have HNn := hid hn
 have HB1 := hid hb1
 have HP1 := hid (show p ≤ w1.heap.size by rw [← hp]; exact hb1.size)
 clear ho hn hb1 hp HEls
 go_wp2_with fail
 go_loopw [5, 11] (fun v3 v9 wr => ∃ j : Nat, v9 = .int .i64 j ∧ j ≤ n ∧ OwnK enS w1.heap.size 9 1 wr v3 (((els.take j).filter (fun e => decide (e.k = 2) && (decide (e.a = key) && (hasG l e && seenG l e)))).map (·.d)) ∧ Below w1.heap.size w1 wr) (fun _ v9 _ => n - (intOf v9).toNat)
 case atStart => exact ⟨0, rfl, Nat.zero_le _, OwnK.nil_ _ _ _ _ _, Below.refl _ _⟩
 case round =>
  obtain ⟨j, rfl, hj, ho, hbw⟩ := hrel
  obtain ⟨wo, rfl⟩ : ∃ wo, wo = wr := ⟨_, rfl⟩
  by_cases hlt : j < n
  ·obtain ⟨x, hx⟩ : ∃ x, els[j]? = some x := ⟨els[j]'(by rw [HNn.out]; exact hlt), List.getElem?_eq_getElem _⟩
   obtain ⟨g, rfl, _, hg, hce⟩ := (HO.out.keep hbw).at_ enL_len hx
   have HYes := hid (fun h : (fun e => decide (e.k = 2) && (decide (e.a = key) && (hasG l e && seenG l e))) x = true => fm_yes (p := fun e => decide (e.k = 2) && (decide (e.a = key) && (hasG l e && seenG l e))) (f := (·.d)) hx h)
   have HNo := hid (fun h : (fun e => decide (e.k = 2) && (decide (e.a = key) && (hasG l e && seenG l e))) x = false => fm_no (p := fun e => decide (e.k = 2) && (decide (e.a = key) && (hasG l e && seenG l e))) (f := (·.d)) hx h)
   have HFl := hid (fm_len (p := fun e => decide (e.k = 2) && (decide (e.a = key) && (hasG l e && seenG l e))) (f := (·.d)) els j)
   obtain ⟨xk, xa, xb, xc, xd⟩ := x
   have HCe := hid (show wo.rangeAt g (j * 5) [.int .i64 xk, .string xa, .string xb, .string xc, .string xd] from hce)
   have HAt := hid (at_El0 g c2 n j hlt wo)
   obtain ⟨q, hq⟩ : ∃ q, wo.heap.size = q := ⟨_, rfl⟩
   obtain ⟨Y, hY⟩ : ∃ Y, Y = wo.alloc (.cells #[.int .i64 xk, .string xa, .string xb, .string xc, .string xd] 38) := ⟨_, rfl⟩
   have hbY : Below wo.heap.size wo Y := by rw [hY]; exact (Below.refl _ _).alloc (Nat.le_refl _) _
   have hEY : Blk Y q 38 #[.int .i64 xk, .string xa, .string xb, .string xc, .string xd] := by rw [hY, ← hq]; exact Blk.new _ _ _
   have HEY := hid (show ∀ W, Below Y.heap.size Y W → Blk W q 38 #[.int .i64 xk, .string xa, .string xb, .string xc, .string xd] from fun W h => hEY.below h hEY.lt)
   have HbY := hid (hbw.trans (hbY.mono hbw.size))
   have HOY := hid (ho.keep hbY)
   have HW1 := hid (IntWalk.i64_in ((j : Int) + 1) (by have := HLen.out; omega))
   have HJ1 := hid (show ¬ 9223372036854775807 < j + 1 by have := HLen.out; omega)
   have HYe := hid hY
   have HQ := hid hq
   have hz := (zero_of_info infoElG).1
   clear hx hg hce hq hY hbY hEY hbw ho
   go_upto_region 5 with (first
    | (refine wpList_val (o := ⟨some 13, _, _, _, _, _⟩) rfl (.pointer (some ⟨g, j * 5, none⟩)) wo (run_indexAddr_op rfl rfl rfl HAt.out) ?_)
    | (refine wpList_load_midif rfl 38 (.tmp 13) rfl g (j * 5) rfl [.int .i64 xk, .string xa, .string xb, .string xc, .string xd] _ HCe.out Tryz.underlying38 rfl (by kernel_rfl) ?_)
    | fail)
   clear hz HAt HCe
   rw [HQ.out, ← HYe.out]
   have c0 : Y.cell? ⟨q, 0, none⟩ = some (.int .i64 xk) := (Blk.cell (HEY.out Y (Below.refl _ _)) 0).trans rfl
   have c1 : Y.cell? ⟨q, 1, none⟩ = some (.string xa) := (Blk.cell (HEY.out Y (Below.refl _ _)) 1).trans rfl
   by_cases h2 : xk = 2
   ·cases ha : (xa.toList == key.toList)
    ·have HNk := hid (show (xk == 2) = true by simpa using h2)
     have hk2 := HNk.out
     have HF := hid (HOY.out)
     rw [← HNo.out (by show (decide (xk = 2) && (decide (xa = key) && _)) = false; rw [decide_eq_false (show ¬ xa = key from fun e => by rw [e] at ha; simp at ha), Bool.false_and, Bool.and_false])] at HF
     have HBF := hid (HbY.out)
     have hw := HW1.out
     have hjm := HJ1.out
     go_wp2_with fail
     go_roundw
     case rel => exact ⟨j + 1, by go_num, by omega, HF.out, HBF.out⟩
     case measure => simp [intOf] <;> omega
    ·have hak := toList_eq ha
     subst hak
     subst h2
     have d2 : Y.cell? ⟨q, 2, none⟩ = some (.string xb) := (Blk.cell (HEY.out Y (Below.refl _ _)) 2).trans rfl
     have d3 : Y.cell? ⟨q, 3, none⟩ = some (.string xc) := (Blk.cell (HEY.out Y (Below.refl _ _)) 3).trans rfl
     have d4 : Y.cell? ⟨q, 4, none⟩ = some (.string xd) := (Blk.cell (HEY.out Y (Below.refl _ _)) 4).trans rfl
     go_wp2_with (first
      | (refine' wpList_load_if ?q1 38 (.tmp 7) ?q2 q ?q3 _ _ _ _ ?q4 Tryz.underlying38 ?q5 ?q6 ?_; (case q2 => rfl); (case q1 => rfl); (case q3 => rfl); (case q4 => exact HEY.out Y (Below.refl _ _)); (case q5 => rfl); (case q6 => exact sizeL ⟨xk, xa, xb, xc, xd⟩))
      | fail)
     refine (HHas.out ⟨2, xa, xb, xc, xd⟩ Y (HB1.out.trans (HbY.out.mono HB1.out.size))).mono ?_
     rintro e w5 ⟨rfl, hb5⟩
     have HB5 := hid hb5
     clear hb5 c0 c1 d2 d3 d4
     cases hq1 : hasG l ⟨2, xa, xb, xc, xd⟩ with
     | false =>
      have HF := hid (HOY.out.keep HB5.out)
      rw [← HNo.out (by show (_ && (_ && (hasG l ⟨2, xa, xb, xc, xd⟩ && _))) = false; rw [hq1]; simp)] at HF
      have HBF := hid (HbY.out.trans (HB5.out.mono HbY.out.size))
      have hw := HW1.out
      have hjm := HJ1.out
      go_wp2_with fail
      go_roundw
      case rel => exact ⟨j + 1, by go_num, by omega, HF.out, HBF.out⟩
      case measure => simp [intOf] <;> omega
     | true =>
      have d0 : w5.cell? ⟨q, 0, none⟩ = some (.int .i64 2) := (Blk.cell (HEY.out w5 HB5.out) 0).trans rfl
      have d1 : w5.cell? ⟨q, 1, none⟩ = some (.string xa) := (Blk.cell (HEY.out w5 HB5.out) 1).trans rfl
      have d2 : w5.cell? ⟨q, 2, none⟩ = some (.string xb) := (Blk.cell (HEY.out w5 HB5.out) 2).trans rfl
      have d3 : w5.cell? ⟨q, 3, none⟩ = some (.string xc) := (Blk.cell (HEY.out w5 HB5.out) 3).trans rfl
      have d4 : w5.cell? ⟨q, 4, none⟩ = some (.string xd) := (Blk.cell (HEY.out w5 HB5.out) 4).trans rfl
      go_wp2_with (first
       | (refine' wpList_load_if ?q1 38 (.tmp 7) ?q2 q ?q3 _ _ _ _ ?q4 Tryz.underlying38 ?q5 ?q6 ?_; (case q2 => rfl); (case q1 => rfl); (case q3 => rfl); (case q4 => exact HEY.out w5 HB5.out); (case q5 => rfl); (case q6 => exact sizeL ⟨xk, xa, xb, xc, xd⟩))
       | fail)
      refine (HSeen.out ⟨2, xa, xb, xc, xd⟩ w5 (HB1.out.trans ((HbY.out.trans (HB5.out.mono HbY.out.size)).mono HB1.out.size))).mono ?_
      rintro e w6 ⟨rfl, hb6⟩
      have HB6 := hid (HB5.out.trans (hb6.mono HB5.out.size))
      clear hb6 d0 d1 d2 d3 d4
      cases hq2 : seenG l ⟨2, xa, xb, xc, xd⟩ with
      | false =>
       have HF := hid (HOY.out.keep HB6.out)
       rw [← HNo.out (by show (_ && (_ && (_ && seenG l ⟨2, xa, xb, xc, xd⟩))) = false; rw [hq2]; simp)] at HF
       have HBF := hid (HbY.out.trans (HB6.out.mono HbY.out.size))
       have hw := HW1.out
       have hjm := HJ1.out
       go_wp2_with fail
       go_roundw
       case rel => exact ⟨j + 1, by go_num, by omega, HF.out, HBF.out⟩
       case measure => simp [intOf] <;> omega
      | true =>
       have HSB := hid (HbY.out.trans (HB6.out.mono HbY.out.size))
       have hpW : w1.heap.size ≤ w6.heap.size := HSB.out.size
       obtain ⟨Z, hZ⟩ : ∃ Z, Z = w6.alloc (.cells #[.string xd] 9) := ⟨_, rfl⟩
       have hbZ : Below w6.heap.size w6 Z := by rw [hZ]; exact (Below.refl _ _).alloc (Nat.le_refl _) _
       obtain ⟨v', w', hr, ho', hb'⟩ := own_app (ty := 32) apS ((HOY.out.keep HB6.out).keep hbZ) (Nat.le_trans hpW hbZ.size) (by rw [hZ]; exact sl_S xd w6) (by have h1 := HFl.out; have h2 := HLen.out; have h3 := HNn.out; simp only [List.length_cons, List.length_nil]; omega) (by have h1 := HFl.out; have h2 := HLen.out; have h3 := HNn.out; simp only [List.length_cons, List.length_nil]; omega)
       rw [← HYes.out (by first | (show (decide ((2 : Int) = 2) && (decide (xa = xa) && (hasG l ⟨2, xa, xb, xc, xd⟩ && seenG l ⟨2, xa, xb, xc, xd⟩))) = true; rw [hq1, hq2]; simp) | (rw [hq1, hq2]; simp))] at ho'
       obtain ⟨i, hi⟩ : ∃ i, w6.heap.size = i := ⟨_, rfl⟩
       rw [hi] at hr
       have HR := hid hr
       have HO' := hid ho'
       have HB' := hid (HSB.out.trans ((hbZ.mono HSB.out.size).trans hb'))
       have HZe := hid hZ
       have HI := hid hi
       have cF : w6.cell? ⟨q, 4, none⟩ = some (.string xd) := (Blk.cell (HEY.out w6 HB6.out) 4).trans rfl
       have hw := HW1.out
       have hjm := HJ1.out
       clear hr ho' hb' hZ hi hbZ hpW
       go_wp2_with (first
        | (at_builtin; rw [← HZe.out, HI.out]; refine Lib.wpList_append_run (o := ⟨some 38, _, _, _, _, _⟩) _ rfl _ _ _ _ rfl _ _ rfl rfl _ _ HR.out ?_)
        | fail)
       go_roundw
       case rel => exact ⟨j + 1, by go_num, by omega, HO'.out, HB'.out⟩
       case measure => simp [intOf] <;> omega
   ·have hd : (xk == 2) = false := by rw [beq_eq_false_iff_ne]; exact h2
    have HF := hid (HOY.out)
    rw [← HNo.out (by show (decide (xk = 2) && _) = false; rw [decide_eq_false h2]; rfl)] at HF
    have HBF := hid (HbY.out)
    have hw := HW1.out
    have hjm := HJ1.out
    go_wp2_with fail
    go_roundw
    case rel => exact ⟨j + 1, by go_num, by omega, HF.out, HBF.out⟩
    case measure => simp [intOf] <;> omega
  ·go_wp2_with fail
   go_ret
   have hjN : j = n := by omega
   rw [hjN, List.take_of_length_le (by rw [HNn.out]; exact Nat.le_refl _)] at ho
   exact ⟨_, rfl, by rw [HP.out]; exact ho.base_ HP1.out, HB1.out.trans (hbw.mono HB1.out.size)⟩
end Go.Proofs.YtdgglhlofnigkaaGreatDoor
