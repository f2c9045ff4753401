/- hedgerowref08.Names. -/import Derived.Test.YtdgglhlofnigkaaGreatDoorGrRefN
import Derived.Test.YtdgglhlofnigkaaGreatDoorGrRefV
namespace Go.Proofs.YtdgglhlofnigkaaGreatDoor
open Lib (hid)
open Go.RowKit Go.MapKept Go.Sort
theorem ba_emp (s : ByteArray) : s = ⟨#[]⟩ ∨ s ≠ ⟨#[]⟩ := Classical.em _
theorem ba_ne {s : ByteArray} (h : s ≠ ⟨#[]⟩) : s.toList.isEmpty = false := by
 rw [Lib.toList_data]
 cases hl : s.data.toList with
 | nil => exact absurd (ba_ext hl) h
 | cons _ _ => rfl
theorem ba_neq {s : ByteArray} (h : s ≠ ⟨#[]⟩) : (s.toList == []) = false := by
 have := ba_ne h
 cases hl : s.toList with
 | nil => rw [hl] at this; cases this
 | cons _ _ => rfl
theorem ba_unlike {s u : ByteArray} (h : (s.toList == u.toList) = false) : s ≠ u := fun e => by rw [e] at h; simp at h
section
variable {k : Int} {a b c d : ByteArray} {ea eb ec ed : ByteArray} {e : El}
theorem bear_nk (h1 : k ≠ 1) (h3 : k ≠ 3) : bearB ⟨k, a, b, c, d⟩ = false := by simp [bearB, h1, h3]
theorem bear_nd (h : d ≠ ⟨#[]⟩) : bearB ⟨k, a, b, c, d⟩ = false := by simp [bearB, h]
theorem bear_nb (h : b ≠ ⟨#[]⟩) : bearB ⟨1, a, b, c, d⟩ = false := by simp [bearB, h]
theorem bear_nc (h : c ≠ ⟨#[]⟩) : bearB ⟨1, a, b, c, d⟩ = false := by simp [bearB, h]
theorem bear_n : bearB ⟨1, a, ⟨#[]⟩, ⟨#[]⟩, ⟨#[]⟩⟩ = true := by simp [bearB]
theorem bear_l : bearB ⟨3, a, b, c, ⟨#[]⟩⟩ = true := by simp [bearB]
theorem part_n1k {x : Int} (h : x ≠ 4) : partOf ⟨1, a, b, c, d⟩ ⟨x, ea, eb, ec, ed⟩ = false := by simp [partOf, h]
theorem part_n1a {x : Int} (h : ea ≠ a) : partOf ⟨1, a, b, c, d⟩ ⟨x, ea, eb, ec, ed⟩ = false := by simp [partOf, h]
theorem part_n : partOf ⟨1, a, b, c, d⟩ ⟨4, a, eb, ec, ed⟩ = true := by simp [partOf]
theorem part_n3k {x : Int} (h : x ≠ 5) : partOf ⟨3, a, b, c, d⟩ ⟨x, ea, eb, ec, ed⟩ = false := by simp [partOf, h]
theorem part_n3a {x : Int} (h : ea ≠ a) : partOf ⟨3, a, b, c, d⟩ ⟨x, ea, eb, ec, ed⟩ = false := by simp [partOf, h]
theorem part_n3b {x : Int} (h : eb ≠ b) : partOf ⟨3, a, b, c, d⟩ ⟨x, ea, eb, ec, ed⟩ = false := by simp [partOf, h]
theorem part_n3c {x : Int} (h : ec ≠ c) : partOf ⟨3, a, b, c, d⟩ ⟨x, ea, eb, ec, ed⟩ = false := by simp [partOf, h]
theorem part_l : partOf ⟨3, a, b, c, d⟩ ⟨5, a, b, c, ed⟩ = true := by simp [partOf]
end
theorem vals_has (l : List Ev) (x : El) : decide (0 < (valsR l x).length) = hasValR (hasG l) x := by
 unfold valsR hasValR
 rw [show seenH (hasG l) x = seenG l x from rfl]
 cases h4 : decide (4 ≤ x.k)
 ·simp
 ·cases hs : seenG l x
  ·simp
  ·simp only [Bool.and_true, Bool.true_and, if_true]
   unfold hasG
   rw [Bool.eq_iff_iff, decide_eq_true_eq, decide_eq_true_eq]
   constructor
   ·intro h
    have := riseC_len (c := cfV) ((liveL l x).map vaOf)
    rw [List.length_map] at this
    omega
   ·intro h
    obtain ⟨e, he⟩ := List.exists_mem_of_length_pos h
    exact List.length_pos_of_mem ((riseC_mem (c := cfV) _ (vaOf e)).2 (List.mem_map.2 ⟨e, he, rfl⟩))
set_option maxRecDepth 100000 in
set_option maxHeartbeats 8000000 in
theorem names8_any (x : El) (l : List Ev) (A : Option Addr) (N c : Nat) (w : World) (hs : SlK encE 27 w (.slice A N c) l) (hN : l.length = N) (hN2 : N ≤ 10000) (hok : ∀ e ∈ l, okB e = true) (hle : ∀ e ∈ l, Lens e) :
  Calls Tryz.prog 25 #[.slice A N c, eE x] w fun e w' => ∃ v, e = .returned v ∧ OwnK enS w.heap.size 9 1 w' v (namesR (hasG l) (elsL l) x) ∧ Below w.heap.size w w' := by
 obtain ⟨ok, oa, ob, oc, od⟩ := x
 obtain ⟨p, hp⟩ : ∃ p, w.heap.size = p := ⟨_, rfl⟩
 obtain ⟨X, hX⟩ : ∃ X, X = w.alloc (.cells #[.int .i64 ok, .string oa, .string ob, .string oc, .string od] 38) := ⟨_, rfl⟩
 have hb : Below w.heap.size w X := by rw [hX]; exact (Below.refl _ _).alloc (Nat.le_refl _) _
 have hEp : Blk X p 38 #[.int .i64 ok, .string oa, .string ob, .string oc, .string od] := by rw [hX, ← hp]; exact Blk.new w _ _
 have HEp := hid (show ∀ W, Below X.heap.size X W → Blk W p 38 #[.int .i64 ok, .string oa, .string ob, .string oc, .string od] from fun W h => hEp.below h hEp.lt)
 have HB0 := hid hb
 have HX := hid hX
 obtain ⟨els, hels⟩ : ∃ els, elsL l = els := ⟨_, rfl⟩
 have hE := els_any l A N c X (hs.below hb) hN hN2
 have hlen := els_len l
 rw [hels] at hE hlen ⊢
 have HEls := hid hE
 have HVal := hid (show ∀ (x : El) (W : World), Below X.heap.size X W → Calls Tryz.prog 17 #[.slice A N c, .agg #[.int .i64 x.k, .string x.a, .string x.b, .string x.c, .string x.d]] W (fun e w' => ∃ v, e = .returned v ∧ OwnK enW W.heap.size 43 3 w' v (valsR l x) ∧ Below W.heap.size W w') from fun x W h => values8_any x l A N c W (hs.below (hb.trans (h.mono hb.size))) hN hN2 hok hle)
 have HLen := hid (show els.length ≤ 10000 by omega)
 have HP := hid hp
 clear hE hlen hels hs hN hN2 hok hle hb hX hEp hp
 unfold eE elV
 dsimp only
 go_enter Tryz.func25, Tryz.ntmps25
 go_upto_region 1 with fail
 rw [← HX.out, HP.out]
 go_wp2_with fail
 refine HEls.out.mono ?_
 rintro e w1 ⟨u, rfl, ho, hb1⟩
 obtain ⟨A2, c2, rfl, _, _⟩ := ho.read enL_len
 obtain ⟨n, hn⟩ : ∃ n, els.length = n := ⟨_, rfl⟩
 rw [hn] at ho HLen ⊢
 have HO := hid ho
 have HNn := hid hn
 have HB1 := hid hb1
 have HP1 := hid (show p ≤ w1.heap.size by rw [← HP.out]; exact Nat.le_trans HB0.out.size hb1.size)
 clear ho hn hb1 HEls
 go_wp2_with fail
 go_loopw [5, 12] (fun v3 v9 wr => ∃ j : Nat, v9 = .int .i64 j ∧ j ≤ n ∧ OwnK enS w1.heap.size 9 1 wr v3 (((els.take j).filter (fun e => bearB ⟨ok, oa, ob, oc, od⟩ && (partOf ⟨ok, oa, ob, oc, od⟩ e && hasValR (hasG l) e))).map (·.d)) ∧ Below w1.heap.size w1 wr) (fun _ v9 _ => n - (intOf v9).toNat)
 case atStart => exact ⟨0, rfl, Nat.zero_le _, OwnK.nil_ _ _ _ _ _, Below.refl _ _⟩
 case round =>
  obtain ⟨j, rfl, hj, ho, hbw⟩ := hrel
  obtain ⟨wo, rfl⟩ : ∃ wo, wo = wr := ⟨_, rfl⟩
  by_cases hlt : j < n
  ·obtain ⟨x, hx⟩ : ∃ x, els[j]? = some x := ⟨els[j]'(by rw [HNn.out]; exact hlt), List.getElem?_eq_getElem _⟩
   obtain ⟨g, rfl, _, hg, hce⟩ := (HO.out.keep hbw).at_ enL_len hx
   have HYes := hid (fun h : (fun e => bearB ⟨ok, oa, ob, oc, od⟩ && (partOf ⟨ok, oa, ob, oc, od⟩ e && hasValR (hasG l) e)) x = true => fm_yes (p := fun e => bearB ⟨ok, oa, ob, oc, od⟩ && (partOf ⟨ok, oa, ob, oc, od⟩ e && hasValR (hasG l) e)) (f := (·.d)) hx h)
   have HNo := hid (fun h : (fun e => bearB ⟨ok, oa, ob, oc, od⟩ && (partOf ⟨ok, oa, ob, oc, od⟩ e && hasValR (hasG l) e)) x = false => fm_no (p := fun e => bearB ⟨ok, oa, ob, oc, od⟩ && (partOf ⟨ok, oa, ob, oc, od⟩ e && hasValR (hasG l) e)) (f := (·.d)) hx h)
   have HFl := hid (fm_len (p := fun e => bearB ⟨ok, oa, ob, oc, od⟩ && (partOf ⟨ok, oa, ob, oc, od⟩ e && hasValR (hasG l) e)) (f := (·.d)) els j)
   obtain ⟨xk, xa, xb, xc, xd⟩ := x
   have HCe := hid (show wo.rangeAt g (j * 5) [.int .i64 xk, .string xa, .string xb, .string xc, .string xd] from hce)
   have HAt := hid (at_El0 g c2 n j hlt wo)
   obtain ⟨q, hq⟩ : ∃ q, wo.heap.size = q := ⟨_, rfl⟩
   obtain ⟨Y, hY⟩ : ∃ Y, Y = wo.alloc (.cells #[.int .i64 xk, .string xa, .string xb, .string xc, .string xd] 38) := ⟨_, rfl⟩
   have hbY : Below wo.heap.size wo Y := by rw [hY]; exact (Below.refl _ _).alloc (Nat.le_refl _) _
   have hEY : Blk Y q 38 #[.int .i64 xk, .string xa, .string xb, .string xc, .string xd] := by rw [hY, ← hq]; exact Blk.new _ _ _
   have HEY := hid (show ∀ W, Below Y.heap.size Y W → Blk W q 38 #[.int .i64 xk, .string xa, .string xb, .string xc, .string xd] from fun W h => hEY.below h hEY.lt)
   have HbY := hid (hbw.trans (hbY.mono hbw.size))
   have HOY := hid (ho.keep hbY)
   have HEpY := hid (HEp.out Y (HB1.out.trans (HbY.out.mono HB1.out.size)))
   have HW1 := hid (IntWalk.i64_in ((j : Int) + 1) (by have := HLen.out; omega))
   have HJ1 := hid (show ¬ 9223372036854775807 < j + 1 by have := HLen.out; omega)
   have HYe := hid hY
   have HQ := hid hq
   have hz := (zero_of_info infoElG).1
   clear hx hg hce hq hY hbY hEY hbw ho
   go_upto_region 5 with (first
    | (refine wpList_val (o := ⟨some 14, _, _, _, _, _⟩) rfl (.pointer (some ⟨g, j * 5, none⟩)) wo (run_indexAddr_op rfl rfl rfl HAt.out) ?_)
    | (refine wpList_load_midif rfl 38 (.tmp 14) rfl g (j * 5) rfl [.int .i64 xk, .string xa, .string xb, .string xc, .string xd] _ HCe.out Tryz.underlying38 rfl (by kernel_rfl) ?_)
    | fail)
   clear hz HAt HCe
   rw [HQ.out, ← HYe.out]
   have c0 : Y.cell? ⟨q, 0, none⟩ = some (.int .i64 xk) := (Blk.cell (HEY.out Y (Below.refl _ _)) 0).trans rfl
   have c1 : Y.cell? ⟨q, 1, none⟩ = some (.string xa) := (Blk.cell (HEY.out Y (Below.refl _ _)) 1).trans rfl
   have c2 : Y.cell? ⟨q, 2, none⟩ = some (.string xb) := (Blk.cell (HEY.out Y (Below.refl _ _)) 2).trans rfl
   have c3 : Y.cell? ⟨q, 3, none⟩ = some (.string xc) := (Blk.cell (HEY.out Y (Below.refl _ _)) 3).trans rfl
   have c4 : Y.cell? ⟨q, 4, none⟩ = some (.string xd) := (Blk.cell (HEY.out Y (Below.refl _ _)) 4).trans rfl
   have o0 : Y.cell? ⟨p, 0, none⟩ = some (.int .i64 ok) := (Blk.cell HEpY.out 0).trans rfl
   have o1 : Y.cell? ⟨p, 1, none⟩ = some (.string oa) := (Blk.cell HEpY.out 1).trans rfl
   have o2 : Y.cell? ⟨p, 2, none⟩ = some (.string ob) := (Blk.cell HEpY.out 2).trans rfl
   have o3 : Y.cell? ⟨p, 3, none⟩ = some (.string oc) := (Blk.cell HEpY.out 3).trans rfl
   have o4 : Y.cell? ⟨p, 4, none⟩ = some (.string od) := (Blk.cell HEpY.out 4).trans rfl
   by_cases h1 : ok = 1
   ·subst h1
    rcases ba_emp od with heod | heod
    ·subst heod
     rcases ba_emp ob with heob | heob
     ·subst heob
      rcases ba_emp oc with heoc | heoc
      ·subst heoc
       by_cases h4 : xk = 4
       ·subst h4
        cases hsxa : (xa.toList == oa.toList)
        ·have HNexa := hid (ba_unlike hsxa)
         have HF := hid (HOY.out)
         rw [← HNo.out (show (bearB _ && (partOf _ _ && hasValR _ _)) = false by rw [part_n1a HNexa.out]; simp)] at HF
         have HBF := hid (HbY.out)
         have hw := HW1.out
         have hjm := HJ1.out
         go_wp2_with fail
         go_roundw
         case rel => exact ⟨j + 1, by go_num, by omega, HF.out, HBF.out⟩
         case measure => simp [intOf] <;> omega
        ·have hkxa := toList_eq hsxa
         subst hkxa
         have HV0 := HVal.out ⟨4, xa, xb, xc, xd⟩ Y (HB1.out.trans (HbY.out.mono HB1.out.size))
         go_wp2_with fail
         refine HV0.mono ?_
         rintro e w5 ⟨uv, rfl, hov, hb5⟩
         obtain ⟨A5, c5, rfl, _, _⟩ := hov.read enW_len
         have HB5 := hid hb5
         obtain ⟨n5, hn5⟩ : ∃ n5, (valsR l ⟨4, xa, xb, xc, xd⟩).length = n5 := ⟨_, rfl⟩
         have hq := vals_has l ⟨4, xa, xb, xc, xd⟩
         rw [hn5] at hq ⊢
         clear HV0 hov hb5 hn5 c0 c1 c2 c3 c4 o0 o1 o2 o3 o4
         have hn0 : n5 = 0 ∨ 0 < n5 := by omega
         rcases hn0 with hn0 | hn0
         ·have HNv := hid (show hasValR (hasG l) ⟨4, xa, xb, xc, xd⟩ = false by rw [← hq]; exact decide_eq_false (by omega))
          subst hn0
          clear hq
          have HF := hid (HOY.out.keep HB5.out)
          rw [← HNo.out (show (bearB _ && (partOf _ _ && hasValR _ _)) = false by rw [HNv.out]; simp)] at HF
          have HBF := hid (HbY.out.trans (HB5.out.mono HbY.out.size))
          have hw := HW1.out
          have hjm := HJ1.out
          go_wp2_with fail
          go_roundw
          case rel => exact ⟨j + 1, by go_num, by omega, HF.out, HBF.out⟩
          case measure => simp [intOf] <;> omega
         ·have HNv := hid (show hasValR (hasG l) ⟨4, xa, xb, xc, xd⟩ = true by rw [← hq]; exact decide_eq_true hn0)
          clear hq
          have HSB := hid (HbY.out.trans (HB5.out.mono HbY.out.size))
          have hpW : w1.heap.size ≤ w5.heap.size := HSB.out.size
          obtain ⟨Z, hZ⟩ : ∃ Z, Z = w5.alloc (.cells #[.string xd] 9) := ⟨_, rfl⟩
          have hbZ : Below w5.heap.size w5 Z := by rw [hZ]; exact (Below.refl _ _).alloc (Nat.le_refl _) _
          obtain ⟨v', w', hr, ho', hb'⟩ := own_app (ty := 32) apS ((HOY.out.keep HB5.out).keep hbZ) (Nat.le_trans hpW hbZ.size) (by rw [hZ]; exact sl_S xd w5) (by have h1 := HFl.out; have h2 := HLen.out; have h3 := HNn.out; simp only [List.length_cons, List.length_nil]; omega) (by have h1 := HFl.out; have h2 := HLen.out; have h3 := HNn.out; simp only [List.length_cons, List.length_nil]; omega)
          rw [← HYes.out (show (bearB _ && (partOf _ _ && hasValR _ _)) = true by rw [bear_n, part_n, HNv.out]; rfl)] at ho'
          obtain ⟨i, hi⟩ : ∃ i, w5.heap.size = i := ⟨_, rfl⟩
          rw [hi] at hr
          have HR := hid hr
          have HO' := hid ho'
          have HB' := hid (HSB.out.trans ((hbZ.mono HSB.out.size).trans hb'))
          have HZe := hid hZ
          have HI := hid hi
          have cF : w5.cell? ⟨q, 4, none⟩ = some (.string xd) := (Blk.cell (HEY.out w5 HB5.out) 4).trans rfl
          have hw := HW1.out
          have hjm := HJ1.out
          clear hr ho' hb' hZ hi hbZ hpW
          go_wp2_with (first
           | (at_builtin; rw [← HZe.out, HI.out]; refine Lib.wpList_append_run (o := ⟨some 102, _, _, _, _, _⟩) _ rfl _ _ _ _ rfl _ _ rfl rfl _ _ HR.out ?_)
           | fail)
          go_roundw
          case rel => exact ⟨j + 1, by go_num, by omega, HO'.out, HB'.out⟩
          case measure => simp [intOf] <;> omega
       ·have hd4 : (xk == 4) = false := by rw [beq_eq_false_iff_ne]; exact h4
        have HF := hid (HOY.out)
        rw [← HNo.out (show (bearB _ && (partOf _ _ && hasValR _ _)) = false by rw [part_n1k h4]; simp)] at HF
        have HBF := hid (HbY.out)
        have hw := HW1.out
        have hjm := HJ1.out
        go_wp2_with fail
        go_roundw
        case rel => exact ⟨j + 1, by go_num, by omega, HF.out, HBF.out⟩
        case measure => simp [intOf] <;> omega
      ·have hioc : oc.toList.isEmpty = false := ba_ne heoc
       have hjoc : (oc.toList == []) = false := ba_neq heoc
       have HF := hid (HOY.out)
       rw [← HNo.out (show (bearB _ && (partOf _ _ && hasValR _ _)) = false by rw [bear_nc heoc]; rfl)] at HF
       have HBF := hid (HbY.out)
       have hw := HW1.out
       have hjm := HJ1.out
       go_wp2_with fail
       go_roundw
       case rel => exact ⟨j + 1, by go_num, by omega, HF.out, HBF.out⟩
       case measure => simp [intOf] <;> omega
     ·have hiob : ob.toList.isEmpty = false := ba_ne heob
      have hjob : (ob.toList == []) = false := ba_neq heob
      have HF := hid (HOY.out)
      rw [← HNo.out (show (bearB _ && (partOf _ _ && hasValR _ _)) = false by rw [bear_nb heob]; rfl)] at HF
      have HBF := hid (HbY.out)
      have hw := HW1.out
      have hjm := HJ1.out
      go_wp2_with fail
      go_roundw
      case rel => exact ⟨j + 1, by go_num, by omega, HF.out, HBF.out⟩
      case measure => simp [intOf] <;> omega
    ·have hiod : od.toList.isEmpty = false := ba_ne heod
     have hjod : (od.toList == []) = false := ba_neq heod
     have HF := hid (HOY.out)
     rw [← HNo.out (show (bearB _ && (partOf _ _ && hasValR _ _)) = false by rw [bear_nd heod]; rfl)] at HF
     have HBF := hid (HbY.out)
     have hw := HW1.out
     have hjm := HJ1.out
     go_wp2_with fail
     go_roundw
     case rel => exact ⟨j + 1, by go_num, by omega, HF.out, HBF.out⟩
     case measure => simp [intOf] <;> omega
   ·have hd1 : (ok == 1) = false := by rw [beq_eq_false_iff_ne]; exact h1
    by_cases h3 : ok = 3
    ·subst h3
     rcases ba_emp od with heod | heod
     ·subst heod
      by_cases h5 : xk = 5
      ·subst h5
       cases hsxa : (xa.toList == oa.toList)
       ·have HNexa := hid (ba_unlike hsxa)
        have HF := hid (HOY.out)
        rw [← HNo.out (show (bearB _ && (partOf _ _ && hasValR _ _)) = false by rw [part_n3a HNexa.out]; simp)] at HF
        have HBF := hid (HbY.out)
        have hw := HW1.out
        have hjm := HJ1.out
        go_wp2_with fail
        go_roundw
        case rel => exact ⟨j + 1, by go_num, by omega, HF.out, HBF.out⟩
        case measure => simp [intOf] <;> omega
       ·have hkxa := toList_eq hsxa
        subst hkxa
        cases hsxb : (xb.toList == ob.toList)
        ·have HNexb := hid (ba_unlike hsxb)
         have HF := hid (HOY.out)
         rw [← HNo.out (show (bearB _ && (partOf _ _ && hasValR _ _)) = false by rw [part_n3b HNexb.out]; simp)] at HF
         have HBF := hid (HbY.out)
         have hw := HW1.out
         have hjm := HJ1.out
         go_wp2_with fail
         go_roundw
         case rel => exact ⟨j + 1, by go_num, by omega, HF.out, HBF.out⟩
         case measure => simp [intOf] <;> omega
        ·have hkxb := toList_eq hsxb
         subst hkxb
         cases hsxc : (xc.toList == oc.toList)
         ·have HNexc := hid (ba_unlike hsxc)
          have HF := hid (HOY.out)
          rw [← HNo.out (show (bearB _ && (partOf _ _ && hasValR _ _)) = false by rw [part_n3c HNexc.out]; simp)] at HF
          have HBF := hid (HbY.out)
          have hw := HW1.out
          have hjm := HJ1.out
          go_wp2_with fail
          go_roundw
          case rel => exact ⟨j + 1, by go_num, by omega, HF.out, HBF.out⟩
          case measure => simp [intOf] <;> omega
         ·have hkxc := toList_eq hsxc
          subst hkxc
          have HV0 := HVal.out ⟨5, xa, xb, xc, xd⟩ Y (HB1.out.trans (HbY.out.mono HB1.out.size))
          go_wp2_with fail
          refine HV0.mono ?_
          rintro e w5 ⟨uv, rfl, hov, hb5⟩
          obtain ⟨A5, c5, rfl, _, _⟩ := hov.read enW_len
          have HB5 := hid hb5
          obtain ⟨n5, hn5⟩ : ∃ n5, (valsR l ⟨5, xa, xb, xc, xd⟩).length = n5 := ⟨_, rfl⟩
          have hq := vals_has l ⟨5, xa, xb, xc, xd⟩
          rw [hn5] at hq ⊢
          clear HV0 hov hb5 hn5 c0 c1 c2 c3 c4 o0 o1 o2 o3 o4
          have hn0 : n5 = 0 ∨ 0 < n5 := by omega
          rcases hn0 with hn0 | hn0
          ·have HNv := hid (show hasValR (hasG l) ⟨5, xa, xb, xc, xd⟩ = false by rw [← hq]; exact decide_eq_false (by omega))
           subst hn0
           clear hq
           have HF := hid (HOY.out.keep HB5.out)
           rw [← HNo.out (show (bearB _ && (partOf _ _ && hasValR _ _)) = false by rw [HNv.out]; simp)] at HF
           have HBF := hid (HbY.out.trans (HB5.out.mono HbY.out.size))
           have hw := HW1.out
           have hjm := HJ1.out
           go_wp2_with fail
           go_roundw
           case rel => exact ⟨j + 1, by go_num, by omega, HF.out, HBF.out⟩
           case measure => simp [intOf] <;> omega
          ·have HNv := hid (show hasValR (hasG l) ⟨5, xa, xb, xc, xd⟩ = true by rw [← hq]; exact decide_eq_true hn0)
           clear hq
           have HSB := hid (HbY.out.trans (HB5.out.mono HbY.out.size))
           have hpW : w1.heap.size ≤ w5.heap.size := HSB.out.size
           obtain ⟨Z, hZ⟩ : ∃ Z, Z = w5.alloc (.cells #[.string xd] 9) := ⟨_, rfl⟩
           have hbZ : Below w5.heap.size w5 Z := by rw [hZ]; exact (Below.refl _ _).alloc (Nat.le_refl _) _
           obtain ⟨v', w', hr, ho', hb'⟩ := own_app (ty := 32) apS ((HOY.out.keep HB5.out).keep hbZ) (Nat.le_trans hpW hbZ.size) (by rw [hZ]; exact sl_S xd w5) (by have h1 := HFl.out; have h2 := HLen.out; have h3 := HNn.out; simp only [List.length_cons, List.length_nil]; omega) (by have h1 := HFl.out; have h2 := HLen.out; have h3 := HNn.out; simp only [List.length_cons, List.length_nil]; omega)
           rw [← HYes.out (show (bearB _ && (partOf _ _ && hasValR _ _)) = true by rw [bear_l, part_l, HNv.out]; rfl)] at ho'
           obtain ⟨i, hi⟩ : ∃ i, w5.heap.size = i := ⟨_, rfl⟩
           rw [hi] at hr
           have HR := hid hr
           have HO' := hid ho'
           have HB' := hid (HSB.out.trans ((hbZ.mono HSB.out.size).trans hb'))
           have HZe := hid hZ
           have HI := hid hi
           have cF : w5.cell? ⟨q, 4, none⟩ = some (.string xd) := (Blk.cell (HEY.out w5 HB5.out) 4).trans rfl
           have hw := HW1.out
           have hjm := HJ1.out
           clear hr ho' hb' hZ hi hbZ hpW
           go_wp2_with (first
            | (at_builtin; rw [← HZe.out, HI.out]; refine Lib.wpList_append_run (o := ⟨some 102, _, _, _, _, _⟩) _ rfl _ _ _ _ rfl _ _ rfl rfl _ _ HR.out ?_)
            | fail)
           go_roundw
           case rel => exact ⟨j + 1, by go_num, by omega, HO'.out, HB'.out⟩
           case measure => simp [intOf] <;> omega
      ·have hd5 : (xk == 5) = false := by rw [beq_eq_false_iff_ne]; exact h5
       have HF := hid (HOY.out)
       rw [← HNo.out (show (bearB _ && (partOf _ _ && hasValR _ _)) = false by rw [part_n3k h5]; simp)] at HF
       have HBF := hid (HbY.out)
       have hw := HW1.out
       have hjm := HJ1.out
       go_wp2_with fail
       go_roundw
       case rel => exact ⟨j + 1, by go_num, by omega, HF.out, HBF.out⟩
       case measure => simp [intOf] <;> omega
     ·have hiod : od.toList.isEmpty = false := ba_ne heod
      have hjod : (od.toList == []) = false := ba_neq heod
      have HF := hid (HOY.out)
      rw [← HNo.out (show (bearB _ && (partOf _ _ && hasValR _ _)) = false by rw [bear_nd heod]; rfl)] at HF
      have HBF := hid (HbY.out)
      have hw := HW1.out
      have hjm := HJ1.out
      go_wp2_with fail
      go_roundw
      case rel => exact ⟨j + 1, by go_num, by omega, HF.out, HBF.out⟩
      case measure => simp [intOf] <;> omega
    ·have hd3 : (ok == 3) = false := by rw [beq_eq_false_iff_ne]; exact h3
     have HF := hid (HOY.out)
     rw [← HNo.out (show (bearB _ && (partOf _ _ && hasValR _ _)) = false by rw [bear_nk h1 h3]; rfl)] at HF
     have HBF := hid (HbY.out)
     have hw := HW1.out
     have hjm := HJ1.out
     go_wp2_with fail
     go_roundw
     case rel => exact ⟨j + 1, by go_num, by omega, HF.out, HBF.out⟩
     case measure => simp [intOf] <;> omega
  ·go_wp2_with fail
   go_ret
   have hjN : j = n := by omega
   rw [hjN, List.take_of_length_le (by rw [HNn.out]; exact Nat.le_refl _)] at ho
   exact ⟨_, rfl, by rw [HP.out]; exact ho.base_ HP1.out, (HB0.out.trans (HB1.out.mono HB0.out.size)).trans (hbw.mono (HB0.out.trans (HB1.out.mono HB0.out.size)).size)⟩
end Go.Proofs.YtdgglhlofnigkaaGreatDoor
