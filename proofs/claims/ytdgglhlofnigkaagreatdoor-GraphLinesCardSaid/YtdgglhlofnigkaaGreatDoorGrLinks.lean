/- hedgerowref08.Less, Links. -/import Derived.Test.YtdgglhlofnigkaaGreatDoorGrOf
set_option maxHeartbeats 4000000
set_option maxRecDepth 100000
namespace Go.Proofs.YtdgglhlofnigkaaGreatDoor
open Lib (hid)
open Go.RowKit Go.MapKept Go.Sort
theorem lessK_any (x y : Lk) (w : World) : Calls Tryz.prog 51 #[eK x, eK y] w (Gives w (.bool (decide (cfK x y < 0)))) := by
 have HB : Hid (∀ o o' : Obj, Below w.heap.size w ((w.alloc o).alloc o')) := hid (fun o o' => ((Below.refl _ _).alloc (Nat.le_refl _) o).alloc (by simp) o')
 obtain ⟨f, t, k⟩ := x
 obtain ⟨f', t', k'⟩ := y
 unfold eK lkC
 dsimp only
 cases hf : (f.toList == f'.toList)
 ·have HR := hid (show decide (cfK ⟨f, t, k⟩ ⟨f', t', k'⟩ < 0) = Op.bytesLess f.toList f'.toList by
   unfold cfK; simp only [orI, if_neg (cb_diff hf), bl_cb, Lib.toList_data])
  go_enter Tryz.func51, Tryz.ntmps51
  go_wp2
  go_ret
  exact ⟨by rw [HR.out]; rfl, HB.out _ _⟩
 ·have ef := toList_eq hf
  subst ef
  cases hk : (k.toList == k'.toList)
  ·have HR := hid (show decide (cfK ⟨f, t, k⟩ ⟨f, t', k'⟩ < 0) = Op.bytesLess k.toList k'.toList by
    unfold cfK; simp only [orI, if_true, cb_same, if_neg (cb_diff hk), bl_cb, Lib.toList_data])
   go_enter Tryz.func51, Tryz.ntmps51
   go_wp2
   go_ret
   exact ⟨by rw [HR.out]; rfl, HB.out _ _⟩
  ·have ek := toList_eq hk
   subst ek
   have HR := hid (show decide (cfK ⟨f, t, k⟩ ⟨f, t', k⟩ < 0) = Op.bytesLess t.toList t'.toList by
    unfold cfK
    simp only [orI, if_true, cb_same, bl_cb, Lib.toList_data]
    by_cases h : Lib.compareBytes t.data.toList t'.data.toList = 0
    ·simp [h]
    ·rw [if_neg h])
   go_enter Tryz.func51, Tryz.ntmps51
   go_wp2
   go_ret
   exact ⟨by rw [HR.out]; rfl, HB.out _ _⟩
theorem lessK_is (x y : Lk) (q : Bool) (h : decide (cfK x y < 0) = q) (w : World) : Calls Tryz.prog 51 #[eK x, eK y] w (Gives w (.bool q)) := by
 subst h; exact lessK_any x y w
theorem infoKK : ∃ i, Tryz.prog.info? 36 = some i ∧ i.zero = some (.agg #[.string ⟨#[]⟩, .string ⟨#[]⟩, .string ⟨#[]⟩]) ∧ i.size = 3 ∧ i.bytes = 48 := info_parts infoK
theorem append_lk (R : Nat) (w : World) (v : Value) (xs : List Lk) (hown : OwnK enK R 36 3 w v xs) (v2 : Value) (l : List Lk) (hl : SlK enK 3 w v2 l) (hn : xs.length + l.length ≤ 1000000) (hR : R ≤ w.heap.size) :
  ∃ v' w', (Builtin.append_ #[53, 53] 53 #[v, v2]).run Tryz.prog w = .ok v' w' ∧ OwnK enK R 36 3 w' v' (xs ++ l) ∧ w.grownBy w' v.ownBlock ∧ (v'.ownBlock = v.ownBlock ∨ (Below w.heap.size w w' ∧ ∀ g, v'.ownBlock = some g → w.heap.size ≤ g)) := by
 obtain ⟨i, hi, hz0, hz1, hz2⟩ := infoKK
 exact run_append_at (P := Tryz.prog) enK_len (by decide) R w 53 53 36 i _ 48 Tryz.underlying53 hi hz0 hz1 hz2 rfl v xs hown v2 l hl (fun e => enK_one e) (by omega) (by omega) hR
theorem bsNilK (w : World) : (Instr.buildSlice 53 0 #[]).run Tryz.prog w = .ok (.slice (some ⟨w.heap.size, 0, none⟩) 0 0) (w.alloc (.cells #[] 36)) := by
 go_simp
theorem own_emptyK (w : World) : OwnK enK w.heap.size 36 3 (w.alloc (.cells #[] 36)) (.slice (some ⟨w.heap.size, 0, none⟩) 0 0) [] :=
 ⟨by simp, .inr ⟨w.heap.size, 0, #[], rfl, Nat.le_refl _, heap_alloc_new w _, Nat.le_refl _, Nat.zero_le _, by simp, by simp⟩⟩
theorem append_newK (R : Nat) (w : World) (v2 : Value) (l : List Lk) (hl : SlK enK 3 w v2 l) (hn : l.length ≤ 1000000) (g : Nat) (hg : OwnK enK R 36 3 w (.slice (some ⟨g, 0, none⟩) 0 0) []) (hR : R ≤ w.heap.size) :
  ∃ v' w', (Builtin.append_ #[53, 53] 53 #[.slice (some ⟨g, 0, none⟩) 0 0, v2]).run Tryz.prog w = .ok v' w' ∧ OwnK enK R 36 3 w' v' l ∧ Below w.heap.size w w' := by
 obtain ⟨i, hi, hz0, hz1, hz2⟩ := infoKK
 obtain ⟨A, c, rfl, hlc, hx⟩ := hl
 by_cases hn0 : l = []
 ·subst hn0
  refine ⟨.slice (some ⟨g, 0, none⟩) 0 0, w, ?_, hg, Below.refl _ _⟩
  rcases A with _ | ad
  ·simp [Builtin.append_, run_underlying Tryz.underlying53, sizeOf, typeInfo, hi, Builtin.lenOf, Builtin.firstCells, storeCells]
  ·have hf := run_firstCells_some (P := Tryz.prog) w i.size 0 ad 0 c [] (by simp) (by simp)
   simp [Builtin.append_, run_underlying Tryz.underlying53, sizeOf, typeInfo, hi, Builtin.lenOf, hf, storeCells]
 ·obtain ⟨b, o, rfl, hb, hcell⟩ := hx hn0
  have hpos := List.length_pos_iff.2 hn0
  obtain ⟨v', w', hr, ho, hg2⟩ := run_append_arg_grows (P := Tryz.prog) w 53 53 36 i _ 3 48 Tryz.underlying53 hi hz0 hz1 hz2 rfl (by decide) ⟨g, 0, none⟩ 0 0 [] (by simp)
   (fun j u hu => by simp at hu) ⟨b, o, none⟩ l.length c (l.flatMap enK) (flat_length enK_len l) (flat_cells enK_len (by decide) hcell) (by omega) (by unfold maxLen; omega) (by omega)
  have ho' : OwnK enK w.heap.size 36 3 w' v' l := by
   unfold OwnK; simpa using ho
  exact ⟨v', w', hr, ho'.base_ hR, ⟨hg2.os, hg2.tape, hg2.output, hg2.size, fun k hk => hg2.block k hk (by simp)⟩⟩
def pSK (R : Nat) (out : List Lk) (A : Option Addr) (n c k : Nat) (e : Lk) (i : Nat) (v : Value) (w : World) : Prop :=
 match i with
 | 0 => ∃ g, v = .slice (some ⟨g, 0, none⟩) 0 0 ∧ OwnK enK R 36 3 w v []
 | 1 => v = .slice A n c
 | 2 => v = .int .i64 (k : Nat)
 | 3 => v = .slice (slK A c 0 3) k c
 | 4 => OwnK enK R 36 3 w v (out.take k)
 | 5 => v = .agg (lkC e)
 | 6 => SlK enK 3 w v [e]
 | 8 => v = .slice A n c
 | 9 => v = .int .i64 (k : Nat)
 | 10 => v = .slice (slK A c k 3) (n - k) (c - k)
 | _ => True
theorem pSK_keep {R : Nat} {out : List Lk} {A : Option Addr} {n c k : Nat} {e : Lk} {i : Nat} {v : Value} {w w' : World} (hb : Below w.heap.size w w') (h : pSK R out A n c k e i v w) : pSK R out A n c k e i v w' := by
 unfold pSK at *
 split at h
 ·obtain ⟨g, h1, h2⟩ := h; exact ⟨g, h1, h2.keep hb⟩
 ·exact h
 ·exact h
 ·exact h
 ·exact OwnK.keep h hb
 ·exact h
 ·exact SlK.below h hb
 ·exact h
 ·exact h
 ·exact h
 ·trivial
def puK (i : Nat) : Bool := [1, 2, 3, 8, 9, 10].contains i
theorem pSK_pure {R : Nat} {out : List Lk} {A : Option Addr} {n c k : Nat} {e : Lk} (i : Nat) (v : Value) (w w' : World) (hp : puK i = true) (h : pSK R out A n c k e i v w) : pSK R out A n c k e i v w' := by
 unfold puK at hp
 simp only [List.contains_iff_mem, List.mem_cons, List.not_mem_nil, or_false] at hp
 rcases hp with rfl | rfl | rfl | rfl | rfl | rfl <;> exact h
def isLk (l : List Ev) (x : El) : Bool := decide (x.k = 3) && linkG l (lkOf x)
def lksJ (l : List Ev) (els : List El) (j : Nat) : List Lk := ((els.take j).filter (isLk l)).map lkOf
theorem lksJ_yes {l : List Ev} {els : List El} {j : Nat} {x : El} (h : els[j]? = some x) (hq : isLk l x = true) : lksJ l els (j + 1) = lksJ l els j ++ [lkOf x] := by
 unfold lksJ
 rw [List.take_add_one, h, Option.toList_some, List.filter_append, List.map_append, List.filter_cons_of_pos hq]
 rfl
theorem lksJ_no {l : List Ev} {els : List El} {j : Nat} {x : El} (h : els[j]? = some x) (hq : isLk l x = false) : lksJ l els (j + 1) = lksJ l els j := by
 unfold lksJ
 rw [List.take_add_one, h, Option.toList_some, List.filter_append, List.map_append, List.filter_cons_of_neg (by rw [hq]; decide)]
 simp
theorem lksJ_len (l : List Ev) (els : List El) (j : Nat) : (lksJ l els j).length ≤ j := by
 unfold lksJ
 rw [List.length_map]
 exact Nat.le_trans (List.length_filter_le _ _) (List.length_take_le _ _)
theorem lksJ_all (l : List Ev) (els : List El) {n : Nat} (hn : els.length = n) : lksJ l els n = linksR (hasG l) els := by
 unfold lksJ
 rw [List.take_of_length_le (by omega)]
 rfl
theorem sortK_snoc (l : List Lk) (x : Lk) : sortK (l ++ [x]) = insP (fun y => decide (cfK y x < 0)) x (sortK l) := by
 unfold sortK
 rw [List.foldl_append]
 rfl
theorem links8_any (l : List Ev) (A : Option Addr) (N c : Nat) (w : World) (hs : SlK encE 27 w (.slice A N c) l) (hN : l.length = N) (hN2 : N ≤ 10000) (hok : ∀ e ∈ l, okB e = true) :
  Calls Tryz.prog 27 #[.slice A N c] w fun e w' => ∃ v, e = .returned v ∧ OwnK enK w.heap.size 36 3 w' v (sortK (linksR (hasG l) (elsL l))) ∧ Below w.heap.size w w' := by
 obtain ⟨p, hp⟩ : ∃ p, w.heap.size = p := ⟨_, rfl⟩
 obtain ⟨els, hels⟩ : ∃ els, elsL l = els := ⟨_, rfl⟩
 have hE := els_any l A N c w hs hN hN2
 have hlen := els_len l
 rw [hels] at hE hlen ⊢
 have HEls := hid hE
 have HLk := hid (show ∀ (f t y : ByteArray) (W : World), Below w.heap.size w W → Calls Tryz.prog 23 #[.slice A N c, .agg #[.string f, .string t, .string y]] W (Gives W (.bool (linkG l ⟨f, t, y⟩))) from fun f t y W h => link8_any ⟨f, t, y⟩ l A N c W (hs.below h) hN hN2 hok)
 have HLen := hid (show els.length ≤ 10000 by omega)
 have HP := hid hp
 clear hE hlen hels hs hN hN2 hok
 go_enter Tryz.func27, Tryz.ntmps27
 go_wp2_with fail
 refine HEls.out.mono ?_
 rintro e w1 ⟨u, rfl, ho, hb1⟩
 obtain ⟨A2, c2, rfl, _, _⟩ := ho.read enL_len
 obtain ⟨n, hn⟩ : ∃ n, els.length = n := ⟨_, rfl⟩
 rw [hn] at ho HLen ⊢
 have HO := hid ho
 have HNn := hid hn
 have HB1 := hid hb1
 have HP1 := hid (show p ≤ w1.heap.size by rw [← hp]; exact hb1.size)
 clear ho hn hb1 hp HEls
 go_wp2_with fail
 go_loopw [3, 11] (fun v3 v11 wr => ∃ j : Nat, v11 = .int .i64 j ∧ j ≤ n ∧ OwnK enK p 36 3 wr v3 (sortK (lksJ l els j)) ∧ Below w1.heap.size w1 wr) (fun _ v11 _ => n - (intOf v11).toNat)
 case atStart => exact ⟨0, rfl, Nat.zero_le _, OwnK.nil_ _ _ _ _ _, Below.refl _ _⟩
 case round =>
  obtain ⟨j, rfl, hj, ho, hbw⟩ := hrel
  obtain ⟨wo, rfl⟩ : ∃ wo, wo = wr := ⟨_, rfl⟩
  by_cases hlt : j < n
  ·obtain ⟨x, hx⟩ : ∃ x, els[j]? = some x := ⟨els[j]'(by rw [HNn.out]; exact hlt), List.getElem?_eq_getElem _⟩
   obtain ⟨g, rfl, _, hg, hce⟩ := (HO.out.keep hbw).at_ enL_len hx
   have HYes := hid (fun h : isLk l x = true => (lksJ_yes (l := l) hx h))
   have HNo := hid (fun h : isLk l x = false => (lksJ_no (l := l) hx h))
   have HSn := hid (sortK_snoc (lksJ l els j) (lkOf x))
   obtain ⟨xk, xa, xb, xc, xd⟩ := x
   have HCe := hid (show wo.rangeAt g (j * 5) [.int .i64 xk, .string xa, .string xb, .string xc, .string xd] from hce)
   have HAt := hid (at_El0 g c2 n j hlt wo)
   obtain ⟨q, hq⟩ : ∃ q, wo.heap.size = q := ⟨_, rfl⟩
   obtain ⟨X, hX⟩ : ∃ X, X = wo.alloc (.cells #[.int .i64 xk, .string xa, .string xb, .string xc, .string xd] 38) := ⟨_, rfl⟩
   have hbX : Below wo.heap.size wo X := by rw [hX]; exact (Below.refl _ _).alloc (Nat.le_refl _) _
   have hEX : Blk X q 38 #[.int .i64 xk, .string xa, .string xb, .string xc, .string xd] := by rw [hX, ← hq]; exact Blk.new _ _ _
   obtain ⟨b6, hb6⟩ : ∃ b6, X.heap.size = b6 := ⟨_, rfl⟩
   obtain ⟨Y, hY⟩ : ∃ Y, Y = X.alloc (.cells #[.string xa, .string xb, .string xc] 36) := ⟨_, rfl⟩
   have hbY : Below X.heap.size X Y := by rw [hY]; exact (Below.refl _ _).alloc (Nat.le_refl _) _
   have hKY : Blk Y b6 36 #[.string xa, .string xb, .string xc] := by rw [hY, ← hb6]; exact Blk.new _ _ _
   have hEY := hEX.below hbY hEX.lt
   have hboY : Below wo.heap.size wo Y := hbX.trans (hbY.mono hbX.size)
   have HbY := hid (hbw.trans (hboY.mono hbw.size))
   have HOY := hid (ho.keep hboY)
   have HW1 := hid (IntWalk.i64_in ((j : Int) + 1) (by have := HLen.out; omega))
   have HJ1 := hid (show ¬ 9223372036854775807 < j + 1 by have := HLen.out; omega)
   have c1 : X.cell? ⟨q, 1, none⟩ = some (.string xa) := (Blk.cell hEX 1).trans rfl
   have c2' : X.cell? ⟨q, 2, none⟩ = some (.string xb) := (Blk.cell hEX 2).trans rfl
   have c3' : X.cell? ⟨q, 3, none⟩ = some (.string xc) := (Blk.cell hEX 3).trans rfl
   have HEY := hid hEY
   have HKY := hid hKY
   have HXe := hid hX
   have HYe := hid hY
   have HQ := hid hq
   have HB6 := hid hb6
   have hz := (zero_of_info infoElG).1
   have hz2 := (zero_of_info infoKz).1
   clear hx hg hce hq hX hbX hEX hb6 hY hbY hKY hEY hboY hbw ho
   go_upto_region 5 with (first
    | (refine wpList_val (o := ⟨some 13, _, _, _, _, _⟩) rfl (.pointer (some ⟨g, j * 5, none⟩)) wo (run_indexAddr_op rfl rfl rfl HAt.out) ?_)
    | (refine wpList_load_midif rfl 38 (.tmp 13) rfl g (j * 5) rfl [.int .i64 xk, .string xa, .string xb, .string xc, .string xd] _ HCe.out Tryz.underlying38 rfl (by kernel_rfl) ?_)
    | fail)
   clear hz HAt HCe
   rw [HQ.out, ← HXe.out]
   go_upto_region 6 with fail
   clear hz2 c1 c2' c3'
   rw [HB6.out, ← HYe.out]
   have c0 : Y.cell? ⟨q, 0, none⟩ = some (.int .i64 xk) := (Blk.cell HEY.out 0).trans rfl
   by_cases h3 : xk = 3
   ·subst h3
    go_wp2_with (first
     | (refine' wpList_load_if ?q1 36 (.tmp 6) ?q2 b6 ?q3 _ _ _ _ ?q4 Tryz.underlying36 ?q5 ?q6 ?_; (case q2 => rfl); (case q1 => rfl); (case q3 => rfl); (case q4 => exact HKY.out); (case q5 => rfl); (case q6 => exact sizeK ⟨xa, xb, xc⟩))
     | fail)
    refine (HLk.out xa xb xc Y (HB1.out.trans (HbY.out.mono HB1.out.size))).mono ?_
    rintro e w5 ⟨rfl, hb5⟩
    have HB5 := hid hb5
    clear hb5 c0
    cases hq : linkG l ⟨xa, xb, xc⟩ with
    | false =>
     have HF := hid (HOY.out.keep HB5.out)
     rw [← HNo.out (by unfold isLk lkOf; simp only [hq]; decide)] at HF
     have HBF := hid (HbY.out.trans (HB5.out.mono HbY.out.size))
     have hw := HW1.out
     have hjm := HJ1.out
     clear hq
     go_wp2_with fail
     go_roundw
     case rel => exact ⟨j + 1, by go_num, by omega, HF.out, HBF.out⟩
     case measure => simp [intOf] <;> omega
    | true =>
     have hnx : sortK (lksJ l els (j + 1)) = insP (fun y => decide (cfK y ⟨xa, xb, xc⟩ < 0)) ⟨xa, xb, xc⟩ (sortK (lksJ l els j)) := by
      rw [HYes.out (by unfold isLk lkOf; simp only [hq]; decide)]; exact HSn.out
     obtain ⟨lk, hlk⟩ : ∃ lk : Lk, lk = ⟨xa, xb, xc⟩ := ⟨_, rfl⟩
     rw [← hlk] at hnx
     have hol0 : (sortK (lksJ l els j)).length ≤ j := by rw [(sortK_perm _).length_eq]; exact lksJ_len _ _ _
     obtain ⟨out, hout⟩ : ∃ out, sortK (lksJ l els j) = out := ⟨_, rfl⟩
     have hoy := HOY.out.keep HB5.out
     rw [hout] at hoy hnx hol0
     have HBK := hid (show ∀ W : World, Below w5.heap.size w5 W → Blk W b6 36 (lkC lk) from fun W h => by
      have h1 := HKY.out.below HB5.out HKY.out.lt
      rw [hlk]
      exact h1.below h h1.lt)
     obtain ⟨A3, c3, hv3, _, _⟩ := hoy.read enK_len
     subst hv3
     obtain ⟨m, hm⟩ : ∃ m, out.length = m := ⟨_, rfl⟩
     rw [hm] at hoy ⊢
     have HNx := hid hnx
     have HOl := hid hm
     have HM9 := hid (show m ≤ 10000 by have := HLen.out; omega)
     have hbY5 := HbY.out.trans (HB5.out.mono HbY.out.size)
     obtain ⟨kk, hkk⟩ : ∃ kk, (out.takeWhile fun y => decide (cfK y lk < 0)).length = kk := ⟨_, rfl⟩
     have HKk := hid hkk
     have HKm := hid (show kk ≤ m by rw [← hkk, ← hm]; exact tw_le _)
     have HKc := hid (show kk ≤ c3 by have := (hoy.read enK_len).len_; have := HKm.out; omega)
     clear HOY HbY
     have HOY := hid hoy
     have HbY := hid hbY5
     clear hnx hlk hol0 hout hoy hm hbY5 hkk hq HYes HNo HSn HEY HKY HLk HXe HYe HQ HB6 HB5
     go_wp2_with fail
     try simp only [Act.put]
     go_loopw [7] (fun v7 wr => ∃ a : Nat, v7 = .int .i64 a ∧ a ≤ kk ∧ Below w5.heap.size w5 wr) (fun v7 _ => kk - (intOf v7).toNat)
     case atStart => exact ⟨0, by first | rfl | simp, Nat.zero_le _, Below.refl _ _⟩
     case round =>
      obtain ⟨ai, rfl, hai, hbi⟩ := hrel
      obtain ⟨wi, rfl⟩ : ∃ wi, wi = wr := ⟨_, rfl⟩
      have HBi := hid hbi
      have hwa := IntWalk.i64_in ((ai : Int) + 1) (by have := HM9.out; have := HKm.out; omega)
      have HWa := hid hwa
      clear hbi hwa
      by_cases hak : ai < kk
      ·obtain ⟨y, hy, hpy⟩ := tw_at (p := fun y => decide (cfK y lk < 0)) out ai (by rw [HKk.out]; exact hak)
       have ham : ai < m := by have := HKm.out; omega
       obtain ⟨g3, rfl, _, hg3, he3⟩ := HOY.out.at_ enK_len hy
       have HY3 := hid (show ∀ W : World, Below w5.heap.size w5 W → W.rangeAt g3 (ai * 3) (enK y) from fun W h => rangeAt_below he3 hg3 h)
       have HFs := hid hpy
       clear hy hpy hg3 he3
       go_upto_region 8 with fail
       try simp only [Act.put]
       refine wp_region_any (by kernel_rfl) ?_
       refine wpAny_below (fun i uq _ => uq = ([.int .i64 (ai : Nat), .slice (some ⟨g3, 0, none⟩) m c3, .int .i64 m, .bool true, .bool true, .slice (some ⟨g3, 0, none⟩) m c3, .int .i64 (ai : Nat), .pointer (some ⟨g3, ai * 3, none⟩), eK y, eK lk, .bool true, .bool true] : List Value).getD i undef) _ wi (by kernel_rfl) (by kernel_rfl) (by kernel_rfl) (fun i v w w' _ h => h) ?_ ?_
       ·refine ⟨?_, ?_, ?_, ?_, ?_, ?_, ?_, ?_, ?_, ?_, ?_, ?_, trivial⟩
        ·intro a W hI hun haft hi
         have e7 := hun 7 (by kernel_rfl)
         exact b_same hi hI rfl _ (run_move_op rfl e7) rfl
        ·intro a W hI hun haft hi
         have e3 := hun 3 (by kernel_rfl)
         exact b_same hi hI rfl _ (run_move_op rfl e3) rfl
        ·intro a W hI hun haft hi
         have f1 := haft ⟨1, .data⟩ (by simp) rfl _ _ rfl rfl
         exact b_same hi hI rfl _ (run_len_op Tryz.underlying53 rfl f1) rfl
        ·intro a W hI hun haft hi
         have f0 : a.eval (.tmp 31) = .int .i64 (ai : Nat) := haft ⟨0, .data⟩ (by simp) rfl _ _ rfl rfl
         have f2 : a.eval (.tmp 33) = .int .i64 m := haft ⟨2, .data⟩ (by simp) rfl _ _ rfl rfl
         exact b_same hi hI rfl (.bool true) (run_bin_op rfl f0 f2 (by kernel_rfl) (run_ltn (decide_eq_true (by omega)) _)) rfl
        ·intro a W hI hun haft hi
         have f3 := haft ⟨3, .data⟩ (by simp) rfl _ _ rfl rfl
         exact b_same hi hI rfl _ (run_move_op rfl f3) rfl
        ·intro a W hI hun haft hi
         have fg := haft ⟨4, .guard⟩ (by simp) rfl _ _ rfl rfl
         have e3 := hun 3 (by kernel_rfl)
         exact b_same hi hI (guard_ok rfl rfl rfl fg) _ (run_move_op rfl e3) rfl
        ·intro a W hI hun haft hi
         have fg := haft ⟨4, .guard⟩ (by simp) rfl _ _ rfl rfl
         have e7 := hun 7 (by kernel_rfl)
         exact b_same hi hI (guard_ok rfl rfl rfl fg) _ (run_move_op rfl e7) rfl
        ·intro a W hI hun haft hi
         have fg := haft ⟨4, .guard⟩ (by simp) rfl _ _ rfl rfl
         have f5 := haft ⟨5, .data⟩ (by simp) rfl _ _ rfl rfl
         have f6 := haft ⟨6, .data⟩ (by simp) rfl _ _ rfl rfl
         exact b_same hi hI (guard_ok rfl rfl rfl fg) _ (run_indexAddr_op rfl f5 f6 (at_Lk0 g3 c3 m ai ham _)) rfl
        ·intro a W hI hun haft hi
         have fg : a.eval (.tmp 35) = .bool true := haft ⟨4, .guard⟩ (by simp) rfl _ _ rfl rfl
         have f7 : a.eval (.tmp 38) = .pointer (some ⟨g3, ai * 3, none⟩) := haft ⟨7, .data⟩ (by simp) rfl _ _ rfl rfl
         exact b_same hi hI (guard_ok rfl rfl rfl fg) _ (run_loadmid_op rfl f7 (HY3.out W (HBi.out.trans (hI.mono HBi.out.size))) Tryz.underlying36 rfl (by kernel_rfl)) rfl
        ·intro a W hI hun haft hi
         have fg : a.eval (.tmp 35) = .bool true := haft ⟨4, .guard⟩ (by simp) rfl _ _ rfl rfl
         have e6 : a.eval (.tmp 6) = .pointer (some ⟨b6, 0, none⟩) := hun 6 (by kernel_rfl)
         exact b_same hi hI (guard_ok rfl rfl rfl fg) _ (run_load_op rfl e6 (HBK.out W (HBi.out.trans (hI.mono HBi.out.size))) Tryz.underlying36 rfl (sizeK lk)) rfl
        ·intro a W hI hun haft hi
         have fg : a.eval (.tmp 35) = .bool true := haft ⟨4, .guard⟩ (by simp) rfl _ _ rfl rfl
         have f8 : a.eval (.tmp 39) = eK y := haft ⟨8, .data⟩ (by simp) rfl _ _ rfl rfl
         have f9 : a.eval (.tmp 40) = eK lk := haft ⟨9, .data⟩ (by simp) rfl _ _ rfl rfl
         refine b_call hi hI (guard_ok rfl rfl rfl fg) _ _ (run_call_op (args := #[eK y, eK lk]) rfl (by simp [f8, f9]) (by kernel_rfl)) ?_
         exact (lessK_is y lk true HFs.out W).mono fun e w' H => ⟨_, H.1, rfl, H.2⟩
        ·intro a W hI hun haft hi
         have f4 := haft ⟨4, .data⟩ (by simp) rfl _ _ rfl rfl
         have f10 := haft ⟨10, .data⟩ (by simp) rfl _ _ rfl rfl
         exact b_same hi hI rfl _ (run_pick_op (b := true) rfl f4 f10 rfl) rfl
       ·intro vals W hI hp
        have hl11 : vals 11 = .bool true := hp 11 (by decide)
        have HI := hid hI
        clear hp hI
        simp only [layN, layS, List.range, List.range.loop, if_true, Act.put, Nat.zero_add, Nat.reduceAdd, hl11]
        clear hl11
        have HBk := hid (HBi.out.trans (HI.out.mono HBi.out.size))
        have hw := HWa.out
        clear HI
        go_wp2
        go_roundw
        case rel => exact ⟨ai + 1, by go_num, by omega, HBk.out⟩
        case measure => simp [intOf] <;> omega
      ·have hae : ai = kk := by omega
       subst hae
       by_cases ham : ai < m
       ·obtain ⟨y, hy⟩ : ∃ y, out[ai]? = some y := ⟨out[ai]'(by rw [HOl.out]; exact ham), List.getElem?_eq_getElem _⟩
        have hpy := tw_end (p := fun y => decide (cfK y lk < 0)) out y (by rw [HKk.out]; exact hy)
        obtain ⟨g3, rfl, _, hg3, he3⟩ := HOY.out.at_ enK_len hy
        have HY3 := hid (show ∀ W : World, Below w5.heap.size w5 W → W.rangeAt g3 (ai * 3) (enK y) from fun W h => rangeAt_below he3 hg3 h)
        have HFs := hid hpy
        clear hy hpy hg3 he3
        go_upto_region 8 with fail
        try simp only [Act.put]
        refine wp_region_any (by kernel_rfl) ?_
        refine wpAny_below (fun i uq _ => uq = ([.int .i64 (ai : Nat), .slice (some ⟨g3, 0, none⟩) m c3, .int .i64 m, .bool true, .bool true, .slice (some ⟨g3, 0, none⟩) m c3, .int .i64 (ai : Nat), .pointer (some ⟨g3, ai * 3, none⟩), eK y, eK lk, .bool false, .bool false] : List Value).getD i undef) _ wi (by kernel_rfl) (by kernel_rfl) (by kernel_rfl) (fun i v w w' _ h => h) ?_ ?_
        ·refine ⟨?_, ?_, ?_, ?_, ?_, ?_, ?_, ?_, ?_, ?_, ?_, ?_, trivial⟩
         ·intro a W hI hun haft hi
          have e7 := hun 7 (by kernel_rfl)
          exact b_same hi hI rfl _ (run_move_op rfl e7) rfl
         ·intro a W hI hun haft hi
          have e3 := hun 3 (by kernel_rfl)
          exact b_same hi hI rfl _ (run_move_op rfl e3) rfl
         ·intro a W hI hun haft hi
          have f1 := haft ⟨1, .data⟩ (by simp) rfl _ _ rfl rfl
          exact b_same hi hI rfl _ (run_len_op Tryz.underlying53 rfl f1) rfl
         ·intro a W hI hun haft hi
          have f0 : a.eval (.tmp 31) = .int .i64 (ai : Nat) := haft ⟨0, .data⟩ (by simp) rfl _ _ rfl rfl
          have f2 : a.eval (.tmp 33) = .int .i64 m := haft ⟨2, .data⟩ (by simp) rfl _ _ rfl rfl
          exact b_same hi hI rfl (.bool true) (run_bin_op rfl f0 f2 (by kernel_rfl) (run_ltn (decide_eq_true (by omega)) _)) rfl
         ·intro a W hI hun haft hi
          have f3 := haft ⟨3, .data⟩ (by simp) rfl _ _ rfl rfl
          exact b_same hi hI rfl _ (run_move_op rfl f3) rfl
         ·intro a W hI hun haft hi
          have fg := haft ⟨4, .guard⟩ (by simp) rfl _ _ rfl rfl
          have e3 := hun 3 (by kernel_rfl)
          exact b_same hi hI (guard_ok rfl rfl rfl fg) _ (run_move_op rfl e3) rfl
         ·intro a W hI hun haft hi
          have fg := haft ⟨4, .guard⟩ (by simp) rfl _ _ rfl rfl
          have e7 := hun 7 (by kernel_rfl)
          exact b_same hi hI (guard_ok rfl rfl rfl fg) _ (run_move_op rfl e7) rfl
         ·intro a W hI hun haft hi
          have fg := haft ⟨4, .guard⟩ (by simp) rfl _ _ rfl rfl
          have f5 := haft ⟨5, .data⟩ (by simp) rfl _ _ rfl rfl
          have f6 := haft ⟨6, .data⟩ (by simp) rfl _ _ rfl rfl
          exact b_same hi hI (guard_ok rfl rfl rfl fg) _ (run_indexAddr_op rfl f5 f6 (at_Lk0 g3 c3 m ai ham _)) rfl
         ·intro a W hI hun haft hi
          have fg : a.eval (.tmp 35) = .bool true := haft ⟨4, .guard⟩ (by simp) rfl _ _ rfl rfl
          have f7 : a.eval (.tmp 38) = .pointer (some ⟨g3, ai * 3, none⟩) := haft ⟨7, .data⟩ (by simp) rfl _ _ rfl rfl
          exact b_same hi hI (guard_ok rfl rfl rfl fg) _ (run_loadmid_op rfl f7 (HY3.out W (HBi.out.trans (hI.mono HBi.out.size))) Tryz.underlying36 rfl (by kernel_rfl)) rfl
         ·intro a W hI hun haft hi
          have fg : a.eval (.tmp 35) = .bool true := haft ⟨4, .guard⟩ (by simp) rfl _ _ rfl rfl
          have e6 : a.eval (.tmp 6) = .pointer (some ⟨b6, 0, none⟩) := hun 6 (by kernel_rfl)
          exact b_same hi hI (guard_ok rfl rfl rfl fg) _ (run_load_op rfl e6 (HBK.out W (HBi.out.trans (hI.mono HBi.out.size))) Tryz.underlying36 rfl (sizeK lk)) rfl
         ·intro a W hI hun haft hi
          have fg : a.eval (.tmp 35) = .bool true := haft ⟨4, .guard⟩ (by simp) rfl _ _ rfl rfl
          have f8 : a.eval (.tmp 39) = eK y := haft ⟨8, .data⟩ (by simp) rfl _ _ rfl rfl
          have f9 : a.eval (.tmp 40) = eK lk := haft ⟨9, .data⟩ (by simp) rfl _ _ rfl rfl
          refine b_call hi hI (guard_ok rfl rfl rfl fg) _ _ (run_call_op (args := #[eK y, eK lk]) rfl (by simp [f8, f9]) (by kernel_rfl)) ?_
          exact (lessK_is y lk false HFs.out W).mono fun e w' H => ⟨_, H.1, rfl, H.2⟩
         ·intro a W hI hun haft hi
          have f4 := haft ⟨4, .data⟩ (by simp) rfl _ _ rfl rfl
          have f10 := haft ⟨10, .data⟩ (by simp) rfl _ _ rfl rfl
          exact b_same hi hI rfl _ (run_pick_op (b := true) rfl f4 f10 rfl) rfl
        ·intro vals W hI hp
         have hl11 : vals 11 = .bool false := hp 11 (by decide)
         have HI := hid hI
         clear hp hI
         simp only [layN, layS, List.range, List.range.loop, if_true, Act.put, Nat.zero_add, Nat.reduceAdd, hl11]
         clear hl11
         have HB9 := hid (HBi.out.trans (HI.out.mono HBi.out.size))
         have HO9 := hid (OwnK.keep HOY.out HB9.out)
         clear HI
         go_upto_region 10 with fail
         try simp only [Act.put]
         refine wp_region_any (by kernel_rfl) ?_
         obtain ⟨R9, hR9⟩ : ∃ R9, W.heap.size = R9 := ⟨_, rfl⟩
         have HR9 := hid hR9
         clear hR9
         refine Lt.wpAny_two puK (pSK R9 out (some ⟨g3, 0, none⟩) m c3 ai lk) _ W 7 11 _ _ _ (fun v' Wz => OwnK enK R9 36 3 Wz v' (out.take ai ++ [lk]) ∧ Below W.heap.size W Wz) (fun v' Wz => OwnK enK R9 36 3 Wz v' ((out.take ai ++ [lk]) ++ out.drop ai) ∧ Below W.heap.size W Wz)
          (by kernel_rfl) (by decide) rfl rfl rfl rfl (by kernel_rfl) (by kernel_rfl) (by kernel_rfl) (by kernel_rfl) (by kernel_rfl) (by kernel_rfl) (fun i v w w' hb h => pSK_keep hb h) pSK_pure ?_ ?_ ?_ ?_ ?_ ?_
         ·refine ⟨?_, ?_, ?_, ?_, ?_, ?_, ?_, ?_, ?_, ?_, ?_, ?_, ?_, trivial⟩
          ·intro _ _ _ a W hI hun haft hi
           exact b_val hi hI rfl _ _ (run_buildSlice_op (vs := #[]) rfl (by simp only [List.map_toArray, List.map_nil]) (bsNilK W)) ((Below.refl _ _).alloc (Nat.le_refl _) _) ⟨_, rfl, (own_emptyK W).base_ (by have := hI.size; have := HR9.out; omega)⟩
          ·exact fun _ _ h => absurd h (by decide)
          ·exact fun _ _ h => absurd h (by decide)
          ·exact fun _ _ h => absurd h (by decide)
          ·intro _ _ _ a W hI hun haft hi
           obtain ⟨gn, f0, hown⟩ : ∃ gn, a.eval (.tmp 45) = .slice (some ⟨gn, 0, none⟩) 0 0 ∧ OwnK enK R9 36 3 W (a.eval (.tmp 45)) [] := haft ⟨0, .data⟩ (by simp) rfl _ _ rfl rfl
           have f3 := haft ⟨3, .data⟩ (by simp) rfl _ _ rfl rfl
           rw [f0] at hown
           obtain ⟨v', w', hr, ho, hb⟩ := append_newK R9 W _ _ (((HO9.out.keep hI).read enK_len).hi ai HKm.out) (by have := HM9.out; have := HKm.out; rw [List.length_take]; omega) gn hown (by have := hI.size; have := HR9.out; omega)
           exact b_val hi hI rfl _ _ (run_append_op rfl f0 f3 hr) hb ho
          ·intro _ _ _ a W hI hun haft hi
           have e6 : a.eval (.tmp 6) = .pointer (some ⟨b6, 0, none⟩) := hun 6 (by kernel_rfl)
           exact b_same hi hI rfl _ (run_load_op rfl e6 (HBK.out W (HB9.out.trans (hI.mono HB9.out.size))) Tryz.underlying36 rfl (sizeK lk)) rfl
          ·intro _ _ _ a W hI hun haft hi
           have f5 : a.eval (.tmp 50) = eK lk := haft ⟨5, .data⟩ (by simp) rfl _ _ rfl rfl
           exact b_val hi hI rfl _ _ (run_buildSlice_op (vs := #[(0, eK lk)]) rfl (by simp only [List.map_toArray, List.map_cons, List.map_nil, f5]) (bs_K lk W)) ((Below.refl _ _).alloc (Nat.le_refl _) _) (sl_Kn lk W)
          ·exact fun _ h => absurd rfl h
          ·exact fun _ _ h => absurd h (by decide)
          ·exact fun _ _ h => absurd h (by decide)
          ·exact fun _ _ h => absurd h (by decide)
          ·exact fun h => absurd h (Nat.lt_irrefl _)
          ·exact fun h => absurd h (by decide)
         ·refine ⟨?_, ?_, ?_, ?_, ?_, ?_, ?_, ?_, ?_, ?_, ?_, ?_, ?_, trivial⟩
          ·exact fun _ h => absurd h (by decide)
          ·intro _ _ a W hun haft hi
           have e3 := hun 3 (by kernel_rfl)
           exact wpOp_val hi rfl _ _ (run_move_op rfl e3) ⟨_, rfl, rfl, rfl⟩
          ·intro _ _ a W hun haft hi
           have e7 := hun 7 (by kernel_rfl)
           exact wpOp_val hi rfl _ _ (run_move_op rfl e7) ⟨_, rfl, rfl, rfl⟩
          ·intro _ _ a W hun haft hi
           have f1 := haft ⟨1, .data⟩ (by simp) rfl rfl _ _ rfl rfl
           have f2 := haft ⟨2, .data⟩ (by simp) rfl rfl _ _ rfl rfl
           exact wpOp_val hi rfl _ _ (run_slhi_op rfl f1 f2 (run_sliceK_hi W _ _ Tryz.underlying53 (sizeK lk) _ _ _ _ HKc.out)) ⟨_, rfl, rfl, rfl⟩
          ·exact fun _ h => absurd h (by decide)
          ·exact fun _ h => absurd h (by decide)
          ·exact fun _ h => absurd h (by decide)
          ·exact fun _ h => absurd h (by decide)
          ·intro _ _ a W hun haft hi
           have e3 := hun 3 (by kernel_rfl)
           exact wpOp_val hi rfl _ _ (run_move_op rfl e3) ⟨_, rfl, rfl, rfl⟩
          ·intro _ _ a W hun haft hi
           have e7 := hun 7 (by kernel_rfl)
           exact wpOp_val hi rfl _ _ (run_move_op rfl e7) ⟨_, rfl, rfl, rfl⟩
          ·intro _ _ a W hun haft hi
           have f8 := haft ⟨8, .data⟩ (by simp) rfl rfl _ _ rfl rfl
           have f9 := haft ⟨9, .data⟩ (by simp) rfl rfl _ _ rfl rfl
           exact wpOp_val hi rfl _ _ (run_sllo_op rfl f8 f9 (run_sliceK_lo W _ _ Tryz.underlying53 (sizeK lk) _ _ _ _ HKm.out)) ⟨_, rfl, rfl, rfl⟩
          ·exact fun h => absurd h (Nat.lt_irrefl _)
          ·exact fun h => absurd h (by decide)
         ·intro a W hI hun haft
          have f4 : OwnK enK R9 36 3 W (a.eval (.tmp 49)) (out.take ai) := haft ⟨4, .data⟩ (by simp) rfl _ _ rfl rfl
          have f6 : SlK enK 3 W (a.eval (.tmp 51)) [lk] := haft ⟨6, .data⟩ (by simp) rfl _ _ rfl rfl
          have hR9 : R9 ≤ W.heap.size := by have := hI.size; have := HR9.out; omega
          obtain ⟨v', w', hr, ho, hgr, _⟩ := append_lk R9 W _ _ f4 _ _ f6 (by have := HM9.out; have := HKm.out; simp; omega) hR9
          exact wpOp_val rfl rfl v' w' (run_append_op rfl rfl rfl hr) ⟨v', rfl, ho, hI.grown hgr (by have := hI.size; omega) (fun q e => by have := (f4.lt q e).1; have := HR9.out; omega)⟩
         ·intro vals a W hJ hsl hp
          obtain ⟨ho7, hI7⟩ := hJ
          have f10 : a.eval (.tmp 55) = .slice (slK (some ⟨g3, 0, none⟩) c3 ai 3) (m - ai) (c3 - ai) := (hsl 10 _ _ rfl (by decide) rfl).trans (hp 10 (by decide) (by decide))
          have f7 : a.eval (.tmp 52) = vals 7 := hsl 7 _ _ rfl (by decide) rfl
          rw [← f7] at ho7
          have hR9 : R9 ≤ W.heap.size := by have := hI7.size; have := HR9.out; omega
          obtain ⟨v', w', hr, ho, hgr, _⟩ := append_lk R9 W _ _ ho7 _ _ (((HO9.out.keep hI7).read enK_len).lo ai HKm.out) (by have := HM9.out; have := HOl.out; have := HKm.out; simp; omega) hR9
          exact wpOp_val rfl rfl v' w' (run_append_op rfl rfl f10 hr) ⟨v', rfl, ho, hI7.grown hgr (by have := hI7.size; omega) (fun q e => by have := (ho7.lt q e).1; have := HR9.out; omega)⟩
         ·intro v a W hJ hs
          have f11 : a.eval (.tmp 56) = v := hs 56 rfl
          exact wpOp_val rfl rfl v W (run_assign_op rfl f11) ⟨v, rfl, rfl, hJ⟩
         ·rintro vals Wq ⟨hv1, hv2⟩
          have HV1 := hid hv1
          have HV2 := hid hv2
          obtain ⟨v3', hv3⟩ : ∃ v3', vals 12 = v3' := ⟨_, rfl⟩
          rw [hv3] at HV1
          have HV3 := hid hv3
          clear hv1 hv2 hv3
          simp only [layN, layS, List.range, List.range.loop, if_true, Act.put, Nat.zero_add, Nat.reduceAdd, HV3.out]
          have HBE := hid (show Below w1.heap.size w1 Wq from HbY.out.trans ((HB9.out.trans (HV2.out.mono HB9.out.size)).mono HbY.out.size))
          have HOE := hid (show OwnK enK p 36 3 Wq v3' (sortK (lksJ l els (j + 1))) by
           rw [HNx.out, insP_at, HKk.out]
           exact HV1.out.base_ (by have := HR9.out; have := HP1.out; have := HB9.out.size; have := HbY.out.size; omega))
          have hw := HW1.out
          have hjm := HJ1.out
          go_wp2
          go_roundw
          case rel => exact ⟨j + 1, by go_num, by omega, HOE.out, HBE.out⟩
          case measure => simp [intOf] <;> omega
       ·have ham2 : m ≤ ai := by omega
        go_upto_region 8 with fail
        try simp only [Act.put]
        refine wp_region_any (by kernel_rfl) ?_
        refine wpAny_below (fun i uq _ => uq = ([.int .i64 (ai : Nat), .slice A3 m c3, .int .i64 m, .bool false, .bool false, undef, undef, undef, undef, undef, undef, .bool false] : List Value).getD i undef) _ wi (by kernel_rfl) (by kernel_rfl) (by kernel_rfl) (fun i v w w' _ h => h) ?_ ?_
        ·refine ⟨?_, ?_, ?_, ?_, ?_, ?_, ?_, ?_, ?_, ?_, ?_, ?_, trivial⟩
         ·intro a W hI hun haft hi
          have e7 := hun 7 (by kernel_rfl)
          exact b_same hi hI rfl _ (run_move_op rfl e7) rfl
         ·intro a W hI hun haft hi
          have e3 := hun 3 (by kernel_rfl)
          exact b_same hi hI rfl _ (run_move_op rfl e3) rfl
         ·intro a W hI hun haft hi
          have f1 := haft ⟨1, .data⟩ (by simp) rfl _ _ rfl rfl
          exact b_same hi hI rfl _ (run_len_op Tryz.underlying53 rfl f1) rfl
         ·intro a W hI hun haft hi
          have f0 : a.eval (.tmp 31) = .int .i64 (ai : Nat) := haft ⟨0, .data⟩ (by simp) rfl _ _ rfl rfl
          have f2 : a.eval (.tmp 33) = .int .i64 m := haft ⟨2, .data⟩ (by simp) rfl _ _ rfl rfl
          exact b_same hi hI rfl (.bool false) (run_bin_op rfl f0 f2 (by kernel_rfl) (run_ltn (decide_eq_false (by omega)) _)) rfl
         ·intro a W hI hun haft hi
          have f3 := haft ⟨3, .data⟩ (by simp) rfl _ _ rfl rfl
          exact b_same hi hI rfl _ (run_move_op rfl f3) rfl
         ·intro a W hI hun haft hi
          have fg : a.eval (.tmp 35) = .bool false := haft ⟨4, .guard⟩ (by simp) rfl _ _ rfl rfl
          exact b_skip hi hI (guard_no rfl rfl rfl (.inl fg)) rfl
         ·intro a W hI hun haft hi
          have fg : a.eval (.tmp 35) = .bool false := haft ⟨4, .guard⟩ (by simp) rfl _ _ rfl rfl
          exact b_skip hi hI (guard_no rfl rfl rfl (.inl fg)) rfl
         ·intro a W hI hun haft hi
          have fg : a.eval (.tmp 35) = .bool false := haft ⟨4, .guard⟩ (by simp) rfl _ _ rfl rfl
          exact b_skip hi hI (guard_no rfl rfl rfl (.inl fg)) rfl
         ·intro a W hI hun haft hi
          have fg : a.eval (.tmp 35) = .bool false := haft ⟨4, .guard⟩ (by simp) rfl _ _ rfl rfl
          exact b_skip hi hI (guard_no rfl rfl rfl (.inl fg)) rfl
         ·intro a W hI hun haft hi
          have fg : a.eval (.tmp 35) = .bool false := haft ⟨4, .guard⟩ (by simp) rfl _ _ rfl rfl
          exact b_skip hi hI (guard_no rfl rfl rfl (.inl fg)) rfl
         ·intro a W hI hun haft hi
          have fg : a.eval (.tmp 35) = .bool false := haft ⟨4, .guard⟩ (by simp) rfl _ _ rfl rfl
          exact b_skip hi hI (guard_no rfl rfl rfl (.inl fg)) rfl
         ·intro a W hI hun haft hi
          have f4 := haft ⟨4, .data⟩ (by simp) rfl _ _ rfl rfl
          have f10 := haft ⟨10, .data⟩ (by simp) rfl _ _ rfl rfl
          exact b_same hi hI rfl _ (run_pick_op (b := false) rfl f4 f10 rfl) rfl
        ·intro vals W hI hp
         have hl11 : vals 11 = .bool false := hp 11 (by decide)
         have HI := hid hI
         clear hp hI
         simp only [layN, layS, List.range, List.range.loop, if_true, Act.put, Nat.zero_add, Nat.reduceAdd, hl11]
         clear hl11
         have HB9 := hid (HBi.out.trans (HI.out.mono HBi.out.size))
         have HO9 := hid (OwnK.keep HOY.out HB9.out)
         clear HI
         go_upto_region 10 with fail
         try simp only [Act.put]
         refine wp_region_any (by kernel_rfl) ?_
         obtain ⟨R9, hR9⟩ : ∃ R9, W.heap.size = R9 := ⟨_, rfl⟩
         have HR9 := hid hR9
         clear hR9
         refine Lt.wpAny_two puK (pSK R9 out A3 m c3 ai lk) _ W 7 11 _ _ _ (fun v' Wz => OwnK enK R9 36 3 Wz v' (out.take ai ++ [lk]) ∧ Below W.heap.size W Wz) (fun v' Wz => OwnK enK R9 36 3 Wz v' ((out.take ai ++ [lk]) ++ out.drop ai) ∧ Below W.heap.size W Wz)
          (by kernel_rfl) (by decide) rfl rfl rfl rfl (by kernel_rfl) (by kernel_rfl) (by kernel_rfl) (by kernel_rfl) (by kernel_rfl) (by kernel_rfl) (fun i v w w' hb h => pSK_keep hb h) pSK_pure ?_ ?_ ?_ ?_ ?_ ?_
         ·refine ⟨?_, ?_, ?_, ?_, ?_, ?_, ?_, ?_, ?_, ?_, ?_, ?_, ?_, trivial⟩
          ·intro _ _ _ a W hI hun haft hi
           exact b_val hi hI rfl _ _ (run_buildSlice_op (vs := #[]) rfl (by simp only [List.map_toArray, List.map_nil]) (bsNilK W)) ((Below.refl _ _).alloc (Nat.le_refl _) _) ⟨_, rfl, (own_emptyK W).base_ (by have := hI.size; have := HR9.out; omega)⟩
          ·exact fun _ _ h => absurd h (by decide)
          ·exact fun _ _ h => absurd h (by decide)
          ·exact fun _ _ h => absurd h (by decide)
          ·intro _ _ _ a W hI hun haft hi
           obtain ⟨gn, f0, hown⟩ : ∃ gn, a.eval (.tmp 45) = .slice (some ⟨gn, 0, none⟩) 0 0 ∧ OwnK enK R9 36 3 W (a.eval (.tmp 45)) [] := haft ⟨0, .data⟩ (by simp) rfl _ _ rfl rfl
           have f3 := haft ⟨3, .data⟩ (by simp) rfl _ _ rfl rfl
           rw [f0] at hown
           obtain ⟨v', w', hr, ho, hb⟩ := append_newK R9 W _ _ (((HO9.out.keep hI).read enK_len).hi ai HKm.out) (by have := HM9.out; have := HKm.out; rw [List.length_take]; omega) gn hown (by have := hI.size; have := HR9.out; omega)
           exact b_val hi hI rfl _ _ (run_append_op rfl f0 f3 hr) hb ho
          ·intro _ _ _ a W hI hun haft hi
           have e6 : a.eval (.tmp 6) = .pointer (some ⟨b6, 0, none⟩) := hun 6 (by kernel_rfl)
           exact b_same hi hI rfl _ (run_load_op rfl e6 (HBK.out W (HB9.out.trans (hI.mono HB9.out.size))) Tryz.underlying36 rfl (sizeK lk)) rfl
          ·intro _ _ _ a W hI hun haft hi
           have f5 : a.eval (.tmp 50) = eK lk := haft ⟨5, .data⟩ (by simp) rfl _ _ rfl rfl
           exact b_val hi hI rfl _ _ (run_buildSlice_op (vs := #[(0, eK lk)]) rfl (by simp only [List.map_toArray, List.map_cons, List.map_nil, f5]) (bs_K lk W)) ((Below.refl _ _).alloc (Nat.le_refl _) _) (sl_Kn lk W)
          ·exact fun _ h => absurd rfl h
          ·exact fun _ _ h => absurd h (by decide)
          ·exact fun _ _ h => absurd h (by decide)
          ·exact fun _ _ h => absurd h (by decide)
          ·exact fun h => absurd h (Nat.lt_irrefl _)
          ·exact fun h => absurd h (by decide)
         ·refine ⟨?_, ?_, ?_, ?_, ?_, ?_, ?_, ?_, ?_, ?_, ?_, ?_, ?_, trivial⟩
          ·exact fun _ h => absurd h (by decide)
          ·intro _ _ a W hun haft hi
           have e3 := hun 3 (by kernel_rfl)
           exact wpOp_val hi rfl _ _ (run_move_op rfl e3) ⟨_, rfl, rfl, rfl⟩
          ·intro _ _ a W hun haft hi
           have e7 := hun 7 (by kernel_rfl)
           exact wpOp_val hi rfl _ _ (run_move_op rfl e7) ⟨_, rfl, rfl, rfl⟩
          ·intro _ _ a W hun haft hi
           have f1 := haft ⟨1, .data⟩ (by simp) rfl rfl _ _ rfl rfl
           have f2 := haft ⟨2, .data⟩ (by simp) rfl rfl _ _ rfl rfl
           exact wpOp_val hi rfl _ _ (run_slhi_op rfl f1 f2 (run_sliceK_hi W _ _ Tryz.underlying53 (sizeK lk) _ _ _ _ HKc.out)) ⟨_, rfl, rfl, rfl⟩
          ·exact fun _ h => absurd h (by decide)
          ·exact fun _ h => absurd h (by decide)
          ·exact fun _ h => absurd h (by decide)
          ·exact fun _ h => absurd h (by decide)
          ·intro _ _ a W hun haft hi
           have e3 := hun 3 (by kernel_rfl)
           exact wpOp_val hi rfl _ _ (run_move_op rfl e3) ⟨_, rfl, rfl, rfl⟩
          ·intro _ _ a W hun haft hi
           have e7 := hun 7 (by kernel_rfl)
           exact wpOp_val hi rfl _ _ (run_move_op rfl e7) ⟨_, rfl, rfl, rfl⟩
          ·intro _ _ a W hun haft hi
           have f8 := haft ⟨8, .data⟩ (by simp) rfl rfl _ _ rfl rfl
           have f9 := haft ⟨9, .data⟩ (by simp) rfl rfl _ _ rfl rfl
           exact wpOp_val hi rfl _ _ (run_sllo_op rfl f8 f9 (run_sliceK_lo W _ _ Tryz.underlying53 (sizeK lk) _ _ _ _ HKm.out)) ⟨_, rfl, rfl, rfl⟩
          ·exact fun h => absurd h (Nat.lt_irrefl _)
          ·exact fun h => absurd h (by decide)
         ·intro a W hI hun haft
          have f4 : OwnK enK R9 36 3 W (a.eval (.tmp 49)) (out.take ai) := haft ⟨4, .data⟩ (by simp) rfl _ _ rfl rfl
          have f6 : SlK enK 3 W (a.eval (.tmp 51)) [lk] := haft ⟨6, .data⟩ (by simp) rfl _ _ rfl rfl
          have hR9 : R9 ≤ W.heap.size := by have := hI.size; have := HR9.out; omega
          obtain ⟨v', w', hr, ho, hgr, _⟩ := append_lk R9 W _ _ f4 _ _ f6 (by have := HM9.out; have := HKm.out; simp; omega) hR9
          exact wpOp_val rfl rfl v' w' (run_append_op rfl rfl rfl hr) ⟨v', rfl, ho, hI.grown hgr (by have := hI.size; omega) (fun q e => by have := (f4.lt q e).1; have := HR9.out; omega)⟩
         ·intro vals a W hJ hsl hp
          obtain ⟨ho7, hI7⟩ := hJ
          have f10 : a.eval (.tmp 55) = .slice (slK A3 c3 ai 3) (m - ai) (c3 - ai) := (hsl 10 _ _ rfl (by decide) rfl).trans (hp 10 (by decide) (by decide))
          have f7 : a.eval (.tmp 52) = vals 7 := hsl 7 _ _ rfl (by decide) rfl
          rw [← f7] at ho7
          have hR9 : R9 ≤ W.heap.size := by have := hI7.size; have := HR9.out; omega
          obtain ⟨v', w', hr, ho, hgr, _⟩ := append_lk R9 W _ _ ho7 _ _ (((HO9.out.keep hI7).read enK_len).lo ai HKm.out) (by have := HM9.out; have := HOl.out; have := HKm.out; simp; omega) hR9
          exact wpOp_val rfl rfl v' w' (run_append_op rfl rfl f10 hr) ⟨v', rfl, ho, hI7.grown hgr (by have := hI7.size; omega) (fun q e => by have := (ho7.lt q e).1; have := HR9.out; omega)⟩
         ·intro v a W hJ hs
          have f11 : a.eval (.tmp 56) = v := hs 56 rfl
          exact wpOp_val rfl rfl v W (run_assign_op rfl f11) ⟨v, rfl, rfl, hJ⟩
         ·rintro vals Wq ⟨hv1, hv2⟩
          have HV1 := hid hv1
          have HV2 := hid hv2
          obtain ⟨v3', hv3⟩ : ∃ v3', vals 12 = v3' := ⟨_, rfl⟩
          rw [hv3] at HV1
          have HV3 := hid hv3
          clear hv1 hv2 hv3
          simp only [layN, layS, List.range, List.range.loop, if_true, Act.put, Nat.zero_add, Nat.reduceAdd, HV3.out]
          have HBE := hid (show Below w1.heap.size w1 Wq from HbY.out.trans ((HB9.out.trans (HV2.out.mono HB9.out.size)).mono HbY.out.size))
          have HOE := hid (show OwnK enK p 36 3 Wq v3' (sortK (lksJ l els (j + 1))) by
           rw [HNx.out, insP_at, HKk.out]
           exact HV1.out.base_ (by have := HR9.out; have := HP1.out; have := HB9.out.size; have := HbY.out.size; omega))
          have hw := HW1.out
          have hjm := HJ1.out
          go_wp2
          go_roundw
          case rel => exact ⟨j + 1, by go_num, by omega, HOE.out, HBE.out⟩
          case measure => simp [intOf] <;> omega
   ·have hd : (xk != 3) = true := by simpa using h3
    have HF := HOY
    rw [← HNo.out (by show (decide (xk = 3) && _) = false; rw [decide_eq_false h3]; rfl)] at HF
    have hw := HW1.out
    have hjm := HJ1.out
    clear h3
    go_wp2_with fail
    go_roundw
    case rel => exact ⟨j + 1, by go_num, by omega, HF.out, HbY.out⟩
    case measure => simp [intOf] <;> omega
  ·go_wp2_with fail
   go_ret
   have hjN : j = n := by omega
   rw [hjN, lksJ_all l els HNn.out] at ho
   exact ⟨_, rfl, by rw [HP.out]; exact ho, HB1.out.trans (hbw.mono HB1.out.size)⟩
end Go.Proofs.YtdgglhlofnigkaaGreatDoor
