/- hedgerowref08.Values. -/import Derived.Test.YtdgglhlofnigkaaGreatDoorGrAsk
namespace Go.Proofs.YtdgglhlofnigkaaGreatDoor
open Lib (hid)
open Go.RowKit Go.MapKept Go.Sort
theorem infoVR : ∃ i, Tryz.prog.info? 43 = some i ∧ i.zero = some (.agg #[.int .i64 0, .int .i64 0, .string ⟨#[]⟩]) ∧ i.size = 3 ∧ i.bytes = 32 := info_parts infoW
theorem append_vR (R : Nat) (w : World) (v : Value) (xs : List Va) (hown : OwnK enW R 43 3 w v xs) (v2 : Value) (l : List Va) (hl : SlK enW 3 w v2 l) (hn : xs.length + l.length ≤ 1000000) (hR : R ≤ w.heap.size) :
  ∃ v' w', (Builtin.append_ #[39, 39] 39 #[v, v2]).run Tryz.prog w = .ok v' w' ∧ OwnK enW R 43 3 w' v' (xs ++ l) ∧ w.grownBy w' v.ownBlock ∧ (v'.ownBlock = v.ownBlock ∨ (Below w.heap.size w w' ∧ ∀ g, v'.ownBlock = some g → w.heap.size ≤ g)) := by
 obtain ⟨i, hi, hz0, hz1, hz2⟩ := infoVR
 exact run_append_at (P := Tryz.prog) enW_len (by decide) R w 39 39 43 i _ 32 Tryz.underlying39 hi hz0 hz1 hz2 rfl v xs hown v2 l hl (fun e => enW_one e) (by omega) (by omega) hR
theorem bsNilR (w : World) : (Instr.buildSlice 39 0 #[]).run Tryz.prog w = .ok (.slice (some ⟨w.heap.size, 0, none⟩) 0 0) (w.alloc (.cells #[] 43)) := by
 go_simp
theorem own_emptyR (w : World) : OwnK enW w.heap.size 43 3 (w.alloc (.cells #[] 43)) (.slice (some ⟨w.heap.size, 0, none⟩) 0 0) [] :=
 ⟨by simp, .inr ⟨w.heap.size, 0, #[], rfl, Nat.le_refl _, heap_alloc_new w _, Nat.le_refl _, Nat.zero_le _, by simp, by simp⟩⟩
theorem append_newR (R : Nat) (w : World) (v2 : Value) (l : List Va) (hl : SlK enW 3 w v2 l) (hn : l.length ≤ 1000000) (g : Nat) (hg : OwnK enW R 43 3 w (.slice (some ⟨g, 0, none⟩) 0 0) []) (hR : R ≤ w.heap.size) :
  ∃ v' w', (Builtin.append_ #[39, 39] 39 #[.slice (some ⟨g, 0, none⟩) 0 0, v2]).run Tryz.prog w = .ok v' w' ∧ OwnK enW R 43 3 w' v' l ∧ Below w.heap.size w w' := by
 obtain ⟨i, hi, hz0, hz1, hz2⟩ := infoVR
 obtain ⟨A, c, rfl, hlc, hx⟩ := hl
 by_cases hn0 : l = []
 ·subst hn0
  refine ⟨.slice (some ⟨g, 0, none⟩) 0 0, w, ?_, hg, Below.refl _ _⟩
  rcases A with _ | ad
  ·simp [Builtin.append_, run_underlying Tryz.underlying39, sizeOf, typeInfo, hi, Builtin.lenOf, Builtin.firstCells, storeCells]
  ·have hf := run_firstCells_some (P := Tryz.prog) w i.size 0 ad 0 c [] (by simp) (by simp)
   simp [Builtin.append_, run_underlying Tryz.underlying39, sizeOf, typeInfo, hi, Builtin.lenOf, hf, storeCells]
 ·obtain ⟨b, o, rfl, hb, hcell⟩ := hx hn0
  have hpos := List.length_pos_iff.2 hn0
  obtain ⟨v', w', hr, ho, hg2⟩ := run_append_arg_grows (P := Tryz.prog) w 39 39 43 i _ 3 32 Tryz.underlying39 hi hz0 hz1 hz2 rfl (by decide) ⟨g, 0, none⟩ 0 0 [] (by simp)
   (fun j u hu => by simp at hu) ⟨b, o, none⟩ l.length c (l.flatMap enW) (flat_length enW_len l) (flat_cells enW_len (by decide) hcell) (by omega) (by unfold maxLen; omega) (by omega)
  have ho' : OwnK enW w.heap.size 43 3 w' v' l := by
   unfold OwnK; simpa using ho
  exact ⟨v', w', hr, ho'.base_ hR, ⟨hg2.os, hg2.tape, hg2.output, hg2.size, fun k hk => hg2.block k hk (by simp)⟩⟩
theorem sizeVR (_ : Va) : (Tryz.prog.info? 43).map (·.size) = some 3 := by kernel_rfl
theorem bsVR (x : Va) (w : World) : (Instr.buildSlice 39 1 #[(0, eV x)]).run Tryz.prog w = .ok (.slice (some ⟨w.heap.size, 0, none⟩) 1 1) (w.alloc (.cells (enW x).toArray 43)) := by
 unfold eV valV enW; go_simp
theorem sl_oneR (x : Va) (w : World) : SlK enW 3 (w.alloc (.cells (enW x).toArray 43)) (.slice (some ⟨w.heap.size, 0, none⟩) 1 1) [x] := ⟨_, _, rfl, Nat.le_refl _, fun _ => ⟨w.heap.size, 0, rfl, by simp, fun q y hq => by
 have hq0 : q = 0 := by have := (List.getElem?_eq_some_iff.1 hq).1; simp at this; exact this
 subst hq0
 have hy : y = x := by simpa using hq.symm
 subst hy
 intro i u hu
 rw [Blk.cell (Blk.new w _ _)]
 simpa using hu⟩⟩
theorem at_Va0 (g c n k : Nat) (h : k < n) (w : World) : (Instr.indexAt 39 (.slice (some ⟨g, 0, none⟩) n c) (.int .i64 k)).run Tryz.prog w = .ok (.pointer (some ⟨g, k * 3, none⟩)) w := by
 have h2 : (k : Int) < n := by omega
 go_simp
def pSV (R : Nat) (out : List Va) (A : Option Addr) (n c k : Nat) (e : Va) (bq : Nat) (i : Nat) (v : Value) (w : World) : Prop :=
 match i with
 | 0 => ∃ g, v = .slice (some ⟨g, 0, none⟩) 0 0 ∧ OwnK enW R 43 3 w v []
 | 1 => v = .slice A n c
 | 2 => v = .int .i64 (k : Nat)
 | 3 => v = .slice (slK A c 0 3) k c
 | 4 => OwnK enW R 43 3 w v (out.take k)
 | 5 => v = .pointer (some ⟨bq, 24, none⟩)
 | 6 => v = eV e
 | 7 => SlK enW 3 w v [e]
 | 9 => v = .slice A n c
 | 10 => v = .int .i64 (k : Nat)
 | 11 => v = .slice (slK A c k 3) (n - k) (c - k)
 | _ => True
theorem pSV_keep {R : Nat} {out : List Va} {A : Option Addr} {n c k : Nat} {e : Va} {bq : Nat} {i : Nat} {v : Value} {w w' : World} (hb : Below w.heap.size w w') (h : pSV R out A n c k e bq i v w) : pSV R out A n c k e bq i v w' := by
 unfold pSV at *
 split at h
 ·obtain ⟨g, h1, h2⟩ := h; exact ⟨g, h1, h2.keep hb⟩
 ·exact h
 ·exact h
 ·exact h
 ·exact OwnK.keep h hb
 ·exact h
 ·exact h
 ·exact SlK.below h hb
 ·exact h
 ·exact h
 ·exact h
 ·trivial
def puV (i : Nat) : Bool := [1, 2, 3, 9, 10, 11].contains i
theorem pSV_pure {R : Nat} {out : List Va} {A : Option Addr} {n c k : Nat} {e : Va} {bq : Nat} (i : Nat) (v : Value) (w w' : World) (hp : puV i = true) (h : pSV R out A n c k e bq i v w) : pSV R out A n c k e bq i v w' := by
 unfold puV at hp
 simp only [List.contains_iff_mem, List.mem_cons, List.not_mem_nil, or_false] at hp
 rcases hp with rfl | rfl | rfl | rfl | rfl | rfl <;> exact h
theorem ne_VR {x y : Va} {q : Bool} (h : decide (x = y) = q) (w : World) : (binOp .neq 43 (eV x) (eV y)).run Tryz.prog w = .ok (.bool (!q)) w := by
 have h1 := equal_V w x y
 rw [h] at h1
 unfold eV valV at h1 ⊢
 simp only [binOp, Sem.run_bind]
 rw [h1]
 simp only [Result.andThen_ok, Sem.run_pure]
theorem run_lti {a : Int} {q : Bool} (h : decide (a < 0) = q) (w : World) : (binOp .lss 3 (.int .i64 a) (.int .i64 0)).run Tryz.prog w = .ok (.bool q) w := by subst h; go_simp
theorem addC_at {x : Va} {out : List Va} {kk : Nat} (hk : (out.takeWhile fun y => decide (cfV y x < 0)).length = kk) : addC cfV x out = if out[kk]? = some x then out else (out.take kk ++ [x]) ++ out.drop kk := by
 unfold addC
 rw [← tw_drop, insP_at, hk, List.head?_drop]
def valsR (l : List Ev) (x : El) : List Va := if decide (4 ≤ x.k) && seenG l x then riseC cfV ((liveL l x).map vaOf) else []
set_option maxRecDepth 100000 in
set_option maxHeartbeats 4000000 in
theorem values8_any (x : El) (l : List Ev) (A : Option Addr) (N c : Nat) (w : World) (hs : SlK encE 27 w (.slice A N c) l) (hN : l.length = N) (hN2 : N ≤ 10000) (hok : ∀ e ∈ l, okB e = true) (hle : ∀ e ∈ l, Lens e) :
  Calls Tryz.prog 17 #[.slice A N c, eE x] w fun e w' => ∃ v, e = .returned v ∧ OwnK enW w.heap.size 43 3 w' v (valsR l x) ∧ Below w.heap.size w w' := by
 obtain ⟨p, hp⟩ : ∃ p, w.heap.size = p := ⟨_, rfl⟩
 obtain ⟨X, hX⟩ : ∃ X, X = w.alloc (.cells #[.int .i64 x.k, .string x.a, .string x.b, .string x.c, .string x.d] 38) := ⟨_, rfl⟩
 have hb : Below w.heap.size w X := by rw [hX]; exact (Below.refl _ _).alloc (Nat.le_refl _) _
 have hE : Blk X p 38 #[.int .i64 x.k, .string x.a, .string x.b, .string x.c, .string x.d] := by rw [hX, ← hp]; exact Blk.new w _ _
 have c0 : X.cell? ⟨p, 0, none⟩ = some (.int .i64 x.k) := (Blk.cell hE 0).trans rfl
 have HSeen := hid (show Calls Tryz.prog 45 #[.slice A N c, .agg #[.int .i64 x.k, .string x.a, .string x.b, .string x.c, .string x.d]] X (Gives X (.bool (seenG l x))) from seen8_any x l A N c X (hs.below hb) hN hN2 hok)
 have HLv := hid (show ∀ W, Below X.heap.size X W → Calls Tryz.prog 46 #[.slice A N c, .agg #[.int .i64 x.k, .string x.a, .string x.b, .string x.c, .string x.d]] W fun e w' => ∃ v, e = .returned v ∧ OwnK encE W.heap.size 60 27 w' v (liveL l x) ∧ Below W.heap.size W w' from fun W h => live_any x l A N c W (hs.below (hb.trans (h.mono hb.size))) hN hN2 hok)
 have HE := hid (show ∀ W, Below X.heap.size X W → Blk W p 38 #[.int .i64 x.k, .string x.a, .string x.b, .string x.c, .string x.d] from fun W h => hE.below h hE.lt)
 have HLl := hid (show (liveL l x).length ≤ 10000 from Nat.le_trans (List.length_filter_le _ _) (by omega))
 have HLe := hid (show ∀ e ∈ liveL l x, Lens e from fun e he => hle e (List.mem_filter.1 he).1)
 have HB := hid hb
 have HX := hid hX
 have HP := hid hp
 have HZe := hid (zero_of_info zeroE).1
 clear hs hN hN2 hok hle hb hX hE
 unfold eE elV
 by_cases h4 : x.k < 4
 ·have HR := hid (show valsR l x = [] by unfold valsR; rw [decide_eq_false (by omega)]; rfl)
  go_enter Tryz.func17, Tryz.ntmps17
  go_upto_region 1 with fail
  rw [← HX.out]
  try rw [HP.out]
  clear hp
  go_wp2_with fail
  go_ret
  exact ⟨_, rfl, by rw [HR.out]; exact OwnK.nil_ _ _ _ _ _, HB.out⟩
 ·have hk : decide (4 ≤ x.k) = true := decide_eq_true (by omega)
  cases hsn : seenG l x
  ·have HR := hid (show valsR l x = [] by unfold valsR; rw [hsn, Bool.and_false]; rfl)
   rw [hsn] at HSeen
   clear hsn hk
   go_enter Tryz.func17, Tryz.ntmps17
   go_upto_region 1 with fail
   rw [← HX.out]
   try rw [HP.out]
   clear hp
   go_wp2_with (first
    | (refine' wpList_load_if ?q1 38 (.tmp 3) ?q2 p ?q3 _ _ _ _ ?q4 Tryz.underlying38 ?q5 ?q6 ?_; (case q2 => rfl); (case q1 => rfl); (case q3 => rfl); (case q4 => exact HE.out X (Below.refl _ _)); (case q5 => rfl); (case q6 => exact sizeL x))
    | fail)
   refine HSeen.out.mono ?_
   rintro e w1 ⟨rfl, hb1⟩
   have HB1 := hid (HB.out.trans (hb1.mono HB.out.size))
   clear hb1
   go_wp2_with fail
   go_ret
   exact ⟨_, rfl, by rw [HR.out]; exact OwnK.nil_ _ _ _ _ _, HB1.out⟩
  ·have HR := hid (show valsR l x = riseC cfV ((liveL l x).map vaOf) by unfold valsR; rw [hsn, hk]; rfl)
   rw [hsn] at HSeen
   clear hsn hk
   rw [HR.out]
   obtain ⟨lv, hlv⟩ : ∃ lv, liveL l x = lv := ⟨_, rfl⟩
   rw [hlv] at HLv HLl HLe ⊢
   obtain ⟨vs, hvs⟩ : ∃ vs, lv.map vaOf = vs := ⟨_, rfl⟩
   have HVs := hid hvs
   rw [hvs]
   clear hlv hvs HR
   go_enter Tryz.func17, Tryz.ntmps17
   go_upto_region 1 with fail
   rw [← HX.out]
   try rw [HP.out]
   try rw [hp]
   clear hp
   go_wp2_with (first
    | (refine' wpList_load_if ?q1 38 (.tmp 3) ?q2 p ?q3 _ _ _ _ ?q4 Tryz.underlying38 ?q5 ?q6 ?_; (case q2 => rfl); (case q1 => rfl); (case q3 => rfl); (case q4 => exact HE.out X (Below.refl _ _)); (case q5 => rfl); (case q6 => exact sizeL x))
    | fail)
   refine HSeen.out.mono ?_
   rintro e w0 ⟨rfl, hb1⟩
   have HB0 := hid hb1
   clear hb1 c0
   go_wp2_with (first
    | (refine' wpList_load_if ?q1 38 (.tmp 3) ?q2 p ?q3 _ _ _ _ ?q4 Tryz.underlying38 ?q5 ?q6 ?_; (case q2 => rfl); (case q1 => rfl); (case q3 => rfl); (case q4 => exact HE.out w0 HB0.out); (case q5 => rfl); (case q6 => exact sizeL x))
    | fail)
   refine (HLv.out w0 HB0.out).mono ?_
   rintro e w1 ⟨u, rfl, ho, hb1⟩
   obtain ⟨A2, c2, rfl, _, _⟩ := ho.read encE_len
   obtain ⟨n, hn⟩ : ∃ n, lv.length = n := ⟨_, rfl⟩
   rw [hn] at ho HLl ⊢
   have HO := hid ho
   have HNn := hid hn
   have HB1 := hid ((HB.out.trans (HB0.out.mono HB.out.size)).trans (hb1.mono (HB.out.trans (HB0.out.mono HB.out.size)).size))
   have HP1 := hid (show p ≤ w1.heap.size by have h1 := HB1.out.size; have h2 := HP.out; omega)
   clear ho hn hb1
   go_wp2_with fail
   go_loopw [5, 22] (fun v5 v22 wr => ∃ j : Nat, v22 = .int .i64 j ∧ j ≤ n ∧ OwnK enW p 43 3 wr v5 (riseC cfV (vs.take j)) ∧ Below w1.heap.size w1 wr) (fun _ v22 _ => n - (intOf v22).toNat)
   case atStart => exact ⟨0, rfl, Nat.zero_le _, by first | exact OwnK.nil_ _ _ _ _ _ | (rw [List.take_zero]; exact OwnK.nil_ _ _ _ _ _), Below.refl _ _⟩
   case round =>
    obtain ⟨j, rfl, hj, ho, hbw⟩ := hrel
    obtain ⟨wo, rfl⟩ : ∃ wo, wo = wr := ⟨_, rfl⟩
    have HBw := hid hbw
    by_cases hlt : j < n
    ·obtain ⟨e, he⟩ : ∃ e, lv[j]? = some e := ⟨lv[j]'(by rw [HNn.out]; exact hlt), List.getElem?_eq_getElem _⟩
     obtain ⟨gs, hA, _, hgl, hce⟩ := (HO.out.keep hbw).at_ encE_len he
     subst hA
     have HCe := hid hce
     have HAt := hid (at_Ev0 gs c2 n j hlt wo)
     have hles := HLe.out e (List.mem_of_getElem? he)
     obtain ⟨vx, hvx⟩ : ∃ vx, vaOf e = vx := ⟨_, rfl⟩
     have hvj : vs[j]? = some vx := by rw [← HVs.out, List.getElem?_map, he, ← hvx]; rfl
     have HNx := hid (riseC_next (c := cfV) hvj)
     have HAl := hid fun c => World.setRow_alloc_new wo (evC ev0) c 60
     have HZz := hid (show Blk (wo.alloc (.cells (evC ev0) 60)) wo.heap.size 60 (evC ev0) from Blk.new _ _ _)
     obtain ⟨Y, hY⟩ : ∃ Y, Y = wo.alloc (.cells (evC e) 60) := ⟨_, rfl⟩
     have hbY : Below wo.heap.size wo Y := by rw [hY]; exact (Below.refl _ _).alloc (Nat.le_refl _) _
     have HBY := hid (show EB Y wo.heap.size e by rw [hY]; exact Blk.new _ _ _)
     have HYe := hid hY
     have hol : (riseC cfV (vs.take j)).length ≤ j := Nat.le_trans (riseC_len _) (List.length_take_le _ _)
     have HSz := hid (show ∀ y ∈ riseC cfV (vs.take j), y.t.size ≤ 9223372036854775806 from fun y hy => by
      have h1 := (riseC_mem (c := cfV) (vs.take j) y).1 hy
      have h2 := List.mem_of_mem_take h1
      rw [← HVs.out] at h2
      obtain ⟨e2, he2, rfl⟩ := List.mem_map.1 h2
      have := (HLe.out e2 he2).2.2.2.2
      show e2.t.size ≤ _
      omega)
     obtain ⟨out, hout⟩ : ∃ out, riseC cfV (vs.take j) = out := ⟨_, rfl⟩
     rw [hout] at ho HNx hol HSz
     obtain ⟨A3, c3, rfl, _, _⟩ := ho.read enW_len
     obtain ⟨m, hm⟩ : ∃ m, out.length = m := ⟨_, rfl⟩
     rw [hm] at ho ⊢
     have HOl := hid hm
     have HM9 := hid (show m ≤ 10000 by have := HLl.out; omega)
     have HOY := hid (ho.keep hbY)
     have HbY := hid (HBw.out.trans (hbY.mono HBw.out.size))
     obtain ⟨kk, hkk⟩ : ∃ kk, (out.takeWhile fun y => decide (cfV y vx < 0)).length = kk := ⟨_, rfl⟩
     have HKk := hid hkk
     have HAd := hid (addC_at hkk)
     have HKm := hid (show kk ≤ m by rw [← hkk, ← hm]; exact tw_le _)
     have HKc := hid (show kk ≤ c3 by have := (ho.read enW_len).len_; have := HKm.out; omega)
     have HXe := hid hvx
     have HW1 := hid (IntWalk.i64_in ((j : Int) + 1) (by have := HLl.out; omega))
     have HJ1 := hid (show ¬ 9223372036854775807 < j + 1 by have := HLl.out; omega)
     clear he hgl hce hY hbY ho hbw hout hol hm hkk hvx hvj hles
     have hz := HZe.out
     go_upto_region 7 with (first
      | (refine wpList_val (o := ⟨some 24, _, _, _, _, _⟩) rfl (.pointer (some ⟨gs, j * 27, none⟩)) wo (run_indexAddr_op rfl rfl rfl HAt.out) ?_)
      | (refine' wpList_load_midif ?q1 60 (.tmp 24) ?q2 gs (j * 27) ?q3 (encE e) _ ?q4 Tryz.underlying60 ?q5 ?q6 ?_; (case q2 => rfl); (case q1 => rfl); (case q3 => rfl); (case q4 => exact HCe.out); (case q5 => rfl); (case q6 => exact (sizeE e)))
      | (refine wpList_store_row (o := ⟨none, _, _, _, _, _⟩) rfl 60 (.tmp 7) (.tmp 25) rfl wo.heap.size (evC e) rfl rfl _ _ HZz.out (sizeE e) rfl (by kernel_rfl) ?_; rw [HAl.out, ← HYe.out])
      | fail)
     clear hz HZz HAl HYe HAt HCe
     obtain ⟨b7, hb7⟩ : ∃ b7, wo.heap.size = b7 := ⟨_, rfl⟩
     rw [hb7] at HBY ⊢
     clear hb7
     have HDe := hid (show ∀ W : World, Below Y.heap.size Y W → W.rangeAt b7 24 (enW vx) from fun W h => by
      rw [← HXe.out]
      exact World.rangeAt_of_block (C := evC e) (EB.keep HBY.out h) 24 3)
     go_wp2_with fail
     try simp only [Act.put]
     go_loopw [8] (fun v8 wr => ∃ a : Nat, v8 = .int .i64 a ∧ a ≤ kk ∧ Below Y.heap.size Y wr) (fun v8 _ => kk - (intOf v8).toNat)
     case atStart => exact ⟨0, by first | rfl | simp, Nat.zero_le _, Below.refl _ _⟩
     case round =>
      obtain ⟨ai, rfl, hai, hbi⟩ := hrel
      obtain ⟨wi, rfl⟩ : ∃ wi, wi = wr := ⟨_, rfl⟩
      have HBi := hid hbi
      have hwa := IntWalk.i64_in ((ai : Int) + 1) (by have := HM9.out; have := HKm.out; omega)
      have HWa := hid hwa
      clear hbi hwa
      by_cases hak : ai < kk
      ·obtain ⟨y, hy, hpy⟩ := tw_at (p := fun y => decide (cfV y vx < 0)) out ai (by rw [HKk.out]; exact hak)
       have ham : ai < m := by have := HKm.out; omega
       obtain ⟨g3, rfl, _, hg3, he3⟩ := HOY.out.at_ enW_len hy
       have HY3 := hid (show ∀ W : World, Below Y.heap.size Y W → W.rangeAt g3 (ai * 3) (enW y) from fun W h => rangeAt_below he3 hg3 h)
       have HFs := hid (of_decide_eq_true hpy)
       have HSy := hid (HSz.out y (List.mem_of_getElem? hy))
       clear hy hpy hg3 he3
       go_upto_region 8 with fail
       try simp only [Act.put]
       refine wp_region_any (by kernel_rfl) ?_
       refine wpAny_below (fun iq uq wq => uq = ([.int .i64 (ai : Nat), .slice (some ⟨g3, 0, none⟩) m c3, .int .i64 m, .bool true, .bool true, .slice (some ⟨g3, 0, none⟩) m c3, .int .i64 (ai : Nat), .pointer (some ⟨g3, ai * 3, none⟩), eV y, .pointer (some ⟨b7, 24, none⟩), eV vx, .int .i64 (cfV y vx), .bool true, .bool true] : List Value).getD iq undef) _ wi (by kernel_rfl) (by kernel_rfl) (by kernel_rfl) (fun i v w w' _ h => h) ?_ ?_
       ·refine ⟨?_, ?_, ?_, ?_, ?_, ?_, ?_, ?_, ?_, ?_, ?_, ?_, ?_, ?_, trivial⟩
        ·intro a W hI hun haft hi
         have e8 := hun 8 (by kernel_rfl)
         exact b_same hi hI rfl _ (run_move_op rfl e8) rfl
        ·intro a W hI hun haft hi
         have e5 := hun 5 (by kernel_rfl)
         exact b_same hi hI rfl _ (run_move_op rfl e5) rfl
        ·intro a W hI hun haft hi
         have f1 := haft ⟨1, .data⟩ (by simp) rfl _ _ rfl rfl
         exact b_same hi hI rfl _ (run_len_op Tryz.underlying39 rfl f1) rfl
        ·intro a W hI hun haft hi
         have f0 : a.eval (.tmp 26) = .int .i64 (ai : Nat) := haft ⟨0, .data⟩ (by simp) rfl _ _ rfl rfl
         have f2 : a.eval (.tmp 28) = .int .i64 m := haft ⟨2, .data⟩ (by simp) rfl _ _ rfl rfl
         exact b_same hi hI rfl (.bool true) (run_bin_op rfl f0 f2 (by kernel_rfl) (run_ltn (decide_eq_true (by omega)) _)) rfl
        ·intro a W hI hun haft hi
         have f3 := haft ⟨3, .data⟩ (by simp) rfl _ _ rfl rfl
         exact b_same hi hI rfl _ (run_move_op rfl f3) rfl
        ·intro a W hI hun haft hi
         have fg := haft ⟨4, .guard⟩ (by simp) rfl _ _ rfl rfl
         have e5 := hun 5 (by kernel_rfl)
         exact b_same hi hI (guard_ok rfl rfl rfl fg) _ (run_move_op rfl e5) rfl
        ·intro a W hI hun haft hi
         have fg := haft ⟨4, .guard⟩ (by simp) rfl _ _ rfl rfl
         have e8 := hun 8 (by kernel_rfl)
         exact b_same hi hI (guard_ok rfl rfl rfl fg) _ (run_move_op rfl e8) rfl
        ·intro a W hI hun haft hi
         have fg := haft ⟨4, .guard⟩ (by simp) rfl _ _ rfl rfl
         have f5 := haft ⟨5, .data⟩ (by simp) rfl _ _ rfl rfl
         have f6 := haft ⟨6, .data⟩ (by simp) rfl _ _ rfl rfl
         exact b_same hi hI (guard_ok rfl rfl rfl fg) _ (run_indexAddr_op rfl f5 f6 (at_Va0 g3 c3 m ai ham _)) rfl
        ·intro a W hI hun haft hi
         have fg : a.eval (.tmp 30) = .bool true := haft ⟨4, .guard⟩ (by simp) rfl _ _ rfl rfl
         have f7 : a.eval (.tmp 33) = .pointer (some ⟨g3, ai * 3, none⟩) := haft ⟨7, .data⟩ (by simp) rfl _ _ rfl rfl
         exact b_same hi hI (guard_ok rfl rfl rfl fg) _ (run_loadmid_op rfl f7 (HY3.out W (HBi.out.trans (hI.mono HBi.out.size))) Tryz.underlying43 rfl (by kernel_rfl)) rfl
        ·intro a W hI hun haft hi
         have fg := haft ⟨4, .guard⟩ (by simp) rfl _ _ rfl rfl
         have e7 := hun 7 (by kernel_rfl)
         exact b_same hi hI (guard_ok rfl rfl rfl fg) _ (run_fieldAddr_any rfl e7 (at_event4 _ 0 _)) rfl
        ·intro a W hI hun haft hi
         have fg : a.eval (.tmp 30) = .bool true := haft ⟨4, .guard⟩ (by simp) rfl _ _ rfl rfl
         have f9 : a.eval (.tmp 35) = .pointer (some ⟨b7, 24, none⟩) := haft ⟨9, .data⟩ (by simp) rfl _ _ rfl rfl
         exact b_same hi hI (guard_ok rfl rfl rfl fg) _ (run_loadmid_op rfl f9 (HDe.out W (HBi.out.trans (hI.mono HBi.out.size))) Tryz.underlying43 rfl (by kernel_rfl)) rfl
        ·intro a W hI hun haft hi
         have fg : a.eval (.tmp 30) = .bool true := haft ⟨4, .guard⟩ (by simp) rfl _ _ rfl rfl
         have f8 : a.eval (.tmp 34) = eV y := haft ⟨8, .data⟩ (by simp) rfl _ _ rfl rfl
         have f10 : a.eval (.tmp 36) = eV vx := haft ⟨10, .data⟩ (by simp) rfl _ _ rfl rfl
         refine b_call hi hI (guard_ok rfl rfl rfl fg) _ _ (run_call_op (args := #[eV y, eV vx]) rfl (by simp [f8, f10]) (by kernel_rfl)) ?_
         exact (refcmp_is y vx _ rfl HSy.out W).mono fun e w' H => ⟨_, H.1, rfl, H.2⟩
        ·intro a W hI hun haft hi
         have fg := haft ⟨4, .guard⟩ (by simp) rfl _ _ rfl rfl
         have f11 := haft ⟨11, .data⟩ (by simp) rfl _ _ rfl rfl
         exact b_same hi hI (guard_ok rfl rfl rfl fg) (.bool true) (run_bin_op rfl f11 rfl (by kernel_rfl) (run_lti (decide_eq_true HFs.out) _)) rfl
        ·intro a W hI hun haft hi
         have f4 := haft ⟨4, .data⟩ (by simp) rfl _ _ rfl rfl
         have f12 := haft ⟨12, .data⟩ (by simp) rfl _ _ rfl rfl
         exact b_same hi hI rfl _ (run_pick_op (b := true) rfl f4 f12 rfl) rfl
       ·intro vals W hI hp
        have hl13 : vals 13 = .bool true := hp 13 (by decide)
        have HI := hid hI
        clear hp hI
        simp only [layN, layS, List.range, List.range.loop, if_true, Act.put, Nat.zero_add, Nat.reduceAdd, hl13]
        clear hl13
        have HBk := hid (HBi.out.trans (HI.out.mono HBi.out.size))
        have hw := HWa.out
        clear HI
        go_wp2
        go_roundw
        case rel => exact ⟨ai + 1, by go_num, by omega, HBk.out⟩
        case measure => simp [intOf] <;> omega
      ·have hae : ai = kk := by omega
       subst hae
       by_cases ham : ai < m
       ·obtain ⟨y, hy⟩ : ∃ y, out[ai]? = some y := ⟨out[ai]'(by rw [HOl.out]; exact ham), List.getElem?_eq_getElem _⟩
        have hpy := tw_end (p := fun y => decide (cfV y vx < 0)) out y (by rw [HKk.out]; exact hy)
        obtain ⟨g3, rfl, _, hg3, he3⟩ := HOY.out.at_ enW_len hy
        have HY3 := hid (show ∀ W : World, Below Y.heap.size Y W → W.rangeAt g3 (ai * 3) (enW y) from fun W h => rangeAt_below he3 hg3 h)
        have HFs := hid (of_decide_eq_false hpy)
        have HSy := hid (HSz.out y (List.mem_of_getElem? hy))
        have HYy := hid hy
        clear hy hpy hg3 he3
        go_upto_region 8 with fail
        try simp only [Act.put]
        refine wp_region_any (by kernel_rfl) ?_
        refine wpAny_below (fun iq uq wq => uq = ([.int .i64 (ai : Nat), .slice (some ⟨g3, 0, none⟩) m c3, .int .i64 m, .bool true, .bool true, .slice (some ⟨g3, 0, none⟩) m c3, .int .i64 (ai : Nat), .pointer (some ⟨g3, ai * 3, none⟩), eV y, .pointer (some ⟨b7, 24, none⟩), eV vx, .int .i64 (cfV y vx), .bool false, .bool false] : List Value).getD iq undef) _ wi (by kernel_rfl) (by kernel_rfl) (by kernel_rfl) (fun i v w w' _ h => h) ?_ ?_
        ·refine ⟨?_, ?_, ?_, ?_, ?_, ?_, ?_, ?_, ?_, ?_, ?_, ?_, ?_, ?_, trivial⟩
         ·intro a W hI hun haft hi
          have e8 := hun 8 (by kernel_rfl)
          exact b_same hi hI rfl _ (run_move_op rfl e8) rfl
         ·intro a W hI hun haft hi
          have e5 := hun 5 (by kernel_rfl)
          exact b_same hi hI rfl _ (run_move_op rfl e5) rfl
         ·intro a W hI hun haft hi
          have f1 := haft ⟨1, .data⟩ (by simp) rfl _ _ rfl rfl
          exact b_same hi hI rfl _ (run_len_op Tryz.underlying39 rfl f1) rfl
         ·intro a W hI hun haft hi
          have f0 : a.eval (.tmp 26) = .int .i64 (ai : Nat) := haft ⟨0, .data⟩ (by simp) rfl _ _ rfl rfl
          have f2 : a.eval (.tmp 28) = .int .i64 m := haft ⟨2, .data⟩ (by simp) rfl _ _ rfl rfl
          exact b_same hi hI rfl (.bool true) (run_bin_op rfl f0 f2 (by kernel_rfl) (run_ltn (decide_eq_true (by omega)) _)) rfl
         ·intro a W hI hun haft hi
          have f3 := haft ⟨3, .data⟩ (by simp) rfl _ _ rfl rfl
          exact b_same hi hI rfl _ (run_move_op rfl f3) rfl
         ·intro a W hI hun haft hi
          have fg := haft ⟨4, .guard⟩ (by simp) rfl _ _ rfl rfl
          have e5 := hun 5 (by kernel_rfl)
          exact b_same hi hI (guard_ok rfl rfl rfl fg) _ (run_move_op rfl e5) rfl
         ·intro a W hI hun haft hi
          have fg := haft ⟨4, .guard⟩ (by simp) rfl _ _ rfl rfl
          have e8 := hun 8 (by kernel_rfl)
          exact b_same hi hI (guard_ok rfl rfl rfl fg) _ (run_move_op rfl e8) rfl
         ·intro a W hI hun haft hi
          have fg := haft ⟨4, .guard⟩ (by simp) rfl _ _ rfl rfl
          have f5 := haft ⟨5, .data⟩ (by simp) rfl _ _ rfl rfl
          have f6 := haft ⟨6, .data⟩ (by simp) rfl _ _ rfl rfl
          exact b_same hi hI (guard_ok rfl rfl rfl fg) _ (run_indexAddr_op rfl f5 f6 (at_Va0 g3 c3 m ai ham _)) rfl
         ·intro a W hI hun haft hi
          have fg : a.eval (.tmp 30) = .bool true := haft ⟨4, .guard⟩ (by simp) rfl _ _ rfl rfl
          have f7 : a.eval (.tmp 33) = .pointer (some ⟨g3, ai * 3, none⟩) := haft ⟨7, .data⟩ (by simp) rfl _ _ rfl rfl
          exact b_same hi hI (guard_ok rfl rfl rfl fg) _ (run_loadmid_op rfl f7 (HY3.out W (HBi.out.trans (hI.mono HBi.out.size))) Tryz.underlying43 rfl (by kernel_rfl)) rfl
         ·intro a W hI hun haft hi
          have fg := haft ⟨4, .guard⟩ (by simp) rfl _ _ rfl rfl
          have e7 := hun 7 (by kernel_rfl)
          exact b_same hi hI (guard_ok rfl rfl rfl fg) _ (run_fieldAddr_any rfl e7 (at_event4 _ 0 _)) rfl
         ·intro a W hI hun haft hi
          have fg : a.eval (.tmp 30) = .bool true := haft ⟨4, .guard⟩ (by simp) rfl _ _ rfl rfl
          have f9 : a.eval (.tmp 35) = .pointer (some ⟨b7, 24, none⟩) := haft ⟨9, .data⟩ (by simp) rfl _ _ rfl rfl
          exact b_same hi hI (guard_ok rfl rfl rfl fg) _ (run_loadmid_op rfl f9 (HDe.out W (HBi.out.trans (hI.mono HBi.out.size))) Tryz.underlying43 rfl (by kernel_rfl)) rfl
         ·intro a W hI hun haft hi
          have fg : a.eval (.tmp 30) = .bool true := haft ⟨4, .guard⟩ (by simp) rfl _ _ rfl rfl
          have f8 : a.eval (.tmp 34) = eV y := haft ⟨8, .data⟩ (by simp) rfl _ _ rfl rfl
          have f10 : a.eval (.tmp 36) = eV vx := haft ⟨10, .data⟩ (by simp) rfl _ _ rfl rfl
          refine b_call hi hI (guard_ok rfl rfl rfl fg) _ _ (run_call_op (args := #[eV y, eV vx]) rfl (by simp [f8, f10]) (by kernel_rfl)) ?_
          exact (refcmp_is y vx _ rfl HSy.out W).mono fun e w' H => ⟨_, H.1, rfl, H.2⟩
         ·intro a W hI hun haft hi
          have fg := haft ⟨4, .guard⟩ (by simp) rfl _ _ rfl rfl
          have f11 := haft ⟨11, .data⟩ (by simp) rfl _ _ rfl rfl
          exact b_same hi hI (guard_ok rfl rfl rfl fg) (.bool false) (run_bin_op rfl f11 rfl (by kernel_rfl) (run_lti (decide_eq_false HFs.out) _)) rfl
         ·intro a W hI hun haft hi
          have f4 := haft ⟨4, .data⟩ (by simp) rfl _ _ rfl rfl
          have f12 := haft ⟨12, .data⟩ (by simp) rfl _ _ rfl rfl
          exact b_same hi hI rfl _ (run_pick_op (b := true) rfl f4 f12 rfl) rfl
        ·intro vals W hI hp
         have hl13 : vals 13 = .bool false := hp 13 (by decide)
         have HI := hid hI
         clear hp hI
         simp only [layN, layS, List.range, List.range.loop, if_true, Act.put, Nat.zero_add, Nat.reduceAdd, hl13]
         clear hl13
         have HB8 := hid (HBi.out.trans (HI.out.mono HBi.out.size))
         clear HI
         obtain ⟨w6, hw6⟩ : ∃ w6, w6 = W := ⟨_, rfl⟩
         rw [← hw6] at HB8 ⊢
         clear hw6
         go_upto_region 10 with fail
         try simp only [Act.put]
         cases hxy : decide (y = vx)
         ·have HXY := hid hxy
          clear hxy
          refine wp_region_any (by kernel_rfl) ?_
          refine wpAny_below (fun iq uq wq => uq = ([.int .i64 (ai : Nat), .slice (some ⟨g3, 0, none⟩) m c3, .int .i64 m, .bool false, .bool false, .slice (some ⟨g3, 0, none⟩) m c3, .int .i64 (ai : Nat), .pointer (some ⟨g3, ai * 3, none⟩), eV y, .pointer (some ⟨b7, 24, none⟩), eV vx, .bool true, .bool true] : List Value).getD iq undef) _ w6 (by kernel_rfl) (by kernel_rfl) (by kernel_rfl) (fun i v w w' _ h => h) ?_ ?_
          ·refine ⟨?_, ?_, ?_, ?_, ?_, ?_, ?_, ?_, ?_, ?_, ?_, ?_, ?_, trivial⟩
           ·intro a W hI hun haft hi
            have e8 := hun 8 (by kernel_rfl)
            exact b_same hi hI rfl _ (run_move_op rfl e8) rfl
           ·intro a W hI hun haft hi
            have e5 := hun 5 (by kernel_rfl)
            exact b_same hi hI rfl _ (run_move_op rfl e5) rfl
           ·intro a W hI hun haft hi
            have f1 := haft ⟨1, .data⟩ (by simp) rfl _ _ rfl rfl
            exact b_same hi hI rfl _ (run_len_op Tryz.underlying39 rfl f1) rfl
           ·intro a W hI hun haft hi
            have f0 : a.eval (.tmp 42) = .int .i64 (ai : Nat) := haft ⟨0, .data⟩ (by simp) rfl _ _ rfl rfl
            have f2 : a.eval (.tmp 44) = .int .i64 m := haft ⟨2, .data⟩ (by simp) rfl _ _ rfl rfl
            exact b_same hi hI rfl (.bool false) (run_bin_op rfl f0 f2 (by kernel_rfl) (run_eqn (decide_eq_false (by omega)) _)) rfl
           ·intro a W hI hun haft hi
            have f3 := haft ⟨3, .data⟩ (by simp) rfl _ _ rfl rfl
            exact b_same hi hI rfl _ (run_move_op rfl f3) rfl
           ·intro a W hI hun haft hi
            have fg := haft ⟨4, .guard⟩ (by simp) rfl _ _ rfl rfl
            have e5 := hun 5 (by kernel_rfl)
            exact b_same hi hI (guard_ok rfl rfl rfl fg) _ (run_move_op rfl e5) rfl
           ·intro a W hI hun haft hi
            have fg := haft ⟨4, .guard⟩ (by simp) rfl _ _ rfl rfl
            have e8 := hun 8 (by kernel_rfl)
            exact b_same hi hI (guard_ok rfl rfl rfl fg) _ (run_move_op rfl e8) rfl
           ·intro a W hI hun haft hi
            have fg := haft ⟨4, .guard⟩ (by simp) rfl _ _ rfl rfl
            have f5 := haft ⟨5, .data⟩ (by simp) rfl _ _ rfl rfl
            have f6 := haft ⟨6, .data⟩ (by simp) rfl _ _ rfl rfl
            exact b_same hi hI (guard_ok rfl rfl rfl fg) _ (run_indexAddr_op rfl f5 f6 (at_Va0 g3 c3 m ai ham _)) rfl
           ·intro a W hI hun haft hi
            have fg : a.eval (.tmp 46) = .bool false := haft ⟨4, .guard⟩ (by simp) rfl _ _ rfl rfl
            have f7 : a.eval (.tmp 49) = .pointer (some ⟨g3, ai * 3, none⟩) := haft ⟨7, .data⟩ (by simp) rfl _ _ rfl rfl
            exact b_same hi hI (guard_ok rfl rfl rfl fg) _ (run_loadmid_op rfl f7 (HY3.out W (HB8.out.trans (hI.mono HB8.out.size))) Tryz.underlying43 rfl (by kernel_rfl)) rfl
           ·intro a W hI hun haft hi
            have fg := haft ⟨4, .guard⟩ (by simp) rfl _ _ rfl rfl
            have e7 := hun 7 (by kernel_rfl)
            exact b_same hi hI (guard_ok rfl rfl rfl fg) _ (run_fieldAddr_any rfl e7 (at_event4 _ 0 _)) rfl
           ·intro a W hI hun haft hi
            have fg : a.eval (.tmp 46) = .bool false := haft ⟨4, .guard⟩ (by simp) rfl _ _ rfl rfl
            have f9 : a.eval (.tmp 51) = .pointer (some ⟨b7, 24, none⟩) := haft ⟨9, .data⟩ (by simp) rfl _ _ rfl rfl
            exact b_same hi hI (guard_ok rfl rfl rfl fg) _ (run_loadmid_op rfl f9 (HDe.out W (HB8.out.trans (hI.mono HB8.out.size))) Tryz.underlying43 rfl (by kernel_rfl)) rfl
           ·intro a W hI hun haft hi
            have fg := haft ⟨4, .guard⟩ (by simp) rfl _ _ rfl rfl
            have f8 := haft ⟨8, .data⟩ (by simp) rfl _ _ rfl rfl
            have f10 := haft ⟨10, .data⟩ (by simp) rfl _ _ rfl rfl
            exact b_same hi hI (guard_ok rfl rfl rfl fg) (.bool true) (run_bin_op rfl f8 f10 (by kernel_rfl) (ne_VR HXY.out _)) rfl
           ·intro a W hI hun haft hi
            have f4 := haft ⟨4, .data⟩ (by simp) rfl _ _ rfl rfl
            have f11 := haft ⟨11, .data⟩ (by simp) rfl _ _ rfl rfl
            exact b_same hi hI rfl _ (run_pick_op (b := false) rfl f4 rfl f11) rfl
          ·intro vals W hI hp
           have hl12 : vals 12 = .bool true := hp 12 (by decide)
           have HI := hid hI
           clear hp hI
           simp only [layN, layS, List.range, List.range.loop, if_true, Act.put, Nat.zero_add, Nat.reduceAdd, hl12]
           clear hl12
           have HB9 := hid (HB8.out.trans (HI.out.mono HB8.out.size))
           have HO9 := hid (OwnK.keep HOY.out HB9.out)
           clear HI
           go_upto_region 11 with fail
           try simp only [Act.put]
           refine wp_region_any (by kernel_rfl) ?_
           obtain ⟨R9, hR9⟩ : ∃ R9, W.heap.size = R9 := ⟨_, rfl⟩
           have HR9 := hid hR9
           clear hR9
           refine Lt.wpAny_two puV (pSV R9 out (some ⟨g3, 0, none⟩) m c3 ai vx b7) _ W 8 12 _ _ _ (fun v' Wz => OwnK enW R9 43 3 Wz v' (out.take ai ++ [vx]) ∧ Below W.heap.size W Wz) (fun v' Wz => OwnK enW R9 43 3 Wz v' ((out.take ai ++ [vx]) ++ out.drop ai) ∧ Below W.heap.size W Wz)
            (by kernel_rfl) (by decide) rfl rfl rfl rfl (by kernel_rfl) (by kernel_rfl) (by kernel_rfl) (by kernel_rfl) (by kernel_rfl) (by kernel_rfl) (fun i v w w' hb h => pSV_keep hb h) pSV_pure ?_ ?_ ?_ ?_ ?_ ?_
           ·refine ⟨?_, ?_, ?_, ?_, ?_, ?_, ?_, ?_, ?_, ?_, ?_, ?_, ?_, ?_, trivial⟩
            ·intro _ _ _ a W hI hun haft hi
             exact b_val hi hI rfl _ _ (run_buildSlice_op (vs := #[]) rfl (by simp only [List.map_toArray, List.map_nil]) (bsNilR W)) ((Below.refl _ _).alloc (Nat.le_refl _) _) ⟨_, rfl, (own_emptyR W).base_ (by have := hI.size; have := HR9.out; omega)⟩
            ·exact fun _ _ h => absurd h (by decide)
            ·exact fun _ _ h => absurd h (by decide)
            ·exact fun _ _ h => absurd h (by decide)
            ·intro _ _ _ a W hI hun haft hi
             obtain ⟨gn, f0, hown⟩ : ∃ gn, a.eval (.tmp 55) = .slice (some ⟨gn, 0, none⟩) 0 0 ∧ OwnK enW R9 43 3 W (a.eval (.tmp 55)) [] := haft ⟨0, .data⟩ (by simp) rfl _ _ rfl rfl
             have f3 := haft ⟨3, .data⟩ (by simp) rfl _ _ rfl rfl
             rw [f0] at hown
             obtain ⟨v', w', hr, ho, hb⟩ := append_newR R9 W _ _ (((HO9.out.keep hI).read enW_len).hi ai HKm.out) (by have := HM9.out; have := HKm.out; rw [List.length_take]; omega) gn hown (by have := hI.size; have := HR9.out; omega)
             exact b_val hi hI rfl _ _ (run_append_op rfl f0 f3 hr) hb ho
            ·intro _ _ _ a W hI hun haft hi
             have e7 := hun 7 (by kernel_rfl)
             exact b_same hi hI rfl _ (run_fieldAddr_any rfl e7 (at_event4 b7 0 W)) rfl
            ·intro _ _ _ a W hI hun haft hi
             have f5 : a.eval (.tmp 60) = .pointer (some ⟨b7, 24, none⟩) := haft ⟨5, .data⟩ (by simp) rfl _ _ rfl rfl
             exact b_same hi hI rfl _ (run_loadmid_op rfl f5 (HDe.out W (HB9.out.trans (hI.mono HB9.out.size))) Tryz.underlying43 rfl (by kernel_rfl)) rfl
            ·intro _ _ _ a W hI hun haft hi
             have f5 : a.eval (.tmp 61) = eV vx := haft ⟨6, .data⟩ (by simp) rfl _ _ rfl rfl
             exact b_val hi hI rfl _ _ (run_buildSlice_op (vs := #[(0, eV vx)]) rfl (by simp only [List.map_toArray, List.map_cons, List.map_nil, f5]) (bsVR vx W)) ((Below.refl _ _).alloc (Nat.le_refl _) _) (sl_oneR vx W)
            ·exact fun _ h => absurd rfl h
            ·exact fun _ _ h => absurd h (by decide)
            ·exact fun _ _ h => absurd h (by decide)
            ·exact fun _ _ h => absurd h (by decide)
            ·exact fun h => absurd h (Nat.lt_irrefl _)
            ·exact fun h => absurd h (by decide)
           ·refine ⟨?_, ?_, ?_, ?_, ?_, ?_, ?_, ?_, ?_, ?_, ?_, ?_, ?_, ?_, trivial⟩
            ·exact fun _ h => absurd h (by decide)
            ·intro _ _ a W hun haft hi
             have e5 := hun 5 (by kernel_rfl)
             exact wpOp_val hi rfl _ _ (run_move_op rfl e5) ⟨_, rfl, rfl, rfl⟩
            ·intro _ _ a W hun haft hi
             have e8 := hun 8 (by kernel_rfl)
             exact wpOp_val hi rfl _ _ (run_move_op rfl e8) ⟨_, rfl, rfl, rfl⟩
            ·intro _ _ a W hun haft hi
             have f1 := haft ⟨1, .data⟩ (by simp) rfl rfl _ _ rfl rfl
             have f2 := haft ⟨2, .data⟩ (by simp) rfl rfl _ _ rfl rfl
             exact wpOp_val hi rfl _ _ (run_slhi_op rfl f1 f2 (run_sliceK_hi W _ _ Tryz.underlying39 (sizeVR vx) _ _ _ _ HKc.out)) ⟨_, rfl, rfl, rfl⟩
            ·exact fun _ h => absurd h (by decide)
            ·exact fun _ h => absurd h (by decide)
            ·exact fun _ h => absurd h (by decide)
            ·exact fun _ h => absurd h (by decide)
            ·exact fun _ h => absurd h (by decide)
            ·intro _ _ a W hun haft hi
             have e5 := hun 5 (by kernel_rfl)
             exact wpOp_val hi rfl _ _ (run_move_op rfl e5) ⟨_, rfl, rfl, rfl⟩
            ·intro _ _ a W hun haft hi
             have e8 := hun 8 (by kernel_rfl)
             exact wpOp_val hi rfl _ _ (run_move_op rfl e8) ⟨_, rfl, rfl, rfl⟩
            ·intro _ _ a W hun haft hi
             have f8 := haft ⟨9, .data⟩ (by simp) rfl rfl _ _ rfl rfl
             have f9 := haft ⟨10, .data⟩ (by simp) rfl rfl _ _ rfl rfl
             exact wpOp_val hi rfl _ _ (run_sllo_op rfl f8 f9 (run_sliceK_lo W _ _ Tryz.underlying39 (sizeVR vx) _ _ _ _ HKm.out)) ⟨_, rfl, rfl, rfl⟩
            ·exact fun h => absurd h (Nat.lt_irrefl _)
            ·exact fun h => absurd h (by decide)
           ·intro a W hI hun haft
            have f4 : OwnK enW R9 43 3 W (a.eval (.tmp 59)) (out.take ai) := haft ⟨4, .data⟩ (by simp) rfl _ _ rfl rfl
            have f6 : SlK enW 3 W (a.eval (.tmp 62)) [vx] := haft ⟨7, .data⟩ (by simp) rfl _ _ rfl rfl
            have hR9 : R9 ≤ W.heap.size := by have := hI.size; have := HR9.out; omega
            obtain ⟨v', w', hr, ho, hgr, _⟩ := append_vR R9 W _ _ f4 _ _ f6 (by have := HM9.out; have := HKm.out; simp; omega) hR9
            exact wpOp_val rfl rfl v' w' (run_append_op rfl rfl rfl hr) ⟨v', rfl, ho, hI.grown hgr (by have := hI.size; omega) (fun q e => by have := (f4.lt q e).1; have := HR9.out; omega)⟩
           ·intro vals a W hJ hsl hp
            obtain ⟨ho7, hI7⟩ := hJ
            have f10 : a.eval (.tmp 66) = .slice (slK (some ⟨g3, 0, none⟩) c3 ai 3) (m - ai) (c3 - ai) := (hsl 11 _ _ rfl (by decide) rfl).trans (hp 11 (by decide) (by decide))
            have f7 : a.eval (.tmp 63) = vals 8 := hsl 8 _ _ rfl (by decide) rfl
            rw [← f7] at ho7
            have hR9 : R9 ≤ W.heap.size := by have := hI7.size; have := HR9.out; omega
            obtain ⟨v', w', hr, ho, hgr, _⟩ := append_vR R9 W _ _ ho7 _ _ (((HO9.out.keep hI7).read enW_len).lo ai HKm.out) (by have := HM9.out; have := HOl.out; have := HKm.out; simp; omega) hR9
            exact wpOp_val rfl rfl v' w' (run_append_op rfl rfl f10 hr) ⟨v', rfl, ho, hI7.grown hgr (by have := hI7.size; omega) (fun q e => by have := (ho7.lt q e).1; have := HR9.out; omega)⟩
           ·intro v a W hJ hs
            have f11 : a.eval (.tmp 67) = v := hs 67 rfl
            exact wpOp_val rfl rfl v W (run_assign_op rfl f11) ⟨v, rfl, rfl, hJ⟩
           ·rintro vals Wq ⟨hv1, hv2⟩
            have HV1 := hid hv1
            have HV2 := hid hv2
            obtain ⟨v3', hv3⟩ : ∃ v3', vals 13 = v3' := ⟨_, rfl⟩
            rw [hv3] at HV1
            have HV3 := hid hv3
            clear hv1 hv2 hv3
            simp only [layN, layS, List.range, List.range.loop, if_true, Act.put, Nat.zero_add, Nat.reduceAdd, HV3.out]
            have HBE := hid (show Below w1.heap.size w1 Wq from HbY.out.trans ((HB9.out.trans (HV2.out.mono HB9.out.size)).mono HbY.out.size))
            have HOE := hid (show OwnK enW p 43 3 Wq v3' (riseC cfV (vs.take (j + 1))) by
             rw [HNx.out, HAd.out, if_neg (by rw [HYy.out]; intro e; exact of_decide_eq_false HXY.out (Option.some.inj e))]
             exact HV1.out.base_ (by have := HR9.out; have := HP1.out; have := HB9.out.size; have := HbY.out.size; omega))
            have hw := HW1.out
            have hjm := HJ1.out
            go_wp2
            go_roundw
            case rel => exact ⟨j + 1, by go_num, by omega, HOE.out, HBE.out⟩
            case measure => simp [intOf] <;> omega
         ·have HXY := hid hxy
          clear hxy
          refine wp_region_any (by kernel_rfl) ?_
          refine wpAny_below (fun iq uq wq => uq = ([.int .i64 (ai : Nat), .slice (some ⟨g3, 0, none⟩) m c3, .int .i64 m, .bool false, .bool false, .slice (some ⟨g3, 0, none⟩) m c3, .int .i64 (ai : Nat), .pointer (some ⟨g3, ai * 3, none⟩), eV y, .pointer (some ⟨b7, 24, none⟩), eV vx, .bool false, .bool false] : List Value).getD iq undef) _ w6 (by kernel_rfl) (by kernel_rfl) (by kernel_rfl) (fun i v w w' _ h => h) ?_ ?_
          ·refine ⟨?_, ?_, ?_, ?_, ?_, ?_, ?_, ?_, ?_, ?_, ?_, ?_, ?_, trivial⟩
           ·intro a W hI hun haft hi
            have e8 := hun 8 (by kernel_rfl)
            exact b_same hi hI rfl _ (run_move_op rfl e8) rfl
           ·intro a W hI hun haft hi
            have e5 := hun 5 (by kernel_rfl)
            exact b_same hi hI rfl _ (run_move_op rfl e5) rfl
           ·intro a W hI hun haft hi
            have f1 := haft ⟨1, .data⟩ (by simp) rfl _ _ rfl rfl
            exact b_same hi hI rfl _ (run_len_op Tryz.underlying39 rfl f1) rfl
           ·intro a W hI hun haft hi
            have f0 : a.eval (.tmp 42) = .int .i64 (ai : Nat) := haft ⟨0, .data⟩ (by simp) rfl _ _ rfl rfl
            have f2 : a.eval (.tmp 44) = .int .i64 m := haft ⟨2, .data⟩ (by simp) rfl _ _ rfl rfl
            exact b_same hi hI rfl (.bool false) (run_bin_op rfl f0 f2 (by kernel_rfl) (run_eqn (decide_eq_false (by omega)) _)) rfl
           ·intro a W hI hun haft hi
            have f3 := haft ⟨3, .data⟩ (by simp) rfl _ _ rfl rfl
            exact b_same hi hI rfl _ (run_move_op rfl f3) rfl
           ·intro a W hI hun haft hi
            have fg := haft ⟨4, .guard⟩ (by simp) rfl _ _ rfl rfl
            have e5 := hun 5 (by kernel_rfl)
            exact b_same hi hI (guard_ok rfl rfl rfl fg) _ (run_move_op rfl e5) rfl
           ·intro a W hI hun haft hi
            have fg := haft ⟨4, .guard⟩ (by simp) rfl _ _ rfl rfl
            have e8 := hun 8 (by kernel_rfl)
            exact b_same hi hI (guard_ok rfl rfl rfl fg) _ (run_move_op rfl e8) rfl
           ·intro a W hI hun haft hi
            have fg := haft ⟨4, .guard⟩ (by simp) rfl _ _ rfl rfl
            have f5 := haft ⟨5, .data⟩ (by simp) rfl _ _ rfl rfl
            have f6 := haft ⟨6, .data⟩ (by simp) rfl _ _ rfl rfl
            exact b_same hi hI (guard_ok rfl rfl rfl fg) _ (run_indexAddr_op rfl f5 f6 (at_Va0 g3 c3 m ai ham _)) rfl
           ·intro a W hI hun haft hi
            have fg : a.eval (.tmp 46) = .bool false := haft ⟨4, .guard⟩ (by simp) rfl _ _ rfl rfl
            have f7 : a.eval (.tmp 49) = .pointer (some ⟨g3, ai * 3, none⟩) := haft ⟨7, .data⟩ (by simp) rfl _ _ rfl rfl
            exact b_same hi hI (guard_ok rfl rfl rfl fg) _ (run_loadmid_op rfl f7 (HY3.out W (HB8.out.trans (hI.mono HB8.out.size))) Tryz.underlying43 rfl (by kernel_rfl)) rfl
           ·intro a W hI hun haft hi
            have fg := haft ⟨4, .guard⟩ (by simp) rfl _ _ rfl rfl
            have e7 := hun 7 (by kernel_rfl)
            exact b_same hi hI (guard_ok rfl rfl rfl fg) _ (run_fieldAddr_any rfl e7 (at_event4 _ 0 _)) rfl
           ·intro a W hI hun haft hi
            have fg : a.eval (.tmp 46) = .bool false := haft ⟨4, .guard⟩ (by simp) rfl _ _ rfl rfl
            have f9 : a.eval (.tmp 51) = .pointer (some ⟨b7, 24, none⟩) := haft ⟨9, .data⟩ (by simp) rfl _ _ rfl rfl
            exact b_same hi hI (guard_ok rfl rfl rfl fg) _ (run_loadmid_op rfl f9 (HDe.out W (HB8.out.trans (hI.mono HB8.out.size))) Tryz.underlying43 rfl (by kernel_rfl)) rfl
           ·intro a W hI hun haft hi
            have fg := haft ⟨4, .guard⟩ (by simp) rfl _ _ rfl rfl
            have f8 := haft ⟨8, .data⟩ (by simp) rfl _ _ rfl rfl
            have f10 := haft ⟨10, .data⟩ (by simp) rfl _ _ rfl rfl
            exact b_same hi hI (guard_ok rfl rfl rfl fg) (.bool false) (run_bin_op rfl f8 f10 (by kernel_rfl) (ne_VR HXY.out _)) rfl
           ·intro a W hI hun haft hi
            have f4 := haft ⟨4, .data⟩ (by simp) rfl _ _ rfl rfl
            have f11 := haft ⟨11, .data⟩ (by simp) rfl _ _ rfl rfl
            exact b_same hi hI rfl _ (run_pick_op (b := false) rfl f4 rfl f11) rfl
          ·intro vals W hI hp
           have hl12 : vals 12 = .bool false := hp 12 (by decide)
           have HI := hid hI
           clear hp hI
           simp only [layN, layS, List.range, List.range.loop, if_true, Act.put, Nat.zero_add, Nat.reduceAdd, hl12]
           clear hl12
           have HBE := hid (show Below w1.heap.size w1 W from HbY.out.trans ((HB8.out.trans (HI.out.mono HB8.out.size)).mono HbY.out.size))
           have HOE := hid ((HOY.out.keep (HB8.out.trans (HI.out.mono HB8.out.size))))
           rw [show out = riseC cfV (vs.take (j + 1)) by rw [HNx.out, HAd.out, if_pos (by rw [HYy.out, of_decide_eq_true HXY.out])]] at HOE
           have hw := HW1.out
           have hjm := HJ1.out
           clear HI
           go_wp2
           go_roundw
           case rel => exact ⟨j + 1, by go_num, by omega, HOE.out, HBE.out⟩
           case measure => simp [intOf] <;> omega
       ·have ham2 : ai = m := by have := HKm.out; omega
        have HYn := hid (show out[ai]? = none from List.getElem?_eq_none (by rw [HOl.out]; omega))
        go_upto_region 8 with fail
        try simp only [Act.put]
        refine wp_region_any (by kernel_rfl) ?_
        refine wpAny_below (fun iq uq wq => uq = ([.int .i64 (ai : Nat), .slice A3 m c3, .int .i64 m, .bool false, .bool false, undef, undef, undef, undef, undef, undef, undef, undef, .bool false] : List Value).getD iq undef) _ wi (by kernel_rfl) (by kernel_rfl) (by kernel_rfl) (fun i v w w' _ h => h) ?_ ?_
        ·refine ⟨?_, ?_, ?_, ?_, ?_, ?_, ?_, ?_, ?_, ?_, ?_, ?_, ?_, ?_, trivial⟩
         ·intro a W hI hun haft hi
          have e8 := hun 8 (by kernel_rfl)
          exact b_same hi hI rfl _ (run_move_op rfl e8) rfl
         ·intro a W hI hun haft hi
          have e5 := hun 5 (by kernel_rfl)
          exact b_same hi hI rfl _ (run_move_op rfl e5) rfl
         ·intro a W hI hun haft hi
          have f1 := haft ⟨1, .data⟩ (by simp) rfl _ _ rfl rfl
          exact b_same hi hI rfl _ (run_len_op Tryz.underlying39 rfl f1) rfl
         ·intro a W hI hun haft hi
          have f0 : a.eval (.tmp 26) = .int .i64 (ai : Nat) := haft ⟨0, .data⟩ (by simp) rfl _ _ rfl rfl
          have f2 : a.eval (.tmp 28) = .int .i64 m := haft ⟨2, .data⟩ (by simp) rfl _ _ rfl rfl
          exact b_same hi hI rfl (.bool false) (run_bin_op rfl f0 f2 (by kernel_rfl) (run_ltn (decide_eq_false (by omega)) _)) rfl
         ·intro a W hI hun haft hi
          have f3 := haft ⟨3, .data⟩ (by simp) rfl _ _ rfl rfl
          exact b_same hi hI rfl _ (run_move_op rfl f3) rfl
         ·intro a W hI hun haft hi
          have fg : a.eval (.tmp 30) = .bool false := haft ⟨4, .guard⟩ (by simp) rfl _ _ rfl rfl
          exact b_skip hi hI (guard_no rfl rfl rfl (.inl fg)) rfl
         ·intro a W hI hun haft hi
          have fg : a.eval (.tmp 30) = .bool false := haft ⟨4, .guard⟩ (by simp) rfl _ _ rfl rfl
          exact b_skip hi hI (guard_no rfl rfl rfl (.inl fg)) rfl
         ·intro a W hI hun haft hi
          have fg : a.eval (.tmp 30) = .bool false := haft ⟨4, .guard⟩ (by simp) rfl _ _ rfl rfl
          exact b_skip hi hI (guard_no rfl rfl rfl (.inl fg)) rfl
         ·intro a W hI hun haft hi
          have fg : a.eval (.tmp 30) = .bool false := haft ⟨4, .guard⟩ (by simp) rfl _ _ rfl rfl
          exact b_skip hi hI (guard_no rfl rfl rfl (.inl fg)) rfl
         ·intro a W hI hun haft hi
          have fg : a.eval (.tmp 30) = .bool false := haft ⟨4, .guard⟩ (by simp) rfl _ _ rfl rfl
          exact b_skip hi hI (guard_no rfl rfl rfl (.inl fg)) rfl
         ·intro a W hI hun haft hi
          have fg : a.eval (.tmp 30) = .bool false := haft ⟨4, .guard⟩ (by simp) rfl _ _ rfl rfl
          exact b_skip hi hI (guard_no rfl rfl rfl (.inl fg)) rfl
         ·intro a W hI hun haft hi
          have fg : a.eval (.tmp 30) = .bool false := haft ⟨4, .guard⟩ (by simp) rfl _ _ rfl rfl
          exact b_skip hi hI (guard_no rfl rfl rfl (.inl fg)) rfl
         ·intro a W hI hun haft hi
          have fg : a.eval (.tmp 30) = .bool false := haft ⟨4, .guard⟩ (by simp) rfl _ _ rfl rfl
          exact b_skip hi hI (guard_no rfl rfl rfl (.inl fg)) rfl
         ·intro a W hI hun haft hi
          have f4 := haft ⟨4, .data⟩ (by simp) rfl _ _ rfl rfl
          have f12 := haft ⟨12, .data⟩ (by simp) rfl _ _ rfl rfl
          exact b_same hi hI rfl _ (run_pick_op (b := false) rfl f4 f12 rfl) rfl
        ·intro vals W hI hp
         have hl13 : vals 13 = .bool false := hp 13 (by decide)
         have HI := hid hI
         clear hp hI
         simp only [layN, layS, List.range, List.range.loop, if_true, Act.put, Nat.zero_add, Nat.reduceAdd, hl13]
         clear hl13
         have HB8 := hid (HBi.out.trans (HI.out.mono HBi.out.size))
         clear HI
         obtain ⟨w6, hw6⟩ : ∃ w6, w6 = W := ⟨_, rfl⟩
         rw [← hw6] at HB8 ⊢
         clear hw6
         go_upto_region 10 with fail
         try simp only [Act.put]
         refine wp_region_any (by kernel_rfl) ?_
         refine wpAny_below (fun iq uq wq => uq = ([.int .i64 (ai : Nat), .slice A3 m c3, .int .i64 m, .bool true, .bool true, undef, undef, undef, undef, undef, undef, undef, .bool true] : List Value).getD iq undef) _ w6 (by kernel_rfl) (by kernel_rfl) (by kernel_rfl) (fun i v w w' _ h => h) ?_ ?_
         ·refine ⟨?_, ?_, ?_, ?_, ?_, ?_, ?_, ?_, ?_, ?_, ?_, ?_, ?_, trivial⟩
          ·intro a W hI hun haft hi
           have e8 := hun 8 (by kernel_rfl)
           exact b_same hi hI rfl _ (run_move_op rfl e8) rfl
          ·intro a W hI hun haft hi
           have e5 := hun 5 (by kernel_rfl)
           exact b_same hi hI rfl _ (run_move_op rfl e5) rfl
          ·intro a W hI hun haft hi
           have f1 := haft ⟨1, .data⟩ (by simp) rfl _ _ rfl rfl
           exact b_same hi hI rfl _ (run_len_op Tryz.underlying39 rfl f1) rfl
          ·intro a W hI hun haft hi
           have f0 : a.eval (.tmp 42) = .int .i64 (ai : Nat) := haft ⟨0, .data⟩ (by simp) rfl _ _ rfl rfl
           have f2 : a.eval (.tmp 44) = .int .i64 m := haft ⟨2, .data⟩ (by simp) rfl _ _ rfl rfl
           exact b_same hi hI rfl (.bool true) (run_bin_op rfl f0 f2 (by kernel_rfl) (run_eqn (decide_eq_true (by omega)) _)) rfl
          ·intro a W hI hun haft hi
           have f3 := haft ⟨3, .data⟩ (by simp) rfl _ _ rfl rfl
           exact b_same hi hI rfl _ (run_move_op rfl f3) rfl
          ·intro a W hI hun haft hi
           have fg : a.eval (.tmp 46) = .bool true := haft ⟨4, .guard⟩ (by simp) rfl _ _ rfl rfl
           exact b_skip hi hI (guard_no rfl rfl rfl (.inl fg)) rfl
          ·intro a W hI hun haft hi
           have fg : a.eval (.tmp 46) = .bool true := haft ⟨4, .guard⟩ (by simp) rfl _ _ rfl rfl
           exact b_skip hi hI (guard_no rfl rfl rfl (.inl fg)) rfl
          ·intro a W hI hun haft hi
           have fg : a.eval (.tmp 46) = .bool true := haft ⟨4, .guard⟩ (by simp) rfl _ _ rfl rfl
           exact b_skip hi hI (guard_no rfl rfl rfl (.inl fg)) rfl
          ·intro a W hI hun haft hi
           have fg : a.eval (.tmp 46) = .bool true := haft ⟨4, .guard⟩ (by simp) rfl _ _ rfl rfl
           exact b_skip hi hI (guard_no rfl rfl rfl (.inl fg)) rfl
          ·intro a W hI hun haft hi
           have fg : a.eval (.tmp 46) = .bool true := haft ⟨4, .guard⟩ (by simp) rfl _ _ rfl rfl
           exact b_skip hi hI (guard_no rfl rfl rfl (.inl fg)) rfl
          ·intro a W hI hun haft hi
           have fg : a.eval (.tmp 46) = .bool true := haft ⟨4, .guard⟩ (by simp) rfl _ _ rfl rfl
           exact b_skip hi hI (guard_no rfl rfl rfl (.inl fg)) rfl
          ·intro a W hI hun haft hi
           have fg : a.eval (.tmp 46) = .bool true := haft ⟨4, .guard⟩ (by simp) rfl _ _ rfl rfl
           exact b_skip hi hI (guard_no rfl rfl rfl (.inl fg)) rfl
          ·intro a W hI hun haft hi
           have f4 := haft ⟨4, .data⟩ (by simp) rfl _ _ rfl rfl
           have f11 := haft ⟨11, .data⟩ (by simp) rfl _ _ rfl rfl
           exact b_same hi hI rfl _ (run_pick_op (b := true) rfl f4 rfl f11) rfl
         ·intro vals W hI hp
          have hl12 : vals 12 = .bool true := hp 12 (by decide)
          have HI := hid hI
          clear hp hI
          simp only [layN, layS, List.range, List.range.loop, if_true, Act.put, Nat.zero_add, Nat.reduceAdd, hl12]
          clear hl12
          have HB9 := hid (HB8.out.trans (HI.out.mono HB8.out.size))
          have HO9 := hid (OwnK.keep HOY.out HB9.out)
          clear HI
          go_upto_region 11 with fail
          try simp only [Act.put]
          refine wp_region_any (by kernel_rfl) ?_
          obtain ⟨R9, hR9⟩ : ∃ R9, W.heap.size = R9 := ⟨_, rfl⟩
          have HR9 := hid hR9
          clear hR9
          refine Lt.wpAny_two puV (pSV R9 out A3 m c3 ai vx b7) _ W 8 12 _ _ _ (fun v' Wz => OwnK enW R9 43 3 Wz v' (out.take ai ++ [vx]) ∧ Below W.heap.size W Wz) (fun v' Wz => OwnK enW R9 43 3 Wz v' ((out.take ai ++ [vx]) ++ out.drop ai) ∧ Below W.heap.size W Wz)
           (by kernel_rfl) (by decide) rfl rfl rfl rfl (by kernel_rfl) (by kernel_rfl) (by kernel_rfl) (by kernel_rfl) (by kernel_rfl) (by kernel_rfl) (fun i v w w' hb h => pSV_keep hb h) pSV_pure ?_ ?_ ?_ ?_ ?_ ?_
          ·refine ⟨?_, ?_, ?_, ?_, ?_, ?_, ?_, ?_, ?_, ?_, ?_, ?_, ?_, ?_, trivial⟩
           ·intro _ _ _ a W hI hun haft hi
            exact b_val hi hI rfl _ _ (run_buildSlice_op (vs := #[]) rfl (by simp only [List.map_toArray, List.map_nil]) (bsNilR W)) ((Below.refl _ _).alloc (Nat.le_refl _) _) ⟨_, rfl, (own_emptyR W).base_ (by have := hI.size; have := HR9.out; omega)⟩
           ·exact fun _ _ h => absurd h (by decide)
           ·exact fun _ _ h => absurd h (by decide)
           ·exact fun _ _ h => absurd h (by decide)
           ·intro _ _ _ a W hI hun haft hi
            obtain ⟨gn, f0, hown⟩ : ∃ gn, a.eval (.tmp 55) = .slice (some ⟨gn, 0, none⟩) 0 0 ∧ OwnK enW R9 43 3 W (a.eval (.tmp 55)) [] := haft ⟨0, .data⟩ (by simp) rfl _ _ rfl rfl
            have f3 := haft ⟨3, .data⟩ (by simp) rfl _ _ rfl rfl
            rw [f0] at hown
            obtain ⟨v', w', hr, ho, hb⟩ := append_newR R9 W _ _ (((HO9.out.keep hI).read enW_len).hi ai HKm.out) (by have := HM9.out; have := HKm.out; rw [List.length_take]; omega) gn hown (by have := hI.size; have := HR9.out; omega)
            exact b_val hi hI rfl _ _ (run_append_op rfl f0 f3 hr) hb ho
           ·intro _ _ _ a W hI hun haft hi
            have e7 := hun 7 (by kernel_rfl)
            exact b_same hi hI rfl _ (run_fieldAddr_any rfl e7 (at_event4 b7 0 W)) rfl
           ·intro _ _ _ a W hI hun haft hi
            have f5 : a.eval (.tmp 60) = .pointer (some ⟨b7, 24, none⟩) := haft ⟨5, .data⟩ (by simp) rfl _ _ rfl rfl
            exact b_same hi hI rfl _ (run_loadmid_op rfl f5 (HDe.out W (HB9.out.trans (hI.mono HB9.out.size))) Tryz.underlying43 rfl (by kernel_rfl)) rfl
           ·intro _ _ _ a W hI hun haft hi
            have f5 : a.eval (.tmp 61) = eV vx := haft ⟨6, .data⟩ (by simp) rfl _ _ rfl rfl
            exact b_val hi hI rfl _ _ (run_buildSlice_op (vs := #[(0, eV vx)]) rfl (by simp only [List.map_toArray, List.map_cons, List.map_nil, f5]) (bsVR vx W)) ((Below.refl _ _).alloc (Nat.le_refl _) _) (sl_oneR vx W)
           ·exact fun _ h => absurd rfl h
           ·exact fun _ _ h => absurd h (by decide)
           ·exact fun _ _ h => absurd h (by decide)
           ·exact fun _ _ h => absurd h (by decide)
           ·exact fun h => absurd h (Nat.lt_irrefl _)
           ·exact fun h => absurd h (by decide)
          ·refine ⟨?_, ?_, ?_, ?_, ?_, ?_, ?_, ?_, ?_, ?_, ?_, ?_, ?_, ?_, trivial⟩
           ·exact fun _ h => absurd h (by decide)
           ·intro _ _ a W hun haft hi
            have e5 := hun 5 (by kernel_rfl)
            exact wpOp_val hi rfl _ _ (run_move_op rfl e5) ⟨_, rfl, rfl, rfl⟩
           ·intro _ _ a W hun haft hi
            have e8 := hun 8 (by kernel_rfl)
            exact wpOp_val hi rfl _ _ (run_move_op rfl e8) ⟨_, rfl, rfl, rfl⟩
           ·intro _ _ a W hun haft hi
            have f1 := haft ⟨1, .data⟩ (by simp) rfl rfl _ _ rfl rfl
            have f2 := haft ⟨2, .data⟩ (by simp) rfl rfl _ _ rfl rfl
            exact wpOp_val hi rfl _ _ (run_slhi_op rfl f1 f2 (run_sliceK_hi W _ _ Tryz.underlying39 (sizeVR vx) _ _ _ _ HKc.out)) ⟨_, rfl, rfl, rfl⟩
           ·exact fun _ h => absurd h (by decide)
           ·exact fun _ h => absurd h (by decide)
           ·exact fun _ h => absurd h (by decide)
           ·exact fun _ h => absurd h (by decide)
           ·exact fun _ h => absurd h (by decide)
           ·intro _ _ a W hun haft hi
            have e5 := hun 5 (by kernel_rfl)
            exact wpOp_val hi rfl _ _ (run_move_op rfl e5) ⟨_, rfl, rfl, rfl⟩
           ·intro _ _ a W hun haft hi
            have e8 := hun 8 (by kernel_rfl)
            exact wpOp_val hi rfl _ _ (run_move_op rfl e8) ⟨_, rfl, rfl, rfl⟩
           ·intro _ _ a W hun haft hi
            have f8 := haft ⟨9, .data⟩ (by simp) rfl rfl _ _ rfl rfl
            have f9 := haft ⟨10, .data⟩ (by simp) rfl rfl _ _ rfl rfl
            exact wpOp_val hi rfl _ _ (run_sllo_op rfl f8 f9 (run_sliceK_lo W _ _ Tryz.underlying39 (sizeVR vx) _ _ _ _ HKm.out)) ⟨_, rfl, rfl, rfl⟩
           ·exact fun h => absurd h (Nat.lt_irrefl _)
           ·exact fun h => absurd h (by decide)
          ·intro a W hI hun haft
           have f4 : OwnK enW R9 43 3 W (a.eval (.tmp 59)) (out.take ai) := haft ⟨4, .data⟩ (by simp) rfl _ _ rfl rfl
           have f6 : SlK enW 3 W (a.eval (.tmp 62)) [vx] := haft ⟨7, .data⟩ (by simp) rfl _ _ rfl rfl
           have hR9 : R9 ≤ W.heap.size := by have := hI.size; have := HR9.out; omega
           obtain ⟨v', w', hr, ho, hgr, _⟩ := append_vR R9 W _ _ f4 _ _ f6 (by have := HM9.out; have := HKm.out; simp; omega) hR9
           exact wpOp_val rfl rfl v' w' (run_append_op rfl rfl rfl hr) ⟨v', rfl, ho, hI.grown hgr (by have := hI.size; omega) (fun q e => by have := (f4.lt q e).1; have := HR9.out; omega)⟩
          ·intro vals a W hJ hsl hp
           obtain ⟨ho7, hI7⟩ := hJ
           have f10 : a.eval (.tmp 66) = .slice (slK A3 c3 ai 3) (m - ai) (c3 - ai) := (hsl 11 _ _ rfl (by decide) rfl).trans (hp 11 (by decide) (by decide))
           have f7 : a.eval (.tmp 63) = vals 8 := hsl 8 _ _ rfl (by decide) rfl
           rw [← f7] at ho7
           have hR9 : R9 ≤ W.heap.size := by have := hI7.size; have := HR9.out; omega
           obtain ⟨v', w', hr, ho, hgr, _⟩ := append_vR R9 W _ _ ho7 _ _ (((HO9.out.keep hI7).read enW_len).lo ai HKm.out) (by have := HM9.out; have := HOl.out; have := HKm.out; simp; omega) hR9
           exact wpOp_val rfl rfl v' w' (run_append_op rfl rfl f10 hr) ⟨v', rfl, ho, hI7.grown hgr (by have := hI7.size; omega) (fun q e => by have := (ho7.lt q e).1; have := HR9.out; omega)⟩
          ·intro v a W hJ hs
           have f11 : a.eval (.tmp 67) = v := hs 67 rfl
           exact wpOp_val rfl rfl v W (run_assign_op rfl f11) ⟨v, rfl, rfl, hJ⟩
          ·rintro vals Wq ⟨hv1, hv2⟩
           have HV1 := hid hv1
           have HV2 := hid hv2
           obtain ⟨v3', hv3⟩ : ∃ v3', vals 13 = v3' := ⟨_, rfl⟩
           rw [hv3] at HV1
           have HV3 := hid hv3
           clear hv1 hv2 hv3
           simp only [layN, layS, List.range, List.range.loop, if_true, Act.put, Nat.zero_add, Nat.reduceAdd, HV3.out]
           have HBE := hid (show Below w1.heap.size w1 Wq from HbY.out.trans ((HB9.out.trans (HV2.out.mono HB9.out.size)).mono HbY.out.size))
           have HOE := hid (show OwnK enW p 43 3 Wq v3' (riseC cfV (vs.take (j + 1))) by
            rw [HNx.out, HAd.out, if_neg (by rw [HYn.out]; exact fun e => by cases e)]
            exact HV1.out.base_ (by have := HR9.out; have := HP1.out; have := HB9.out.size; have := HbY.out.size; omega))
           have hw := HW1.out
           have hjm := HJ1.out
           go_wp2
           go_roundw
           case rel => exact ⟨j + 1, by go_num, by omega, HOE.out, HBE.out⟩
           case measure => simp [intOf] <;> omega
    ·go_wp2_with fail
     go_ret
     have hjN : j = n := by omega
     rw [hjN, List.take_of_length_le (by rw [← HVs.out, List.length_map, HNn.out]; exact Nat.le_refl _)] at ho
     exact ⟨_, rfl, by first | exact ho | (rw [HP.out]; exact ho), HB1.out.trans (hbw.mono HB1.out.size)⟩
end Go.Proofs.YtdgglhlofnigkaaGreatDoor
