/-
  StoreLive: true for every input, by a walk (written by genslw.py). Conditions: lengths, CutOk.
-/
import Derived.Test.YtojhloaleefieaaGreatSLvG
namespace Go.Proofs.YtojhloaleefieaaGreat
open Go.RowKit Go.MapKept Go.Sort

theorem zeroLl : (Tryz.prog.info? 24).map (fun i => (i.zero, i.size)) = some (some (.agg #[.int .i64 0, .string ⟨#[]⟩, .string ⟨#[]⟩, .string ⟨#[]⟩, .string ⟨#[]⟩]), 5) := by kernel_rfl
theorem sum_le (row : List Ev) (l : List El) (i : Nat) : sumL row (l.take i) ≤ sumL row l := by
  unfold sumL
  conv => rhs; rw [← List.take_append_drop i l]
  rw [List.map_append, List.sum_append_nat]
  omega
theorem cnt_le (row : List Ev) (l : List El) (i : Nat) : cntL row (l.take i) ≤ l.length := by
  unfold cntL
  refine Nat.le_trans (List.length_filter_le _ _) ?_
  rw [List.length_take]
  omega
/-- The item that comes next. -/
theorem item_next {row : List Ev} {E : List El} {acc : List (El × Value)} (h : acc.map Prod.fst = E.filter (liveQ row)) {i : Nat} {y : El} (hy : E[i]? = some y) (hq : liveQ row y = true) : ∃ v, acc[cntL row (E.take i)]? = some (y, v) := by
  have h1 := cnt_at hy hq
  rw [← h, List.getElem?_map] at h1
  cases ha : acc[cntL row (E.take i)]? with
  | none => rw [ha] at h1; cases h1
  | some q =>
    rw [ha] at h1
    simp only [Option.map_some, Option.some.injEq] at h1
    exact ⟨q.2, by rw [← h1]⟩

set_option maxRecDepth 100000 in
set_option maxHeartbeats 16000000 in
theorem slive_walk (x : El) (l : List Ev) (A : Option Addr) (N c : Nat) (w : World) (hs : SlK encE 27 w (.slice A N c) l) (hN : l.length = N) (hN2 : N ≤ 4611686018427387903) (hf : ∀ e ∈ l, Fit e) (hw : CutOk w) :
    Calls Tryz.prog 3 #[.slice A N c, eE x] w (Law w) := by
  have HN := Lib.hid hN
  have HFw := Lib.hid (few_is7 l A N c hN hN2 hf)
  have HZe := Lib.hid (zero_of_info zeroE).1
  have HZv := Lib.hid (zero_of_info zeroV).1
  have HZl := Lib.hid (zero_of_info zeroLl).1
  obtain ⟨p, hp⟩ : ∃ p, w.heap.size = p := ⟨_, rfl⟩
  obtain ⟨w0, hw0⟩ : ∃ w0, w0 = w.alloc (.cells #[.int .i64 x.k, .string x.a, .string x.b, .string x.c, .string x.d] 24) := ⟨_, rfl⟩
  have hb0 : Below w.heap.size w w0 := by rw [hw0]; exact (Below.refl _ _).alloc (Nat.le_refl _) _
  have HE0 := Lib.hid (show Blk w0 p 24 #[.int .i64 x.k, .string x.a, .string x.b, .string x.c, .string x.d] by rw [hw0, ← hp]; exact Blk.new w _ _)
  have HS := Lib.hid (hs.below hb0)
  have HCw := Lib.hid (hw.below hb0)
  have HB0 := Lib.hid hb0
  have HX0 := Lib.hid hw0
  have HP := Lib.hid hp
  have HP0 := Lib.hid (show p < w0.heap.size from HE0.out.lt)
  clear hs hN hN2 hf hw hb0 hw0
  unfold eE elV
  cases hfew : fewB l
  · have HFe := Lib.hid (HFw.out false hfew)
    clear hfew HFw
    go_enter Tryz.func3, Tryz.ntmps3
    go_upto_region 1 with fail
    rw [← HX0.out]
    clear hp
    go_wp2_with fail
    refine (fixed7 w0 HCw.out).mono ?_
    rintro e w1 ⟨rfl, hb⟩
    have HS1 := Lib.hid (HS.out.below hb)
    have HB1 := Lib.hid (HB0.out.trans (hb.mono HB0.out.size))
    clear hb
    go_wp2_with fail
    refine (HFe.out w1 HS1.out).mono ?_
    rintro e w2 ⟨rfl, hb⟩
    have HB2 := Lib.hid (HB1.out.trans (hb.mono HB1.out.size))
    clear hb
    go_wp2
    go_ret
    exact ⟨rfl, HB2.out⟩
  · have HFe := Lib.hid (HFw.out true hfew)
    have hsh : ∀ e ∈ l, shortB e = true := by
      unfold fewB at hfew
      simp only [Bool.and_eq_true, List.all_eq_true] at hfew
      exact hfew.1
    have hl60 : N ≤ 60 := by
      unfold fewB at hfew
      simp only [Bool.and_eq_true, decide_eq_true_eq] at hfew
      rw [← HN.out]; exact hfew.2
    have HSh := Lib.hid hsh
    have H60 := Lib.hid hl60
    clear hfew HFw hsh hl60
    go_enter Tryz.func3, Tryz.ntmps3
    go_upto_region 1 with fail
    rw [← HX0.out]
    first | rw [hp] | skip
    clear hp
    go_wp2_with fail
    refine (fixed7 w0 HCw.out).mono ?_
    rintro e w1 ⟨rfl, hb⟩
    have HS1 := Lib.hid (HS.out.below hb)
    have HB1 := Lib.hid (HB0.out.trans (hb.mono HB0.out.size))
    have HQ1 := Lib.hid hb
    clear hb
    go_wp2_with fail
    refine (HFe.out w1 HS1.out).mono ?_
    rintro e w2 ⟨rfl, hb⟩
    have HS2 := Lib.hid (HS1.out.below hb)
    have HB2 := Lib.hid (HB1.out.trans (hb.mono HB1.out.size))
    have HQ2 := Lib.hid (HQ1.out.trans (hb.mono HQ1.out.size))
    clear hb
    go_wp2_with fail
    refine (causal_any l A N c w2 HS2.out HN.out H60.out (fun e he => short_tiny e (HSh.out e he))).mono ?_
    rintro e w3 ⟨rv, rfl, ho3, hb⟩
    obtain ⟨row, hrow⟩ : ∃ row, (causC l).1 = row := ⟨_, rfl⟩
    obtain ⟨f, hff⟩ : ∃ f, (causC l).2 = f := ⟨_, rfl⟩
    have hcl : CausL row := by rw [← hrow]; exact caus_row l
    rw [hrow] at ho3
    rw [hff]
    have hrl : row.length ≤ 60 := by have := causC_len l; rw [hrow] at this; have h1 := HN.out; have h2 := H60.out; omega
    have hrm : ∀ e ∈ row, Lens e := fun e he => short_lens e (HSh.out e (causC_mem l e (by rw [hrow]; exact he)))
    have HCl := Lib.hid hcl
    have HRm := Lib.hid hrm
    have HRl := Lib.hid hrl
    have HB3 := Lib.hid (HB2.out.trans (hb.mono HB2.out.size))
    have HQ3 := Lib.hid (HQ2.out.trans (hb.mono HQ2.out.size))
    have HO3 := Lib.hid ho3
    obtain ⟨A5, c5, rfl, _, _⟩ := ho3.read encE_len
    clear hb hrow hff ho3 hrl hrm hcl
    obtain ⟨n5, hn5⟩ : ∃ n5, row.length = n5 := ⟨_, rfl⟩
    rw [hn5] at HO3 ⊢
    have HN5 := Lib.hid hn5
    have HN6 := Lib.hid (show n5 ≤ 60 by rw [← hn5]; exact HRl.out)
    clear hn5
    have hzv := HZv.out
    have hAl := fun c => World.setRow_alloc_new w3 (vA fun _ => 0) c 28
    have hZ : Blk (w3.alloc (.cells (vA fun _ => 0) 28)) w3.heap.size 28 (vA fun _ => 0) := Blk.new _ _ _
    go_wp2_with (first
      | (refine wpList_store_row rfl 28 (.tmp 6) (.tmp 25) rfl w3.heap.size (vA f) rfl rfl _ _ hZ (sizeV _) (by rw [vA_size, vA_size]) (vA_one _) ?_; rw [hAl])
      | fail)
    clear hzv hAl hZ
    obtain ⟨w4, hw4⟩ : ∃ w4, w3.alloc (.cells (vA f) 28) = w4 := ⟨_, rfl⟩
    rw [hw4]
    have hb4 : Below w3.heap.size w3 w4 := by rw [← hw4]; exact (Below.refl _ _).alloc (Nat.le_refl _) _
    have HB4 := Lib.hid (HB3.out.trans (hb4.mono HB3.out.size))
    have HQ4 := Lib.hid (HQ3.out.trans (hb4.mono HQ3.out.size))
    have HO4 := Lib.hid (HO3.out.keep hb4)
    clear hw4 hb4 HO3
    refine (new_any w4).mono ?_
    rintro e w5 ⟨rfl, hw5⟩
    obtain ⟨sa, hsa⟩ : ∃ sa, w4.heap.size = sa := ⟨_, rfl⟩
    have hs5 : w5.heap.size = sa + 1 := by rw [hw5, ← hsa]; simp
    have hb5 : Below w4.heap.size w4 w5 := by rw [hw5]; exact (Below.refl _ _).alloc (Nat.le_refl _) _
    have ha : StAt w5 sa (sa + 1) [] := by
      have := new_at w4 (sa + 1)
      rw [hsa, ← hw5] at this
      exact this
    rw [hsa]
    have HA5 := Lib.hid ha
    have HS5 := Lib.hid hs5
    have HB5 := Lib.hid (HB4.out.trans (hb5.mono HB4.out.size))
    have HQ5 := Lib.hid (HQ4.out.trans (hb5.mono HQ4.out.size))
    have HR5 := Lib.hid (HO4.out.keep hb5)
    have HRb : Hid (∀ g, (Value.slice A5 n5 c5).ownBlock = some g → g < sa) := Lib.hid fun g h => by
      have := (HO4.out.lt g h).2
      rw [hsa] at this; exact this
    have HWa := Lib.hid (show w.heap.size ≤ sa by rw [← hsa]; exact HB4.out.size)
    have H0 := Lib.hid (show 0 < sa by have := HCw.out.1; have h2 := HQ4.out.size; omega)
    have HPs := Lib.hid (show p < sa by have := HP0.out; have h2 := HQ4.out.size; omega)
    have HE5 := Lib.hid (HE0.out.below HQ5.out HP0.out)
    clear hw5 hs5 hb5 ha hsa
    go_wp2_with fail
    go_loopw [29] (fun v29 wr => ∃ j : Nat, v29 = .int .i64 j ∧ j ≤ n5 ∧ StAt wr sa (sa + 1) (runS (row.take j)) ∧ Kept sa (sa + 1) w5 wr) (fun v29 _ => n5 - (intOf v29).toNat)
    case atStart => exact ⟨0, rfl, Nat.zero_le _, HA5.out, Kept.refl⟩
    case round =>
      obtain ⟨j, rfl, hj, hst, hk⟩ := hrel
      obtain ⟨wo, rfl⟩ : ∃ wo, wo = wr := ⟨_, rfl⟩
      have HSt := Lib.hid hst
      have HKp := Lib.hid hk
      clear hst hk
      by_cases hlt : j < n5
      · obtain ⟨e, he⟩ : ∃ e, row[j]? = some e := ⟨row[j]'(by rw [HN5.out]; exact hlt), List.getElem?_eq_getElem _⟩
        have hro : OwnK encE w2.heap.size 38 27 wo (.slice A5 n5 c5) row := HR5.out.same fun g h => HKp.out.same (HR5.out.lt g h).2 (by have := HRb.out g h; omega) (by have := HRb.out g h; omega)
        obtain ⟨g, rfl, _, _, hce⟩ := hro.at_ encE_len he
        have HCe := Lib.hid hce
        have HAt := Lib.hid (at_Ev0 g c5 n5 j hlt wo)
        have HLe := Lib.hid (HRm.out e (List.mem_of_getElem? he))
        have HNx := Lib.hid (runS_next he)
        have HOe := Lib.hid (HCl.out.1 e (List.mem_of_getElem? he)).1
        have HAl := Lib.hid fun c => World.setRow_alloc_new wo (evC ev0) c 38
        have HZz := Lib.hid (show Blk (wo.alloc (.cells (evC ev0) 38)) wo.heap.size 38 (evC ev0) from Blk.new _ _ _)
        obtain ⟨X, hX⟩ : ∃ X, X = wo.alloc (.cells (evC e) 38) := ⟨_, rfl⟩
        have hbX : Below wo.heap.size wo X := by rw [hX]; exact (Below.refl _ _).alloc (Nat.le_refl _) _
        have hBX : Blk X wo.heap.size 38 (evC e) := by rw [hX]; exact Blk.new _ _ _
        have HXe := Lib.hid hX
        have HBX := Lib.hid hBX
        have HKX := Lib.hid (HKp.out.trans (Kept.of_below hbX))
        have HSX := Lib.hid (HSt.out.keep hbX)
        clear hX hbX hBX he hce hro
        have hz := HZe.out
        go_wp2_with (first
          | (refine wpList_val (o := ⟨some 31, _, _, _, _, _⟩) rfl (.pointer (some ⟨g, j * 27, none⟩)) wo (run_indexAddr_op rfl rfl rfl HAt.out) ?_)
          | (refine wpList_load_midif rfl 38 (.tmp 31) rfl g (j * 27) rfl (encE e) _ HCe.out Tryz.underlying38 rfl (sizeE e) ?_)
          | (refine wpList_store_row rfl 38 (.tmp 9) (.tmp 32) rfl wo.heap.size (evC e) rfl rfl _ _ HZz.out (sizeE e) rfl (by kernel_rfl) ?_; rw [HAl.out, ← HXe.out])
          | (refine wpList_load_if rfl 38 (.tmp 9) rfl wo.heap.size rfl _ _ _ _ HBX.out Tryz.underlying38 rfl (sizeE e) ?_)
          | fail)
        clear hz
        refine (do_yes HSX.out (by have := HKX.out.size; have := HS5.out; omega) e HLe.out ((HKX.out).cut H0.out (by omega) (HCw.out.below HQ5.out)) HOe.out _ rfl).mono ?_
        rintro x w7 ⟨rfl, hs7, hk7⟩
        have HS7 := Lib.hid (show StAt w7 sa (sa + 1) (runS (row.take (j + 1))) by rw [HNx.out, if_pos HOe.out]; exact hs7)
        have HK7 := Lib.hid (HKX.out.trans hk7)
        clear hs7 hk7
        have hw := IntWalk.i64_in ((j : Int) + 1) (by have := HN6.out; omega)
        have hjm : ¬ 9223372036854775807 < j + 1 := by have := HN6.out; omega
        go_wp2
        go_roundw
        case rel => exact ⟨j + 1, by go_num, by omega, HS7.out, HK7.out⟩
        case measure => simp [intOf] <;> omega
      · have hjN : n5 = j := by omega
        subst hjN
        rw [List.take_of_length_le (Nat.le_of_eq HN5.out)] at HSt
        obtain ⟨hokS, htot⟩ := runS_ok row HRm.out
        have HTt := Lib.hid (show totS (runS row) ≤ 60 from Nat.le_trans htot HRl.out)
        have HRo := Lib.hid (show OwnK encE w2.heap.size 38 27 wo (.slice A5 n5 c5) row from HR5.out.same fun g h => HKp.out.same (HR5.out.lt g h).2 (by have := HRb.out g h; omega) (by have := HRb.out g h; omega))
        have HEo := Lib.hid (show Blk wo p 24 #[.int .i64 x.k, .string x.a, .string x.b, .string x.c, .string x.d] from (HKp.out.same HE5.out.lt (by have := HPs.out; omega) (by have := HPs.out; omega)).trans HE5.out)
        have HBw := Lib.hid (show Below w.heap.size w wo from HB5.out.trans (HKp.out.below (by have := HWa.out; omega) (by have := HWa.out; omega) HB5.out.size))
        have HOkS := Lib.hid hokS
        clear hokS htot hlt hj
        go_wp2_with fail
        refine (all_at HSt.out (by have h1 := HOkS.out.len; have h2 := HTt.out; omega) (fun x => by have h1 := tot_ent (x := x) (σ := runS row); have h2 := HTt.out; omega)).mono ?_
        rintro e w8 ⟨v12, es, rfl, hpe, hse, hit, hb8⟩
        obtain ⟨acc, hacc, hfst, hrows⟩ := hit
        have hacf := hfst.trans (all_els HCl.out HRm.out hpe hse)
        obtain ⟨A12, c12, rfl, _, _⟩ := hacc.read enI_len
        obtain ⟨n12, hn12⟩ : ∃ n12, acc.length = n12 := ⟨_, rfl⟩
        rw [hn12] at hacc ⊢
        have HN12 := Lib.hid hn12
        have HAcc8 := Lib.hid hacc
        have HRows8 := Lib.hid hrows
        have HSt8 := Lib.hid (HSt.out.keep hb8)
        have HRo8 := Lib.hid (HRo.out.keep hb8)
        have HEo8 := Lib.hid (show Blk w8 p 24 #[.int .i64 x.k, .string x.a, .string x.b, .string x.c, .string x.d] from HEo.out.below hb8 HEo.out.lt)
        have HBw8 := Lib.hid (HBw.out.trans (hb8.mono HBw.out.size))
        have HSum := Lib.hid (sum_all HCl.out HRm.out)
        have HEl6 := Lib.hid (show (elsL row).length ≤ 60 from Nat.le_trans (els_len row) HRl.out)
        clear hpe hse hfst hrows hacc hn12 hb8
        go_wp2_with fail
        refine (els_any row A5 n5 c5 w8 (HRo8.out.read encE_len) HN5.out (by have := HN6.out; omega)).mono ?_
        rintro e wz ⟨v41, rfl, ho41, hbz⟩
        obtain ⟨A41, c41, rfl, _, _⟩ := ho41.read enL_len
        have hers := els_rise row
        obtain ⟨E, hE⟩ : ∃ E, elsL row = E := ⟨_, rfl⟩
        rw [hE] at ho41 hacf HSum HEl6 ⊢
        obtain ⟨nE, hnE⟩ : ∃ nE, E.length = nE := ⟨_, rfl⟩
        rw [hnE] at ho41 HEl6 ⊢
        have HNE := Lib.hid hnE
        have HAcf := Lib.hid hacf
        have HElsZ := Lib.hid ho41
        have HAccZ := Lib.hid (OwnK.keep HAcc8.out hbz)
        have HRowsZ := Lib.hid (show ∀ q ∈ acc, RowIs wz wo.heap.size q.2 (entS q.1 (runS row)) from fun q hq => (HRows8.out q hq).keep hbz)
        have HStZ := Lib.hid (HSt8.out.keep hbz)
        have HRoZ := Lib.hid (OwnK.keep HRo8.out hbz)
        have HEoZ := Lib.hid (show Blk wz p 24 #[.int .i64 x.k, .string x.a, .string x.b, .string x.c, .string x.d] from HEo8.out.below hbz HEo8.out.lt)
        have HBZ := Lib.hid (HBw8.out.trans (hbz.mono HBw8.out.size))
        have HOks := Lib.hid (show ∀ e ∈ row, okB e = true from fun e he => (HCl.out.1 e he).1)
        clear hers hE hnE hacf ho41 hbz
        go_wp2_with fail
        go_loopw [10, 11, 43] (fun v10 v11 v43 wr => ∃ i : Nat, v43 = .int .i64 i ∧ i ≤ nE ∧ v10 = .int .i64 ((sumL row (E.take i) : Nat) : Int) ∧ v11 = .int .i64 ((cntL row (E.take i) : Nat) : Int) ∧ Below wz.heap.size wz wr) (fun _ _ v43 _ => nE - (intOf v43).toNat)
        case atStart => exact ⟨0, rfl, Nat.zero_le _, rfl, rfl, Below.refl _ _⟩
        case round =>
          obtain ⟨i, rfl, hi, rfl, rfl, hbi⟩ := hrel
          obtain ⟨wi, rfl⟩ : ∃ wi, wi = wr := ⟨_, rfl⟩
          have HBi := Lib.hid hbi
          by_cases hlt : i < nE
          · obtain ⟨y, hy⟩ : ∃ y, E[i]? = some y := ⟨E[i]'(by rw [HNE.out]; exact hlt), List.getElem?_eq_getElem _⟩
            obtain ⟨g41, rfl, _, _, hcy⟩ := (OwnK.keep HElsZ.out hbi).at_ enL_len hy
            have HCy := Lib.hid hcy
            have HAt := Lib.hid (at_El0 g41 c41 nE i hlt wi)
            have hsn := sum_next (row := row) hy
            have hcn := cnt_next (row := row) hy
            have hs60 : sumL row (E.take i) ≤ 60 := by have h1 := sum_le row E i; have h2 := HTt.out; have h3 := HSum.out; omega
            have hc60 : cntL row (E.take i) ≤ 60 := by have h1 := cnt_le row E i; have h2 := HEl6.out; have h3 := HNE.out; omega
            have hin := fun hq => item_next HAcf.out (i := i) hy hq
            obtain ⟨s10, hs10⟩ : ∃ s10, sumL row (E.take i) = s10 := ⟨_, rfl⟩
            obtain ⟨at11, hat11⟩ : ∃ at11, cntL row (E.take i) = at11 := ⟨_, rfl⟩
            obtain ⟨n15, hn15⟩ : ∃ n15, (liveL row y).length = n15 := ⟨_, rfl⟩
            have hlq : liveQ row y = decide (0 < n15) := by unfold liveQ; rw [hn15]
            have hn60 : n15 ≤ 60 := by rw [← hn15]; exact Nat.le_trans (live_le row y) HRl.out
            rw [hs10, hn15] at hsn
            rw [hat11] at hcn hin hc60
            rw [hs10] at hs60
            rw [hs10, hat11]
            have HSn := Lib.hid hsn
            have HCn := Lib.hid hcn
            have HIn := Lib.hid hin
            have HLq := Lib.hid hlq
            have HS60 := Lib.hid hs60
            have HC60 := Lib.hid hc60
            have HN60 := Lib.hid hn60
            have HN15 := Lib.hid hn15
            have HAl := Lib.hid fun c => World.setRow_alloc_new wi #[.int .i64 0, .string ⟨#[]⟩, .string ⟨#[]⟩, .string ⟨#[]⟩, .string ⟨#[]⟩] c 24
            have HZz := Lib.hid (show Blk (wi.alloc (.cells #[.int .i64 0, .string ⟨#[]⟩, .string ⟨#[]⟩, .string ⟨#[]⟩, .string ⟨#[]⟩] 24)) wi.heap.size 24 #[.int .i64 0, .string ⟨#[]⟩, .string ⟨#[]⟩, .string ⟨#[]⟩, .string ⟨#[]⟩] from Blk.new _ _ _)
            obtain ⟨Y, hY⟩ : ∃ Y, Y = wi.alloc (.cells #[.int .i64 y.k, .string y.a, .string y.b, .string y.c, .string y.d] 24) := ⟨_, rfl⟩
            have hbY : Below wi.heap.size wi Y := by rw [hY]; exact (Below.refl _ _).alloc (Nat.le_refl _) _
            have HYB := Lib.hid (show Blk Y wi.heap.size 24 #[.int .i64 y.k, .string y.a, .string y.b, .string y.c, .string y.d] by rw [hY]; exact Blk.new _ _ _)
            have HYe := Lib.hid hY
            have HZY := Lib.hid (show Below wz.heap.size wz Y from hbi.trans (hbY.mono hbi.size))
            have HW1 := Lib.hid (IntWalk.i64_in ((i : Int) + 1) (by have := HEl6.out; omega))
            have HJ1 := Lib.hid (show ¬ 9223372036854775807 < i + 1 by have := HEl6.out; omega)
            have HW2 := Lib.hid (IntWalk.i64_in ((s10 : Int) + (n15 : Int)) (by omega))
            have HW3 := Lib.hid (IntWalk.i64_in ((at11 : Int) + 1) (by omega))
            clear hy hcy hsn hcn hs60 hc60 hin hs10 hat11 hn15 hlq hn60 hY hbY hbi
            have hz := HZl.out
            go_upto_region 19 with (first
              | (refine wpList_val (o := ⟨some 45, _, _, _, _, _⟩) rfl (.pointer (some ⟨g41, i * 5, none⟩)) wi (run_indexAddr_op rfl rfl rfl HAt.out) ?_)
              | (refine wpList_load_midif rfl 24 (.tmp 45) rfl g41 (i * 5) rfl (enL y) _ HCy.out Tryz.underlying24 rfl (by kernel_rfl) ?_)
              | (refine wpList_store_row (o := ⟨none, _, _, _, _, _⟩) rfl 24 (.tmp 14) (.tmp 46) rfl wi.heap.size #[.int .i64 y.k, .string y.a, .string y.b, .string y.c, .string y.d] rfl rfl _ _ HZz.out (by kernel_rfl) rfl (by simp [Value.oneCell']) ?_; rw [HAl.out, ← HYe.out])
              | fail)
            clear hz HZz HAl HYe HAt HCy
            obtain ⟨b14, hb14⟩ : ∃ b14, wi.heap.size = b14 := ⟨_, rfl⟩
            rw [hb14] at HYB ⊢
            clear hb14
            try simp only [Act.put]
            go_wp2_with (first
              | (refine wpList_load_if rfl 24 (.tmp 14) rfl b14 rfl _ _ _ _ HYB.out Tryz.underlying24 rfl (by kernel_rfl) ?_)
              | fail)
            refine (live_any y row A5 n5 c5 Y ((OwnK.keep HRoZ.out HZY.out).read encE_len) HN5.out (by have := HN6.out; omega) HOks.out).mono ?_
            rintro e w9 ⟨v15, rfl, ho15, hb9⟩
            obtain ⟨A15, c15, rfl, _, _⟩ := ho15.read encE_len
            rw [HN15.out] at ho15 ⊢
            have HO15 := Lib.hid ho15
            have HB9 := Lib.hid (show Below wz.heap.size wz w9 from HZY.out.trans (hb9.mono HZY.out.size))
            have HY9 := Lib.hid (show Blk w9 b14 24 #[.int .i64 y.k, .string y.a, .string y.b, .string y.c, .string y.d] from HYB.out.below hb9 HYB.out.lt)
            clear ho15 hb9
            have hw2 := HW2.out
            go_upto_region 21 with fail
            clear hw2
            go_wp2_with (first
              | (refine wpList_load_if rfl 24 (.tmp 14) rfl b14 rfl _ _ _ _ HY9.out Tryz.underlying24 rfl (by kernel_rfl) ?_)
              | fail)
            refine (entries_live HCl.out HRm.out (HStZ.out.keep HB9.out) HRl.out y).mono ?_
            rintro e w10 ⟨v56, rfl, ho56, hb10⟩
            have HO56 := Lib.hid ho56
            have HO10 := Lib.hid (OwnK.keep HO15.out hb10)
            have HB10 := Lib.hid (show Below wz.heap.size wz w10 from HB9.out.trans (hb10.mono HB9.out.size))
            have HY10 := Lib.hid (show Blk w10 b14 24 #[.int .i64 y.k, .string y.a, .string y.b, .string y.c, .string y.d] from HY9.out.below hb10 HY9.out.lt)
            clear ho56 hb10
            go_wp2_with fail
            refine (same_own _ _ v56 (.slice A15 n15 c15) _ _ w10 HO56.out HO10.out (by rw [HN15.out]; have := HN60.out; omega) rfl).mono ?_
            rintro e w11 ⟨rfl, hb11⟩
            have HO11 := Lib.hid (OwnK.keep HO10.out hb11)
            have HB11 := Lib.hid (show Below wz.heap.size wz w11 from HB10.out.trans (hb11.mono HB10.out.size))
            have HY11 := Lib.hid (show Blk w11 b14 24 #[.int .i64 y.k, .string y.a, .string y.b, .string y.c, .string y.d] from HY10.out.below hb11 HY10.out.lt)
            have HEn := Lib.hid (show (entS y (runS row)).length = n15 by rw [live_len HCl.out HRm.out, HN15.out])
            clear hb11
            go_wp2_with (first
              | (refine wpList_load_if rfl 24 (.tmp 14) rfl b14 rfl _ _ _ _ HY11.out Tryz.underlying24 rfl (by kernel_rfl) ?_)
              | fail)
            by_cases hq : 0 < n15
            · refine (has_at (HStZ.out.keep HB11.out) y true (decide_eq_true (by rw [HEn.out]; exact hq))).mono ?_
              rintro e w12 ⟨rfl, hb12⟩
              have HO12 := Lib.hid (OwnK.keep HO11.out hb12)
              have HB12 := Lib.hid (show Below wz.heap.size wz w12 from HB11.out.trans (hb12.mono HB11.out.size))
              have HY12 := Lib.hid (show Blk w12 b14 24 #[.int .i64 y.k, .string y.a, .string y.b, .string y.c, .string y.d] from HY11.out.below hb12 HY11.out.lt)
              have HLqt := Lib.hid (show liveQ row y = true by rw [HLq.out]; exact decide_eq_true hq)
              obtain ⟨vI, hvI⟩ := HIn.out HLqt.out
              have hm12 : at11 < n12 := by rw [← HN12.out]; exact (List.getElem?_eq_some_iff.1 hvI).1
              obtain ⟨g12, rfl, _, hg12, hc12⟩ := HAccZ.out.at_ enI_len hvI
              have HIp := Lib.hid (show ∀ W : World, Below wz.heap.size wz W → W.rangeAt g12 (at11 * 6) (enL y) ∧ W.cell? ⟨g12, at11 * 6 + 5, none⟩ = some vI from fun W h => item_parts (rangeAt_below hc12 hg12 h))
              obtain ⟨l', q1, q2, q3⟩ := HRowsZ.out _ (List.mem_of_getElem? hvI)
              rw [live_row HCl.out HRm.out y q1 q2] at q3
              obtain ⟨AI, cI, rfl, _, _⟩ := q3.read enN_len
              obtain ⟨nI, hnI⟩ : ∃ nI, ((sortD (liveL row y)).map evP).length = nI := ⟨_, rfl⟩
              rw [hnI] at q3 HIp
              have HIt := Lib.hid q3
              have HYr := Lib.hid (show ∀ W : World, Below w12.heap.size w12 W → W.rangeAt b14 0 (enL y) from fun W h => World.rangeAt_of_block (C := #[.int .i64 y.k, .string y.a, .string y.b, .string y.c, .string y.d]) (HY12.out.below h HY12.out.lt) 0 5)
              have d1 : decide ((0 : Int) < (n15 : Int)) = true := decide_eq_true (by omega)
              have d2 : ((n15 : Int) == 0) = false := by rw [beq_eq_false_iff_ne]; omega
              clear hb12 hvI hg12 hc12 q1 q2 q3 hnI
              go_upto_region 24 with fail
              clear d1 d2
              try simp only [Act.put]
              refine wp_region_any (by kernel_rfl) ?_
              refine wpAny_below (fun i uq _ => uq = ([.int .i64 (at11 : Nat), .slice (some ⟨g12, 0, none⟩) n12 c12, .int .i64 n12, .bool false, .bool false, .slice (some ⟨g12, 0, none⟩) n12 c12, .int .i64 (at11 : Nat), .pointer (some ⟨g12, at11 * 6, none⟩), .pointer (some ⟨g12, at11 * 6, none⟩), eE y, eE y, .bool false, .bool false, .bool false, .slice (some ⟨g12, 0, none⟩) n12 c12, .int .i64 (at11 : Nat), .pointer (some ⟨g12, at11 * 6, none⟩), .pointer (some ⟨g12, at11 * 6 + 5, none⟩), .slice AI nI cI, .slice A15 n15 c15, .bool true, .bool false, .bool false] : List Value).getD i undef) _ w12 (by kernel_rfl) (by kernel_rfl) (by kernel_rfl) (fun i v w w' _ h => h) ?_ ?_
              · refine ⟨?_, ?_, ?_, ?_, ?_, ?_, ?_, ?_, ?_, ?_, ?_, ?_, ?_, ?_, ?_, ?_, ?_, ?_, ?_, ?_, ?_, ?_, ?_, trivial⟩
                · intro a W hI hun haft hi
                  have e11 : a.eval (.tmp 11) = .int .i64 (at11 : Nat) := hun 11 (by kernel_rfl)
                  exact b_same hi hI rfl _ (run_move_op rfl e11) rfl
                · intro a W hI hun haft hi
                  have e12 : a.eval (.tmp 12) = .slice (some ⟨g12, 0, none⟩) n12 c12 := hun 12 (by kernel_rfl)
                  exact b_same hi hI rfl _ (run_move_op rfl e12) rfl
                · intro a W hI hun haft hi
                  have f1 : a.eval (.tmp 73) = .slice (some ⟨g12, 0, none⟩) n12 c12 := haft ⟨1, .data⟩ (by simp) rfl _ _ rfl rfl
                  exact b_same hi hI rfl _ (run_len_op Tryz.underlying41 rfl f1) rfl
                · intro a W hI hun haft hi
                  have f0 : a.eval (.tmp 72) = .int .i64 (at11 : Nat) := haft ⟨0, .data⟩ (by simp) rfl _ _ rfl rfl
                  have f2 : a.eval (.tmp 74) = .int .i64 n12 := haft ⟨2, .data⟩ (by simp) rfl _ _ rfl rfl
                  exact b_same hi hI rfl (.bool false) (run_bin_op rfl f0 f2 (by kernel_rfl) (run_gen (decide_eq_false (by omega)) _)) rfl
                · intro a W hI hun haft hi
                  have f3 : a.eval (.tmp 75) = .bool false := haft ⟨3, .data⟩ (by simp) rfl _ _ rfl rfl
                  exact b_same hi hI rfl _ (run_move_op rfl f3) rfl
                · intro a W hI hun haft hi
                  have fg : a.eval (.tmp 76) = .bool false := haft ⟨4, .guard⟩ (by simp) rfl _ _ rfl rfl
                  have e12 : a.eval (.tmp 12) = .slice (some ⟨g12, 0, none⟩) n12 c12 := hun 12 (by kernel_rfl)
                  exact b_same hi hI (guard_ok rfl rfl rfl fg) _ (run_move_op rfl e12) rfl
                · intro a W hI hun haft hi
                  have fg : a.eval (.tmp 76) = .bool false := haft ⟨4, .guard⟩ (by simp) rfl _ _ rfl rfl
                  have e11 : a.eval (.tmp 11) = .int .i64 (at11 : Nat) := hun 11 (by kernel_rfl)
                  exact b_same hi hI (guard_ok rfl rfl rfl fg) _ (run_move_op rfl e11) rfl
                · intro a W hI hun haft hi
                  have fg : a.eval (.tmp 76) = .bool false := haft ⟨4, .guard⟩ (by simp) rfl _ _ rfl rfl
                  have f5 : a.eval (.tmp 77) = .slice (some ⟨g12, 0, none⟩) n12 c12 := haft ⟨5, .data⟩ (by simp) rfl _ _ rfl rfl
                  have f6 : a.eval (.tmp 78) = .int .i64 (at11 : Nat) := haft ⟨6, .data⟩ (by simp) rfl _ _ rfl rfl
                  exact b_same hi hI (guard_ok rfl rfl rfl fg) _ (run_indexAddr_op rfl f5 f6 (at_It g12 c12 n12 at11 hm12 _)) rfl
                · intro a W hI hun haft hi
                  have fg : a.eval (.tmp 76) = .bool false := haft ⟨4, .guard⟩ (by simp) rfl _ _ rfl rfl
                  have f7 : a.eval (.tmp 79) = .pointer (some ⟨g12, at11 * 6, none⟩) := haft ⟨7, .data⟩ (by simp) rfl _ _ rfl rfl
                  exact b_same hi hI (guard_ok rfl rfl rfl fg) _ (run_fieldAddr_any rfl f7 (at_item0 g12 (at11 * 6) _)) rfl
                · intro a W hI hun haft hi
                  have fg : a.eval (.tmp 76) = .bool false := haft ⟨4, .guard⟩ (by simp) rfl _ _ rfl rfl
                  have f8 : a.eval (.tmp 80) = .pointer (some ⟨g12, at11 * 6, none⟩) := haft ⟨8, .data⟩ (by simp) rfl _ _ rfl rfl
                  exact b_same hi hI (guard_ok rfl rfl rfl fg) _ (run_loadmid_op rfl f8 ((HIp.out W (HB12.out.trans (hI.mono HB12.out.size))).1) Tryz.underlying24 rfl (by kernel_rfl)) rfl
                · intro a W hI hun haft hi
                  have fg : a.eval (.tmp 76) = .bool false := haft ⟨4, .guard⟩ (by simp) rfl _ _ rfl rfl
                  have e14 : a.eval (.tmp 14) = .pointer (some ⟨b14, 0, none⟩) := hun 14 (by kernel_rfl)
                  exact b_same hi hI (guard_ok rfl rfl rfl fg) _ (run_loadmid_op rfl e14 (HYr.out W hI) Tryz.underlying24 rfl (by kernel_rfl)) rfl
                · intro a W hI hun haft hi
                  have fg : a.eval (.tmp 76) = .bool false := haft ⟨4, .guard⟩ (by simp) rfl _ _ rfl rfl
                  have f9 : a.eval (.tmp 81) = eE y := haft ⟨9, .data⟩ (by simp) rfl _ _ rfl rfl
                  have f10 : a.eval (.tmp 82) = eE y := haft ⟨10, .data⟩ (by simp) rfl _ _ rfl rfl
                  exact b_same hi hI (guard_ok rfl rfl rfl fg) (.bool false) (run_bin_op rfl f9 f10 (by kernel_rfl) (ne_E y _)) rfl
                · intro a W hI hun haft hi
                  have f4 : a.eval (.tmp 76) = .bool false := haft ⟨4, .data⟩ (by simp) rfl _ _ rfl rfl
                  have f11 : a.eval (.tmp 83) = .bool false := haft ⟨11, .data⟩ (by simp) rfl _ _ rfl rfl
                  exact b_same hi hI rfl _ (run_pick_op (b := false) rfl f4 rfl f11) rfl
                · intro a W hI hun haft hi
                  have f12 : a.eval (.tmp 84) = .bool false := haft ⟨12, .data⟩ (by simp) rfl _ _ rfl rfl
                  exact b_same hi hI rfl _ (run_move_op rfl f12) rfl
                · intro a W hI hun haft hi
                  have fg : a.eval (.tmp 85) = .bool false := haft ⟨13, .guard⟩ (by simp) rfl _ _ rfl rfl
                  have e12 : a.eval (.tmp 12) = .slice (some ⟨g12, 0, none⟩) n12 c12 := hun 12 (by kernel_rfl)
                  exact b_same hi hI (guard_ok rfl rfl rfl fg) _ (run_move_op rfl e12) rfl
                · intro a W hI hun haft hi
                  have fg : a.eval (.tmp 85) = .bool false := haft ⟨13, .guard⟩ (by simp) rfl _ _ rfl rfl
                  have e11 : a.eval (.tmp 11) = .int .i64 (at11 : Nat) := hun 11 (by kernel_rfl)
                  exact b_same hi hI (guard_ok rfl rfl rfl fg) _ (run_move_op rfl e11) rfl
                · intro a W hI hun haft hi
                  have fg : a.eval (.tmp 85) = .bool false := haft ⟨13, .guard⟩ (by simp) rfl _ _ rfl rfl
                  have f14 : a.eval (.tmp 86) = .slice (some ⟨g12, 0, none⟩) n12 c12 := haft ⟨14, .data⟩ (by simp) rfl _ _ rfl rfl
                  have f15 : a.eval (.tmp 87) = .int .i64 (at11 : Nat) := haft ⟨15, .data⟩ (by simp) rfl _ _ rfl rfl
                  exact b_same hi hI (guard_ok rfl rfl rfl fg) _ (run_indexAddr_op rfl f14 f15 (at_It g12 c12 n12 at11 hm12 _)) rfl
                · intro a W hI hun haft hi
                  have fg : a.eval (.tmp 85) = .bool false := haft ⟨13, .guard⟩ (by simp) rfl _ _ rfl rfl
                  have f16 : a.eval (.tmp 88) = .pointer (some ⟨g12, at11 * 6, none⟩) := haft ⟨16, .data⟩ (by simp) rfl _ _ rfl rfl
                  exact b_same hi hI (guard_ok rfl rfl rfl fg) _ (run_fieldAddr_any rfl f16 (at_item1 g12 (at11 * 6) _)) rfl
                · intro a W hI hun haft hi
                  have fg : a.eval (.tmp 85) = .bool false := haft ⟨13, .guard⟩ (by simp) rfl _ _ rfl rfl
                  have f17 : a.eval (.tmp 89) = .pointer (some ⟨g12, at11 * 6 + 5, none⟩) := haft ⟨17, .data⟩ (by simp) rfl _ _ rfl rfl
                  exact b_same hi hI (guard_ok rfl rfl rfl fg) _ (run_loadsl_op rfl f17 Tryz.underlying47 ((HIp.out W (HB12.out.trans (hI.mono HB12.out.size))).2)) rfl
                · intro a W hI hun haft hi
                  have fg : a.eval (.tmp 85) = .bool false := haft ⟨13, .guard⟩ (by simp) rfl _ _ rfl rfl
                  have e15 : a.eval (.tmp 15) = .slice A15 n15 c15 := hun 15 (by kernel_rfl)
                  exact b_same hi hI (guard_ok rfl rfl rfl fg) _ (run_move_op rfl e15) rfl
                · intro a W hI hun haft hi
                  have fg : a.eval (.tmp 85) = .bool false := haft ⟨13, .guard⟩ (by simp) rfl _ _ rfl rfl
                  have f18 : a.eval (.tmp 90) = .slice AI nI cI := haft ⟨18, .data⟩ (by simp) rfl _ _ rfl rfl
                  have f19 : a.eval (.tmp 91) = .slice A15 n15 c15 := haft ⟨19, .data⟩ (by simp) rfl _ _ rfl rfl
                  refine b_call hi hI (guard_ok rfl rfl rfl fg) _ _ (run_call_op (args := #[.slice AI nI cI, .slice A15 n15 c15]) rfl (by simp [f18, f19]) (by kernel_rfl)) ?_
                  exact (same_own _ _ _ _ _ _ W (OwnK.keep HIt.out (HB12.out.trans (hI.mono HB12.out.size))) (OwnK.keep HO12.out hI) (by rw [HN15.out]; have := HN60.out; omega) rfl).mono fun e w' H => ⟨_, H.1, rfl, H.2⟩
                · intro a W hI hun haft hi
                  have fg : a.eval (.tmp 85) = .bool false := haft ⟨13, .guard⟩ (by simp) rfl _ _ rfl rfl
                  have f20 : a.eval (.tmp 92) = .bool true := haft ⟨20, .data⟩ (by simp) rfl _ _ rfl rfl
                  exact b_same hi hI (guard_ok rfl rfl rfl fg) _ (run_not_op rfl f20) rfl
                · intro a W hI hun haft hi
                  have f13 : a.eval (.tmp 85) = .bool false := haft ⟨13, .data⟩ (by simp) rfl _ _ rfl rfl
                  have f21 : a.eval (.tmp 93) = .bool false := haft ⟨21, .data⟩ (by simp) rfl _ _ rfl rfl
                  exact b_same hi hI rfl _ (run_pick_op (b := false) rfl f13 rfl f21) rfl
              · intro vals W hI hp
                have hl22 : vals 22 = .bool false := hp 22 (by decide)
                have HI := Lib.hid hI
                clear hp hI
                simp only [layN, List.size_toArray, List.length_cons, List.length_nil, List.range, List.range.loop, if_true, List.getElem?_toArray, List.getElem?_cons_zero, List.getElem?_cons_succ, Act.put, List.setIfInBounds_toArray, List.set_cons_zero, List.set_cons_succ, Nat.zero_add, Nat.reduceAdd, hl22]
                clear hl22
                have HBE := Lib.hid (HB12.out.trans (HI.out.mono HB12.out.size))
                have hw := HW1.out
                have hw3 := HW3.out
                have hjm := HJ1.out
                clear HI
                go_wp2
                go_roundw
                case rel => exact ⟨i + 1, by go_num, by omega, congrArg (Value.int .i64) (by rw [HSn.out]; omega), congrArg (Value.int .i64) (by rw [HCn.out, if_pos HLqt.out]; omega), HBE.out⟩
                case measure => simp [intOf] <;> omega
            · refine (has_at (HStZ.out.keep HB11.out) y false (decide_eq_false (by rw [HEn.out]; exact hq))).mono ?_
              rintro e w12 ⟨rfl, hb12⟩
              have HB12 := Lib.hid (show Below wz.heap.size wz w12 from HB11.out.trans (hb12.mono HB11.out.size))
              have HLqf := Lib.hid (show ¬ liveQ row y = true by rw [HLq.out]; simpa using hq)
              have d1 : decide ((0 : Int) < (n15 : Int)) = false := decide_eq_false (by omega)
              have d2 : ((n15 : Int) == 0) = true := by rw [beq_iff_eq]; omega
              have hw := HW1.out
              have hjm := HJ1.out
              clear hb12
              go_wp2
              go_roundw
              case rel => exact ⟨i + 1, by go_num, by omega, congrArg (Value.int .i64) (by rw [HSn.out]; omega), congrArg (Value.int .i64) (by rw [HCn.out, if_neg HLqf.out]; omega), HB12.out⟩
              case measure => simp [intOf] <;> omega
          · have hiE : nE = i := by omega
            subst hiE
            rw [List.take_of_length_le (Nat.le_of_eq HNE.out)]
            have hcT : cntL row E = n12 := by
              unfold cntL
              rw [← HAcf.out, List.length_map]
              exact HN12.out
            obtain ⟨sT, hsT⟩ : ∃ sT, sumL row E = sT := ⟨_, rfl⟩
            rw [hsT, hcT]
            rw [hsT] at HSum
            have HSi := Lib.hid (HStZ.out.keep hbi)
            have HRi := Lib.hid (OwnK.keep HRoZ.out hbi)
            have HEi := Lib.hid (show Blk wi p 24 #[.int .i64 x.k, .string x.a, .string x.b, .string x.c, .string x.d] from HEoZ.out.below hbi HEoZ.out.lt)
            have HXr := Lib.hid (show ∀ W : World, Below wi.heap.size wi W → W.rangeAt p 0 (enL x) from fun W h => World.rangeAt_of_block (C := #[.int .i64 x.k, .string x.a, .string x.b, .string x.c, .string x.d]) (HEi.out.below h HEi.out.lt) 0 5)
            have HBiw := Lib.hid (HBZ.out.trans (hbi.mono HBZ.out.size))
            obtain ⟨R8, hR8⟩ : ∃ R8, wi.heap.size = R8 := ⟨_, rfl⟩
            have HR8 := Lib.hid hR8
            clear hcT hsT hbi hR8 hi hlt
            go_upto_region 28 with fail
            try simp only [Act.put]
            refine wp_region_any (by kernel_rfl) ?_
            refine wpAny_below (p28 R8 row x ([.int .i64 (n12 : Nat), .slice A12 n12 c12, .int .i64 n12, .bool true, .bool true, .pointer (some ⟨sa, 0, none⟩), .int .i64 (sT : Nat), .int .i64 (sT : Nat), .bool true, .bool true, .bool true, .pointer (some ⟨sa, 0, none⟩), eE x, undef, .slice A5 n5 c5, eE x, undef, .bool true, .bool true, .bool true] : List Value)) _ wi (by kernel_rfl) (by kernel_rfl) (by kernel_rfl) (fun i v w w' hb h => p28_keep hb h) ?_ ?_
            · refine ⟨?_, ?_, ?_, ?_, ?_, ?_, ?_, ?_, ?_, ?_, ?_, ?_, ?_, ?_, ?_, ?_, ?_, ?_, ?_, ?_, trivial⟩
              · intro a W hI hun haft hi
                have e11 : a.eval (.tmp 11) = .int .i64 (n12 : Nat) := hun 11 (by kernel_rfl)
                exact b_same hi hI rfl _ (run_move_op rfl e11) rfl
              · intro a W hI hun haft hi
                have e12 : a.eval (.tmp 12) = .slice A12 n12 c12 := hun 12 (by kernel_rfl)
                exact b_same hi hI rfl _ (run_move_op rfl e12) rfl
              · intro a W hI hun haft hi
                have f1 : a.eval (.tmp 99) = .slice A12 n12 c12 := haft ⟨1, .data⟩ (by simp) rfl _ _ rfl rfl
                exact b_same hi hI rfl _ (run_len_op Tryz.underlying41 rfl f1) rfl
              · intro a W hI hun haft hi
                have f0 : a.eval (.tmp 98) = .int .i64 (n12 : Nat) := haft ⟨0, .data⟩ (by simp) rfl _ _ rfl rfl
                have f2 : a.eval (.tmp 100) = .int .i64 n12 := haft ⟨2, .data⟩ (by simp) rfl _ _ rfl rfl
                exact b_same hi hI rfl (.bool true) (run_bin_op rfl f0 f2 (by kernel_rfl) (run_eqn (decide_eq_true rfl) _)) rfl
              · intro a W hI hun haft hi
                have f3 : a.eval (.tmp 101) = .bool true := haft ⟨3, .data⟩ (by simp) rfl _ _ rfl rfl
                exact b_same hi hI rfl _ (run_move_op rfl f3) rfl
              · intro a W hI hun haft hi
                have fg : a.eval (.tmp 102) = .bool true := haft ⟨4, .guard⟩ (by simp) rfl _ _ rfl rfl
                have e7 : a.eval (.tmp 7) = .pointer (some ⟨sa, 0, none⟩) := hun 7 (by kernel_rfl)
                exact b_same hi hI (guard_ok rfl rfl rfl fg) _ (run_move_op rfl e7) rfl
              · intro a W hI hun haft hi
                have fg : a.eval (.tmp 102) = .bool true := haft ⟨4, .guard⟩ (by simp) rfl _ _ rfl rfl
                have f5 : a.eval (.tmp 103) = .pointer (some ⟨sa, 0, none⟩) := haft ⟨5, .data⟩ (by simp) rfl _ _ rfl rfl
                refine b_call hi hI (guard_ok rfl rfl rfl fg) _ _ (run_call_op (args := #[.pointer (some ⟨sa, 0, none⟩)]) rfl (by simp [f5]) (by kernel_rfl)) ?_
                exact (len_at (HSi.out.keep hI) sT HSum.out (by have := HTt.out; have := HSum.out; omega)).mono fun e w' H => ⟨_, H.1, rfl, H.2⟩
              · intro a W hI hun haft hi
                have fg : a.eval (.tmp 102) = .bool true := haft ⟨4, .guard⟩ (by simp) rfl _ _ rfl rfl
                have e10 : a.eval (.tmp 10) = .int .i64 (sT : Nat) := hun 10 (by kernel_rfl)
                exact b_same hi hI (guard_ok rfl rfl rfl fg) _ (run_move_op rfl e10) rfl
              · intro a W hI hun haft hi
                have fg : a.eval (.tmp 102) = .bool true := haft ⟨4, .guard⟩ (by simp) rfl _ _ rfl rfl
                have f6 : a.eval (.tmp 104) = .int .i64 (sT : Nat) := haft ⟨6, .data⟩ (by simp) rfl _ _ rfl rfl
                have f7 : a.eval (.tmp 105) = .int .i64 (sT : Nat) := haft ⟨7, .data⟩ (by simp) rfl _ _ rfl rfl
                exact b_same hi hI (guard_ok rfl rfl rfl fg) (.bool true) (run_bin_op rfl f6 f7 (by kernel_rfl) (run_eqn (decide_eq_true rfl) _)) rfl
              · intro a W hI hun haft hi
                have f4 : a.eval (.tmp 102) = .bool true := haft ⟨4, .data⟩ (by simp) rfl _ _ rfl rfl
                have f8 : a.eval (.tmp 106) = .bool true := haft ⟨8, .data⟩ (by simp) rfl _ _ rfl rfl
                exact b_same hi hI rfl _ (run_pick_op (b := true) rfl f4 f8 rfl) rfl
              · intro a W hI hun haft hi
                have f9 : a.eval (.tmp 107) = .bool true := haft ⟨9, .data⟩ (by simp) rfl _ _ rfl rfl
                exact b_same hi hI rfl _ (run_move_op rfl f9) rfl
              · intro a W hI hun haft hi
                have fg : a.eval (.tmp 108) = .bool true := haft ⟨10, .guard⟩ (by simp) rfl _ _ rfl rfl
                have e7 : a.eval (.tmp 7) = .pointer (some ⟨sa, 0, none⟩) := hun 7 (by kernel_rfl)
                exact b_same hi hI (guard_ok rfl rfl rfl fg) _ (run_move_op rfl e7) rfl
              · intro a W hI hun haft hi
                have fg : a.eval (.tmp 108) = .bool true := haft ⟨10, .guard⟩ (by simp) rfl _ _ rfl rfl
                have e3 : a.eval (.tmp 3) = .pointer (some ⟨p, 0, none⟩) := hun 3 (by kernel_rfl)
                exact b_same hi hI (guard_ok rfl rfl rfl fg) _ (run_loadmid_op rfl e3 (HXr.out W hI) Tryz.underlying24 rfl (by kernel_rfl)) rfl
              · intro a W hI hun haft hi
                have fg : a.eval (.tmp 108) = .bool true := haft ⟨10, .guard⟩ (by simp) rfl _ _ rfl rfl
                have f11 : a.eval (.tmp 109) = .pointer (some ⟨sa, 0, none⟩) := haft ⟨11, .data⟩ (by simp) rfl _ _ rfl rfl
                have f12 : a.eval (.tmp 110) = eE x := haft ⟨12, .data⟩ (by simp) rfl _ _ rfl rfl
                refine b_call hi hI (guard_ok rfl rfl rfl fg) _ _ (run_call_op (args := #[.pointer (some ⟨sa, 0, none⟩), eE x]) rfl (by simp [f11, f12]) (by kernel_rfl)) ?_
                exact (entries_live HCl.out HRm.out (HSi.out.keep hI) HRl.out x).mono fun e w' ⟨v, r1, r2, r3⟩ => ⟨v, r1, OwnK.base_ r2 (by have := hI.size; have := HR8.out; omega), r3⟩
              · intro a W hI hun haft hi
                have fg : a.eval (.tmp 108) = .bool true := haft ⟨10, .guard⟩ (by simp) rfl _ _ rfl rfl
                have e5 : a.eval (.tmp 5) = .slice A5 n5 c5 := hun 5 (by kernel_rfl)
                exact b_same hi hI (guard_ok rfl rfl rfl fg) _ (run_move_op rfl e5) rfl
              · intro a W hI hun haft hi
                have fg : a.eval (.tmp 108) = .bool true := haft ⟨10, .guard⟩ (by simp) rfl _ _ rfl rfl
                have e3 : a.eval (.tmp 3) = .pointer (some ⟨p, 0, none⟩) := hun 3 (by kernel_rfl)
                exact b_same hi hI (guard_ok rfl rfl rfl fg) _ (run_loadmid_op rfl e3 (HXr.out W hI) Tryz.underlying24 rfl (by kernel_rfl)) rfl
              · intro a W hI hun haft hi
                have fg : a.eval (.tmp 108) = .bool true := haft ⟨10, .guard⟩ (by simp) rfl _ _ rfl rfl
                have f14 : a.eval (.tmp 112) = .slice A5 n5 c5 := haft ⟨14, .data⟩ (by simp) rfl _ _ rfl rfl
                have f15 : a.eval (.tmp 113) = eE x := haft ⟨15, .data⟩ (by simp) rfl _ _ rfl rfl
                refine b_call hi hI (guard_ok rfl rfl rfl fg) _ _ (run_call_op (args := #[.slice A5 n5 c5, eE x]) rfl (by simp [f14, f15]) (by kernel_rfl)) ?_
                exact (live_any x row A5 n5 c5 W ((OwnK.keep HRi.out hI).read encE_len) HN5.out (by have := HN6.out; omega) HOks.out).mono fun e w' ⟨v, r1, r2, r3⟩ => ⟨v, r1, OwnK.base_ r2 (by have := hI.size; have := HR8.out; omega), r3⟩
              · intro a W hI hun haft hi
                have fg : a.eval (.tmp 108) = .bool true := haft ⟨10, .guard⟩ (by simp) rfl _ _ rfl rfl
                have o13 : OwnK enN R8 57 5 W (a.eval (.tmp 111)) ((sortD (liveL row x)).map evP) := haft ⟨13, .data⟩ (by simp) rfl _ _ rfl rfl
                have o16 : OwnK encE R8 38 27 W (a.eval (.tmp 114)) (liveL row x) := haft ⟨16, .data⟩ (by simp) rfl _ _ rfl rfl
                refine b_call hi hI (guard_ok rfl rfl rfl fg) _ _ (run_call_op (args := #[a.eval (.tmp 111), a.eval (.tmp 114)]) rfl (by simp) (by kernel_rfl)) ?_
                exact (same_own _ _ _ _ _ _ W o13 o16 (by have := live_le row x; have := HRl.out; omega) rfl).mono fun e w' H => ⟨_, H.1, rfl, H.2⟩
              · intro a W hI hun haft hi
                have f10 : a.eval (.tmp 108) = .bool true := haft ⟨10, .data⟩ (by simp) rfl _ _ rfl rfl
                have f17 : a.eval (.tmp 115) = .bool true := haft ⟨17, .data⟩ (by simp) rfl _ _ rfl rfl
                exact b_same hi hI rfl _ (run_pick_op (b := true) rfl f10 f17 rfl) rfl
              · intro a W hI hun haft hi
                have f18 : a.eval (.tmp 116) = .bool true := haft ⟨18, .data⟩ (by simp) rfl _ _ rfl rfl
                exact b_same hi hI rfl _ (run_assign_op rfl f18) rfl
            · intro vals W hI hp
              have hl19 : vals 19 = .bool true := hp 19 (by decide)
              have HI := Lib.hid hI
              clear hp hI
              simp only [layN, List.size_toArray, List.length_cons, List.length_nil, List.range, List.range.loop, if_true, List.getElem?_toArray, List.getElem?_cons_zero, List.getElem?_cons_succ, Act.put, List.setIfInBounds_toArray, List.set_cons_zero, List.set_cons_succ, Nat.zero_add, Nat.reduceAdd, hl19]
              clear hl19
              have HBE := Lib.hid (HBiw.out.trans (HI.out.mono HBiw.out.size))
              clear HI
              go_wp2
              go_ret
              exact ⟨rfl, HBE.out⟩

end Go.Proofs.YtojhloaleefieaaGreat
