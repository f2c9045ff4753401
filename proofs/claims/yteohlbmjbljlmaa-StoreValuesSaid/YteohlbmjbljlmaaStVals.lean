/-
  StoreValues: true for every input, by a walk (written by gensval.py). Conditions: lengths, CutOk.
-/
import Derived.Test.YteohlbmjbljlmaaStVB
namespace Go.Proofs.Yteohlbmjbljlmaa
open Go.RowKit Go.MapKept Go.Sort

set_option maxRecDepth 100000 in
set_option maxHeartbeats 16000000 in
theorem svals_walk (x : El) (l : List Ev) (A : Option Addr) (N c : Nat) (w : World) (hs : SlK encE 27 w (.slice A N c) l) (hN : l.length = N) (hN2 : N ≤ 4611686018427387903) (hf : ∀ e ∈ l, Fit e) (hw : CutOk w) :
    Calls Try.prog 4 #[.slice A N c, eE x] w (Law w) := by
  have HN := Lib.hid hN
  have HFw := Lib.hid (few_is7 l A N c hN hN2 hf)
  have HZe := Lib.hid (zero_of_info zeroE).1
  have HZv := Lib.hid (zero_of_info zeroV).1
  have HZa := Lib.hid (zero_of_info zeroVa).1
  obtain ⟨p, hp⟩ : ∃ p, w.heap.size = p := ⟨_, rfl⟩
  obtain ⟨w0, hw0⟩ : ∃ w0, w0 = w.alloc (.cells #[.int .i64 x.k, .string x.a, .string x.b, .string x.c, .string x.d] 35) := ⟨_, rfl⟩
  have hb0 : Below w.heap.size w w0 := by rw [hw0]; exact (Below.refl _ _).alloc (Nat.le_refl _) _
  have HE0 := Lib.hid (show Blk w0 p 35 #[.int .i64 x.k, .string x.a, .string x.b, .string x.c, .string x.d] by rw [hw0, ← hp]; exact Blk.new w _ _)
  have HS := Lib.hid (hs.below hb0)
  have HCw := Lib.hid (hw.below hb0)
  have HB0 := Lib.hid hb0
  have HX0 := Lib.hid hw0
  have HP := Lib.hid hp
  have HP0 := Lib.hid (show p < w0.heap.size from HE0.out.lt)
  clear hs hN hN2 hf hw hb0 hw0
  unfold eE elV
  cases hfew : fewB l
  · have HFe := Lib.hid (HFw.out false hfew)
    clear hfew HFw
    go_enter Try.func4, Try.ntmps4
    go_upto_region 1 with fail
    rw [← HX0.out]
    clear hp
    go_wp2_with fail
    refine (fixed7 w0 HCw.out).mono ?_
    rintro e w1 ⟨rfl, hb⟩
    have HS1 := Lib.hid (HS.out.below hb)
    have HB1 := Lib.hid (HB0.out.trans (hb.mono HB0.out.size))
    clear hb
    go_wp2_with fail
    refine (HFe.out w1 HS1.out).mono ?_
    rintro e w2 ⟨rfl, hb⟩
    have HB2 := Lib.hid (HB1.out.trans (hb.mono HB1.out.size))
    clear hb
    go_wp2
    go_ret
    exact ⟨rfl, HB2.out⟩
  · have HFe := Lib.hid (HFw.out true hfew)
    have hsh : ∀ e ∈ l, shortB e = true := by
      unfold fewB at hfew
      simp only [Bool.and_eq_true, List.all_eq_true] at hfew
      exact hfew.1
    have hl60 : N ≤ 60 := by
      unfold fewB at hfew
      simp only [Bool.and_eq_true, decide_eq_true_eq] at hfew
      rw [← HN.out]; exact hfew.2
    have HSh := Lib.hid hsh
    have H60 := Lib.hid hl60
    clear hfew HFw hsh hl60
    go_enter Try.func4, Try.ntmps4
    go_upto_region 1 with fail
    rw [← HX0.out]
    first | rw [hp] | skip
    clear hp
    go_wp2_with fail
    refine (fixed7 w0 HCw.out).mono ?_
    rintro e w1 ⟨rfl, hb⟩
    have HS1 := Lib.hid (HS.out.below hb)
    have HB1 := Lib.hid (HB0.out.trans (hb.mono HB0.out.size))
    have HQ1 := Lib.hid hb
    clear hb
    go_wp2_with fail
    refine (HFe.out w1 HS1.out).mono ?_
    rintro e w2 ⟨rfl, hb⟩
    have HS2 := Lib.hid (HS1.out.below hb)
    have HB2 := Lib.hid (HB1.out.trans (hb.mono HB1.out.size))
    have HQ2 := Lib.hid (HQ1.out.trans (hb.mono HQ1.out.size))
    clear hb
    go_wp2_with fail
    refine (causal_any l A N c w2 HS2.out HN.out H60.out (fun e he => short_tiny e (HSh.out e he))).mono ?_
    rintro e w3 ⟨rv, rfl, ho3, hb⟩
    obtain ⟨row, hrow⟩ : ∃ row, (causC l).1 = row := ⟨_, rfl⟩
    obtain ⟨f, hff⟩ : ∃ f, (causC l).2 = f := ⟨_, rfl⟩
    have hcl : CausL row := by rw [← hrow]; exact caus_row l
    rw [hrow] at ho3
    rw [hff]
    have hrl : row.length ≤ 60 := by have := causC_len l; rw [hrow] at this; have h1 := HN.out; have h2 := H60.out; omega
    have hrm : ∀ e ∈ row, Lens e := fun e he => short_lens e (HSh.out e (causC_mem l e (by rw [hrow]; exact he)))
    have HCl := Lib.hid hcl
    have HRm := Lib.hid hrm
    have HRl := Lib.hid hrl
    have HB3 := Lib.hid (HB2.out.trans (hb.mono HB2.out.size))
    have HQ3 := Lib.hid (HQ2.out.trans (hb.mono HQ2.out.size))
    have HO3 := Lib.hid ho3
    obtain ⟨A5, c5, rfl, _, _⟩ := ho3.read encE_len
    clear hb hrow hff ho3 hrl hrm hcl
    obtain ⟨n5, hn5⟩ : ∃ n5, row.length = n5 := ⟨_, rfl⟩
    rw [hn5] at HO3 ⊢
    have HN5 := Lib.hid hn5
    have HN6 := Lib.hid (show n5 ≤ 60 by rw [← hn5]; exact HRl.out)
    clear hn5
    have hzv := HZv.out
    have hAl := fun c => World.setRow_alloc_new w3 (vA fun _ => 0) c 27
    have hZ : Blk (w3.alloc (.cells (vA fun _ => 0) 27)) w3.heap.size 27 (vA fun _ => 0) := Blk.new _ _ _
    go_wp2_with (first
      | (refine wpList_store_row rfl 27 (.tmp 6) (.tmp 30) rfl w3.heap.size (vA f) rfl rfl _ _ hZ (sizeV _) (by rw [vA_size, vA_size]) (vA_one _) ?_; rw [hAl])
      | fail)
    clear hzv hAl hZ
    obtain ⟨w4, hw4⟩ : ∃ w4, w3.alloc (.cells (vA f) 27) = w4 := ⟨_, rfl⟩
    rw [hw4]
    have hb4 : Below w3.heap.size w3 w4 := by rw [← hw4]; exact (Below.refl _ _).alloc (Nat.le_refl _) _
    have HB4 := Lib.hid (HB3.out.trans (hb4.mono HB3.out.size))
    have HQ4 := Lib.hid (HQ3.out.trans (hb4.mono HQ3.out.size))
    have HO4 := Lib.hid (HO3.out.keep hb4)
    clear hw4 hb4 HO3
    refine (new_any w4).mono ?_
    rintro e w5 ⟨rfl, hw5⟩
    obtain ⟨sa, hsa⟩ : ∃ sa, w4.heap.size = sa := ⟨_, rfl⟩
    have hs5 : w5.heap.size = sa + 1 := by rw [hw5, ← hsa]; simp
    have hb5 : Below w4.heap.size w4 w5 := by rw [hw5]; exact (Below.refl _ _).alloc (Nat.le_refl _) _
    have ha : StAt w5 sa (sa + 1) [] := by
      have := new_at w4 (sa + 1)
      rw [hsa, ← hw5] at this
      exact this
    rw [hsa]
    have HA5 := Lib.hid ha
    have HS5 := Lib.hid hs5
    have HB5 := Lib.hid (HB4.out.trans (hb5.mono HB4.out.size))
    have HQ5 := Lib.hid (HQ4.out.trans (hb5.mono HQ4.out.size))
    have HR5 := Lib.hid (HO4.out.keep hb5)
    have HRb : Hid (∀ g, (Value.slice A5 n5 c5).ownBlock = some g → g < sa) := Lib.hid fun g h => by
      have := (HO4.out.lt g h).2
      rw [hsa] at this; exact this
    have HWa := Lib.hid (show w.heap.size ≤ sa by rw [← hsa]; exact HB4.out.size)
    have H0 := Lib.hid (show 0 < sa by have := HCw.out.1; have h2 := HQ4.out.size; omega)
    have HPs := Lib.hid (show p < sa by have := HP0.out; have h2 := HQ4.out.size; omega)
    have HE5 := Lib.hid (HE0.out.below HQ5.out HP0.out)
    clear hw5 hs5 hb5 ha hsa
    go_wp2_with fail
    go_loopw [34] (fun v34 wr => ∃ j : Nat, v34 = .int .i64 j ∧ j ≤ n5 ∧ StAt wr sa (sa + 1) (runS (row.take j)) ∧ Kept sa (sa + 1) w5 wr) (fun v34 _ => n5 - (intOf v34).toNat)
    case atStart => exact ⟨0, rfl, Nat.zero_le _, HA5.out, Kept.refl⟩
    case round =>
      obtain ⟨j, rfl, hj, hst, hk⟩ := hrel
      obtain ⟨wo, rfl⟩ : ∃ wo, wo = wr := ⟨_, rfl⟩
      have HSt := Lib.hid hst
      have HKp := Lib.hid hk
      clear hst hk
      by_cases hlt : j < n5
      · obtain ⟨e, he⟩ : ∃ e, row[j]? = some e := ⟨row[j]'(by rw [HN5.out]; exact hlt), List.getElem?_eq_getElem _⟩
        have hro : OwnK encE w2.heap.size 39 27 wo (.slice A5 n5 c5) row := HR5.out.same fun g h => HKp.out.same (HR5.out.lt g h).2 (by have := HRb.out g h; omega) (by have := HRb.out g h; omega)
        obtain ⟨g, rfl, _, _, hce⟩ := hro.at_ encE_len he
        have HCe := Lib.hid hce
        have HAt := Lib.hid (at_Ev0 g c5 n5 j hlt wo)
        have HLe := Lib.hid (HRm.out e (List.mem_of_getElem? he))
        have HNx := Lib.hid (runS_next he)
        have HAl := Lib.hid fun c => World.setRow_alloc_new wo (evC ev0) c 39
        have HZz := Lib.hid (show Blk (wo.alloc (.cells (evC ev0) 39)) wo.heap.size 39 (evC ev0) from Blk.new _ _ _)
        obtain ⟨X, hX⟩ : ∃ X, X = wo.alloc (.cells (evC e) 39) := ⟨_, rfl⟩
        have hbX : Below wo.heap.size wo X := by rw [hX]; exact (Below.refl _ _).alloc (Nat.le_refl _) _
        have hBX : Blk X wo.heap.size 39 (evC e) := by rw [hX]; exact Blk.new _ _ _
        have HXe := Lib.hid hX
        have HBX := Lib.hid hBX
        have HKX := Lib.hid (HKp.out.trans (Kept.of_below hbX))
        have HSX := Lib.hid (HSt.out.keep hbX)
        clear hX hbX hBX he hce hro
        have hz := HZe.out
        go_wp2_with (first
          | (refine wpList_val (o := ⟨some 36, _, _, _, _, _⟩) rfl (.pointer (some ⟨g, j * 27, none⟩)) wo (run_indexAddr_op rfl rfl rfl HAt.out) ?_)
          | (refine wpList_load_midif rfl 39 (.tmp 36) rfl g (j * 27) rfl (encE e) _ HCe.out Try.underlying39 rfl (sizeE e) ?_)
          | (refine wpList_store_row rfl 39 (.tmp 9) (.tmp 37) rfl wo.heap.size (evC e) rfl rfl _ _ HZz.out (sizeE e) rfl (by kernel_rfl) ?_; rw [HAl.out, ← HXe.out])
          | (refine wpList_load_if rfl 39 (.tmp 9) rfl wo.heap.size rfl _ _ _ _ HBX.out Try.underlying39 rfl (sizeE e) ?_)
          | fail)
        clear hz
        refine (do_at HSX.out (by have := HKX.out.size; have := HS5.out; omega) e HLe.out ((HKX.out).cut H0.out (by omega) (HCw.out.below HQ5.out))).mono ?_
        rintro x w7 ⟨rfl, hs7, hk7⟩
        have HS7 := Lib.hid (show StAt w7 sa (sa + 1) (runS (row.take (j + 1))) by rw [HNx.out]; exact hs7)
        have HK7 := Lib.hid (HKX.out.trans hk7)
        clear hs7 hk7
        have hw := IntWalk.i64_in ((j : Int) + 1) (by have := HN6.out; omega)
        have hjm : ¬ 9223372036854775807 < j + 1 := by have := HN6.out; omega
        go_wp2
        go_roundw
        case rel => exact ⟨j + 1, by go_num, by omega, HS7.out, HK7.out⟩
        case measure => simp [intOf] <;> omega
      · have hjN : n5 = j := by omega
        subst hjN
        rw [List.take_of_length_le (Nat.le_of_eq HN5.out)] at HSt
        obtain ⟨hokS, htot⟩ := runS_ok row HRm.out
        have HTt := Lib.hid (show totS (runS row) ≤ 60 from Nat.le_trans htot HRl.out)
        have HRo := Lib.hid (show OwnK encE w2.heap.size 39 27 wo (.slice A5 n5 c5) row from HR5.out.same fun g h => HKp.out.same (HR5.out.lt g h).2 (by have := HRb.out g h; omega) (by have := HRb.out g h; omega))
        have HEo := Lib.hid (show Blk wo p 35 #[.int .i64 x.k, .string x.a, .string x.b, .string x.c, .string x.d] from (HKp.out.same HE5.out.lt (by have := HPs.out; omega) (by have := HPs.out; omega)).trans HE5.out)
        have HBw := Lib.hid (show Below w.heap.size w wo from HB5.out.trans (HKp.out.below (by have := HWa.out; omega) (by have := HWa.out; omega) HB5.out.size))
        clear hokS htot hlt hj
        go_wp2_with (first
          | (refine wpList_load_if rfl 35 (.tmp 3) rfl p rfl _ _ _ _ HEo.out Try.underlying35 rfl (by kernel_rfl) ?_)
          | fail)
        obtain ⟨F, hF, _⟩ := HSt.out
        refine (values_any x sa F (runS row) wo hF (by have h1 := tot_ent (x := x) (σ := runS row); have h2 := HTt.out; omega)).mono ?_
        rintro e w8 ⟨u10, ss, rfl, hpm, hpw, ho8, hb8⟩
        have hbl : (Lib.compact ss).length ≤ 60 := by
          have h0 := compact_len ss
          have h1 := hpm.length_eq
          have h2 := tot_ent (x := x) (σ := runS row)
          have h3 := HTt.out
          simp only [valsL, List.length_map] at h1
          omega
        obtain ⟨V, hV⟩ : ∃ V, Lib.compact ss = V := ⟨_, rfl⟩
        have HRs := Lib.hid (show V.Pairwise fun a b => cfV a b < 0 by rw [← hV]; exact compact_rise hpw)
        have HMm := Lib.hid (show ∀ v, v ∈ V ↔ ∃ e ∈ liveL row x, vaOf e = v from fun v => by rw [← hV]; exact vals_live HCl.out HRm.out hpm)
        rw [hV] at ho8 hbl
        obtain ⟨A10, c10, rfl⟩ := own_formV ho8
        obtain ⟨n10, hn10⟩ : ∃ n10, V.length = n10 := ⟨_, rfl⟩
        rw [hn10] at ho8 hbl ⊢
        have HN10 := Lib.hid hn10
        have HV60 := Lib.hid hbl
        have S10 := Lib.hid (ho8.read enW_len)
        have SR8 := Lib.hid (((HRo.out.keep hb8)).read encE_len)
        have HE8 := Lib.hid (HEo.out.below hb8 HEo.out.lt)
        have HB8 := Lib.hid (HBw.out.trans (hb8.mono HBw.out.size))
        have HOk := Lib.hid (show ∀ e ∈ row, okB e = true from fun e he => (HCl.out.1 e he).1)
        clear hpm hpw ho8 hb8 hbl hV hn10 hF HSt HKp HA5
        go_wp2_with fail
        go_loopw [47] (fun v47 wr => ∃ i : Nat, v47 = .int .i64 i ∧ i ≤ n10 ∧ Below w8.heap.size w8 wr) (fun v47 _ => n10 - (intOf v47).toNat)
        case atStart => exact ⟨0, by first | rfl | simp, Nat.zero_le _, Below.refl _ _⟩
        case round =>
          obtain ⟨i, rfl, hi, hbw⟩ := hrel
          obtain ⟨wi, rfl⟩ : ∃ wi, wi = wr := ⟨_, rfl⟩
          have HBi := Lib.hid hbw
          by_cases hlt : i < n10
          · obtain ⟨v, hv⟩ : ∃ v, V[i]? = some v := ⟨V[i]'(by rw [HN10.out]; exact hlt), List.getElem?_eq_getElem _⟩
            obtain ⟨g10, o10, rfl, hg10, hr10⟩ := (S10.out.below hbw).va hv
            have HVv := Lib.hid hv
            have HR10 := Lib.hid hr10
            have HAt := Lib.hid (at_VaS g10 o10 c10 n10 i hlt wi)
            have HAl := Lib.hid fun c => World.setRow_alloc_new wi #[.int .i64 0, .int .i64 0, .string ⟨#[]⟩] c 37
            have HZz := Lib.hid (show Blk (wi.alloc (.cells #[.int .i64 0, .int .i64 0, .string ⟨#[]⟩] 37)) wi.heap.size 37 #[.int .i64 0, .int .i64 0, .string ⟨#[]⟩] from Blk.new _ _ _)
            obtain ⟨X, hX⟩ : ∃ X, X = wi.alloc (.cells (enW v).toArray 37) := ⟨_, rfl⟩
            have hbX : Below wi.heap.size wi X := by rw [hX]; exact (Below.refl _ _).alloc (Nat.le_refl _) _
            have HV12 := Lib.hid (show Blk X wi.heap.size 37 (enW v).toArray by rw [hX]; exact Blk.new _ _ _)
            have HXe := Lib.hid hX
            have HBX := Lib.hid (HBi.out.trans (hbX.mono HBi.out.size))
            have HgX := Lib.hid (show ∀ W : World, Below X.heap.size X W → ∀ k y, V[k]? = some y → W.rangeAt g10 (o10 + k * 3) (enW y) from fun W hI k y hy => by
              obtain ⟨g', o', h1, _, h2⟩ := ((S10.out.below (HBX.out)).below hI).va hy
              injection h1 with h1
              injection h1 with h1 h3 _
              subst h1 h3
              exact h2)
            have hw := IntWalk.i64_in ((i : Int) + 1) (by have := HV60.out; omega)
            have HWi := Lib.hid hw
            clear hX hbX hv hg10 hr10 hbw hw
            have hz := HZa.out
            go_upto_region 16 with (first
              | (refine wpList_val (o := ⟨some 50, _, _, _, _, _⟩) rfl (.pointer (some ⟨g10, o10 + i * 3, none⟩)) wi (run_indexAddr_op rfl rfl rfl HAt.out) ?_)
              | (refine wpList_load_midif rfl 37 (.tmp 50) rfl g10 (o10 + i * 3) rfl (enW v) _ HR10.out Try.underlying37 rfl (by kernel_rfl) ?_)
              | (refine wpList_store_row (o := ⟨none, _, _, _, _, _⟩) rfl 37 (.tmp 12) (.tmp 51) rfl wi.heap.size (enW v).toArray rfl rfl _ _ HZz.out (sizeVa v) rfl (by simp [enW, Value.oneCell']) ?_; rw [HAl.out, ← HXe.out])
              | fail)
            clear hz
            obtain ⟨b12, hb12⟩ : ∃ b12, wi.heap.size = b12 := ⟨_, rfl⟩
            rw [hb12] at HV12 ⊢
            clear hb12
            simp only [Act.put]
            go_cut [63] (fun t wx => t = .bool false ∧ Below X.heap.size X wx)
            case first =>
              rcases Nat.eq_zero_or_pos i with h0 | h0
              · subst h0
                refine wp_region_any (by kernel_rfl) ?_
                refine wpAny_below (fun i uq _ => uq = ([.int .i64 ((0 : Nat) : Int), .bool false, .bool false, undef, undef, undef, undef, undef, undef, undef, undef, .bool false] : List Value).getD i undef) _ X (by kernel_rfl) (by kernel_rfl) (by kernel_rfl) (fun i v w w' _ h => h) ?_ ?_
                · refine ⟨?_, ?_, ?_, ?_, ?_, ?_, ?_, ?_, ?_, ?_, ?_, ?_, trivial⟩
                  · intro a W hI hun haft hi
                    have e11 : a.eval (.tmp 11) = .int .i64 ((0 : Nat) : Int) := hun 11 (by kernel_rfl)
                    exact b_same hi hI rfl _ (run_move_op rfl e11) rfl
                  · intro a W hI hun haft hi
                    have f0 : a.eval (.tmp 52) = .int .i64 ((0 : Nat) : Int) := haft ⟨0, .data⟩ (by simp) rfl _ _ rfl rfl
                    exact b_same hi hI rfl (.bool false) (run_bin_op rfl f0 rfl (by kernel_rfl) (run_gtV (by simp) W)) rfl
                  · intro a W hI hun haft hi
                    have f1 : a.eval (.tmp 53) = .bool false := haft ⟨1, .data⟩ (by simp) rfl _ _ rfl rfl
                    exact b_same hi hI rfl _ (run_move_op rfl f1) rfl
                  · intro a W hI hun haft hi
                    have fg : a.eval (.tmp 54) = .bool false := haft ⟨2, .guard⟩ (by simp) rfl _ _ rfl rfl
                    exact b_skip hi hI (guard_no rfl rfl rfl (.inl fg)) rfl
                  · intro a W hI hun haft hi
                    have fg : a.eval (.tmp 54) = .bool false := haft ⟨2, .guard⟩ (by simp) rfl _ _ rfl rfl
                    exact b_skip hi hI (guard_no rfl rfl rfl (.inl fg)) rfl
                  · intro a W hI hun haft hi
                    have fg : a.eval (.tmp 54) = .bool false := haft ⟨2, .guard⟩ (by simp) rfl _ _ rfl rfl
                    exact b_skip hi hI (guard_no rfl rfl rfl (.inl fg)) rfl
                  · intro a W hI hun haft hi
                    have fg : a.eval (.tmp 54) = .bool false := haft ⟨2, .guard⟩ (by simp) rfl _ _ rfl rfl
                    exact b_skip hi hI (guard_no rfl rfl rfl (.inl fg)) rfl
                  · intro a W hI hun haft hi
                    have fg : a.eval (.tmp 54) = .bool false := haft ⟨2, .guard⟩ (by simp) rfl _ _ rfl rfl
                    exact b_skip hi hI (guard_no rfl rfl rfl (.inl fg)) rfl
                  · intro a W hI hun haft hi
                    have fg : a.eval (.tmp 54) = .bool false := haft ⟨2, .guard⟩ (by simp) rfl _ _ rfl rfl
                    exact b_skip hi hI (guard_no rfl rfl rfl (.inl fg)) rfl
                  · intro a W hI hun haft hi
                    have fg : a.eval (.tmp 54) = .bool false := haft ⟨2, .guard⟩ (by simp) rfl _ _ rfl rfl
                    exact b_skip hi hI (guard_no rfl rfl rfl (.inl fg)) rfl
                  · intro a W hI hun haft hi
                    have fg : a.eval (.tmp 54) = .bool false := haft ⟨2, .guard⟩ (by simp) rfl _ _ rfl rfl
                    exact b_skip hi hI (guard_no rfl rfl rfl (.inl fg)) rfl
                  · intro a W hI hun haft hi
                    have f2 : a.eval (.tmp 54) = .bool false := haft ⟨2, .data⟩ (by simp) rfl _ _ rfl rfl
                    have f10 : a.eval (.tmp 62) = undef := haft ⟨10, .data⟩ (by simp) rfl _ _ rfl rfl
                    exact b_same hi hI rfl _ (run_pick_op (b := false) rfl f2 f10 rfl) rfl
                · intro vals W hI hp
                  have hl11 : vals 11 = .bool false := hp 11 (by decide)
                  have HI := Lib.hid hI
                  clear hp hI
                  simp only [layN, List.size_toArray, List.length_cons, List.length_nil, List.range, List.range.loop, if_true, List.getElem?_toArray, List.getElem?_cons_zero, List.getElem?_cons_succ, Act.put, List.setIfInBounds_toArray, List.set_cons_zero, List.set_cons_succ, Nat.zero_add, Nat.reduceAdd, hl11]
                  clear hl11
                  go_wp2
                  go_meet
                  exact ⟨rfl, HI.out⟩
              · obtain ⟨ia, rfl⟩ : ∃ ia, i = ia + 1 := ⟨i - 1, by omega⟩
                obtain ⟨y, hy⟩ : ∃ y, V[ia]? = some y := ⟨V[ia]'(by rw [HN10.out]; omega), List.getElem?_eq_getElem _⟩
                have HGy := Lib.hid (show ∀ W : World, Below X.heap.size X W → W.rangeAt g10 (o10 + ia * 3) (enW y) from fun W hI => HgX.out W hI ia y hy)
                obtain ⟨z, hz⟩ : ∃ z, cfV y v = z := ⟨_, rfl⟩
                have HZ := Lib.hid (show z < 0 by
                  rw [← hz]
                  obtain ⟨h1, rfl⟩ := List.getElem?_eq_some_iff.1 hy
                  obtain ⟨h2, rfl⟩ := List.getElem?_eq_some_iff.1 HVv.out
                  exact List.pairwise_iff_getElem.1 HRs.out ia (ia + 1) h1 h2 (by omega))
                have HYs := Lib.hid (show y.t.size ≤ 9223372036854775806 by
                  obtain ⟨e, he, rfl⟩ := (HMm.out y).1 (List.mem_of_getElem? hy)
                  have := HRm.out e (live_sub he)
                  obtain ⟨_, _, _, _, h5⟩ := this
                  exact Nat.le_trans h5 (by decide))
                clear hy
                have hn60 := HV60.out
                refine wp_region_any (by kernel_rfl) ?_
                refine wpAny_below (fun i uq _ => uq = ([.int .i64 ((ia + 1 : Nat) : Int), .bool true, .bool true, .slice (some ⟨g10, o10, none⟩) n10 c10, .int .i64 ((ia + 1 : Nat) : Int), .int .i64 (ia : Nat), .pointer (some ⟨g10, o10 + ia * 3, none⟩), eV y, eV v, .int .i64 z, .bool false, .bool false] : List Value).getD i undef) _ X (by kernel_rfl) (by kernel_rfl) (by kernel_rfl) (fun i v w w' _ h => h) ?_ ?_
                · refine ⟨?_, ?_, ?_, ?_, ?_, ?_, ?_, ?_, ?_, ?_, ?_, ?_, trivial⟩
                  · intro a W hI hun haft hi
                    have e11 : a.eval (.tmp 11) = .int .i64 ((ia + 1 : Nat) : Int) := hun 11 (by kernel_rfl)
                    exact b_same hi hI rfl _ (run_move_op rfl e11) rfl
                  · intro a W hI hun haft hi
                    have f0 : a.eval (.tmp 52) = .int .i64 ((ia + 1 : Nat) : Int) := haft ⟨0, .data⟩ (by simp) rfl _ _ rfl rfl
                    exact b_same hi hI rfl (.bool true) (run_bin_op rfl f0 rfl (by kernel_rfl) (run_gtV (by rw [decide_eq_true_eq]; omega) W)) rfl
                  · intro a W hI hun haft hi
                    have f1 : a.eval (.tmp 53) = .bool true := haft ⟨1, .data⟩ (by simp) rfl _ _ rfl rfl
                    exact b_same hi hI rfl _ (run_move_op rfl f1) rfl
                  · intro a W hI hun haft hi
                    have fg : a.eval (.tmp 54) = .bool true := haft ⟨2, .guard⟩ (by simp) rfl _ _ rfl rfl
                    have e10 : a.eval (.tmp 10) = .slice (some ⟨g10, o10, none⟩) n10 c10 := hun 10 (by kernel_rfl)
                    exact b_same hi hI (guard_ok rfl rfl rfl fg) _ (run_move_op rfl e10) rfl
                  · intro a W hI hun haft hi
                    have fg : a.eval (.tmp 54) = .bool true := haft ⟨2, .guard⟩ (by simp) rfl _ _ rfl rfl
                    have e11 : a.eval (.tmp 11) = .int .i64 ((ia + 1 : Nat) : Int) := hun 11 (by kernel_rfl)
                    exact b_same hi hI (guard_ok rfl rfl rfl fg) _ (run_move_op rfl e11) rfl
                  · intro a W hI hun haft hi
                    have fg : a.eval (.tmp 54) = .bool true := haft ⟨2, .guard⟩ (by simp) rfl _ _ rfl rfl
                    have f4 : a.eval (.tmp 56) = .int .i64 ((ia + 1 : Nat) : Int) := haft ⟨4, .data⟩ (by simp) rfl _ _ rfl rfl
                    exact b_same hi hI (guard_ok rfl rfl rfl fg) (.int .i64 (ia : Nat)) (run_bin_op rfl f4 rfl (by kernel_rfl) (sub1_V ia (by omega) W)) rfl
                  · intro a W hI hun haft hi
                    have fg : a.eval (.tmp 54) = .bool true := haft ⟨2, .guard⟩ (by simp) rfl _ _ rfl rfl
                    have f3 : a.eval (.tmp 55) = .slice (some ⟨g10, o10, none⟩) n10 c10 := haft ⟨3, .data⟩ (by simp) rfl _ _ rfl rfl
                    have f5 : a.eval (.tmp 57) = .int .i64 (ia : Nat) := haft ⟨5, .data⟩ (by simp) rfl _ _ rfl rfl
                    exact b_same hi hI (guard_ok rfl rfl rfl fg) _ (run_indexAddr_op rfl f3 f5 (at_VaS g10 o10 c10 n10 ia (by omega) W)) rfl
                  · intro a W hI hun haft hi
                    have fg : a.eval (.tmp 54) = .bool true := haft ⟨2, .guard⟩ (by simp) rfl _ _ rfl rfl
                    have f6 : a.eval (.tmp 58) = .pointer (some ⟨g10, o10 + ia * 3, none⟩) := haft ⟨6, .data⟩ (by simp) rfl _ _ rfl rfl
                    exact b_same hi hI (guard_ok rfl rfl rfl fg) _ (run_loadmid_op rfl f6 (HGy.out W hI) Try.underlying37 rfl (by kernel_rfl)) rfl
                  · intro a W hI hun haft hi
                    have fg : a.eval (.tmp 54) = .bool true := haft ⟨2, .guard⟩ (by simp) rfl _ _ rfl rfl
                    have e12 : a.eval (.tmp 12) = .pointer (some ⟨b12, 0, none⟩) := hun 12 (by kernel_rfl)
                    exact b_same hi hI (guard_ok rfl rfl rfl fg) _ (run_load_op rfl e12 (Blk.below HV12.out hI (Blk.lt HV12.out)) Try.underlying37 rfl (sizeVa _)) rfl
                  · intro a W hI hun haft hi
                    have fg : a.eval (.tmp 54) = .bool true := haft ⟨2, .guard⟩ (by simp) rfl _ _ rfl rfl
                    have f7 : a.eval (.tmp 59) = eV y := haft ⟨7, .data⟩ (by simp) rfl _ _ rfl rfl
                    have f8 : a.eval (.tmp 60) = eV v := haft ⟨8, .data⟩ (by simp) rfl _ _ rfl rfl
                    refine b_call hi hI (guard_ok rfl rfl rfl fg) _ _ (run_call_op (args := #[eV y, eV v]) rfl (by simp [f7, f8]) (by kernel_rfl)) ?_
                    exact (refcmp_is y v z hz HYs.out W).mono fun e w' H => ⟨_, H.1, rfl, H.2⟩
                  · intro a W hI hun haft hi
                    have fg : a.eval (.tmp 54) = .bool true := haft ⟨2, .guard⟩ (by simp) rfl _ _ rfl rfl
                    have f9 : a.eval (.tmp 61) = .int .i64 z := haft ⟨9, .data⟩ (by simp) rfl _ _ rfl rfl
                    exact b_same hi hI (guard_ok rfl rfl rfl fg) (.bool false) (run_bin_op rfl f9 rfl (by kernel_rfl) (run_geV (decide_eq_false (by have := HZ.out; omega)) W)) rfl
                  · intro a W hI hun haft hi
                    have f2 : a.eval (.tmp 54) = .bool true := haft ⟨2, .data⟩ (by simp) rfl _ _ rfl rfl
                    have f10 : a.eval (.tmp 62) = .bool false := haft ⟨10, .data⟩ (by simp) rfl _ _ rfl rfl
                    exact b_same hi hI rfl _ (run_pick_op (b := true) rfl f2 f10 rfl) rfl
                · intro vals W hI hp
                  have hl11 : vals 11 = .bool false := hp 11 (by decide)
                  have HI := Lib.hid hI
                  clear hp hI
                  simp only [layN, List.size_toArray, List.length_cons, List.length_nil, List.range, List.range.loop, if_true, List.getElem?_toArray, List.getElem?_cons_zero, List.getElem?_cons_succ, Act.put, List.setIfInBounds_toArray, List.set_cons_zero, List.set_cons_succ, Nat.zero_add, Nat.reduceAdd, hl11]
                  clear hl11
                  go_wp2
                  go_meet
                  exact ⟨rfl, HI.out⟩
            case rest =>
              obtain ⟨rfl, hbx⟩ := hcut
              have HBx := Lib.hid (HBX.out.trans (hbx.mono HBX.out.size))
              have HVx := Lib.hid (Blk.below HV12.out hbx HV12.out.lt)
              have HEx := Lib.hid (HE8.out.below HBx.out HE8.out.lt)
              have HWx := Lib.hid (HB8.out.trans (HBx.out.mono HB8.out.size))
              clear hbx
              go_wp2_with (first
                | (refine wpList_load_if rfl 35 (.tmp 3) rfl p rfl _ _ _ _ HEx.out Try.underlying35 rfl (by kernel_rfl) ?_)
                | fail)
              refine (live_any x row A5 n5 c5 wc (SR8.out.below HBx.out) HN5.out (by have := HN6.out; omega) HOk.out).mono ?_
              rintro e w9 ⟨u66, rfl, ho9, hb9⟩
              obtain ⟨lv, hlv⟩ : ∃ lv, liveL row x = lv := ⟨_, rfl⟩
              have HMv := Lib.hid (show ∃ e ∈ lv, vaOf e = v by rw [← hlv]; exact (HMm.out v).1 (List.mem_of_getElem? HVv.out))
              have hll : lv.length ≤ 60 := by rw [← hlv]; exact Nat.le_trans (List.length_filter_le _ _) HRl.out
              rw [hlv] at ho9
              obtain ⟨A66, c66, rfl, _, _⟩ := ho9.read encE_len
              obtain ⟨nl, hnl⟩ : ∃ nl, lv.length = nl := ⟨_, rfl⟩
              rw [hnl] at ho9 hll ⊢
              have HNl := Lib.hid hnl
              have HNl6 := Lib.hid hll
              have SL9 := Lib.hid (ho9.read encE_len)
              have HV9 := Lib.hid (Blk.below HVx.out hb9 HVx.out.lt)
              have HB9 := Lib.hid (HBx.out.trans (hb9.mono HBx.out.size))
              have HV9l := Lib.hid HV9.out.lt
              clear ho9 hb9 hnl hll hlv
              go_wp2_with fail
              go_loopw [13, 68] (fun v13 v68 wr => ∃ j : Nat, v68 = .int .i64 j ∧ j ≤ nl ∧ v13 = .bool ((lv.take j).any fun e => decide (vaOf e = v)) ∧ Below w9.heap.size w9 wr) (fun _ v68 _ => nl - (intOf v68).toNat)
              case atStart => exact ⟨0, by first | rfl | simp, Nat.zero_le _, by first | rfl | simp, Below.refl _ _⟩
              case round =>
                obtain ⟨j, rfl, hj, rfl, hbj⟩ := hrel
                obtain ⟨wj, rfl⟩ : ∃ wj, wj = wr := ⟨_, rfl⟩
                have HBj := Lib.hid hbj
                by_cases hlj : j < nl
                · obtain ⟨e, he⟩ : ∃ e, lv[j]? = some e := ⟨lv[j]'(by rw [HNl.out]; exact hlj), List.getElem?_eq_getElem _⟩
                  obtain ⟨gl, ol, rfl, _, hce⟩ := (SL9.out.below hbj).ev he
                  have HCe := Lib.hid hce
                  have HAe := Lib.hid (at_Ev gl ol c66 nl j hlj wj)
                  have HAny := Lib.hid (any_next (p := fun e => decide (vaOf e = v)) he)
                  have HAl2 := Lib.hid fun c => World.setRow_alloc_new wj (evC ev0) c 39
                  have HZ2 := Lib.hid (show Blk (wj.alloc (.cells (evC ev0) 39)) wj.heap.size 39 (evC ev0) from Blk.new _ _ _)
                  obtain ⟨Y, hY⟩ : ∃ Y, Y = wj.alloc (.cells (evC e) 39) := ⟨_, rfl⟩
                  have hbY : Below wj.heap.size wj Y := by rw [hY]; exact (Below.refl _ _).alloc (Nat.le_refl _) _
                  have HEY := Lib.hid (show EB Y wj.heap.size e by rw [hY]; exact Blk.new _ _ _)
                  have HYe := Lib.hid hY
                  have HBY := Lib.hid (hbj.trans (hbY.mono hbj.size))
                  have HVY := Lib.hid (Blk.below (Blk.below HV9.out hbj HV9l.out) hbY (Nat.lt_of_lt_of_le HV9l.out hbj.size))
                  obtain ⟨q, hq⟩ : ∃ q, decide (vaOf e = v) = q := ⟨_, rfl⟩
                  have HQ := Lib.hid hq
                  have hw := IntWalk.i64_in ((j : Int) + 1) (by have := HNl6.out; omega)
                  have HWj := Lib.hid hw
                  obtain ⟨bs, hbs⟩ : ∃ bs, ((lv.take j).any fun e => decide (vaOf e = v)) = bs := ⟨_, rfl⟩
                  have HBs := Lib.hid hbs
                  rw [hbs]
                  clear he hce hY hbY hbj hq hw hbs
                  have hz := HZe.out
                  go_upto_region 22 with (first
                    | (refine wpList_val (o := ⟨some 70, _, _, _, _, _⟩) rfl (.pointer (some ⟨gl, ol + j * 27, none⟩)) wj (run_indexAddr_op rfl rfl rfl HAe.out) ?_)
                    | (refine' wpList_load_midif ?q1 39 (.tmp 70) ?q2 gl (ol + j * 27) ?q3 (encE e) _ ?q4 Try.underlying39 ?q5 ?q6 ?_; (case q2 => rfl); (case q1 => rfl); (case q3 => rfl); (case q4 => exact HCe.out); (case q5 => rfl); (case q6 => exact (sizeE e)))
                    | (refine wpList_store_row (o := ⟨none, _, _, _, _, _⟩) rfl 39 (.tmp 15) (.tmp 71) rfl wj.heap.size (evC e) rfl rfl _ _ HZ2.out (sizeE e) rfl (by kernel_rfl) ?_; rw [HAl2.out, ← HYe.out])
                    | fail)
                  clear hz
                  have hw := HWj.out
                  cases bs
                  · have HAn := Lib.hid (show ((lv.take (j + 1)).any fun e => decide (vaOf e = v)) = q by rw [HAny.out, HBs.out, HQ.out, Bool.false_or])
                    go_wp2_with (first
                      | (refine wpList_load_midif rfl 37 (.tmp 74) rfl wj.heap.size 24 rfl _ _ HEY.out.value Try.underlying37 rfl (by kernel_rfl) ?_)
                      | (refine wpList_load_if rfl 37 (.tmp 12) rfl b12 rfl _ _ _ _ HVY.out Try.underlying37 rfl (sizeVa v) ?_)
                      | (refine wpList_val (o := ⟨some 77, _, _, _, _, _⟩) rfl (.bool q) Y (run_bin_op rfl rfl rfl (by kernel_rfl) (eq_VaS HQ.out Y)) ?_)
                      | fail)
                    go_roundw
                    case rel =>
                      first
                        | exact ⟨j + 1, by go_num, by omega, by rw [HAn.out], HBY.out⟩
                        | (repeat apply Exists.intro (α := Value)
                           refine And.intro ?rl ?fr
                           case fr => repeat' (first | apply And.intro | rfl)
                           case rl => exact ⟨j + 1, by go_num, by omega, by rw [HAn.out], HBY.out⟩)
                    case measure => simp [intOf] <;> omega
                  · have HAn := Lib.hid (show ((lv.take (j + 1)).any fun e => decide (vaOf e = v)) = true by rw [HAny.out, HBs.out, Bool.true_or])
                    go_wp2_with fail
                    go_roundw
                    case rel =>
                      first
                        | exact ⟨j + 1, by go_num, by omega, by rw [HAn.out], HBY.out⟩
                        | (repeat apply Exists.intro (α := Value)
                           refine And.intro ?rl ?fr
                           case fr => repeat' (first | apply And.intro | rfl)
                           case rl => exact ⟨j + 1, by go_num, by omega, by rw [HAn.out], HBY.out⟩)
                    case measure => simp [intOf] <;> omega
                · have hjN : nl = j := by omega
                  subst hjN
                  have han : ((lv.take nl).any fun e => decide (vaOf e = v)) = true := by
                    rw [List.take_of_length_le (Nat.le_of_eq HNl.out), List.any_eq_true]
                    obtain ⟨e, he, h1⟩ := HMv.out
                    exact ⟨e, he, by simpa using h1⟩
                  rw [han]
                  have HBo := Lib.hid (HB9.out.trans (hbj.mono HB9.out.size))
                  clear han hbj
                  have hw := HWi.out
                  go_wp2
                  go_roundw
                  case rel =>
                    first
                      | exact ⟨i + 1, by go_num, by omega, HBo.out⟩
                      | (repeat apply Exists.intro (α := Value)
                         refine And.intro ?rl ?fr
                         case fr => repeat' (first | apply And.intro | rfl)
                         case rl => exact ⟨i + 1, by go_num, by omega, HBo.out⟩)
                  case measure => simp [intOf] <;> omega
          · have hiN : n10 = i := by omega
            subst hiN
            have HEx := Lib.hid (HE8.out.below hbw HE8.out.lt)
            have HWx := Lib.hid (HB8.out.trans (hbw.mono HB8.out.size))
            clear hlt hi hbw
            go_wp2_with (first
              | (refine wpList_load_if rfl 35 (.tmp 3) rfl p rfl _ _ _ _ HEx.out Try.underlying35 rfl (by kernel_rfl) ?_)
              | fail)
            refine (live_any x row A5 n5 c5 wi (SR8.out.below HBi.out) HN5.out (by have := HN6.out; omega) HOk.out).mono ?_
            rintro e w9 ⟨u85, rfl, ho9, hb9⟩
            obtain ⟨lv, hlv⟩ : ∃ lv, liveL row x = lv := ⟨_, rfl⟩
            have HMv := Lib.hid (show ∀ e ∈ lv, vaOf e ∈ V by rw [← hlv]; exact fun e he => (HMm.out (vaOf e)).2 ⟨e, he, rfl⟩)
            have hll : lv.length ≤ 60 := by rw [← hlv]; exact Nat.le_trans (List.length_filter_le _ _) HRl.out
            rw [hlv] at ho9
            obtain ⟨A85, c85, rfl, _, _⟩ := ho9.read encE_len
            obtain ⟨nl, hnl⟩ : ∃ nl, lv.length = nl := ⟨_, rfl⟩
            rw [hnl] at ho9 hll ⊢
            have HNl := Lib.hid hnl
            have HNl6 := Lib.hid hll
            have SL9 := Lib.hid (ho9.read encE_len)
            have SV9 := Lib.hid ((S10.out.below HBi.out).below hb9)
            have HW9 := Lib.hid (HWx.out.trans (hb9.mono HWx.out.size))
            clear ho9 hb9 hnl hll hlv
            go_wp2_with fail
            go_loopw [87] (fun v87 wr => ∃ j : Nat, v87 = .int .i64 j ∧ j ≤ nl ∧ Below w9.heap.size w9 wr) (fun v87 _ => nl - (intOf v87).toNat)
            case atStart => exact ⟨0, by first | rfl | simp, Nat.zero_le _, Below.refl _ _⟩
            case round =>
              obtain ⟨j, rfl, hj, hbj⟩ := hrel
              obtain ⟨wj, rfl⟩ : ∃ wj, wj = wr := ⟨_, rfl⟩
              have HBj := Lib.hid hbj
              by_cases hlj : j < nl
              · obtain ⟨e, he⟩ : ∃ e, lv[j]? = some e := ⟨lv[j]'(by rw [HNl.out]; exact hlj), List.getElem?_eq_getElem _⟩
                obtain ⟨gl, ol, rfl, _, hce⟩ := (SL9.out.below hbj).ev he
                have HCe := Lib.hid hce
                have HAe := Lib.hid (at_Ev gl ol c85 nl j hlj wj)
                have HIn := Lib.hid (HMv.out e (List.mem_of_getElem? he))
                have HAl2 := Lib.hid fun c => World.setRow_alloc_new wj (evC ev0) c 39
                have HZ2 := Lib.hid (show Blk (wj.alloc (.cells (evC ev0) 39)) wj.heap.size 39 (evC ev0) from Blk.new _ _ _)
                obtain ⟨Y, hY⟩ : ∃ Y, Y = wj.alloc (.cells (evC e) 39) := ⟨_, rfl⟩
                have hbY : Below wj.heap.size wj Y := by rw [hY]; exact (Below.refl _ _).alloc (Nat.le_refl _) _
                have HEY := Lib.hid (show EB Y wj.heap.size e by rw [hY]; exact Blk.new _ _ _)
                have HYe := Lib.hid hY
                have HBY := Lib.hid (hbj.trans (hbY.mono hbj.size))
                have SVY := Lib.hid ((SV9.out.below hbj).below hbY)
                have hw := IntWalk.i64_in ((j : Int) + 1) (by have := HNl6.out; omega)
                have HWj := Lib.hid hw
                clear he hce hY hbY hbj hw
                have hz := HZe.out
                go_upto_region 31 with (first
                  | (refine wpList_val (o := ⟨some 89, _, _, _, _, _⟩) rfl (.pointer (some ⟨gl, ol + j * 27, none⟩)) wj (run_indexAddr_op rfl rfl rfl HAe.out) ?_)
                  | (refine' wpList_load_midif ?q1 39 (.tmp 89) ?q2 gl (ol + j * 27) ?q3 (encE e) _ ?q4 Try.underlying39 ?q5 ?q6 ?_; (case q2 => rfl); (case q1 => rfl); (case q3 => rfl); (case q4 => exact HCe.out); (case q5 => rfl); (case q6 => exact (sizeE e)))
                  | (refine wpList_store_row (o := ⟨none, _, _, _, _, _⟩) rfl 39 (.tmp 17) (.tmp 90) rfl wj.heap.size (evC e) rfl rfl _ _ HZ2.out (sizeE e) rfl (by kernel_rfl) ?_; rw [HAl2.out, ← HYe.out])
                  | fail)
                clear hz
                obtain ⟨b17, hb17⟩ : ∃ b17, wj.heap.size = b17 := ⟨_, rfl⟩
                rw [hb17] at HEY ⊢
                clear hb17
                go_wp2_with fail
                go_loopw [18, 93] (fun v18 v93 wr => ∃ i : Nat, v93 = .int .i64 i ∧ i ≤ n10 ∧ v18 = .bool ((V.take i).any fun v => decide (vaOf e = v)) ∧ Below Y.heap.size Y wr) (fun _ v93 _ => n10 - (intOf v93).toNat)
                case atStart => exact ⟨0, by first | rfl | simp, Nat.zero_le _, by first | rfl | simp, Below.refl _ _⟩
                case round =>
                  obtain ⟨i, rfl, hi, rfl, hbk⟩ := hrel
                  obtain ⟨wk, rfl⟩ : ∃ wk, wk = wr := ⟨_, rfl⟩
                  have HBk := Lib.hid hbk
                  by_cases hlk : i < n10
                  · obtain ⟨v, hv⟩ : ∃ v, V[i]? = some v := ⟨V[i]'(by rw [HN10.out]; exact hlk), List.getElem?_eq_getElem _⟩
                    obtain ⟨gv, ov, rfl, _, hrv⟩ := (SVY.out.below hbk).va hv
                    have HRv := Lib.hid hrv
                    have HAv := Lib.hid (at_VaS gv ov c10 n10 i hlk wk)
                    have HAny := Lib.hid (any_next (p := fun v => decide (vaOf e = v)) hv)
                    have HAl3 := Lib.hid fun c => World.setRow_alloc_new wk #[.int .i64 0, .int .i64 0, .string ⟨#[]⟩] c 37
                    have HZ3 := Lib.hid (show Blk (wk.alloc (.cells #[.int .i64 0, .int .i64 0, .string ⟨#[]⟩] 37)) wk.heap.size 37 #[.int .i64 0, .int .i64 0, .string ⟨#[]⟩] from Blk.new _ _ _)
                    obtain ⟨Z, hZ⟩ : ∃ Z, Z = wk.alloc (.cells (enW v).toArray 37) := ⟨_, rfl⟩
                    have hbZ : Below wk.heap.size wk Z := by rw [hZ]; exact (Below.refl _ _).alloc (Nat.le_refl _) _
                    have HVZ := Lib.hid (show Blk Z wk.heap.size 37 (enW v).toArray by rw [hZ]; exact Blk.new _ _ _)
                    have HZe3 := Lib.hid hZ
                    have HEZ := Lib.hid (EB.keep (EB.keep HEY.out hbk) hbZ)
                    have HBZ := Lib.hid (hbk.trans (hbZ.mono hbk.size))
                    obtain ⟨q, hq⟩ : ∃ q, decide (vaOf e = v) = q := ⟨_, rfl⟩
                    have HQ := Lib.hid hq
                    have hw := IntWalk.i64_in ((i : Int) + 1) (by have := HV60.out; omega)
                    have HWk := Lib.hid hw
                    obtain ⟨bs, hbs⟩ : ∃ bs, ((V.take i).any fun v => decide (vaOf e = v)) = bs := ⟨_, rfl⟩
                    have HBs := Lib.hid hbs
                    rw [hbs]
                    clear hv hrv hZ hbZ hbk hq hw hbs
                    have hz := HZa.out
                    go_upto_region 34 with (first
                      | (refine wpList_val (o := ⟨some 95, _, _, _, _, _⟩) rfl (.pointer (some ⟨gv, ov + i * 3, none⟩)) wk (run_indexAddr_op rfl rfl rfl HAv.out) ?_)
                      | (refine wpList_load_midif rfl 37 (.tmp 95) rfl gv (ov + i * 3) rfl (enW v) _ HRv.out Try.underlying37 rfl (by kernel_rfl) ?_)
                      | (refine wpList_store_row (o := ⟨none, _, _, _, _, _⟩) rfl 37 (.tmp 20) (.tmp 96) rfl wk.heap.size (enW v).toArray rfl rfl _ _ HZ3.out (sizeVa v) rfl (by simp [enW, Value.oneCell']) ?_; rw [HAl3.out, ← HZe3.out])
                      | fail)
                    clear hz
                    have hw := HWk.out
                    cases bs
                    · have HAn := Lib.hid (show ((V.take (i + 1)).any fun v => decide (vaOf e = v)) = q by rw [HAny.out, HBs.out, HQ.out, Bool.false_or])
                      go_wp2_with (first
                        | (refine wpList_load_midif rfl 37 (.tmp 99) rfl b17 24 rfl _ _ HEZ.out.value Try.underlying37 rfl (by kernel_rfl) ?_)
                        | (refine wpList_load_if rfl 37 (.tmp 20) rfl wk.heap.size rfl _ _ _ _ HVZ.out Try.underlying37 rfl (sizeVa v) ?_)
                        | (refine wpList_val (o := ⟨some 102, _, _, _, _, _⟩) rfl (.bool q) Z (run_bin_op rfl rfl rfl (by kernel_rfl) (eq_VaS HQ.out Z)) ?_)
                        | fail)
                      go_roundw
                      case rel =>
                        first
                          | exact ⟨i + 1, by go_num, by omega, by rw [HAn.out], HBZ.out⟩
                          | (repeat apply Exists.intro (α := Value)
                             refine And.intro ?rl ?fr
                             case fr => repeat' (first | apply And.intro | rfl)
                             case rl => exact ⟨i + 1, by go_num, by omega, by rw [HAn.out], HBZ.out⟩)
                      case measure => simp [intOf] <;> omega
                    · have HAn := Lib.hid (show ((V.take (i + 1)).any fun v => decide (vaOf e = v)) = true by rw [HAny.out, HBs.out, Bool.true_or])
                      go_wp2_with fail
                      go_roundw
                      case rel =>
                        first
                          | exact ⟨i + 1, by go_num, by omega, by rw [HAn.out], HBZ.out⟩
                          | (repeat apply Exists.intro (α := Value)
                             refine And.intro ?rl ?fr
                             case fr => repeat' (first | apply And.intro | rfl)
                             case rl => exact ⟨i + 1, by go_num, by omega, by rw [HAn.out], HBZ.out⟩)
                      case measure => simp [intOf] <;> omega
                  · have hiN : n10 = i := by omega
                    subst hiN
                    have han : ((V.take n10).any fun v => decide (vaOf e = v)) = true := by
                      rw [List.take_of_length_le (Nat.le_of_eq HN10.out), List.any_eq_true]
                      exact ⟨_, HIn.out, by simp⟩
                    rw [han]
                    have HBo := Lib.hid (HBY.out.trans (hbk.mono HBY.out.size))
                    clear han hbk
                    have hw := HWj.out
                    go_wp2
                    go_roundw
                    case rel =>
                      first
                        | exact ⟨j + 1, by go_num, by omega, HBo.out⟩
                        | (repeat apply Exists.intro (α := Value)
                           refine And.intro ?rl ?fr
                           case fr => repeat' (first | apply And.intro | rfl)
                           case rl => exact ⟨j + 1, by go_num, by omega, HBo.out⟩)
                    case measure => simp [intOf] <;> omega
              · have HWe := Lib.hid (HW9.out.trans (hbj.mono HW9.out.size))
                clear hbj
                go_wp2
                go_ret
                exact ⟨rfl, HWe.out⟩

end Go.Proofs.Yteohlbmjbljlmaa
