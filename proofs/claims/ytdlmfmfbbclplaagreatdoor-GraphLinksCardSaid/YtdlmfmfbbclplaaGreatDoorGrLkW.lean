/-
  hedgerowlaw08.GraphLinks: the walk. Conditions: lengths.
-/
import Derived.Test.YtdlmfmfbbclplaaGreatDoorGrLinks
import Derived.Test.YtdlmfmfbbclplaaGreatDoorGrFix
import Derived.Test.YtdlmfmfbbclplaaGreatDoorJGrAsk
import Derived.Test.YtdlmfmfbbclplaaGreatDoorJGrFew
import Derived.Test.YtdlmfmfbbclplaaGreatDoorStCausal
namespace Go.Proofs.YtdlmfmfbbclplaaGreatDoor
open Go.RowKit Go.MapKept Go.Sort

/-! ### What a view tells of the edges -/
theorem row_ok {row : List Ev} (hc : CausL row) : ∀ x ∈ elsL row, ElOk x := fun x hx => by
  obtain ⟨e, he, rfl⟩ := (els_mem row x).1 hx
  have h := (hc.1 e he).1
  unfold okB changeB at h
  simp only [Bool.and_eq_true] at h
  exact elB_ok h.2.1
theorem viewL_links {row : List Ev} (hc : CausL row) (hl : ∀ e ∈ row, Lens e) : (viewL row).links = sortK (linksR (hasG row) (elsL row)) := by
  unfold viewL finV
  rw [fold_is hc hl]
  show sortK _ = _
  rw [links_eq (vals := valsS (runS row)) (has_mem row) (row_ok hc)]
  rfl
theorem viewL_has {row : List Ev} (hc : CausL row) (hl : ∀ e ∈ row, Lens e) (key : ByteArray) : hasV (viewL row) key = hasG row (nodeE key) := by
  show hasV (foldV (valsS (runS row)) (elsG row)) key = _
  rw [fold_is hc hl]
  exact has_eq (has_mem row) key
theorem linksR_ends {has : El → Bool} {L : List El} {x : Lk} (h : x ∈ linksR has L) : has (nodeE x.f) = true ∧ has (nodeE x.t) = true := by
  unfold linksR at h
  obtain ⟨e, he, rfl⟩ := List.mem_map.1 h
  have := (List.mem_filter.1 he).2
  unfold linkH at this
  simp only [Bool.and_eq_true] at this
  exact this.2.2
theorem viewL_ends {row : List Ev} (hc : CausL row) (hl : ∀ e ∈ row, Lens e) {x : Lk} (h : x ∈ (viewL row).links) : hasV (viewL row) x.f = true ∧ hasV (viewL row) x.t = true := by
  rw [viewL_links hc hl, (sortK_perm _).mem_iff] at h
  rw [viewL_has hc hl, viewL_has hc hl]
  exact linksR_ends h
theorem viewL_len {row : List Ev} (hc : CausL row) (hl : ∀ e ∈ row, Lens e) : (viewL row).links.length ≤ row.length := by
  rw [viewL_links hc hl, (sortK_perm _).length_eq]
  unfold linksR
  rw [List.length_map]
  exact Nat.le_trans (List.length_filter_le _ _) (els_len row)
theorem flt_at {l : List Lk} {p : Lk → Bool} {j : Nat} {x : Lk} (h : l[j]? = some x) (hp : p x = true) : (l.filter p)[((l.take j).filter p).length]? = some x := by
  obtain ⟨hj, rfl⟩ := List.getElem?_eq_some_iff.1 h
  have e : l.filter p = (l.take j).filter p ++ l[j] :: (l.drop (j + 1)).filter p := by
    conv => lhs; rw [← List.take_append_drop j l, List.drop_eq_getElem_cons hj, List.filter_append, List.filter_cons_of_pos hp]
  rw [e, List.getElem?_append_right (Nat.le_refl _), Nat.sub_self]
  rfl
theorem flt_yes {l : List Lk} {p : Lk → Bool} {j : Nat} {x : Lk} (h : l[j]? = some x) (hp : p x = true) : ((l.take (j + 1)).filter p).length = ((l.take j).filter p).length + 1 := by
  rw [List.take_add_one, h, Option.toList_some, List.filter_append, List.filter_cons_of_pos hp, List.length_append]
  rfl
theorem flt_no {l : List Lk} {p : Lk → Bool} {j : Nat} {x : Lk} (h : l[j]? = some x) (hp : p x = false) : ((l.take (j + 1)).filter p).length = ((l.take j).filter p).length := by
  rw [List.take_add_one, h, Option.toList_some, List.filter_append, List.filter_cons_of_neg (by rw [hp]; decide), List.length_append]
  simp
theorem ne_KK (x : Lk) (w : World) : (binOp .neq 36 (eK x) (eK x)).run Tryz.prog w = .ok (.bool false) w := by
  unfold eK lkC
  go_simp

set_option maxRecDepth 100000 in
set_option maxHeartbeats 8000000 in
theorem glinks_walk (key : ByteArray) (l : List Ev) (A : Option Addr) (N c : Nat) (w : World) (hs : SlK encE 27 w (.slice A N c) l) (hN : l.length = N) (hN2 : N ≤ 4611686018427387903) (hf : ∀ e ∈ l, Fit e) (hw : WOk w) :
    Calls Tryz.prog 5 #[.slice A N c, .string key] w (Gives w (.bool true)) := by
  have HFw := Lib.hid (fun W (h : Below w.heap.size w W) => few8_any l A N c W (hs.below h) hN hN2 hf)
  have HS := Lib.hid hs
  have HN := Lib.hid hN
  have HW := Lib.hid hw
  have HZv := Lib.hid (zero_of_info zeroV).1
  clear hs hN hN2 hf hw
  cases hfew : few8B l
  · rw [hfew] at HFw
    clear hfew
    go_enter Tryz.func5, Tryz.ntmps5
    go_wp2_with fail
    refine (fixed8 w HW.out).mono ?_
    rintro e w1 ⟨rfl, hb⟩
    have HB1 := Lib.hid hb
    clear hb
    go_wp2_with fail
    refine (HFw.out w1 HB1.out).mono ?_
    rintro e w2 ⟨rfl, hb⟩
    have HB2 := Lib.hid (HB1.out.trans (hb.mono HB1.out.size))
    clear hb
    go_wp2
    go_ret
    exact ⟨rfl, HB2.out⟩
  · have hsh : ∀ e ∈ l, shortB e = true := by
      unfold few8B at hfew
      simp only [Bool.and_eq_true, List.all_eq_true] at hfew
      exact hfew.1
    have hl60 : N ≤ 60 := by
      unfold few8B at hfew
      simp only [Bool.and_eq_true, decide_eq_true_eq] at hfew
      have := hfew.2
      rw [HN.out] at this
      omega
    rw [hfew] at HFw
    have HSh := Lib.hid hsh
    have H60 := Lib.hid hl60
    clear hfew hsh hl60
    go_enter Tryz.func5, Tryz.ntmps5
    go_wp2_with fail
    refine (fixed8 w HW.out).mono ?_
    rintro e w1 ⟨rfl, hb⟩
    have HB1 := Lib.hid hb
    clear hb
    go_wp2_with fail
    refine (HFw.out w1 HB1.out).mono ?_
    rintro e w2 ⟨rfl, hb⟩
    have HB2 := Lib.hid (HB1.out.trans (hb.mono HB1.out.size))
    clear hb
    go_wp2_with fail
    refine (causal_any l A N c w2 (HS.out.below HB2.out) HN.out H60.out (fun e he => short_tiny e (HSh.out e he))).mono ?_
    rintro e w3 ⟨rv, rfl, ho3, hb⟩
    obtain ⟨row, hrow⟩ : ∃ row, (causC l).1 = row := ⟨_, rfl⟩
    obtain ⟨f, hff⟩ : ∃ f, (causC l).2 = f := ⟨_, rfl⟩
    have hcl : CausL row := by rw [← hrow]; exact caus_row l
    rw [hrow] at ho3
    rw [hff]
    have hrl : row.length ≤ 60 := by have := causC_len l; rw [hrow] at this; have h1 := HN.out; have h2 := H60.out; omega
    have hrm : ∀ e ∈ row, Lens e := fun e he => short_lens e (HSh.out e (causC_mem l e (by rw [hrow]; exact he)))
    have HCl := Lib.hid hcl
    have HRm := Lib.hid hrm
    have HRl := Lib.hid hrl
    have HB3 := Lib.hid (HB2.out.trans (hb.mono HB2.out.size))
    have HO3 := Lib.hid ho3
    obtain ⟨A5, c5, rfl, _, _⟩ := ho3.read encE_len
    clear hb hrow hff ho3 hrl hrm hcl
    obtain ⟨n5, hn5⟩ : ∃ n5, row.length = n5 := ⟨_, rfl⟩
    rw [hn5] at HO3 ⊢
    have HN5 := Lib.hid hn5
    have HN6 := Lib.hid (show n5 ≤ 60 by rw [← hn5]; exact HRl.out)
    clear hn5
    have hzv := HZv.out
    have hAl := fun c => World.setRow_alloc_new w3 (vA fun _ => 0) c 26
    have hZ : Blk (w3.alloc (.cells (vA fun _ => 0) 26)) w3.heap.size 26 (vA fun _ => 0) := Blk.new _ _ _
    go_wp2_with (first
      | (refine wpList_store_row rfl 26 (.tmp 6) (.tmp 25) rfl w3.heap.size (vA f) rfl rfl _ _ hZ (sizeV _) (by rw [vA_size, vA_size]) (vA_one _) ?_; rw [hAl])
      | fail)
    clear hzv hAl hZ
    obtain ⟨w4, hw4⟩ : ∃ w4, w3.alloc (.cells (vA f) 26) = w4 := ⟨_, rfl⟩
    rw [hw4]
    have hb4 : Below w3.heap.size w3 w4 := by rw [← hw4]; exact (Below.refl _ _).alloc (Nat.le_refl _) _
    have HB4 := Lib.hid (HB3.out.trans (hb4.mono HB3.out.size))
    have HO4 := Lib.hid (HO3.out.keep hb4)
    clear hw4 hb4
    refine (view_any row A5 n5 c5 w4 (HO4.out.read encE_len) HN5.out (by have := HN6.out; omega) HCl.out HRm.out (HW.out.cut.below HB4.out)).mono ?_
    rintro e w5 ⟨vb, rfl, ⟨own, nv, lv, b1, b2, b3, b4, b5, hV⟩, hb⟩
    have HB5 := Lib.hid (HB4.out.trans (hb.mono HB4.out.size))
    have HO5 := Lib.hid (HO4.out.keep hb)
    have HV5 := Lib.hid hV
    have HLn := Lib.hid (viewL_len HCl.out HRm.out)
    have HLs := Lib.hid (viewL_links HCl.out HRm.out)
    have HEn := Lib.hid (fun (x : Lk) (h : x ∈ (viewL row).links) => viewL_ends HCl.out HRm.out h)
    obtain ⟨V, hVd⟩ : ∃ V, viewL row = V := ⟨_, rfl⟩
    have hou : V.out key = outL V.links key := by rw [← hVd]; rfl
    have hin : V.inn key = innL V.links key := by rw [← hVd]; rfl
    rw [hVd] at HV5 HLn HLs HEn
    obtain ⟨ls, hls⟩ : ∃ ls, V.links = ls := ⟨_, rfl⟩
    rw [hls] at HLn HLs HEn hou hin
    have HLe := Lib.hid hls
    have HOu := Lib.hid hou
    have HIn := Lib.hid hin
    have HNl := Lib.hid (show ls.length ≤ 60 by have := HLn.out; have := HRl.out; omega)
    clear hV hb hVd hls hou hin
    go_wp2_with fail
    refine (linksP_any w5 HV5.out (by rw [HLe.out]; have := HNl.out; omega)).mono ?_
    rintro e w6 ⟨u8, rfl, ho, hb⟩
    rw [HLe.out] at ho
    have HB6 := Lib.hid (HB5.out.trans (hb.mono HB5.out.size))
    have HV6 := Lib.hid (HV5.out.keep hb)
    have HO6 := Lib.hid (HO5.out.keep hb)
    obtain ⟨A8, c8, rfl, _, _⟩ := ho.read enK_len
    obtain ⟨n, hn⟩ : ∃ n, ls.length = n := ⟨_, rfl⟩
    rw [hn] at ho HNl ⊢
    have HNn := Lib.hid hn
    have HO8 := Lib.hid ho
    clear ho hb hn
    go_wp2_with fail
    refine (links8_any row A5 n5 c5 w6 (HO6.out.read encE_len) HN5.out (by have := HN6.out; omega) (fun e he => (HCl.out.1 e he).1)).mono ?_
    rintro e w7 ⟨u9, rfl, ho, hb⟩
    rw [← HLs.out] at ho
    have HB7 := Lib.hid (HB6.out.trans (hb.mono HB6.out.size))
    have HV7 := Lib.hid (HV6.out.keep hb)
    have HO87 := Lib.hid (HO8.out.keep hb)
    obtain ⟨A9, c9, rfl, _, _⟩ := ho.read enK_len
    rw [HNn.out] at ho ⊢
    have HO97 := Lib.hid ho
    clear ho hb
    go_wp2_with fail
    refine (outP_any key w7 HV7.out (by rw [HOu.out]; have := HNl.out; have := HNn.out; have := List.length_filter_le (fun z : Lk => decide (z.f = key)) ls; unfold outL; omega)).mono ?_
    rintro e w8 ⟨u10, rfl, ho, hb⟩
    rw [HOu.out] at ho
    have HB8 := Lib.hid (HB7.out.trans (hb.mono HB7.out.size))
    have HV8 := Lib.hid (HV7.out.keep hb)
    have HO88 := Lib.hid (HO87.out.keep hb)
    have HO98 := Lib.hid (HO97.out.keep hb)
    obtain ⟨A10, c10, rfl, _, _⟩ := ho.read enK_len
    obtain ⟨n10, hn10⟩ : ∃ n10, (outL ls key).length = n10 := ⟨_, rfl⟩
    rw [hn10] at ho ⊢
    have HN10 := Lib.hid hn10
    have HO108 := Lib.hid ho
    clear ho hb hn10
    go_wp2_with fail
    refine (innP_any key w8 HV8.out (by rw [HIn.out]; have := HNl.out; have := HNn.out; have := List.length_filter_le (fun z : Lk => decide (z.t = key)) ls; unfold innL; omega)).mono ?_
    rintro e w9 ⟨u11, rfl, ho, hb⟩
    rw [HIn.out] at ho
    have HB9 := Lib.hid (HB8.out.trans (hb.mono HB8.out.size))
    have HV := Lib.hid (HV8.out.keep hb)
    have HO8 := Lib.hid (HO88.out.keep hb)
    have HO9 := Lib.hid (HO98.out.keep hb)
    have HO10 := Lib.hid (HO108.out.keep hb)
    obtain ⟨A11, c11, rfl, _, _⟩ := ho.read enK_len
    obtain ⟨n11, hn11⟩ : ∃ n11, (innL ls key).length = n11 := ⟨_, rfl⟩
    rw [hn11] at ho ⊢
    have HN11 := Lib.hid hn11
    have HO11 := Lib.hid ho
    have HN10l := Lib.hid (show n10 ≤ n by rw [← HN10.out, ← HNn.out]; exact List.length_filter_le _ _)
    have HN11l := Lib.hid (show n11 ≤ n by rw [← hn11, ← HNn.out]; exact List.length_filter_le _ _)
    clear ho hb hn11 HFw HS HN HW HZv HSh H60 HB1 HB2 HB3 HB4 HB5 HB6 HB7 HB8 HCl HRm HRl HO3 HO4 HO5 HO6 HV5 HV6 HV7 HV8 HO87 HO97 HO88 HO98 HO108 HLn HLs HOu HIn HN5 HN6 HLe
    go_wp2_with fail
    go_loopw [12, 13, 45] (fun v12 v13 v45 wr => ∃ j : Nat, v45 = .int .i64 j ∧ j ≤ n ∧ v12 = .int .i64 ((outL (ls.take j) key).length : Nat) ∧ v13 = .int .i64 ((innL (ls.take j) key).length : Nat) ∧ Below w9.heap.size w9 wr) (fun _ _ v45 _ => n - (intOf v45).toNat)
    case atStart => exact ⟨0, by first | rfl | simp, Nat.zero_le _, by first | rfl | simp [outL], by first | rfl | simp [innL], Below.refl _ _⟩
    case round =>
      obtain ⟨j, rfl, hj, rfl, rfl, hbw⟩ := hrel
      obtain ⟨wo, rfl⟩ : ∃ wo, wo = wr := ⟨_, rfl⟩
      obtain ⟨m, hm⟩ : ∃ m, (outL (ls.take j) key).length = m := ⟨_, rfl⟩
      obtain ⟨mm, hmm⟩ : ∃ mm, (innL (ls.take j) key).length = mm := ⟨_, rfl⟩
      rw [hm, hmm]
      have HM := Lib.hid hm
      have HMm := Lib.hid hmm
      by_cases hlt : j < n
      · obtain ⟨x, hx⟩ : ∃ x, ls[j]? = some x := ⟨ls[j]'(by rw [HNn.out]; exact hlt), List.getElem?_eq_getElem _⟩
        have hen := HEn.out x (List.mem_of_getElem? hx)
        obtain ⟨g8, rfl, _, hg8, he8⟩ := (HO8.out.keep hbw).at_ enK_len hx
        obtain ⟨g9, rfl, _, hg9, he9⟩ := HO9.out.at_ enK_len hx
        have HCe := Lib.hid (show wo.rangeAt g8 (j * 3) [.string x.f, .string x.t, .string x.y] from he8)
        have HAt := Lib.hid (at_Lk0 g8 c8 n j hlt wo)
        have HAt9 := Lib.hid (at_Lk0 g9 c9 n j hlt)
        obtain ⟨q, hq⟩ : ∃ q, wo.heap.size = q := ⟨_, rfl⟩
        obtain ⟨Z, hZ⟩ : ∃ Z, Z = wo.alloc (.cells #[.string x.f, .string x.t, .string x.y] 36) := ⟨_, rfl⟩
        have hbZ : Below wo.heap.size wo Z := by rw [hZ]; exact (Below.refl _ _).alloc (Nat.le_refl _) _
        have hBq : Blk Z q 36 (lkC x) := by rw [hZ, ← hq]; exact Blk.new _ _ _
        have hbz := hbw.trans (hbZ.mono hbw.size)
        have HXB := Lib.hid (show ∀ W, Below Z.heap.size Z W → Blk W q 36 (lkC x) from fun W h => hBq.below h hBq.lt)
        have HY9 := Lib.hid (show ∀ W, Below Z.heap.size Z W → W.rangeAt g9 (j * 3) (enK x) from fun W h => rangeAt_below he9 hg9 (hbz.trans (h.mono hbz.size)))
        have HHf := Lib.hid (show ∀ W, Below Z.heap.size Z W → Calls Tryz.prog 18 #[.pointer (some ⟨vb, 0, none⟩), .string x.f] W (Gives W (.bool true)) from fun W h => by
          have := hasP_any x.f W (HV.out.keep (hbz.trans (h.mono hbz.size)))
          rwa [hen.1] at this)
        have HHt := Lib.hid (show ∀ W, Below Z.heap.size Z W → Calls Tryz.prog 18 #[.pointer (some ⟨vb, 0, none⟩), .string x.t] W (Gives W (.bool true)) from fun W h => by
          have := hasP_any x.t W (HV.out.keep (hbz.trans (h.mono hbz.size)))
          rwa [hen.2] at this)
        have HBz := Lib.hid hbz
        have HXj := Lib.hid hx
        have HQ := Lib.hid hq
        have HXe := Lib.hid hZ
        have HW1 := Lib.hid (IntWalk.i64_in ((j : Int) + 1) (by have := HNl.out; omega))
        have HJ1 := Lib.hid (show ¬ 9223372036854775807 < j + 1 by have := HNl.out; omega)
        have hz := (zero_of_info infoKz).1
        clear hx hen hg8 he8 hg9 he9 hq hZ hbZ hBq hbz hm hmm hbw
        go_upto_region 15 with (first
          | (refine wpList_val (o := ⟨some 48, _, _, _, _, _⟩) rfl (.pointer (some ⟨g8, j * 3, none⟩)) wo (run_indexAddr_op rfl rfl rfl HAt.out) ?_)
          | (refine wpList_load_midif rfl 36 (.tmp 48) rfl g8 (j * 3) rfl [.string x.f, .string x.t, .string x.y] _ HCe.out Tryz.underlying36 rfl (by kernel_rfl) ?_)
          | fail)
        clear hz HAt HCe
        rw [HQ.out, ← HXe.out]
        have HBt := Lib.hid (Below.refl Z.heap.size Z)
        try simp only [Act.put]
        refine wp_region_any (by kernel_rfl) ?_
        refine wpAny_below (fun iq uq wq => uq = ([eK x, .slice (some ⟨g9, 0, none⟩) n c9, .int .i64 (j : Nat), .pointer (some ⟨g9, j * 3, none⟩), eK x, .bool false, .bool false, .pointer (some ⟨vb, 0, none⟩), .pointer (some ⟨q, 0, none⟩), .string x.f, .bool true, .bool false, .bool false, .bool false, .pointer (some ⟨vb, 0, none⟩), .pointer (some ⟨q, 1, none⟩), .string x.t, .bool true, .bool false, .bool false] : List Value).getD iq undef) _ Z (by kernel_rfl) (by kernel_rfl) (by kernel_rfl) (fun i v w w' _ h => h) ?_ ?_
        · refine ⟨?_, ?_, ?_, ?_, ?_, ?_, ?_, ?_, ?_, ?_, ?_, ?_, ?_, ?_, ?_, ?_, ?_, ?_, ?_, ?_, trivial⟩
          · intro a W hI hun haft hi
            have e15 : a.eval (.tmp 15) = .pointer (some ⟨q, 0, none⟩) := hun 15 (by kernel_rfl)
            exact b_same hi hI rfl _ (run_load_op rfl e15 (HXB.out W (HBt.out.trans (hI.mono HBt.out.size))) Tryz.underlying36 rfl (by kernel_rfl)) rfl
          · intro a W hI hun haft hi
            have e9 : a.eval (.tmp 9) = .slice (some ⟨g9, 0, none⟩) n c9 := hun 9 (by kernel_rfl)
            exact b_same hi hI rfl _ (run_move_op rfl e9) rfl
          · intro a W hI hun haft hi
            have e14 : a.eval (.tmp 14) = .int .i64 (j : Nat) := hun 14 (by kernel_rfl)
            exact b_same hi hI rfl _ (run_move_op rfl e14) rfl
          · intro a W hI hun haft hi
            have f1 : a.eval (.tmp 51) = .slice (some ⟨g9, 0, none⟩) n c9 := haft ⟨1, .data⟩ (by simp) rfl _ _ rfl rfl
            have f2 : a.eval (.tmp 52) = .int .i64 (j : Nat) := haft ⟨2, .data⟩ (by simp) rfl _ _ rfl rfl
            exact b_same hi hI rfl _ (run_indexAddr_op rfl f1 f2 (HAt9.out W)) rfl
          · intro a W hI hun haft hi
            have f3 : a.eval (.tmp 53) = .pointer (some ⟨g9, j * 3, none⟩) := haft ⟨3, .data⟩ (by simp) rfl _ _ rfl rfl
            exact b_same hi hI rfl _ (run_loadmid_op rfl f3 (HY9.out W (HBt.out.trans (hI.mono HBt.out.size))) Tryz.underlying36 rfl (by kernel_rfl)) rfl
          · intro a W hI hun haft hi
            have f0 : a.eval (.tmp 50) = eK x := haft ⟨0, .data⟩ (by simp) rfl _ _ rfl rfl
            have f4 : a.eval (.tmp 54) = eK x := haft ⟨4, .data⟩ (by simp) rfl _ _ rfl rfl
            exact b_same hi hI rfl (.bool false) (run_bin_op rfl f0 f4 (by kernel_rfl) (ne_KK x W)) rfl
          · intro a W hI hun haft hi
            have f5 : a.eval (.tmp 55) = .bool false := haft ⟨5, .data⟩ (by simp) rfl _ _ rfl rfl
            exact b_same hi hI rfl _ (run_move_op rfl f5) rfl
          · intro a W hI hun haft hi
            have fg : a.eval (.tmp 56) = .bool false := haft ⟨6, .guard⟩ (by simp) rfl _ _ rfl rfl
            have e7 : a.eval (.tmp 7) = .pointer (some ⟨vb, 0, none⟩) := hun 7 (by kernel_rfl)
            exact b_same hi hI (guard_ok rfl rfl rfl fg) _ (run_move_op rfl e7) rfl
          · intro a W hI hun haft hi
            have fg : a.eval (.tmp 56) = .bool false := haft ⟨6, .guard⟩ (by simp) rfl _ _ rfl rfl
            have e15 : a.eval (.tmp 15) = .pointer (some ⟨q, 0, none⟩) := hun 15 (by kernel_rfl)
            exact b_same hi hI (guard_ok rfl rfl rfl fg) _ (run_fieldAddr_any rfl e15 (at_link0 _ 0 _)) rfl
          · intro a W hI hun haft hi
            have fg : a.eval (.tmp 56) = .bool false := haft ⟨6, .guard⟩ (by simp) rfl _ _ rfl rfl
            have f8 : a.eval (.tmp 58) = .pointer (some ⟨q, 0, none⟩) := haft ⟨8, .data⟩ (by simp) rfl _ _ rfl rfl
            exact b_same hi hI (guard_ok rfl rfl rfl fg) _ (run_loadstr_op rfl f8 Tryz.underlying9 ((Blk.cell (HXB.out W (HBt.out.trans (hI.mono HBt.out.size))) 0).trans rfl)) rfl
          · intro a W hI hun haft hi
            have fg : a.eval (.tmp 56) = .bool false := haft ⟨6, .guard⟩ (by simp) rfl _ _ rfl rfl
            have f7 : a.eval (.tmp 57) = .pointer (some ⟨vb, 0, none⟩) := haft ⟨7, .data⟩ (by simp) rfl _ _ rfl rfl
            have f9 : a.eval (.tmp 59) = .string x.f := haft ⟨9, .data⟩ (by simp) rfl _ _ rfl rfl
            refine b_call hi hI (guard_ok rfl rfl rfl fg) _ _ (run_call_op (args := #[.pointer (some ⟨vb, 0, none⟩), .string x.f]) rfl (by simp [f7, f9]) (by kernel_rfl)) ?_
            exact (HHf.out W (HBt.out.trans (hI.mono HBt.out.size))).mono fun e w' H => ⟨_, H.1, rfl, H.2⟩
          · intro a W hI hun haft hi
            have fg : a.eval (.tmp 56) = .bool false := haft ⟨6, .guard⟩ (by simp) rfl _ _ rfl rfl
            have f10 : a.eval (.tmp 60) = .bool true := haft ⟨10, .data⟩ (by simp) rfl _ _ rfl rfl
            exact b_same hi hI (guard_ok rfl rfl rfl fg) _ (run_not_op rfl f10) rfl
          · intro a W hI hun haft hi
            have f6 : a.eval (.tmp 56) = .bool false := haft ⟨6, .data⟩ (by simp) rfl _ _ rfl rfl
            have f11 : a.eval (.tmp 61) = .bool false := haft ⟨11, .data⟩ (by simp) rfl _ _ rfl rfl
            exact b_same hi hI rfl _ (run_pick_op (b := false) rfl f6 rfl f11) rfl
          · intro a W hI hun haft hi
            have f12 : a.eval (.tmp 62) = .bool false := haft ⟨12, .data⟩ (by simp) rfl _ _ rfl rfl
            exact b_same hi hI rfl _ (run_move_op rfl f12) rfl
          · intro a W hI hun haft hi
            have fg : a.eval (.tmp 63) = .bool false := haft ⟨13, .guard⟩ (by simp) rfl _ _ rfl rfl
            have e7 : a.eval (.tmp 7) = .pointer (some ⟨vb, 0, none⟩) := hun 7 (by kernel_rfl)
            exact b_same hi hI (guard_ok rfl rfl rfl fg) _ (run_move_op rfl e7) rfl
          · intro a W hI hun haft hi
            have fg : a.eval (.tmp 63) = .bool false := haft ⟨13, .guard⟩ (by simp) rfl _ _ rfl rfl
            have e15 : a.eval (.tmp 15) = .pointer (some ⟨q, 0, none⟩) := hun 15 (by kernel_rfl)
            exact b_same hi hI (guard_ok rfl rfl rfl fg) _ (run_fieldAddr_any rfl e15 (at_link1 _ 0 _)) rfl
          · intro a W hI hun haft hi
            have fg : a.eval (.tmp 63) = .bool false := haft ⟨13, .guard⟩ (by simp) rfl _ _ rfl rfl
            have f15 : a.eval (.tmp 65) = .pointer (some ⟨q, 1, none⟩) := haft ⟨15, .data⟩ (by simp) rfl _ _ rfl rfl
            exact b_same hi hI (guard_ok rfl rfl rfl fg) _ (run_loadstr_op rfl f15 Tryz.underlying9 ((Blk.cell (HXB.out W (HBt.out.trans (hI.mono HBt.out.size))) 1).trans rfl)) rfl
          · intro a W hI hun haft hi
            have fg : a.eval (.tmp 63) = .bool false := haft ⟨13, .guard⟩ (by simp) rfl _ _ rfl rfl
            have f14 : a.eval (.tmp 64) = .pointer (some ⟨vb, 0, none⟩) := haft ⟨14, .data⟩ (by simp) rfl _ _ rfl rfl
            have f16 : a.eval (.tmp 66) = .string x.t := haft ⟨16, .data⟩ (by simp) rfl _ _ rfl rfl
            refine b_call hi hI (guard_ok rfl rfl rfl fg) _ _ (run_call_op (args := #[.pointer (some ⟨vb, 0, none⟩), .string x.t]) rfl (by simp [f14, f16]) (by kernel_rfl)) ?_
            exact (HHt.out W (HBt.out.trans (hI.mono HBt.out.size))).mono fun e w' H => ⟨_, H.1, rfl, H.2⟩
          · intro a W hI hun haft hi
            have fg : a.eval (.tmp 63) = .bool false := haft ⟨13, .guard⟩ (by simp) rfl _ _ rfl rfl
            have f17 : a.eval (.tmp 67) = .bool true := haft ⟨17, .data⟩ (by simp) rfl _ _ rfl rfl
            exact b_same hi hI (guard_ok rfl rfl rfl fg) _ (run_not_op rfl f17) rfl
          · intro a W hI hun haft hi
            have f13 : a.eval (.tmp 63) = .bool false := haft ⟨13, .data⟩ (by simp) rfl _ _ rfl rfl
            have f18 : a.eval (.tmp 68) = .bool false := haft ⟨18, .data⟩ (by simp) rfl _ _ rfl rfl
            exact b_same hi hI rfl _ (run_pick_op (b := false) rfl f13 rfl f18) rfl
        · intro vals W hI hp
          have hl19 : vals 19 = .bool false := hp 19 (by decide)
          have HI := Lib.hid hI
          clear hp hI
          simp only [layN, List.size_toArray, List.length_cons, List.length_nil, List.range, List.range.loop, if_true, List.getElem?_toArray, List.getElem?_cons_zero, List.getElem?_cons_succ, Act.put, List.setIfInBounds_toArray, List.set_cons_zero, List.set_cons_succ, Nat.zero_add, Nat.reduceAdd, hl19]
          clear hl19
          have hB1 := HBt.out.trans (HI.out.mono HBt.out.size)
          clear HI HBt
          have HBt := Lib.hid hB1
          clear hB1
          have k0 : W.cell? ⟨q, 0, none⟩ = some (.string x.f) := (Blk.cell (HXB.out W HBt.out) 0).trans rfl
          cases hxf : (x.f.toList == key.toList)
          · have HMo := Lib.hid (flt_no (p := fun z => decide (z.f = key)) HXj.out (decide_eq_false fun e => by rw [e] at hxf; simp at hxf))
            go_upto_region 21 with fail
            clear k0 hxf
            cases hxt : (x.t.toList == key.toList)
            · have HMi := Lib.hid (flt_no (p := fun z => decide (z.t = key)) HXj.out (decide_eq_false fun e => by rw [e] at hxt; simp at hxt))
              have HBe := Lib.hid (HBz.out.trans (HBt.out.mono HBz.out.size))
              have hw := HW1.out
              have hjm := HJ1.out
              have k1 : W.cell? ⟨q, 1, none⟩ = some (.string x.t) := (Blk.cell (HXB.out W HBt.out) 1).trans rfl
              go_wp2_with fail
              go_roundw
              case rel => exact ⟨j + 1, by go_num, by omega, (by unfold outL; rw [HMo.out]; exact congrArg (fun z : Nat => Value.int .i64 (z : Int)) HM.out.symm), by unfold innL; rw [HMi.out]; exact congrArg (fun z : Nat => Value.int .i64 (z : Int)) HMm.out.symm, HBe.out⟩
              case measure => simp [intOf] <;> omega
            · have htk := toList_eq hxt
              have HMi := Lib.hid (flt_yes (p := fun z => decide (z.t = key)) HXj.out (decide_eq_true htk))
              have hy := flt_at (p := fun z => decide (z.t = key)) HXj.out (decide_eq_true htk)
              have hmm2 := HMm.out
              unfold innL at hmm2
              rw [hmm2] at hy
              have hm11 : mm < n11 := by rw [← HN11.out]; exact (List.getElem?_eq_some_iff.1 hy).1
              obtain ⟨g11, rfl, _, hg11, he11⟩ := HO11.out.at_ enK_len hy
              have HY11 := Lib.hid (show ∀ W, Below Z.heap.size Z W → W.rangeAt g11 (mm * 3) (enK x) from fun W h => rangeAt_below he11 hg11 (HBz.out.trans (h.mono HBz.out.size)))
              have HAt11 := Lib.hid (at_Lk0 g11 c11 n11 mm hm11)
              have hw2 := IntWalk.i64_in ((mm : Int) + 1) (by have := HNl.out; have := HN11l.out; omega)
              have hjm2 : ¬ 9223372036854775807 < mm + 1 := by have := HNl.out; have := HN11l.out; omega
              have HW2 := Lib.hid hw2
              have HJ2 := Lib.hid hjm2
              have k1 : W.cell? ⟨q, 1, none⟩ = some (.string x.t) := (Blk.cell (HXB.out W HBt.out) 1).trans rfl
              clear hy hg11 he11 htk hmm2 hw2 hjm2
              go_upto_region 22 with fail
              clear k1
              refine wp_region_any (by kernel_rfl) ?_
              refine wpAny_below (fun iq uq wq => uq = ([.int .i64 (mm : Nat), .slice (some ⟨g11, 0, none⟩) n11 c11, .int .i64 n11, .bool false, .bool false, .slice (some ⟨g11, 0, none⟩) n11 c11, .int .i64 (mm : Nat), .pointer (some ⟨g11, mm * 3, none⟩), eK x, eK x, .bool false, .bool false] : List Value).getD iq undef) _ W (by kernel_rfl) (by kernel_rfl) (by kernel_rfl) (fun i v w w' _ h => h) ?_ ?_
              · refine ⟨?_, ?_, ?_, ?_, ?_, ?_, ?_, ?_, ?_, ?_, ?_, ?_, trivial⟩
                · intro a W hI hun haft hi
                  have e13 : a.eval (.tmp 13) = .int .i64 (mm : Nat) := hun 13 (by kernel_rfl)
                  exact b_same hi hI rfl _ (run_move_op rfl e13) rfl
                · intro a W hI hun haft hi
                  have e11 : a.eval (.tmp 11) = .slice (some ⟨g11, 0, none⟩) n11 c11 := hun 11 (by kernel_rfl)
                  exact b_same hi hI rfl _ (run_move_op rfl e11) rfl
                · intro a W hI hun haft hi
                  have f1 : a.eval (.tmp 93) = .slice (some ⟨g11, 0, none⟩) n11 c11 := haft ⟨1, .data⟩ (by simp) rfl _ _ rfl rfl
                  exact b_same hi hI rfl _ (run_len_op Tryz.underlying53 rfl f1) rfl
                · intro a W hI hun haft hi
                  have f0 : a.eval (.tmp 92) = .int .i64 (mm : Nat) := haft ⟨0, .data⟩ (by simp) rfl _ _ rfl rfl
                  have f2 : a.eval (.tmp 94) = .int .i64 n11 := haft ⟨2, .data⟩ (by simp) rfl _ _ rfl rfl
                  exact b_same hi hI rfl (.bool false) (run_bin_op rfl f0 f2 (by kernel_rfl) (run_gen (decide_eq_false (by omega)) _)) rfl
                · intro a W hI hun haft hi
                  have f3 : a.eval (.tmp 95) = .bool false := haft ⟨3, .data⟩ (by simp) rfl _ _ rfl rfl
                  exact b_same hi hI rfl _ (run_move_op rfl f3) rfl
                · intro a W hI hun haft hi
                  have fg : a.eval (.tmp 96) = .bool false := haft ⟨4, .guard⟩ (by simp) rfl _ _ rfl rfl
                  have e11 : a.eval (.tmp 11) = .slice (some ⟨g11, 0, none⟩) n11 c11 := hun 11 (by kernel_rfl)
                  exact b_same hi hI (guard_ok rfl rfl rfl fg) _ (run_move_op rfl e11) rfl
                · intro a W hI hun haft hi
                  have fg : a.eval (.tmp 96) = .bool false := haft ⟨4, .guard⟩ (by simp) rfl _ _ rfl rfl
                  have e13 : a.eval (.tmp 13) = .int .i64 (mm : Nat) := hun 13 (by kernel_rfl)
                  exact b_same hi hI (guard_ok rfl rfl rfl fg) _ (run_move_op rfl e13) rfl
                · intro a W hI hun haft hi
                  have fg : a.eval (.tmp 96) = .bool false := haft ⟨4, .guard⟩ (by simp) rfl _ _ rfl rfl
                  have f5 : a.eval (.tmp 97) = .slice (some ⟨g11, 0, none⟩) n11 c11 := haft ⟨5, .data⟩ (by simp) rfl _ _ rfl rfl
                  have f6 : a.eval (.tmp 98) = .int .i64 (mm : Nat) := haft ⟨6, .data⟩ (by simp) rfl _ _ rfl rfl
                  exact b_same hi hI (guard_ok rfl rfl rfl fg) _ (run_indexAddr_op rfl f5 f6 (HAt11.out W)) rfl
                · intro a W hI hun haft hi
                  have fg : a.eval (.tmp 96) = .bool false := haft ⟨4, .guard⟩ (by simp) rfl _ _ rfl rfl
                  have f7 : a.eval (.tmp 99) = .pointer (some ⟨g11, mm * 3, none⟩) := haft ⟨7, .data⟩ (by simp) rfl _ _ rfl rfl
                  exact b_same hi hI (guard_ok rfl rfl rfl fg) _ (run_loadmid_op rfl f7 (HY11.out W (HBt.out.trans (hI.mono HBt.out.size))) Tryz.underlying36 rfl (by kernel_rfl)) rfl
                · intro a W hI hun haft hi
                  have fg : a.eval (.tmp 96) = .bool false := haft ⟨4, .guard⟩ (by simp) rfl _ _ rfl rfl
                  have e15 : a.eval (.tmp 15) = .pointer (some ⟨q, 0, none⟩) := hun 15 (by kernel_rfl)
                  exact b_same hi hI (guard_ok rfl rfl rfl fg) _ (run_load_op rfl e15 (HXB.out W (HBt.out.trans (hI.mono HBt.out.size))) Tryz.underlying36 rfl (by kernel_rfl)) rfl
                · intro a W hI hun haft hi
                  have fg : a.eval (.tmp 96) = .bool false := haft ⟨4, .guard⟩ (by simp) rfl _ _ rfl rfl
                  have f8 : a.eval (.tmp 100) = eK x := haft ⟨8, .data⟩ (by simp) rfl _ _ rfl rfl
                  have f9 : a.eval (.tmp 101) = eK x := haft ⟨9, .data⟩ (by simp) rfl _ _ rfl rfl
                  exact b_same hi hI (guard_ok rfl rfl rfl fg) (.bool false) (run_bin_op rfl f8 f9 (by kernel_rfl) (ne_KK x W)) rfl
                · intro a W hI hun haft hi
                  have f4 : a.eval (.tmp 96) = .bool false := haft ⟨4, .data⟩ (by simp) rfl _ _ rfl rfl
                  have f10 : a.eval (.tmp 102) = .bool false := haft ⟨10, .data⟩ (by simp) rfl _ _ rfl rfl
                  exact b_same hi hI rfl _ (run_pick_op (b := false) rfl f4 rfl f10) rfl
              · intro vals W hI hp
                have hl11 : vals 11 = .bool false := hp 11 (by decide)
                have HI := Lib.hid hI
                clear hp hI
                simp only [layN, List.size_toArray, List.length_cons, List.length_nil, List.range, List.range.loop, if_true, List.getElem?_toArray, List.getElem?_cons_zero, List.getElem?_cons_succ, Act.put, List.setIfInBounds_toArray, List.set_cons_zero, List.set_cons_succ, Nat.zero_add, Nat.reduceAdd, hl11]
                clear hl11
                have HBe := Lib.hid (HBz.out.trans ((HBt.out.trans (HI.out.mono HBt.out.size)).mono HBz.out.size))
                have hw := HW1.out
                have hjm := HJ1.out
                have hw2 := HW2.out
                have hjm2 := HJ2.out
                clear HI
                go_wp2_with fail
                go_roundw
                case rel => exact ⟨j + 1, by go_num, by omega, (by unfold outL; rw [HMo.out]; exact congrArg (fun z : Nat => Value.int .i64 (z : Int)) HM.out.symm), by unfold innL; rw [HMi.out]; rw [show ((ls.take j).filter fun z => decide (z.t = key)).length = mm from HMm.out]; go_num, HBe.out⟩
                case measure => simp [intOf] <;> omega
          · have hfk := toList_eq hxf
            have HMo := Lib.hid (flt_yes (p := fun z => decide (z.f = key)) HXj.out (decide_eq_true hfk))
            have hy := flt_at (p := fun z => decide (z.f = key)) HXj.out (decide_eq_true hfk)
            have hm2 := HM.out
            unfold outL at hm2
            rw [hm2] at hy
            have hm10 : m < n10 := by rw [← HN10.out]; exact (List.getElem?_eq_some_iff.1 hy).1
            obtain ⟨g10, rfl, _, hg10, he10⟩ := HO10.out.at_ enK_len hy
            have HY10 := Lib.hid (show ∀ W, Below Z.heap.size Z W → W.rangeAt g10 (m * 3) (enK x) from fun W h => rangeAt_below he10 hg10 (HBz.out.trans (h.mono HBz.out.size)))
            have HAt10 := Lib.hid (at_Lk0 g10 c10 n10 m hm10)
            have HW3 := Lib.hid (IntWalk.i64_in ((m : Int) + 1) (by have := HNl.out; have := HN10l.out; omega))
            have HJ3 := Lib.hid (show ¬ 9223372036854775807 < m + 1 by have := HNl.out; have := HN10l.out; omega)
            clear hy hg10 he10 hfk hm2
            go_upto_region 18 with fail
            clear k0 hxf
            try simp only [Act.put]
            obtain ⟨W1, hW1⟩ : ∃ W1, W1 = W := ⟨_, rfl⟩
            rw [← hW1] at HBt ⊢
            clear hW1
            refine wp_region_any (by kernel_rfl) ?_
            refine wpAny_below (fun iq uq wq => uq = ([.int .i64 (m : Nat), .slice (some ⟨g10, 0, none⟩) n10 c10, .int .i64 n10, .bool false, .bool false, .slice (some ⟨g10, 0, none⟩) n10 c10, .int .i64 (m : Nat), .pointer (some ⟨g10, m * 3, none⟩), eK x, eK x, .bool false, .bool false] : List Value).getD iq undef) _ W1 (by kernel_rfl) (by kernel_rfl) (by kernel_rfl) (fun i v w w' _ h => h) ?_ ?_
            · refine ⟨?_, ?_, ?_, ?_, ?_, ?_, ?_, ?_, ?_, ?_, ?_, ?_, trivial⟩
              · intro a W hI hun haft hi
                have e12 : a.eval (.tmp 12) = .int .i64 (m : Nat) := hun 12 (by kernel_rfl)
                exact b_same hi hI rfl _ (run_move_op rfl e12) rfl
              · intro a W hI hun haft hi
                have e10 : a.eval (.tmp 10) = .slice (some ⟨g10, 0, none⟩) n10 c10 := hun 10 (by kernel_rfl)
                exact b_same hi hI rfl _ (run_move_op rfl e10) rfl
              · intro a W hI hun haft hi
                have f1 : a.eval (.tmp 75) = .slice (some ⟨g10, 0, none⟩) n10 c10 := haft ⟨1, .data⟩ (by simp) rfl _ _ rfl rfl
                exact b_same hi hI rfl _ (run_len_op Tryz.underlying53 rfl f1) rfl
              · intro a W hI hun haft hi
                have f0 : a.eval (.tmp 74) = .int .i64 (m : Nat) := haft ⟨0, .data⟩ (by simp) rfl _ _ rfl rfl
                have f2 : a.eval (.tmp 76) = .int .i64 n10 := haft ⟨2, .data⟩ (by simp) rfl _ _ rfl rfl
                exact b_same hi hI rfl (.bool false) (run_bin_op rfl f0 f2 (by kernel_rfl) (run_gen (decide_eq_false (by omega)) _)) rfl
              · intro a W hI hun haft hi
                have f3 : a.eval (.tmp 77) = .bool false := haft ⟨3, .data⟩ (by simp) rfl _ _ rfl rfl
                exact b_same hi hI rfl _ (run_move_op rfl f3) rfl
              · intro a W hI hun haft hi
                have fg : a.eval (.tmp 78) = .bool false := haft ⟨4, .guard⟩ (by simp) rfl _ _ rfl rfl
                have e10 : a.eval (.tmp 10) = .slice (some ⟨g10, 0, none⟩) n10 c10 := hun 10 (by kernel_rfl)
                exact b_same hi hI (guard_ok rfl rfl rfl fg) _ (run_move_op rfl e10) rfl
              · intro a W hI hun haft hi
                have fg : a.eval (.tmp 78) = .bool false := haft ⟨4, .guard⟩ (by simp) rfl _ _ rfl rfl
                have e12 : a.eval (.tmp 12) = .int .i64 (m : Nat) := hun 12 (by kernel_rfl)
                exact b_same hi hI (guard_ok rfl rfl rfl fg) _ (run_move_op rfl e12) rfl
              · intro a W hI hun haft hi
                have fg : a.eval (.tmp 78) = .bool false := haft ⟨4, .guard⟩ (by simp) rfl _ _ rfl rfl
                have f5 : a.eval (.tmp 79) = .slice (some ⟨g10, 0, none⟩) n10 c10 := haft ⟨5, .data⟩ (by simp) rfl _ _ rfl rfl
                have f6 : a.eval (.tmp 80) = .int .i64 (m : Nat) := haft ⟨6, .data⟩ (by simp) rfl _ _ rfl rfl
                exact b_same hi hI (guard_ok rfl rfl rfl fg) _ (run_indexAddr_op rfl f5 f6 (HAt10.out W)) rfl
              · intro a W hI hun haft hi
                have fg : a.eval (.tmp 78) = .bool false := haft ⟨4, .guard⟩ (by simp) rfl _ _ rfl rfl
                have f7 : a.eval (.tmp 81) = .pointer (some ⟨g10, m * 3, none⟩) := haft ⟨7, .data⟩ (by simp) rfl _ _ rfl rfl
                exact b_same hi hI (guard_ok rfl rfl rfl fg) _ (run_loadmid_op rfl f7 (HY10.out W (HBt.out.trans (hI.mono HBt.out.size))) Tryz.underlying36 rfl (by kernel_rfl)) rfl
              · intro a W hI hun haft hi
                have fg : a.eval (.tmp 78) = .bool false := haft ⟨4, .guard⟩ (by simp) rfl _ _ rfl rfl
                have e15 : a.eval (.tmp 15) = .pointer (some ⟨q, 0, none⟩) := hun 15 (by kernel_rfl)
                exact b_same hi hI (guard_ok rfl rfl rfl fg) _ (run_load_op rfl e15 (HXB.out W (HBt.out.trans (hI.mono HBt.out.size))) Tryz.underlying36 rfl (by kernel_rfl)) rfl
              · intro a W hI hun haft hi
                have fg : a.eval (.tmp 78) = .bool false := haft ⟨4, .guard⟩ (by simp) rfl _ _ rfl rfl
                have f8 : a.eval (.tmp 82) = eK x := haft ⟨8, .data⟩ (by simp) rfl _ _ rfl rfl
                have f9 : a.eval (.tmp 83) = eK x := haft ⟨9, .data⟩ (by simp) rfl _ _ rfl rfl
                exact b_same hi hI (guard_ok rfl rfl rfl fg) (.bool false) (run_bin_op rfl f8 f9 (by kernel_rfl) (ne_KK x W)) rfl
              · intro a W hI hun haft hi
                have f4 : a.eval (.tmp 78) = .bool false := haft ⟨4, .data⟩ (by simp) rfl _ _ rfl rfl
                have f10 : a.eval (.tmp 84) = .bool false := haft ⟨10, .data⟩ (by simp) rfl _ _ rfl rfl
                exact b_same hi hI rfl _ (run_pick_op (b := false) rfl f4 rfl f10) rfl
            · intro vals W hI hp
              have hl11 : vals 11 = .bool false := hp 11 (by decide)
              have HI := Lib.hid hI
              clear hp hI
              simp only [layN, List.size_toArray, List.length_cons, List.length_nil, List.range, List.range.loop, if_true, List.getElem?_toArray, List.getElem?_cons_zero, List.getElem?_cons_succ, Act.put, List.setIfInBounds_toArray, List.set_cons_zero, List.set_cons_succ, Nat.zero_add, Nat.reduceAdd, hl11]
              clear hl11
              have hB1 := HBt.out.trans (HI.out.mono HBt.out.size)
              clear HI HBt
              have HBt := Lib.hid hB1
              clear hB1 hm10
              have hw3 := HW3.out
              have hjm3 := HJ3.out
              go_upto_region 21 with fail
              clear hw3 hjm3
              obtain ⟨W2, hW2⟩ : ∃ W2, W2 = W := ⟨_, rfl⟩
              rw [← hW2] at HBt ⊢
              clear hW2
              cases hxt : (x.t.toList == key.toList)
              · have HMi := Lib.hid (flt_no (p := fun z => decide (z.t = key)) HXj.out (decide_eq_false fun e => by rw [e] at hxt; simp at hxt))
                have HBe := Lib.hid (HBz.out.trans (HBt.out.mono HBz.out.size))
                have hw := HW1.out
                have hjm := HJ1.out
                have k1 : W2.cell? ⟨q, 1, none⟩ = some (.string x.t) := (Blk.cell (HXB.out W2 HBt.out) 1).trans rfl
                go_wp2_with fail
                go_roundw
                case rel => exact ⟨j + 1, by go_num, by omega, (by unfold outL; rw [HMo.out]; rw [show ((ls.take j).filter fun z => decide (z.f = key)).length = m from HM.out]; go_num), by unfold innL; rw [HMi.out]; exact congrArg (fun z : Nat => Value.int .i64 (z : Int)) HMm.out.symm, HBe.out⟩
                case measure => simp [intOf] <;> omega
              · have htk := toList_eq hxt
                have HMi := Lib.hid (flt_yes (p := fun z => decide (z.t = key)) HXj.out (decide_eq_true htk))
                have hy := flt_at (p := fun z => decide (z.t = key)) HXj.out (decide_eq_true htk)
                have hmm2 := HMm.out
                unfold innL at hmm2
                rw [hmm2] at hy
                have hm11 : mm < n11 := by rw [← HN11.out]; exact (List.getElem?_eq_some_iff.1 hy).1
                obtain ⟨g11, rfl, _, hg11, he11⟩ := HO11.out.at_ enK_len hy
                have HY11 := Lib.hid (show ∀ W, Below Z.heap.size Z W → W.rangeAt g11 (mm * 3) (enK x) from fun W h => rangeAt_below he11 hg11 (HBz.out.trans (h.mono HBz.out.size)))
                have HAt11 := Lib.hid (at_Lk0 g11 c11 n11 mm hm11)
                have hw2 := IntWalk.i64_in ((mm : Int) + 1) (by have := HNl.out; have := HN11l.out; omega)
                have hjm2 : ¬ 9223372036854775807 < mm + 1 := by have := HNl.out; have := HN11l.out; omega
                have HW2 := Lib.hid hw2
                have HJ2 := Lib.hid hjm2
                have k1 : W2.cell? ⟨q, 1, none⟩ = some (.string x.t) := (Blk.cell (HXB.out W2 HBt.out) 1).trans rfl
                clear hy hg11 he11 htk hmm2 hw2 hjm2
                go_upto_region 22 with fail
                clear k1
                refine wp_region_any (by kernel_rfl) ?_
                refine wpAny_below (fun iq uq wq => uq = ([.int .i64 (mm : Nat), .slice (some ⟨g11, 0, none⟩) n11 c11, .int .i64 n11, .bool false, .bool false, .slice (some ⟨g11, 0, none⟩) n11 c11, .int .i64 (mm : Nat), .pointer (some ⟨g11, mm * 3, none⟩), eK x, eK x, .bool false, .bool false] : List Value).getD iq undef) _ W2 (by kernel_rfl) (by kernel_rfl) (by kernel_rfl) (fun i v w w' _ h => h) ?_ ?_
                · refine ⟨?_, ?_, ?_, ?_, ?_, ?_, ?_, ?_, ?_, ?_, ?_, ?_, trivial⟩
                  · intro a W hI hun haft hi
                    have e13 : a.eval (.tmp 13) = .int .i64 (mm : Nat) := hun 13 (by kernel_rfl)
                    exact b_same hi hI rfl _ (run_move_op rfl e13) rfl
                  · intro a W hI hun haft hi
                    have e11 : a.eval (.tmp 11) = .slice (some ⟨g11, 0, none⟩) n11 c11 := hun 11 (by kernel_rfl)
                    exact b_same hi hI rfl _ (run_move_op rfl e11) rfl
                  · intro a W hI hun haft hi
                    have f1 : a.eval (.tmp 93) = .slice (some ⟨g11, 0, none⟩) n11 c11 := haft ⟨1, .data⟩ (by simp) rfl _ _ rfl rfl
                    exact b_same hi hI rfl _ (run_len_op Tryz.underlying53 rfl f1) rfl
                  · intro a W hI hun haft hi
                    have f0 : a.eval (.tmp 92) = .int .i64 (mm : Nat) := haft ⟨0, .data⟩ (by simp) rfl _ _ rfl rfl
                    have f2 : a.eval (.tmp 94) = .int .i64 n11 := haft ⟨2, .data⟩ (by simp) rfl _ _ rfl rfl
                    exact b_same hi hI rfl (.bool false) (run_bin_op rfl f0 f2 (by kernel_rfl) (run_gen (decide_eq_false (by omega)) _)) rfl
                  · intro a W hI hun haft hi
                    have f3 : a.eval (.tmp 95) = .bool false := haft ⟨3, .data⟩ (by simp) rfl _ _ rfl rfl
                    exact b_same hi hI rfl _ (run_move_op rfl f3) rfl
                  · intro a W hI hun haft hi
                    have fg : a.eval (.tmp 96) = .bool false := haft ⟨4, .guard⟩ (by simp) rfl _ _ rfl rfl
                    have e11 : a.eval (.tmp 11) = .slice (some ⟨g11, 0, none⟩) n11 c11 := hun 11 (by kernel_rfl)
                    exact b_same hi hI (guard_ok rfl rfl rfl fg) _ (run_move_op rfl e11) rfl
                  · intro a W hI hun haft hi
                    have fg : a.eval (.tmp 96) = .bool false := haft ⟨4, .guard⟩ (by simp) rfl _ _ rfl rfl
                    have e13 : a.eval (.tmp 13) = .int .i64 (mm : Nat) := hun 13 (by kernel_rfl)
                    exact b_same hi hI (guard_ok rfl rfl rfl fg) _ (run_move_op rfl e13) rfl
                  · intro a W hI hun haft hi
                    have fg : a.eval (.tmp 96) = .bool false := haft ⟨4, .guard⟩ (by simp) rfl _ _ rfl rfl
                    have f5 : a.eval (.tmp 97) = .slice (some ⟨g11, 0, none⟩) n11 c11 := haft ⟨5, .data⟩ (by simp) rfl _ _ rfl rfl
                    have f6 : a.eval (.tmp 98) = .int .i64 (mm : Nat) := haft ⟨6, .data⟩ (by simp) rfl _ _ rfl rfl
                    exact b_same hi hI (guard_ok rfl rfl rfl fg) _ (run_indexAddr_op rfl f5 f6 (HAt11.out W)) rfl
                  · intro a W hI hun haft hi
                    have fg : a.eval (.tmp 96) = .bool false := haft ⟨4, .guard⟩ (by simp) rfl _ _ rfl rfl
                    have f7 : a.eval (.tmp 99) = .pointer (some ⟨g11, mm * 3, none⟩) := haft ⟨7, .data⟩ (by simp) rfl _ _ rfl rfl
                    exact b_same hi hI (guard_ok rfl rfl rfl fg) _ (run_loadmid_op rfl f7 (HY11.out W (HBt.out.trans (hI.mono HBt.out.size))) Tryz.underlying36 rfl (by kernel_rfl)) rfl
                  · intro a W hI hun haft hi
                    have fg : a.eval (.tmp 96) = .bool false := haft ⟨4, .guard⟩ (by simp) rfl _ _ rfl rfl
                    have e15 : a.eval (.tmp 15) = .pointer (some ⟨q, 0, none⟩) := hun 15 (by kernel_rfl)
                    exact b_same hi hI (guard_ok rfl rfl rfl fg) _ (run_load_op rfl e15 (HXB.out W (HBt.out.trans (hI.mono HBt.out.size))) Tryz.underlying36 rfl (by kernel_rfl)) rfl
                  · intro a W hI hun haft hi
                    have fg : a.eval (.tmp 96) = .bool false := haft ⟨4, .guard⟩ (by simp) rfl _ _ rfl rfl
                    have f8 : a.eval (.tmp 100) = eK x := haft ⟨8, .data⟩ (by simp) rfl _ _ rfl rfl
                    have f9 : a.eval (.tmp 101) = eK x := haft ⟨9, .data⟩ (by simp) rfl _ _ rfl rfl
                    exact b_same hi hI (guard_ok rfl rfl rfl fg) (.bool false) (run_bin_op rfl f8 f9 (by kernel_rfl) (ne_KK x W)) rfl
                  · intro a W hI hun haft hi
                    have f4 : a.eval (.tmp 96) = .bool false := haft ⟨4, .data⟩ (by simp) rfl _ _ rfl rfl
                    have f10 : a.eval (.tmp 102) = .bool false := haft ⟨10, .data⟩ (by simp) rfl _ _ rfl rfl
                    exact b_same hi hI rfl _ (run_pick_op (b := false) rfl f4 rfl f10) rfl
                · intro vals W hI hp
                  have hl11 : vals 11 = .bool false := hp 11 (by decide)
                  have HI := Lib.hid hI
                  clear hp hI
                  simp only [layN, List.size_toArray, List.length_cons, List.length_nil, List.range, List.range.loop, if_true, List.getElem?_toArray, List.getElem?_cons_zero, List.getElem?_cons_succ, Act.put, List.setIfInBounds_toArray, List.set_cons_zero, List.set_cons_succ, Nat.zero_add, Nat.reduceAdd, hl11]
                  clear hl11
                  have HBe := Lib.hid (HBz.out.trans ((HBt.out.trans (HI.out.mono HBt.out.size)).mono HBz.out.size))
                  have hw := HW1.out
                  have hjm := HJ1.out
                  have hw2 := HW2.out
                  have hjm2 := HJ2.out
                  clear HI
                  go_wp2_with fail
                  go_roundw
                  case rel => exact ⟨j + 1, by go_num, by omega, (by unfold outL; rw [HMo.out]; rw [show ((ls.take j).filter fun z => decide (z.f = key)).length = m from HM.out]; go_num), by unfold innL; rw [HMi.out]; rw [show ((ls.take j).filter fun z => decide (z.t = key)).length = mm from HMm.out]; go_num, HBe.out⟩
                  case measure => simp [intOf] <;> omega
      · have hjn : j = n := by omega
        have hm1 : m = n10 := by rw [← hm, hjn, List.take_of_length_le (by rw [HNn.out]; exact Nat.le_refl _)]; exact HN10.out
        have hm2 : mm = n11 := by rw [← hmm, hjn, List.take_of_length_le (by rw [HNn.out]; exact Nat.le_refl _)]; exact HN11.out
        have HBe := Lib.hid (HB9.out.trans (hbw.mono HB9.out.size))
        clear hm hmm HM HMm HN10 HN11 HN10l HN11l HO10 HO11
        subst hm1 hm2
        go_wp2_with fail
        go_ret
        exact ⟨rfl, HBe.out⟩

end Go.Proofs.YtdlmfmfbbclplaaGreatDoor
