/-
  hedgerowlaw05.VectorMissing: the walk: for all vectors the call returns true, and nothing that was there has turned. Conditions: none.
-/
import Derived.Test.YtcgbiikphcgoaaaVecMissM
namespace Go.Proofs.Ytcgbiikphcgoaaa
open Go.RowKit

theorem at_k (g c n k : Nat) (h : k < n) (w : World) : (Instr.indexAt 25 (.slice (some ⟨g, 0, none⟩) n c) (.int .i64 k)).run Try.prog w = .ok (.pointer (some ⟨g, k * 2, none⟩)) w := by
  have h2 : (k : Int) < n := by omega
  go_simp
theorem run_gt {a b : Int} {p : Bool} (h : decide (b < a) = p) (w : World) : (binOp .gtr 3 (.int .i64 a) (.int .i64 b)).run Try.prog w = .ok (.bool p) w := by
  subst h; go_simp
theorem run_minus {k k' : Nat} (h : k = k' + 1) (hk : k ≤ 16777216) (w : World) : (binOp .sub 3 (.int .i64 k) (.int .i64 1)).run Try.prog w = .ok (.int .i64 k') w := by
  have hw := IntWalk.i64_in ((k : Int) - 1) (by omega)
  have e : (k : Int) - 1 = k' := by omega
  rw [e] at hw
  go_simp
theorem next_is (f : Nat → Int) (r c : Int) (h : nextB f r c = true) (w : World) : Calls Try.prog 9 #[.agg (vA f), dv r c] w fun e w' => e = .returned (.bool true) ∧ Below w.heap.size w w' := by
  have := next_any f r c w; rwa [h] at this
theorem knows_is (f : Nat → Int) (r c : Int) (h : knowsB f r c = true) (w : World) : Calls Try.prog 10 #[.agg (vA f), dv r c] w fun e w' => e = .returned (.bool true) ∧ Below w.heap.size w w' := by
  have := knows_any f r c w; rwa [h] at this

set_option maxRecDepth 100000 in
set_option maxHeartbeats 8000000 in
theorem missing_walk (f g : Nat → Int) (w : World) : Calls Try.prog 3 #[.agg (vA f), .agg (vA g)] w (Law w) := by
  obtain ⟨X, hX⟩ : ∃ X, X = (w.alloc (.cells (vA f) 23)).alloc (.cells (vA g) 23) := ⟨_, rfl⟩
  have hv1 : VB X w.heap.size f := by rw [hX]; exact (VB.new_ f rfl).alloc_ _
  have hv2 : VB X (w.heap.size + 1) g := by rw [hX]; exact VB.new_ g (by simp)
  have hb : Below w.heap.size w X := by rw [hX]; exact ((Below.refl _ _).alloc (Nat.le_refl _) _).alloc (by simp) _
  have HX := Lib.hid hX
  have H1 := Lib.hid hv1
  have H2 := Lib.hid hv2
  have HB := Lib.hid hb
  clear hX hv1 hv2 hb
  go_enter Try.func3, Try.ntmps3
  go_wp2_with fail
  rw [← HX.out]
  refine (fixed_any X).mono ?_
  rintro e Y ⟨rfl, hby⟩
  have h1 := H1.out.keep hby
  have h2 := H2.out.keep hby
  have hw := HB.out.trans (hby.mono HB.out.size)
  have K1 := Lib.hid h1
  have K2 := Lib.hid h2
  have HW := Lib.hid hw
  clear h1 h2 hw hby H1 H2 HB HX
  go_wp2_with fail
  go_loopw [5, 6, 13] (fun n _ i W => ∃ k : Nat, k ≤ 16 ∧ i = .int .i64 k ∧ n = .int .i64 ((dotsTo f g k).length : Nat) ∧ OkV f k ∧ OkV g k ∧ VB W w.heap.size f ∧ VB W (w.heap.size + 1) g ∧ Below w.heap.size w W) (fun _ _ i _ => 16 - (intOf i).toNat)
  case atStart => exact ⟨0, by omega, rfl, by simp [dotsTo], fun i hi => by omega, fun i hi => by omega, K1.out, K2.out, HW.out⟩
  case round =>
    clear K1 K2 HW
    obtain ⟨k, hk, rfl, rfl, okf, okg, k1, k2, kb⟩ := hrel
    by_cases hlt : k < 16
    · have cF := k1.cell_ k hlt
      have cG := k2.cell_ k hlt
      have hL := dots_length f g k
      have hB := dots_bound f g k okf okg
      have HL := Lib.hid hL
      have OF := Lib.hid okf
      have OG := Lib.hid okg
      have K1 := Lib.hid k1
      have K2 := Lib.hid k2
      have KB := Lib.hid kb
      clear hL okf okg k1 k2 kb
      generalize hA : f k = A at *
      generalize hBB : g k = B at *
      generalize (dotsTo f g k).length = n at *
      have HA := Lib.hid hA
      have HBB := Lib.hid hBB
      clear hA hBB
      by_cases c1 : A < 0
      · go_wp2
        go_ret
        exact ⟨rfl, KB.out⟩
      · by_cases c2 : B < 0
        · go_wp2
          go_ret
          exact ⟨rfl, KB.out⟩
        · by_cases c3 : 1048576 < A
          · go_wp2
            go_ret
            exact ⟨rfl, KB.out⟩
          · by_cases c4 : 1048576 < B
            · go_wp2
              go_ret
              exact ⟨rfl, KB.out⟩
            · have hw1 := IntWalk.i64_in (B - A) (by omega)
              have hw2 := IntWalk.i64_in ((n : Int) + (B - A)) (by omega)
              have hw3 := IntWalk.i64_in ((n : Int) + 0) (by omega)
              go_wp2
              go_quiet (fail)
              go_wp2
              go_roundw
              case rel =>
                refine ⟨k + 1, by omega, by go_num, ?_, fun i hi => ?_, fun i hi => ?_, Blk.below K1.out (below_drewN _ _ _) (Blk.lt K1.out), Blk.below K2.out (below_drewN _ _ _) (Blk.lt K2.out), KB.out.trans (below_drewN _ _ _)⟩
                · rw [HL.out]
                  apply int_val
                  split <;> omega
                · by_cases e : i = k
                  · subst e; rw [HA.out]; omega
                  · exact OF.out i (by omega)
                · by_cases e : i = k
                  · subst e; rw [HBB.out]; omega
                  · exact OG.out i (by omega)
              case measure => simp [intOf]; omega
    · have hkk : k = 16 := by omega
      subst hkk
      have hms := miss_ok f g okf okg
      have hbd := dots_bound f g 16 okf okg
      have hAsk := dot_asked f g okf okg
      have hPrev := dots_prev f g
      have hAll := all_known f g okf okg
      have hcl : ((dotsTo f g 16).take 4096).length = min 4096 (dotsTo f g 16).length := List.length_take
      generalize dotsTo f g 16 = T at *
      have HMS := Lib.hid hms
      have ASK := Lib.hid hAsk
      have PREV := Lib.hid hPrev
      have ALL := Lib.hid hAll
      have K1 := Lib.hid k1
      have K2 := Lib.hid k2
      have KB := Lib.hid kb
      clear hms hAsk hPrev hAll k1 k2 kb okf okg
      by_cases hbig : 4096 < T.length
      · have hl : (T.take 4096).length = 4096 := by omega
        have HT : Hid (∀ i, i < 4096 → (T.take 4096)[i]? = T[i]? ∧ (T.take 4096).take i = T.take i) := Lib.hid (fun i hi => ⟨by rw [List.getElem?_take, if_pos hi], by rw [List.take_take, Nat.min_eq_left (by omega)]⟩)
        generalize T.take 4096 = l at *
        have hq : decide ((4096 : Int) < (T.length : Nat)) = true := decide_eq_true (by omega)
        have hlen : l.length ≤ T.length := by omega
        have HT2 : Hid (∀ i, i < l.length → l[i]? = T[i]? ∧ l.take i = T.take i) := Lib.hid (fun i hi => HT.out i (by omega))
        clear HT hcl
        go_wp2_with (first | (refine wpList_load_if rfl 23 (.tmp 2) rfl w.heap.size rfl _ _ _ _ K1.out Try.underlying23 rfl (sizeV _) ?_) | (refine wpList_load_if rfl 23 (.tmp 3) rfl (w.heap.size + 1) rfl _ _ _ _ K2.out Try.underlying23 rfl (sizeV _) ?_))
        refine (missing_any f g _).mono ?_
        rintro e Z ⟨v, rfl, ho, hz⟩
        rw [HMS.out] at ho
        have hds := DS.of_own ho
        have J1 := Lib.hid (K1.out.keep hz)
        have J2 := Lib.hid (K2.out.keep hz)
        have JB := Lib.hid (KB.out.trans (hz.mono KB.out.size))
        have JL := Blk.lt (K2.out.keep hz)
        have HDS := Lib.hid hds
        obtain ⟨A, c, rfl, hx⟩ := hds
        have HXX := Lib.hid hx
        have hz0 := (zero_of_info zeroV).1
        have hw0 := Blk.new Z 23 (vA fun _ => 0)
        have HZN := Lib.hid hw0
        clear hx ho hz K1 K2 KB hw0
        go_upto_region 14 with fail
        have HZ0 := hz0
        clear hz0
        go_upto_region 15 with (first | (refine wpList_load_if rfl 23 (.tmp 2) rfl w.heap.size rfl _ _ _ _ J1.out Try.underlying23 rfl (sizeV _) ?_) | (refine wpList_store_row rfl 23 (.tmp 8) (.tmp 57) rfl Z.heap.size (vA f) rfl rfl _ _ HZN.out (sizeV _) (by rw [vA_size, vA_size]) (vA_one _) ?_))
        have n1 : VB ((Z.alloc (.cells (vA fun _ => 0) 23)).setRow Z.heap.size (vA f)) Z.heap.size f := setRow_VB _ _ _ f HZN.out
        have n2 : Below Z.heap.size Z ((Z.alloc (.cells (vA fun _ => 0) 23)).setRow Z.heap.size (vA f)) := ((Below.refl _ _).alloc (Nat.le_refl _) _).trans (setRow_below _ _ _ _ (Nat.le_refl _))
        generalize (Z.alloc (.cells (vA fun _ => 0) 23)).setRow Z.heap.size (vA f) = Z2 at *
        have N1 := Lib.hid n1
        have N2 := Lib.hid n2
        clear n1 n2 HZN HZ0
        go_wp2_with fail
        go_loopw [60] (fun i W => ∃ k : Nat, k ≤ 4096 ∧ i = .int .i64 k ∧ VB W Z.heap.size (vF f (l.take k)) ∧ Below Z.heap.size Z W) (fun i _ => 4096 - (intOf i).toNat)
        case atStart => exact ⟨0, by omega, rfl, N1.out, N2.out⟩
        case round =>
          clear N1 N2
          obtain ⟨k, hk, rfl, hv, hz⟩ := hrel
          by_cases hlt : k < 4096
          · obtain ⟨r, cc, a1, a2, a3⟩ := ASK.out k (by omega)
            have t1 := HT2.out k (by omega)
            have hlk : l[k]? = some (r, cc) := t1.1.trans a1
            have a1' := a1
            rw [← t1.2] at a2
            obtain ⟨gd, rfl, hg, q1, q2⟩ := HXX.out k (r, cc) (by first | exact hlk | exact a1)
            have hsucc : vF f (l.take (k + 1)) = addV (vF f (l.take k)) r cc := by
              rw [List.take_add_one, hlk]; exact vF_snoc _ _ _
            have cz1 := (hz.cell (p := ⟨gd, k * 2, none⟩) hg).trans q1
            have cz2 := (hz.cell (p := ⟨gd, k * 2 + 1, none⟩) hg).trans q2
            have C12 := Lib.hid (range2 cz1 cz2)
            have HSU := Lib.hid hsucc
            have NX := Lib.hid (next_is _ _ _ a2)
            have KN := Lib.hid (knows_is _ _ _ a3)
            have HV := Lib.hid hv
            have HZ := Lib.hid hz
            have HLK := Lib.hid hlk
            have HGL := Lib.hid hg
            clear t1 a1 a2 a3 hlk hg q1 q2 hsucc cz1 cz2 hv hz
            generalize vF f (l.take k) = V at *
            go_upto_region 18 with (refine wpList_load_mid rfl 28 (.tmp 63) rfl gd (k * 2) rfl [.int .i64 r, .int .i64 cc] _ C12.out Try.underlying28 rfl (by kernel_rfl) ?_)
            have m1 : VB (wr.alloc (.cells #[.int .i64 r, .int .i64 cc] 28)) Z.heap.size V := HV.out.alloc_ _
            have md : Blk (wr.alloc (.cells #[.int .i64 r, .int .i64 cc] 28)) wr.heap.size 28 #[.int .i64 r, .int .i64 cc] := Blk.new _ _ _
            have mz : Below Z.heap.size Z (wr.alloc (.cells #[.int .i64 r, .int .i64 cc] 28)) := HZ.out.alloc HZ.out.size _
            have m2 : VB (wr.alloc (.cells #[.int .i64 r, .int .i64 cc] 28)) (w.heap.size + 1) g := Blk.below J2.out mz (Blk.lt J2.out)
            generalize wr.alloc (.cells #[.int .i64 r, .int .i64 cc] 28) = U at *
            generalize wr.heap.size = bd at *
            have M1 := Lib.hid m1
            have MD := Lib.hid md
            have MZ := Lib.hid mz
            have M2 := Lib.hid m2
            clear m1 md mz m2 C12 HV HZ
            by_cases hk0 : k = 0
            · subst hk0
              refine wp_region_any (by kernel_rfl) ?_
              refine wpAny_below (fun i v _ => v = ([.agg (vA V), dv r cc, .bool true, .bool false, .bool false, .agg (vA g), dv r cc, .bool true, .bool false, .bool false, .bool false, .int .i64 0, .bool false, .bool false, undef, undef, undef, undef, undef, undef, undef, undef, undef, .bool false, .bool false] : List Value).getD i undef) _ U (by kernel_rfl) (by kernel_rfl) (by kernel_rfl) (fun i v w w' _ h => h) ?_ ?_
              · refine ⟨?_, ?_, ?_, ?_, ?_, ?_, ?_, ?_, ?_, ?_, ?_, ?_, ?_, ?_, ?_, ?_, ?_, ?_, ?_, ?_, ?_, ?_, ?_, ?_, ?_, trivial⟩
                · intro a W hI hun haft hi
                  have e8 : a.eval (.tmp 8) = .pointer (some ⟨Z.heap.size, 0, none⟩) := hun 8 (by kernel_rfl)
                  exact b_same hi hI rfl _ (run_load_op rfl e8 (Blk.below M1.out hI (Blk.lt M1.out)) Try.underlying23 rfl (sizeV _)) rfl
                · intro a W hI hun haft hi
                  have e10 : a.eval (.tmp 10) = .pointer (some ⟨bd, 0, none⟩) := hun 10 (by kernel_rfl)
                  exact b_same hi hI rfl _ (run_load_op rfl e10 (Blk.below MD.out hI (Blk.lt MD.out)) Try.underlying28 rfl (by kernel_rfl)) rfl
                · intro a W hI hun haft hi
                  have f0 : a.eval (.tmp 65) = .agg (vA V) := haft ⟨0, .data⟩ (by simp) rfl _ _ rfl rfl
                  have f1 : a.eval (.tmp 66) = dv r cc := haft ⟨1, .data⟩ (by simp) rfl _ _ rfl rfl
                  refine b_call hi hI rfl _ _ (run_call_op (args := #[.agg (vA V), dv r cc]) rfl (by simp [f0, f1]) (by kernel_rfl)) ?_
                  exact (NX.out W).mono fun e w' H => ⟨_, H.1, rfl, H.2⟩
                · intro a W hI hun haft hi
                  have f2 : a.eval (.tmp 67) = .bool true := haft ⟨2, .data⟩ (by simp) rfl _ _ rfl rfl
                  exact b_same hi hI rfl _ (run_not_op rfl f2) rfl
                · intro a W hI hun haft hi
                  have f3 : a.eval (.tmp 68) = .bool false := haft ⟨3, .data⟩ (by simp) rfl _ _ rfl rfl
                  exact b_same hi hI rfl _ (run_move_op rfl f3) rfl
                · intro a W hI hun haft hi
                  have fg : a.eval (.tmp 69) = .bool false := haft ⟨4, .guard⟩ (by simp) rfl _ _ rfl rfl
                  have e3 : a.eval (.tmp 3) = .pointer (some ⟨w.heap.size + 1, 0, none⟩) := hun 3 (by kernel_rfl)
                  exact b_same hi hI (guard_ok rfl rfl rfl fg) _ (run_load_op rfl e3 (Blk.below M2.out hI (Blk.lt M2.out)) Try.underlying23 rfl (sizeV _)) rfl
                · intro a W hI hun haft hi
                  have fg : a.eval (.tmp 69) = .bool false := haft ⟨4, .guard⟩ (by simp) rfl _ _ rfl rfl
                  have e10 : a.eval (.tmp 10) = .pointer (some ⟨bd, 0, none⟩) := hun 10 (by kernel_rfl)
                  exact b_same hi hI (guard_ok rfl rfl rfl fg) _ (run_load_op rfl e10 (Blk.below MD.out hI (Blk.lt MD.out)) Try.underlying28 rfl (by kernel_rfl)) rfl
                · intro a W hI hun haft hi
                  have fg : a.eval (.tmp 69) = .bool false := haft ⟨4, .guard⟩ (by simp) rfl _ _ rfl rfl
                  have f5 : a.eval (.tmp 70) = .agg (vA g) := haft ⟨5, .data⟩ (by simp) rfl _ _ rfl rfl
                  have f6 : a.eval (.tmp 71) = dv r cc := haft ⟨6, .data⟩ (by simp) rfl _ _ rfl rfl
                  refine b_call hi hI (guard_ok rfl rfl rfl fg) _ _ (run_call_op (args := #[.agg (vA g), dv r cc]) rfl (by simp [f5, f6]) (by kernel_rfl)) ?_
                  exact (KN.out W).mono fun e w' H => ⟨_, H.1, rfl, H.2⟩
                · intro a W hI hun haft hi
                  have fg : a.eval (.tmp 69) = .bool false := haft ⟨4, .guard⟩ (by simp) rfl _ _ rfl rfl
                  have f7 : a.eval (.tmp 72) = .bool true := haft ⟨7, .data⟩ (by simp) rfl _ _ rfl rfl
                  exact b_same hi hI (guard_ok rfl rfl rfl fg) _ (run_not_op rfl f7) rfl
                · intro a W hI hun haft hi
                  have f4 : a.eval (.tmp 69) = .bool false := haft ⟨4, .data⟩ (by simp) rfl _ _ rfl rfl
                  have f8 : a.eval (.tmp 73) = .bool false := haft ⟨8, .data⟩ (by simp) rfl _ _ rfl rfl
                  exact b_same hi hI rfl _ (run_pick_op (b := false) rfl f4 rfl f8) rfl
                · intro a W hI hun haft hi
                  have f9 : a.eval (.tmp 74) = .bool false := haft ⟨9, .data⟩ (by simp) rfl _ _ rfl rfl
                  exact b_same hi hI rfl _ (run_move_op rfl f9) rfl
                · intro a W hI hun haft hi
                  have fg : a.eval (.tmp 75) = .bool false := haft ⟨10, .guard⟩ (by simp) rfl _ _ rfl rfl
                  have e9 : a.eval (.tmp 9) = .int .i64 0 := hun 9 (by kernel_rfl)
                  exact b_same hi hI (guard_ok rfl rfl rfl fg) _ (run_move_op rfl e9) rfl
                · intro a W hI hun haft hi
                  have fg : a.eval (.tmp 75) = .bool false := haft ⟨10, .guard⟩ (by simp) rfl _ _ rfl rfl
                  have f11 : a.eval (.tmp 76) = .int .i64 0 := haft ⟨11, .data⟩ (by simp) rfl _ _ rfl rfl
                  exact b_same hi hI (guard_ok rfl rfl rfl fg) (.bool false) (run_bin_op rfl f11 rfl (by kernel_rfl) (by kernel_rfl)) rfl
                · intro a W hI hun haft hi
                  have fg : a.eval (.tmp 75) = .bool false := haft ⟨10, .guard⟩ (by simp) rfl _ _ rfl rfl
                  have f12 : a.eval (.tmp 77) = .bool false := haft ⟨12, .data⟩ (by simp) rfl _ _ rfl rfl
                  exact b_same hi hI (guard_ok rfl rfl rfl fg) _ (run_move_op rfl f12) rfl
                · intro a W hI hun haft hi
                  have fg : a.eval (.tmp 78) = .bool false := haft ⟨13, .guard⟩ (by simp) rfl _ _ rfl rfl
                  exact b_skip hi hI (guard_no rfl rfl rfl (.inl fg)) rfl
                · intro a W hI hun haft hi
                  have fg : a.eval (.tmp 78) = .bool false := haft ⟨13, .guard⟩ (by simp) rfl _ _ rfl rfl
                  exact b_skip hi hI (guard_no rfl rfl rfl (.inl fg)) rfl
                · intro a W hI hun haft hi
                  have fg : a.eval (.tmp 78) = .bool false := haft ⟨13, .guard⟩ (by simp) rfl _ _ rfl rfl
                  exact b_skip hi hI (guard_no rfl rfl rfl (.inl fg)) rfl
                · intro a W hI hun haft hi
                  have fg : a.eval (.tmp 78) = .bool false := haft ⟨13, .guard⟩ (by simp) rfl _ _ rfl rfl
                  exact b_skip hi hI (guard_no rfl rfl rfl (.inl fg)) rfl
                · intro a W hI hun haft hi
                  have fg : a.eval (.tmp 78) = .bool false := haft ⟨13, .guard⟩ (by simp) rfl _ _ rfl rfl
                  exact b_skip hi hI (guard_no rfl rfl rfl (.inl fg)) rfl
                · intro a W hI hun haft hi
                  have fg : a.eval (.tmp 78) = .bool false := haft ⟨13, .guard⟩ (by simp) rfl _ _ rfl rfl
                  exact b_skip hi hI (guard_no rfl rfl rfl (.inl fg)) rfl
                · intro a W hI hun haft hi
                  have fg : a.eval (.tmp 78) = .bool false := haft ⟨13, .guard⟩ (by simp) rfl _ _ rfl rfl
                  exact b_skip hi hI (guard_no rfl rfl rfl (.inl fg)) rfl
                · intro a W hI hun haft hi
                  have fg : a.eval (.tmp 78) = .bool false := haft ⟨13, .guard⟩ (by simp) rfl _ _ rfl rfl
                  exact b_skip hi hI (guard_no rfl rfl rfl (.inl fg)) rfl
                · intro a W hI hun haft hi
                  have fg : a.eval (.tmp 78) = .bool false := haft ⟨13, .guard⟩ (by simp) rfl _ _ rfl rfl
                  exact b_skip hi hI (guard_no rfl rfl rfl (.inl fg)) rfl
                · intro a W hI hun haft hi
                  have fg : a.eval (.tmp 75) = .bool false := haft ⟨10, .guard⟩ (by simp) rfl _ _ rfl rfl
                  have f13 : a.eval (.tmp 78) = .bool false := haft ⟨13, .data⟩ (by simp) rfl _ _ rfl rfl
                  have f22 : a.eval (.tmp 87) = undef := haft ⟨22, .data⟩ (by simp) rfl _ _ rfl rfl
                  exact b_same hi hI (guard_ok rfl rfl rfl fg) _ (run_pick_op (b := false) rfl f13 f22 rfl) rfl
                · intro a W hI hun haft hi
                  have f10 : a.eval (.tmp 75) = .bool false := haft ⟨10, .data⟩ (by simp) rfl _ _ rfl rfl
                  have f23 : a.eval (.tmp 88) = .bool false := haft ⟨23, .data⟩ (by simp) rfl _ _ rfl rfl
                  exact b_same hi hI rfl _ (run_pick_op (b := false) rfl f10 rfl f23) rfl
              · intro vals W hI hp
                have hl24 : vals 24 = .bool false := hp 24 (by decide)
                have HI := Lib.hid hI
                clear hp hI
                simp only [layN, List.size_toArray, List.length_cons, List.length_nil, List.range, List.range.loop, if_true, List.getElem?_toArray, List.getElem?_cons_zero, List.getElem?_cons_succ, Act.put, List.setIfInBounds_toArray, List.set_cons_zero, List.set_cons_succ, Nat.zero_add, Nat.reduceAdd, hl24]
                clear hl24
                have i1 := Blk.below M1.out HI.out (Blk.lt M1.out)
                have iz := MZ.out.trans (HI.out.mono MZ.out.size)
                have id := Blk.below MD.out HI.out (Blk.lt MD.out)
                have I1 := Lib.hid i1
                have IZ := Lib.hid iz
                have ID := Lib.hid id
                clear i1 iz id
                go_wp2_with (first | (refine wpList_load_if rfl 23 (.tmp 8) rfl Z.heap.size rfl _ _ _ _ I1.out Try.underlying23 rfl (sizeV _) ?_) | (refine wpList_load_if rfl 28 (.tmp 10) rfl bd rfl _ _ _ _ ID.out Try.underlying28 rfl (by kernel_rfl) ?_))
                refine (add_any _ _ _ _).mono ?_
                rintro e W3 ⟨rfl, hb3⟩
                rw [← HSU.out]
                have b1 := Blk.below I1.out hb3 (Blk.lt I1.out)
                have bz := IZ.out.trans (hb3.mono IZ.out.size)
                have B1 := Lib.hid b1
                have R1 := Lib.hid (setRow_VB W3 Z.heap.size _ (vF f (l.take (0 + 1))) b1)
                have R2 := Lib.hid (bz.trans (setRow_below W3 Z.heap.size Z.heap.size (vA (vF f (l.take (0 + 1)))) (Nat.le_refl _)))
                clear b1 bz hb3
                go_wp2_with (refine wpList_store_row rfl 23 (.tmp 8) (.tmp 92) rfl Z.heap.size (vA (vF f (l.take (0 + 1)))) rfl rfl _ _ B1.out (sizeV _) (by rw [vA_size, vA_size]) (vA_one _) ?_)
                go_roundw
                case rel => exact ⟨0 + 1, by omega, by go_num, R1.out, R2.out⟩
                case measure => simp [intOf] <;> omega
            · obtain ⟨k', hk'⟩ : ∃ k', k = k' + 1 := ⟨k - 1, by omega⟩
              obtain ⟨r', c', a1, _, _⟩ := ASK.out k' (by omega)
              have t1 := HT2.out k' (by omega)
              have t2 := HT2.out k (by omega)
              obtain ⟨g', e1, hg', q1, _⟩ := HXX.out k' (r', c') (by first | exact t1.1.trans a1 | exact a1)
              have egg : gd = g' := by simpa using e1
              subst egg
              have hle : r' ≤ r := PREV.out k' _ _ a1 (by rw [← hk', ← t2.1]; exact HLK.out)
              have PC := Lib.hid ((MZ.out.cell (p := ⟨gd, k' * 2, none⟩) hg').trans q1)
              have HKK := Lib.hid hk'
              have hgt0 : decide ((0 : Int) < (k : Nat)) = true := decide_eq_true (by omega)
              have hgt1 : decide (((r : Nat) : Int) < (r' : Nat)) = false := decide_eq_false (by omega)
              have HG0 := Lib.hid hgt0
              have HG1 := Lib.hid hgt1
              have hks : k ≤ 16777216 := by omega
              have hk1 : k' < 4096 := by omega
              clear t1 t2 a1 e1 hg' q1 hgt0 hgt1 hle hk'
              refine wp_region_any (by kernel_rfl) ?_
              refine wpAny_below (fun i v _ => v = ([.agg (vA V), dv r cc, .bool true, .bool false, .bool false, .agg (vA g), dv r cc, .bool true, .bool false, .bool false, .bool false, .int .i64 ((k : Nat) : Int), .bool true, .bool true, .slice (some ⟨gd, 0, none⟩) 4096 c, .int .i64 ((k : Nat) : Int), .int .i64 ((k' : Nat) : Int), .pointer (some ⟨gd, k' * 2, none⟩), .pointer (some ⟨gd, k' * 2, none⟩), .int .i64 ((r' : Nat) : Int), .pointer (some ⟨bd, 0, none⟩), .int .i64 ((r : Nat) : Int), .bool false, .bool false, .bool false] : List Value).getD i undef) _ U (by kernel_rfl) (by kernel_rfl) (by kernel_rfl) (fun i v w w' _ h => h) ?_ ?_
              · refine ⟨?_, ?_, ?_, ?_, ?_, ?_, ?_, ?_, ?_, ?_, ?_, ?_, ?_, ?_, ?_, ?_, ?_, ?_, ?_, ?_, ?_, ?_, ?_, ?_, ?_, trivial⟩
                · intro a W hI hun haft hi
                  have e8 : a.eval (.tmp 8) = .pointer (some ⟨Z.heap.size, 0, none⟩) := hun 8 (by kernel_rfl)
                  exact b_same hi hI rfl _ (run_load_op rfl e8 (Blk.below M1.out hI (Blk.lt M1.out)) Try.underlying23 rfl (sizeV _)) rfl
                · intro a W hI hun haft hi
                  have e10 : a.eval (.tmp 10) = .pointer (some ⟨bd, 0, none⟩) := hun 10 (by kernel_rfl)
                  exact b_same hi hI rfl _ (run_load_op rfl e10 (Blk.below MD.out hI (Blk.lt MD.out)) Try.underlying28 rfl (by kernel_rfl)) rfl
                · intro a W hI hun haft hi
                  have f0 : a.eval (.tmp 65) = .agg (vA V) := haft ⟨0, .data⟩ (by simp) rfl _ _ rfl rfl
                  have f1 : a.eval (.tmp 66) = dv r cc := haft ⟨1, .data⟩ (by simp) rfl _ _ rfl rfl
                  refine b_call hi hI rfl _ _ (run_call_op (args := #[.agg (vA V), dv r cc]) rfl (by simp [f0, f1]) (by kernel_rfl)) ?_
                  exact (NX.out W).mono fun e w' H => ⟨_, H.1, rfl, H.2⟩
                · intro a W hI hun haft hi
                  have f2 : a.eval (.tmp 67) = .bool true := haft ⟨2, .data⟩ (by simp) rfl _ _ rfl rfl
                  exact b_same hi hI rfl _ (run_not_op rfl f2) rfl
                · intro a W hI hun haft hi
                  have f3 : a.eval (.tmp 68) = .bool false := haft ⟨3, .data⟩ (by simp) rfl _ _ rfl rfl
                  exact b_same hi hI rfl _ (run_move_op rfl f3) rfl
                · intro a W hI hun haft hi
                  have fg : a.eval (.tmp 69) = .bool false := haft ⟨4, .guard⟩ (by simp) rfl _ _ rfl rfl
                  have e3 : a.eval (.tmp 3) = .pointer (some ⟨w.heap.size + 1, 0, none⟩) := hun 3 (by kernel_rfl)
                  exact b_same hi hI (guard_ok rfl rfl rfl fg) _ (run_load_op rfl e3 (Blk.below M2.out hI (Blk.lt M2.out)) Try.underlying23 rfl (sizeV _)) rfl
                · intro a W hI hun haft hi
                  have fg : a.eval (.tmp 69) = .bool false := haft ⟨4, .guard⟩ (by simp) rfl _ _ rfl rfl
                  have e10 : a.eval (.tmp 10) = .pointer (some ⟨bd, 0, none⟩) := hun 10 (by kernel_rfl)
                  exact b_same hi hI (guard_ok rfl rfl rfl fg) _ (run_load_op rfl e10 (Blk.below MD.out hI (Blk.lt MD.out)) Try.underlying28 rfl (by kernel_rfl)) rfl
                · intro a W hI hun haft hi
                  have fg : a.eval (.tmp 69) = .bool false := haft ⟨4, .guard⟩ (by simp) rfl _ _ rfl rfl
                  have f5 : a.eval (.tmp 70) = .agg (vA g) := haft ⟨5, .data⟩ (by simp) rfl _ _ rfl rfl
                  have f6 : a.eval (.tmp 71) = dv r cc := haft ⟨6, .data⟩ (by simp) rfl _ _ rfl rfl
                  refine b_call hi hI (guard_ok rfl rfl rfl fg) _ _ (run_call_op (args := #[.agg (vA g), dv r cc]) rfl (by simp [f5, f6]) (by kernel_rfl)) ?_
                  exact (KN.out W).mono fun e w' H => ⟨_, H.1, rfl, H.2⟩
                · intro a W hI hun haft hi
                  have fg : a.eval (.tmp 69) = .bool false := haft ⟨4, .guard⟩ (by simp) rfl _ _ rfl rfl
                  have f7 : a.eval (.tmp 72) = .bool true := haft ⟨7, .data⟩ (by simp) rfl _ _ rfl rfl
                  exact b_same hi hI (guard_ok rfl rfl rfl fg) _ (run_not_op rfl f7) rfl
                · intro a W hI hun haft hi
                  have f4 : a.eval (.tmp 69) = .bool false := haft ⟨4, .data⟩ (by simp) rfl _ _ rfl rfl
                  have f8 : a.eval (.tmp 73) = .bool false := haft ⟨8, .data⟩ (by simp) rfl _ _ rfl rfl
                  exact b_same hi hI rfl _ (run_pick_op (b := false) rfl f4 rfl f8) rfl
                · intro a W hI hun haft hi
                  have f9 : a.eval (.tmp 74) = .bool false := haft ⟨9, .data⟩ (by simp) rfl _ _ rfl rfl
                  exact b_same hi hI rfl _ (run_move_op rfl f9) rfl
                · intro a W hI hun haft hi
                  have fg : a.eval (.tmp 75) = .bool false := haft ⟨10, .guard⟩ (by simp) rfl _ _ rfl rfl
                  have e9 : a.eval (.tmp 9) = .int .i64 ((k : Nat) : Int) := hun 9 (by kernel_rfl)
                  exact b_same hi hI (guard_ok rfl rfl rfl fg) _ (run_move_op rfl e9) rfl
                · intro a W hI hun haft hi
                  have fg : a.eval (.tmp 75) = .bool false := haft ⟨10, .guard⟩ (by simp) rfl _ _ rfl rfl
                  have f11 : a.eval (.tmp 76) = .int .i64 ((k : Nat) : Int) := haft ⟨11, .data⟩ (by simp) rfl _ _ rfl rfl
                  exact b_same hi hI (guard_ok rfl rfl rfl fg) (.bool true) (run_bin_op rfl f11 rfl (guardI _ _ _ _ _ _ _) (run_gt HG0.out _)) rfl
                · intro a W hI hun haft hi
                  have fg : a.eval (.tmp 75) = .bool false := haft ⟨10, .guard⟩ (by simp) rfl _ _ rfl rfl
                  have f12 : a.eval (.tmp 77) = .bool true := haft ⟨12, .data⟩ (by simp) rfl _ _ rfl rfl
                  exact b_same hi hI (guard_ok rfl rfl rfl fg) _ (run_move_op rfl f12) rfl
                · intro a W hI hun haft hi
                  have fg : a.eval (.tmp 78) = .bool true := haft ⟨13, .guard⟩ (by simp) rfl _ _ rfl rfl
                  have e7 : a.eval (.tmp 7) = .slice (some ⟨gd, 0, none⟩) 4096 c := hun 7 (by kernel_rfl)
                  exact b_same hi hI (guard_ok rfl rfl rfl fg) _ (run_move_op rfl e7) rfl
                · intro a W hI hun haft hi
                  have fg : a.eval (.tmp 78) = .bool true := haft ⟨13, .guard⟩ (by simp) rfl _ _ rfl rfl
                  have e9 : a.eval (.tmp 9) = .int .i64 ((k : Nat) : Int) := hun 9 (by kernel_rfl)
                  exact b_same hi hI (guard_ok rfl rfl rfl fg) _ (run_move_op rfl e9) rfl
                · intro a W hI hun haft hi
                  have fg : a.eval (.tmp 78) = .bool true := haft ⟨13, .guard⟩ (by simp) rfl _ _ rfl rfl
                  have f15 : a.eval (.tmp 80) = .int .i64 ((k : Nat) : Int) := haft ⟨15, .data⟩ (by simp) rfl _ _ rfl rfl
                  exact b_same hi hI (guard_ok rfl rfl rfl fg) (.int .i64 ((k' : Nat) : Int)) (run_bin_op rfl f15 rfl (guardI _ _ _ _ _ _ _) (run_minus HKK.out hks _)) rfl
                · intro a W hI hun haft hi
                  have fg : a.eval (.tmp 78) = .bool true := haft ⟨13, .guard⟩ (by simp) rfl _ _ rfl rfl
                  have f14 : a.eval (.tmp 79) = .slice (some ⟨gd, 0, none⟩) 4096 c := haft ⟨14, .data⟩ (by simp) rfl _ _ rfl rfl
                  have f16 : a.eval (.tmp 81) = .int .i64 ((k' : Nat) : Int) := haft ⟨16, .data⟩ (by simp) rfl _ _ rfl rfl
                  exact b_same hi hI (guard_ok rfl rfl rfl fg) _ (run_indexAddr_op rfl f14 f16 (at_k gd c 4096 k' hk1 _)) rfl
                · intro a W hI hun haft hi
                  have fg : a.eval (.tmp 78) = .bool true := haft ⟨13, .guard⟩ (by simp) rfl _ _ rfl rfl
                  have f17 : a.eval (.tmp 82) = .pointer (some ⟨gd, k' * 2, none⟩) := haft ⟨17, .data⟩ (by simp) rfl _ _ rfl rfl
                  exact b_same hi hI (guard_ok rfl rfl rfl fg) _ (run_fieldAddr_op rfl f17 (field0q gd (k' * 2) _)) rfl
                · intro a W hI hun haft hi
                  have fg : a.eval (.tmp 78) = .bool true := haft ⟨13, .guard⟩ (by simp) rfl _ _ rfl rfl
                  have f18 : a.eval (.tmp 83) = .pointer (some ⟨gd, k' * 2, none⟩) := haft ⟨18, .data⟩ (by simp) rfl _ _ rfl rfl
                  exact b_same hi hI (guard_ok rfl rfl rfl fg) _ (run_loadint_op rfl f18 Try.underlying3 ((hI.cell (p := ⟨gd, k' * 2, none⟩) (by show gd < _; have := HGL.out; have := MZ.out.size; omega)).trans PC.out)) rfl
                · intro a W hI hun haft hi
                  have fg : a.eval (.tmp 78) = .bool true := haft ⟨13, .guard⟩ (by simp) rfl _ _ rfl rfl
                  have e10 : a.eval (.tmp 10) = .pointer (some ⟨bd, 0, none⟩) := hun 10 (by kernel_rfl)
                  exact b_same hi hI (guard_ok rfl rfl rfl fg) _ (run_fieldAddr_op rfl e10 (field0 bd _)) rfl
                · intro a W hI hun haft hi
                  have fg : a.eval (.tmp 78) = .bool true := haft ⟨13, .guard⟩ (by simp) rfl _ _ rfl rfl
                  have f20 : a.eval (.tmp 85) = .pointer (some ⟨bd, 0, none⟩) := haft ⟨20, .data⟩ (by simp) rfl _ _ rfl rfl
                  exact b_same hi hI (guard_ok rfl rfl rfl fg) _ (run_loadint_op rfl f20 Try.underlying3 ((Blk.cell (Blk.below MD.out hI (Blk.lt MD.out)) 0).trans rfl)) rfl
                · intro a W hI hun haft hi
                  have fg : a.eval (.tmp 78) = .bool true := haft ⟨13, .guard⟩ (by simp) rfl _ _ rfl rfl
                  have f19 : a.eval (.tmp 84) = .int .i64 ((r' : Nat) : Int) := haft ⟨19, .data⟩ (by simp) rfl _ _ rfl rfl
                  have f21 : a.eval (.tmp 86) = .int .i64 ((r : Nat) : Int) := haft ⟨21, .data⟩ (by simp) rfl _ _ rfl rfl
                  exact b_same hi hI (guard_ok rfl rfl rfl fg) (.bool false) (run_bin_op rfl f19 f21 (guardI _ _ _ _ _ _ _) (run_gt HG1.out _)) rfl
                · intro a W hI hun haft hi
                  have fg : a.eval (.tmp 75) = .bool false := haft ⟨10, .guard⟩ (by simp) rfl _ _ rfl rfl
                  have f13 : a.eval (.tmp 78) = .bool true := haft ⟨13, .data⟩ (by simp) rfl _ _ rfl rfl
                  have f22 : a.eval (.tmp 87) = .bool false := haft ⟨22, .data⟩ (by simp) rfl _ _ rfl rfl
                  exact b_same hi hI (guard_ok rfl rfl rfl fg) _ (run_pick_op (b := true) rfl f13 f22 rfl) rfl
                · intro a W hI hun haft hi
                  have f10 : a.eval (.tmp 75) = .bool false := haft ⟨10, .data⟩ (by simp) rfl _ _ rfl rfl
                  have f23 : a.eval (.tmp 88) = .bool false := haft ⟨23, .data⟩ (by simp) rfl _ _ rfl rfl
                  exact b_same hi hI rfl _ (run_pick_op (b := false) rfl f10 rfl f23) rfl
              · intro vals W hI hp
                have hl24 : vals 24 = .bool false := hp 24 (by decide)
                have HI := Lib.hid hI
                clear hp hI
                simp only [layN, List.size_toArray, List.length_cons, List.length_nil, List.range, List.range.loop, if_true, List.getElem?_toArray, List.getElem?_cons_zero, List.getElem?_cons_succ, Act.put, List.setIfInBounds_toArray, List.set_cons_zero, List.set_cons_succ, Nat.zero_add, Nat.reduceAdd, hl24]
                clear hl24
                have i1 := Blk.below M1.out HI.out (Blk.lt M1.out)
                have iz := MZ.out.trans (HI.out.mono MZ.out.size)
                have id := Blk.below MD.out HI.out (Blk.lt MD.out)
                have I1 := Lib.hid i1
                have IZ := Lib.hid iz
                have ID := Lib.hid id
                clear i1 iz id
                go_wp2_with (first | (refine wpList_load_if rfl 23 (.tmp 8) rfl Z.heap.size rfl _ _ _ _ I1.out Try.underlying23 rfl (sizeV _) ?_) | (refine wpList_load_if rfl 28 (.tmp 10) rfl bd rfl _ _ _ _ ID.out Try.underlying28 rfl (by kernel_rfl) ?_))
                refine (add_any _ _ _ _).mono ?_
                rintro e W3 ⟨rfl, hb3⟩
                rw [← HSU.out]
                have b1 := Blk.below I1.out hb3 (Blk.lt I1.out)
                have bz := IZ.out.trans (hb3.mono IZ.out.size)
                have B1 := Lib.hid b1
                have R1 := Lib.hid (setRow_VB W3 Z.heap.size _ (vF f (l.take (k + 1))) b1)
                have R2 := Lib.hid (bz.trans (setRow_below W3 Z.heap.size Z.heap.size (vA (vF f (l.take (k + 1)))) (Nat.le_refl _)))
                clear b1 bz hb3
                go_wp2_with (refine wpList_store_row rfl 23 (.tmp 8) (.tmp 92) rfl Z.heap.size (vA (vF f (l.take (k + 1)))) rfl rfl _ _ B1.out (sizeV _) (by rw [vA_size, vA_size]) (vA_one _) ?_)
                go_roundw
                case rel => exact ⟨k + 1, by omega, by go_num, R1.out, R2.out⟩
                case measure => simp [intOf] <;> omega
          · have hkk : k = 4096 := by omega
            subst hkk
            rw [List.take_of_length_le (by omega)] at hv
            have HV := Lib.hid hv
            have j1 := Blk.below J1.out hz (Blk.lt J1.out)
            have j2 := Blk.below J2.out hz (Blk.lt J2.out)
            have JJ1 := Lib.hid j1
            have JJ2 := Lib.hid j2
            have HWW := Lib.hid (JB.out.trans (hz.mono JB.out.size))
            clear hv hz j1 j2
            go_upto_region 22 with fail
            refine wp_region_any (by kernel_rfl) ?_
            refine wpAny_below (fun i v _ => v = ([.int .i64 ((T.length : Nat) : Int), .bool true, .bool true, undef, undef, undef, undef, undef, .bool true, .bool true] : List Value).getD i undef) _ wr (by kernel_rfl) (by kernel_rfl) (by kernel_rfl) (fun i v w w' _ h => h) ?_ ?_
            · refine ⟨?_, ?_, ?_, ?_, ?_, ?_, ?_, ?_, ?_, ?_, trivial⟩
              · intro a W hI hun haft hi
                have e5 : a.eval (.tmp 5) = .int .i64 ((T.length : Nat) : Int) := hun 5 (by kernel_rfl)
                exact b_same hi hI rfl _ (run_move_op rfl e5) rfl
              · intro a W hI hun haft hi
                have f0 : a.eval (.tmp 94) = .int .i64 ((T.length : Nat) : Int) := haft ⟨0, .data⟩ (by simp) rfl _ _ rfl rfl
                exact b_same hi hI rfl (.bool true) (run_bin_op rfl f0 rfl (guardI _ _ _ _ _ _ _) (run_gt hq _)) rfl
              · intro a W hI hun haft hi
                have f1 : a.eval (.tmp 95) = .bool true := haft ⟨1, .data⟩ (by simp) rfl _ _ rfl rfl
                exact b_same hi hI rfl _ (run_move_op rfl f1) rfl
              · intro a W hI hun haft hi
                have fg : a.eval (.tmp 96) = .bool true := haft ⟨2, .guard⟩ (by simp) rfl _ _ rfl rfl
                exact b_skip hi hI (guard_no rfl rfl rfl (.inl fg)) rfl
              · intro a W hI hun haft hi
                have fg : a.eval (.tmp 96) = .bool true := haft ⟨2, .guard⟩ (by simp) rfl _ _ rfl rfl
                exact b_skip hi hI (guard_no rfl rfl rfl (.inl fg)) rfl
              · intro a W hI hun haft hi
                have fg : a.eval (.tmp 96) = .bool true := haft ⟨2, .guard⟩ (by simp) rfl _ _ rfl rfl
                exact b_skip hi hI (guard_no rfl rfl rfl (.inl fg)) rfl
              · intro a W hI hun haft hi
                have fg : a.eval (.tmp 96) = .bool true := haft ⟨2, .guard⟩ (by simp) rfl _ _ rfl rfl
                exact b_skip hi hI (guard_no rfl rfl rfl (.inl fg)) rfl
              · intro a W hI hun haft hi
                have fg : a.eval (.tmp 96) = .bool true := haft ⟨2, .guard⟩ (by simp) rfl _ _ rfl rfl
                exact b_skip hi hI (guard_no rfl rfl rfl (.inl fg)) rfl
              · intro a W hI hun haft hi
                have f2 : a.eval (.tmp 96) = .bool true := haft ⟨2, .data⟩ (by simp) rfl _ _ rfl rfl
                have f7 : a.eval (.tmp 101) = undef := haft ⟨7, .data⟩ (by simp) rfl _ _ rfl rfl
                exact b_same hi hI rfl _ (run_pick_op (b := true) rfl f2 rfl f7) rfl
              · intro a W hI hun haft hi
                have f8 : a.eval (.tmp 102) = .bool true := haft ⟨8, .data⟩ (by simp) rfl _ _ rfl rfl
                exact b_same hi hI rfl _ (run_assign_op rfl f8) rfl
            · intro vals W hI hp
              have hl9 : vals 9 = .bool true := hp 9 (by decide)
              have HI := Lib.hid hI
              clear hp hI
              simp only [layN, List.size_toArray, List.length_cons, List.length_nil, List.range, List.range.loop, if_true, List.getElem?_toArray, List.getElem?_cons_zero, List.getElem?_cons_succ, Act.put, List.setIfInBounds_toArray, List.set_cons_zero, List.set_cons_succ, Nat.zero_add, Nat.reduceAdd, hl9]
              clear hl9
              go_wp2
              go_ret
              exact ⟨rfl, HWW.out.trans (HI.out.mono HWW.out.size)⟩
      · have hl : T.take 4096 = T := List.take_of_length_le (by omega)
        rw [hl] at HMS
        have hq : decide ((4096 : Int) < (T.length : Nat)) = false := decide_eq_false (by omega)
        have HT2 : Hid (∀ i, i < (T.take 4096).length → (T.take 4096)[i]? = T[i]? ∧ (T.take 4096).take i = T.take i) := Lib.hid (fun i _ => by rw [hl]; exact ⟨rfl, rfl⟩)
        have hlen : (T.take 4096).length = T.length := by rw [hl]
        have EL := Lib.hid hl
        clear hl hcl
        generalize T.take 4096 = l at *
        go_wp2_with (first | (refine wpList_load_if rfl 23 (.tmp 2) rfl w.heap.size rfl _ _ _ _ K1.out Try.underlying23 rfl (sizeV _) ?_) | (refine wpList_load_if rfl 23 (.tmp 3) rfl (w.heap.size + 1) rfl _ _ _ _ K2.out Try.underlying23 rfl (sizeV _) ?_))
        refine (missing_any f g _).mono ?_
        rintro e Z ⟨v, rfl, ho, hz⟩
        rw [HMS.out] at ho
        have hds := DS.of_own ho
        have J1 := Lib.hid (K1.out.keep hz)
        have J2 := Lib.hid (K2.out.keep hz)
        have JB := Lib.hid (KB.out.trans (hz.mono KB.out.size))
        have JL := Blk.lt (K2.out.keep hz)
        have HDS := Lib.hid hds
        obtain ⟨A, c, rfl, hx⟩ := hds
        have HXX := Lib.hid hx
        have hz0 := (zero_of_info zeroV).1
        have hw0 := Blk.new Z 23 (vA fun _ => 0)
        have HZN := Lib.hid hw0
        clear hx ho hz K1 K2 KB hw0
        go_upto_region 14 with fail
        have HZ0 := hz0
        clear hz0
        go_upto_region 15 with (first | (refine wpList_load_if rfl 23 (.tmp 2) rfl w.heap.size rfl _ _ _ _ J1.out Try.underlying23 rfl (sizeV _) ?_) | (refine wpList_store_row rfl 23 (.tmp 8) (.tmp 57) rfl Z.heap.size (vA f) rfl rfl _ _ HZN.out (sizeV _) (by rw [vA_size, vA_size]) (vA_one _) ?_))
        have n1 : VB ((Z.alloc (.cells (vA fun _ => 0) 23)).setRow Z.heap.size (vA f)) Z.heap.size f := setRow_VB _ _ _ f HZN.out
        have n2 : Below Z.heap.size Z ((Z.alloc (.cells (vA fun _ => 0) 23)).setRow Z.heap.size (vA f)) := ((Below.refl _ _).alloc (Nat.le_refl _) _).trans (setRow_below _ _ _ _ (Nat.le_refl _))
        generalize (Z.alloc (.cells (vA fun _ => 0) 23)).setRow Z.heap.size (vA f) = Z2 at *
        have N1 := Lib.hid n1
        have N2 := Lib.hid n2
        clear n1 n2 HZN HZ0
        go_wp2_with fail
        go_loopw [60] (fun i W => ∃ k : Nat, k ≤ T.length ∧ i = .int .i64 k ∧ VB W Z.heap.size (vF f (l.take k)) ∧ Below Z.heap.size Z W) (fun i _ => T.length - (intOf i).toNat)
        case atStart => exact ⟨0, by omega, rfl, N1.out, N2.out⟩
        case round =>
          clear N1 N2
          obtain ⟨k, hk, rfl, hv, hz⟩ := hrel
          by_cases hlt : k < T.length
          · obtain ⟨r, cc, a1, a2, a3⟩ := ASK.out k (by omega)
            have t1 := HT2.out k (by omega)
            have hlk : l[k]? = some (r, cc) := t1.1.trans a1
            have a1' := a1
            rw [← t1.2] at a2
            obtain ⟨gd, rfl, hg, q1, q2⟩ := HXX.out k (r, cc) (by first | exact hlk | exact a1)
            have hsucc : vF f (l.take (k + 1)) = addV (vF f (l.take k)) r cc := by
              rw [List.take_add_one, hlk]; exact vF_snoc _ _ _
            have cz1 := (hz.cell (p := ⟨gd, k * 2, none⟩) hg).trans q1
            have cz2 := (hz.cell (p := ⟨gd, k * 2 + 1, none⟩) hg).trans q2
            have C12 := Lib.hid (range2 cz1 cz2)
            have HSU := Lib.hid hsucc
            have NX := Lib.hid (next_is _ _ _ a2)
            have KN := Lib.hid (knows_is _ _ _ a3)
            have HV := Lib.hid hv
            have HZ := Lib.hid hz
            have HLK := Lib.hid hlk
            have HGL := Lib.hid hg
            clear t1 a1 a2 a3 hlk hg q1 q2 hsucc cz1 cz2 hv hz
            generalize vF f (l.take k) = V at *
            go_upto_region 18 with (refine wpList_load_mid rfl 28 (.tmp 63) rfl gd (k * 2) rfl [.int .i64 r, .int .i64 cc] _ C12.out Try.underlying28 rfl (by kernel_rfl) ?_)
            have m1 : VB (wr.alloc (.cells #[.int .i64 r, .int .i64 cc] 28)) Z.heap.size V := HV.out.alloc_ _
            have md : Blk (wr.alloc (.cells #[.int .i64 r, .int .i64 cc] 28)) wr.heap.size 28 #[.int .i64 r, .int .i64 cc] := Blk.new _ _ _
            have mz : Below Z.heap.size Z (wr.alloc (.cells #[.int .i64 r, .int .i64 cc] 28)) := HZ.out.alloc HZ.out.size _
            have m2 : VB (wr.alloc (.cells #[.int .i64 r, .int .i64 cc] 28)) (w.heap.size + 1) g := Blk.below J2.out mz (Blk.lt J2.out)
            generalize wr.alloc (.cells #[.int .i64 r, .int .i64 cc] 28) = U at *
            generalize wr.heap.size = bd at *
            have M1 := Lib.hid m1
            have MD := Lib.hid md
            have MZ := Lib.hid mz
            have M2 := Lib.hid m2
            clear m1 md mz m2 C12 HV HZ
            by_cases hk0 : k = 0
            · subst hk0
              refine wp_region_any (by kernel_rfl) ?_
              refine wpAny_below (fun i v _ => v = ([.agg (vA V), dv r cc, .bool true, .bool false, .bool false, .agg (vA g), dv r cc, .bool true, .bool false, .bool false, .bool false, .int .i64 0, .bool false, .bool false, undef, undef, undef, undef, undef, undef, undef, undef, undef, .bool false, .bool false] : List Value).getD i undef) _ U (by kernel_rfl) (by kernel_rfl) (by kernel_rfl) (fun i v w w' _ h => h) ?_ ?_
              · refine ⟨?_, ?_, ?_, ?_, ?_, ?_, ?_, ?_, ?_, ?_, ?_, ?_, ?_, ?_, ?_, ?_, ?_, ?_, ?_, ?_, ?_, ?_, ?_, ?_, ?_, trivial⟩
                · intro a W hI hun haft hi
                  have e8 : a.eval (.tmp 8) = .pointer (some ⟨Z.heap.size, 0, none⟩) := hun 8 (by kernel_rfl)
                  exact b_same hi hI rfl _ (run_load_op rfl e8 (Blk.below M1.out hI (Blk.lt M1.out)) Try.underlying23 rfl (sizeV _)) rfl
                · intro a W hI hun haft hi
                  have e10 : a.eval (.tmp 10) = .pointer (some ⟨bd, 0, none⟩) := hun 10 (by kernel_rfl)
                  exact b_same hi hI rfl _ (run_load_op rfl e10 (Blk.below MD.out hI (Blk.lt MD.out)) Try.underlying28 rfl (by kernel_rfl)) rfl
                · intro a W hI hun haft hi
                  have f0 : a.eval (.tmp 65) = .agg (vA V) := haft ⟨0, .data⟩ (by simp) rfl _ _ rfl rfl
                  have f1 : a.eval (.tmp 66) = dv r cc := haft ⟨1, .data⟩ (by simp) rfl _ _ rfl rfl
                  refine b_call hi hI rfl _ _ (run_call_op (args := #[.agg (vA V), dv r cc]) rfl (by simp [f0, f1]) (by kernel_rfl)) ?_
                  exact (NX.out W).mono fun e w' H => ⟨_, H.1, rfl, H.2⟩
                · intro a W hI hun haft hi
                  have f2 : a.eval (.tmp 67) = .bool true := haft ⟨2, .data⟩ (by simp) rfl _ _ rfl rfl
                  exact b_same hi hI rfl _ (run_not_op rfl f2) rfl
                · intro a W hI hun haft hi
                  have f3 : a.eval (.tmp 68) = .bool false := haft ⟨3, .data⟩ (by simp) rfl _ _ rfl rfl
                  exact b_same hi hI rfl _ (run_move_op rfl f3) rfl
                · intro a W hI hun haft hi
                  have fg : a.eval (.tmp 69) = .bool false := haft ⟨4, .guard⟩ (by simp) rfl _ _ rfl rfl
                  have e3 : a.eval (.tmp 3) = .pointer (some ⟨w.heap.size + 1, 0, none⟩) := hun 3 (by kernel_rfl)
                  exact b_same hi hI (guard_ok rfl rfl rfl fg) _ (run_load_op rfl e3 (Blk.below M2.out hI (Blk.lt M2.out)) Try.underlying23 rfl (sizeV _)) rfl
                · intro a W hI hun haft hi
                  have fg : a.eval (.tmp 69) = .bool false := haft ⟨4, .guard⟩ (by simp) rfl _ _ rfl rfl
                  have e10 : a.eval (.tmp 10) = .pointer (some ⟨bd, 0, none⟩) := hun 10 (by kernel_rfl)
                  exact b_same hi hI (guard_ok rfl rfl rfl fg) _ (run_load_op rfl e10 (Blk.below MD.out hI (Blk.lt MD.out)) Try.underlying28 rfl (by kernel_rfl)) rfl
                · intro a W hI hun haft hi
                  have fg : a.eval (.tmp 69) = .bool false := haft ⟨4, .guard⟩ (by simp) rfl _ _ rfl rfl
                  have f5 : a.eval (.tmp 70) = .agg (vA g) := haft ⟨5, .data⟩ (by simp) rfl _ _ rfl rfl
                  have f6 : a.eval (.tmp 71) = dv r cc := haft ⟨6, .data⟩ (by simp) rfl _ _ rfl rfl
                  refine b_call hi hI (guard_ok rfl rfl rfl fg) _ _ (run_call_op (args := #[.agg (vA g), dv r cc]) rfl (by simp [f5, f6]) (by kernel_rfl)) ?_
                  exact (KN.out W).mono fun e w' H => ⟨_, H.1, rfl, H.2⟩
                · intro a W hI hun haft hi
                  have fg : a.eval (.tmp 69) = .bool false := haft ⟨4, .guard⟩ (by simp) rfl _ _ rfl rfl
                  have f7 : a.eval (.tmp 72) = .bool true := haft ⟨7, .data⟩ (by simp) rfl _ _ rfl rfl
                  exact b_same hi hI (guard_ok rfl rfl rfl fg) _ (run_not_op rfl f7) rfl
                · intro a W hI hun haft hi
                  have f4 : a.eval (.tmp 69) = .bool false := haft ⟨4, .data⟩ (by simp) rfl _ _ rfl rfl
                  have f8 : a.eval (.tmp 73) = .bool false := haft ⟨8, .data⟩ (by simp) rfl _ _ rfl rfl
                  exact b_same hi hI rfl _ (run_pick_op (b := false) rfl f4 rfl f8) rfl
                · intro a W hI hun haft hi
                  have f9 : a.eval (.tmp 74) = .bool false := haft ⟨9, .data⟩ (by simp) rfl _ _ rfl rfl
                  exact b_same hi hI rfl _ (run_move_op rfl f9) rfl
                · intro a W hI hun haft hi
                  have fg : a.eval (.tmp 75) = .bool false := haft ⟨10, .guard⟩ (by simp) rfl _ _ rfl rfl
                  have e9 : a.eval (.tmp 9) = .int .i64 0 := hun 9 (by kernel_rfl)
                  exact b_same hi hI (guard_ok rfl rfl rfl fg) _ (run_move_op rfl e9) rfl
                · intro a W hI hun haft hi
                  have fg : a.eval (.tmp 75) = .bool false := haft ⟨10, .guard⟩ (by simp) rfl _ _ rfl rfl
                  have f11 : a.eval (.tmp 76) = .int .i64 0 := haft ⟨11, .data⟩ (by simp) rfl _ _ rfl rfl
                  exact b_same hi hI (guard_ok rfl rfl rfl fg) (.bool false) (run_bin_op rfl f11 rfl (by kernel_rfl) (by kernel_rfl)) rfl
                · intro a W hI hun haft hi
                  have fg : a.eval (.tmp 75) = .bool false := haft ⟨10, .guard⟩ (by simp) rfl _ _ rfl rfl
                  have f12 : a.eval (.tmp 77) = .bool false := haft ⟨12, .data⟩ (by simp) rfl _ _ rfl rfl
                  exact b_same hi hI (guard_ok rfl rfl rfl fg) _ (run_move_op rfl f12) rfl
                · intro a W hI hun haft hi
                  have fg : a.eval (.tmp 78) = .bool false := haft ⟨13, .guard⟩ (by simp) rfl _ _ rfl rfl
                  exact b_skip hi hI (guard_no rfl rfl rfl (.inl fg)) rfl
                · intro a W hI hun haft hi
                  have fg : a.eval (.tmp 78) = .bool false := haft ⟨13, .guard⟩ (by simp) rfl _ _ rfl rfl
                  exact b_skip hi hI (guard_no rfl rfl rfl (.inl fg)) rfl
                · intro a W hI hun haft hi
                  have fg : a.eval (.tmp 78) = .bool false := haft ⟨13, .guard⟩ (by simp) rfl _ _ rfl rfl
                  exact b_skip hi hI (guard_no rfl rfl rfl (.inl fg)) rfl
                · intro a W hI hun haft hi
                  have fg : a.eval (.tmp 78) = .bool false := haft ⟨13, .guard⟩ (by simp) rfl _ _ rfl rfl
                  exact b_skip hi hI (guard_no rfl rfl rfl (.inl fg)) rfl
                · intro a W hI hun haft hi
                  have fg : a.eval (.tmp 78) = .bool false := haft ⟨13, .guard⟩ (by simp) rfl _ _ rfl rfl
                  exact b_skip hi hI (guard_no rfl rfl rfl (.inl fg)) rfl
                · intro a W hI hun haft hi
                  have fg : a.eval (.tmp 78) = .bool false := haft ⟨13, .guard⟩ (by simp) rfl _ _ rfl rfl
                  exact b_skip hi hI (guard_no rfl rfl rfl (.inl fg)) rfl
                · intro a W hI hun haft hi
                  have fg : a.eval (.tmp 78) = .bool false := haft ⟨13, .guard⟩ (by simp) rfl _ _ rfl rfl
                  exact b_skip hi hI (guard_no rfl rfl rfl (.inl fg)) rfl
                · intro a W hI hun haft hi
                  have fg : a.eval (.tmp 78) = .bool false := haft ⟨13, .guard⟩ (by simp) rfl _ _ rfl rfl
                  exact b_skip hi hI (guard_no rfl rfl rfl (.inl fg)) rfl
                · intro a W hI hun haft hi
                  have fg : a.eval (.tmp 78) = .bool false := haft ⟨13, .guard⟩ (by simp) rfl _ _ rfl rfl
                  exact b_skip hi hI (guard_no rfl rfl rfl (.inl fg)) rfl
                · intro a W hI hun haft hi
                  have fg : a.eval (.tmp 75) = .bool false := haft ⟨10, .guard⟩ (by simp) rfl _ _ rfl rfl
                  have f13 : a.eval (.tmp 78) = .bool false := haft ⟨13, .data⟩ (by simp) rfl _ _ rfl rfl
                  have f22 : a.eval (.tmp 87) = undef := haft ⟨22, .data⟩ (by simp) rfl _ _ rfl rfl
                  exact b_same hi hI (guard_ok rfl rfl rfl fg) _ (run_pick_op (b := false) rfl f13 f22 rfl) rfl
                · intro a W hI hun haft hi
                  have f10 : a.eval (.tmp 75) = .bool false := haft ⟨10, .data⟩ (by simp) rfl _ _ rfl rfl
                  have f23 : a.eval (.tmp 88) = .bool false := haft ⟨23, .data⟩ (by simp) rfl _ _ rfl rfl
                  exact b_same hi hI rfl _ (run_pick_op (b := false) rfl f10 rfl f23) rfl
              · intro vals W hI hp
                have hl24 : vals 24 = .bool false := hp 24 (by decide)
                have HI := Lib.hid hI
                clear hp hI
                simp only [layN, List.size_toArray, List.length_cons, List.length_nil, List.range, List.range.loop, if_true, List.getElem?_toArray, List.getElem?_cons_zero, List.getElem?_cons_succ, Act.put, List.setIfInBounds_toArray, List.set_cons_zero, List.set_cons_succ, Nat.zero_add, Nat.reduceAdd, hl24]
                clear hl24
                have i1 := Blk.below M1.out HI.out (Blk.lt M1.out)
                have iz := MZ.out.trans (HI.out.mono MZ.out.size)
                have id := Blk.below MD.out HI.out (Blk.lt MD.out)
                have I1 := Lib.hid i1
                have IZ := Lib.hid iz
                have ID := Lib.hid id
                clear i1 iz id
                go_wp2_with (first | (refine wpList_load_if rfl 23 (.tmp 8) rfl Z.heap.size rfl _ _ _ _ I1.out Try.underlying23 rfl (sizeV _) ?_) | (refine wpList_load_if rfl 28 (.tmp 10) rfl bd rfl _ _ _ _ ID.out Try.underlying28 rfl (by kernel_rfl) ?_))
                refine (add_any _ _ _ _).mono ?_
                rintro e W3 ⟨rfl, hb3⟩
                rw [← HSU.out]
                have b1 := Blk.below I1.out hb3 (Blk.lt I1.out)
                have bz := IZ.out.trans (hb3.mono IZ.out.size)
                have B1 := Lib.hid b1
                have R1 := Lib.hid (setRow_VB W3 Z.heap.size _ (vF f (l.take (0 + 1))) b1)
                have R2 := Lib.hid (bz.trans (setRow_below W3 Z.heap.size Z.heap.size (vA (vF f (l.take (0 + 1)))) (Nat.le_refl _)))
                clear b1 bz hb3
                go_wp2_with (refine wpList_store_row rfl 23 (.tmp 8) (.tmp 92) rfl Z.heap.size (vA (vF f (l.take (0 + 1)))) rfl rfl _ _ B1.out (sizeV _) (by rw [vA_size, vA_size]) (vA_one _) ?_)
                go_roundw
                case rel => exact ⟨0 + 1, by omega, by go_num, R1.out, R2.out⟩
                case measure => simp [intOf] <;> omega
            · obtain ⟨k', hk'⟩ : ∃ k', k = k' + 1 := ⟨k - 1, by omega⟩
              obtain ⟨r', c', a1, _, _⟩ := ASK.out k' (by omega)
              have t1 := HT2.out k' (by omega)
              have t2 := HT2.out k (by omega)
              obtain ⟨g', e1, hg', q1, _⟩ := HXX.out k' (r', c') (by first | exact t1.1.trans a1 | exact a1)
              have egg : gd = g' := by simpa using e1
              subst egg
              have hle : r' ≤ r := PREV.out k' _ _ a1 (by rw [← hk', ← t2.1]; exact HLK.out)
              have PC := Lib.hid ((MZ.out.cell (p := ⟨gd, k' * 2, none⟩) hg').trans q1)
              have HKK := Lib.hid hk'
              have hgt0 : decide ((0 : Int) < (k : Nat)) = true := decide_eq_true (by omega)
              have hgt1 : decide (((r : Nat) : Int) < (r' : Nat)) = false := decide_eq_false (by omega)
              have HG0 := Lib.hid hgt0
              have HG1 := Lib.hid hgt1
              have hks : k ≤ 16777216 := by omega
              have hk1 : k' < T.length := by omega
              clear t1 t2 a1 e1 hg' q1 hgt0 hgt1 hle hk'
              refine wp_region_any (by kernel_rfl) ?_
              refine wpAny_below (fun i v _ => v = ([.agg (vA V), dv r cc, .bool true, .bool false, .bool false, .agg (vA g), dv r cc, .bool true, .bool false, .bool false, .bool false, .int .i64 ((k : Nat) : Int), .bool true, .bool true, .slice (some ⟨gd, 0, none⟩) T.length c, .int .i64 ((k : Nat) : Int), .int .i64 ((k' : Nat) : Int), .pointer (some ⟨gd, k' * 2, none⟩), .pointer (some ⟨gd, k' * 2, none⟩), .int .i64 ((r' : Nat) : Int), .pointer (some ⟨bd, 0, none⟩), .int .i64 ((r : Nat) : Int), .bool false, .bool false, .bool false] : List Value).getD i undef) _ U (by kernel_rfl) (by kernel_rfl) (by kernel_rfl) (fun i v w w' _ h => h) ?_ ?_
              · refine ⟨?_, ?_, ?_, ?_, ?_, ?_, ?_, ?_, ?_, ?_, ?_, ?_, ?_, ?_, ?_, ?_, ?_, ?_, ?_, ?_, ?_, ?_, ?_, ?_, ?_, trivial⟩
                · intro a W hI hun haft hi
                  have e8 : a.eval (.tmp 8) = .pointer (some ⟨Z.heap.size, 0, none⟩) := hun 8 (by kernel_rfl)
                  exact b_same hi hI rfl _ (run_load_op rfl e8 (Blk.below M1.out hI (Blk.lt M1.out)) Try.underlying23 rfl (sizeV _)) rfl
                · intro a W hI hun haft hi
                  have e10 : a.eval (.tmp 10) = .pointer (some ⟨bd, 0, none⟩) := hun 10 (by kernel_rfl)
                  exact b_same hi hI rfl _ (run_load_op rfl e10 (Blk.below MD.out hI (Blk.lt MD.out)) Try.underlying28 rfl (by kernel_rfl)) rfl
                · intro a W hI hun haft hi
                  have f0 : a.eval (.tmp 65) = .agg (vA V) := haft ⟨0, .data⟩ (by simp) rfl _ _ rfl rfl
                  have f1 : a.eval (.tmp 66) = dv r cc := haft ⟨1, .data⟩ (by simp) rfl _ _ rfl rfl
                  refine b_call hi hI rfl _ _ (run_call_op (args := #[.agg (vA V), dv r cc]) rfl (by simp [f0, f1]) (by kernel_rfl)) ?_
                  exact (NX.out W).mono fun e w' H => ⟨_, H.1, rfl, H.2⟩
                · intro a W hI hun haft hi
                  have f2 : a.eval (.tmp 67) = .bool true := haft ⟨2, .data⟩ (by simp) rfl _ _ rfl rfl
                  exact b_same hi hI rfl _ (run_not_op rfl f2) rfl
                · intro a W hI hun haft hi
                  have f3 : a.eval (.tmp 68) = .bool false := haft ⟨3, .data⟩ (by simp) rfl _ _ rfl rfl
                  exact b_same hi hI rfl _ (run_move_op rfl f3) rfl
                · intro a W hI hun haft hi
                  have fg : a.eval (.tmp 69) = .bool false := haft ⟨4, .guard⟩ (by simp) rfl _ _ rfl rfl
                  have e3 : a.eval (.tmp 3) = .pointer (some ⟨w.heap.size + 1, 0, none⟩) := hun 3 (by kernel_rfl)
                  exact b_same hi hI (guard_ok rfl rfl rfl fg) _ (run_load_op rfl e3 (Blk.below M2.out hI (Blk.lt M2.out)) Try.underlying23 rfl (sizeV _)) rfl
                · intro a W hI hun haft hi
                  have fg : a.eval (.tmp 69) = .bool false := haft ⟨4, .guard⟩ (by simp) rfl _ _ rfl rfl
                  have e10 : a.eval (.tmp 10) = .pointer (some ⟨bd, 0, none⟩) := hun 10 (by kernel_rfl)
                  exact b_same hi hI (guard_ok rfl rfl rfl fg) _ (run_load_op rfl e10 (Blk.below MD.out hI (Blk.lt MD.out)) Try.underlying28 rfl (by kernel_rfl)) rfl
                · intro a W hI hun haft hi
                  have fg : a.eval (.tmp 69) = .bool false := haft ⟨4, .guard⟩ (by simp) rfl _ _ rfl rfl
                  have f5 : a.eval (.tmp 70) = .agg (vA g) := haft ⟨5, .data⟩ (by simp) rfl _ _ rfl rfl
                  have f6 : a.eval (.tmp 71) = dv r cc := haft ⟨6, .data⟩ (by simp) rfl _ _ rfl rfl
                  refine b_call hi hI (guard_ok rfl rfl rfl fg) _ _ (run_call_op (args := #[.agg (vA g), dv r cc]) rfl (by simp [f5, f6]) (by kernel_rfl)) ?_
                  exact (KN.out W).mono fun e w' H => ⟨_, H.1, rfl, H.2⟩
                · intro a W hI hun haft hi
                  have fg : a.eval (.tmp 69) = .bool false := haft ⟨4, .guard⟩ (by simp) rfl _ _ rfl rfl
                  have f7 : a.eval (.tmp 72) = .bool true := haft ⟨7, .data⟩ (by simp) rfl _ _ rfl rfl
                  exact b_same hi hI (guard_ok rfl rfl rfl fg) _ (run_not_op rfl f7) rfl
                · intro a W hI hun haft hi
                  have f4 : a.eval (.tmp 69) = .bool false := haft ⟨4, .data⟩ (by simp) rfl _ _ rfl rfl
                  have f8 : a.eval (.tmp 73) = .bool false := haft ⟨8, .data⟩ (by simp) rfl _ _ rfl rfl
                  exact b_same hi hI rfl _ (run_pick_op (b := false) rfl f4 rfl f8) rfl
                · intro a W hI hun haft hi
                  have f9 : a.eval (.tmp 74) = .bool false := haft ⟨9, .data⟩ (by simp) rfl _ _ rfl rfl
                  exact b_same hi hI rfl _ (run_move_op rfl f9) rfl
                · intro a W hI hun haft hi
                  have fg : a.eval (.tmp 75) = .bool false := haft ⟨10, .guard⟩ (by simp) rfl _ _ rfl rfl
                  have e9 : a.eval (.tmp 9) = .int .i64 ((k : Nat) : Int) := hun 9 (by kernel_rfl)
                  exact b_same hi hI (guard_ok rfl rfl rfl fg) _ (run_move_op rfl e9) rfl
                · intro a W hI hun haft hi
                  have fg : a.eval (.tmp 75) = .bool false := haft ⟨10, .guard⟩ (by simp) rfl _ _ rfl rfl
                  have f11 : a.eval (.tmp 76) = .int .i64 ((k : Nat) : Int) := haft ⟨11, .data⟩ (by simp) rfl _ _ rfl rfl
                  exact b_same hi hI (guard_ok rfl rfl rfl fg) (.bool true) (run_bin_op rfl f11 rfl (guardI _ _ _ _ _ _ _) (run_gt HG0.out _)) rfl
                · intro a W hI hun haft hi
                  have fg : a.eval (.tmp 75) = .bool false := haft ⟨10, .guard⟩ (by simp) rfl _ _ rfl rfl
                  have f12 : a.eval (.tmp 77) = .bool true := haft ⟨12, .data⟩ (by simp) rfl _ _ rfl rfl
                  exact b_same hi hI (guard_ok rfl rfl rfl fg) _ (run_move_op rfl f12) rfl
                · intro a W hI hun haft hi
                  have fg : a.eval (.tmp 78) = .bool true := haft ⟨13, .guard⟩ (by simp) rfl _ _ rfl rfl
                  have e7 : a.eval (.tmp 7) = .slice (some ⟨gd, 0, none⟩) T.length c := hun 7 (by kernel_rfl)
                  exact b_same hi hI (guard_ok rfl rfl rfl fg) _ (run_move_op rfl e7) rfl
                · intro a W hI hun haft hi
                  have fg : a.eval (.tmp 78) = .bool true := haft ⟨13, .guard⟩ (by simp) rfl _ _ rfl rfl
                  have e9 : a.eval (.tmp 9) = .int .i64 ((k : Nat) : Int) := hun 9 (by kernel_rfl)
                  exact b_same hi hI (guard_ok rfl rfl rfl fg) _ (run_move_op rfl e9) rfl
                · intro a W hI hun haft hi
                  have fg : a.eval (.tmp 78) = .bool true := haft ⟨13, .guard⟩ (by simp) rfl _ _ rfl rfl
                  have f15 : a.eval (.tmp 80) = .int .i64 ((k : Nat) : Int) := haft ⟨15, .data⟩ (by simp) rfl _ _ rfl rfl
                  exact b_same hi hI (guard_ok rfl rfl rfl fg) (.int .i64 ((k' : Nat) : Int)) (run_bin_op rfl f15 rfl (guardI _ _ _ _ _ _ _) (run_minus HKK.out hks _)) rfl
                · intro a W hI hun haft hi
                  have fg : a.eval (.tmp 78) = .bool true := haft ⟨13, .guard⟩ (by simp) rfl _ _ rfl rfl
                  have f14 : a.eval (.tmp 79) = .slice (some ⟨gd, 0, none⟩) T.length c := haft ⟨14, .data⟩ (by simp) rfl _ _ rfl rfl
                  have f16 : a.eval (.tmp 81) = .int .i64 ((k' : Nat) : Int) := haft ⟨16, .data⟩ (by simp) rfl _ _ rfl rfl
                  exact b_same hi hI (guard_ok rfl rfl rfl fg) _ (run_indexAddr_op rfl f14 f16 (at_k gd c T.length k' hk1 _)) rfl
                · intro a W hI hun haft hi
                  have fg : a.eval (.tmp 78) = .bool true := haft ⟨13, .guard⟩ (by simp) rfl _ _ rfl rfl
                  have f17 : a.eval (.tmp 82) = .pointer (some ⟨gd, k' * 2, none⟩) := haft ⟨17, .data⟩ (by simp) rfl _ _ rfl rfl
                  exact b_same hi hI (guard_ok rfl rfl rfl fg) _ (run_fieldAddr_op rfl f17 (field0q gd (k' * 2) _)) rfl
                · intro a W hI hun haft hi
                  have fg : a.eval (.tmp 78) = .bool true := haft ⟨13, .guard⟩ (by simp) rfl _ _ rfl rfl
                  have f18 : a.eval (.tmp 83) = .pointer (some ⟨gd, k' * 2, none⟩) := haft ⟨18, .data⟩ (by simp) rfl _ _ rfl rfl
                  exact b_same hi hI (guard_ok rfl rfl rfl fg) _ (run_loadint_op rfl f18 Try.underlying3 ((hI.cell (p := ⟨gd, k' * 2, none⟩) (by show gd < _; have := HGL.out; have := MZ.out.size; omega)).trans PC.out)) rfl
                · intro a W hI hun haft hi
                  have fg : a.eval (.tmp 78) = .bool true := haft ⟨13, .guard⟩ (by simp) rfl _ _ rfl rfl
                  have e10 : a.eval (.tmp 10) = .pointer (some ⟨bd, 0, none⟩) := hun 10 (by kernel_rfl)
                  exact b_same hi hI (guard_ok rfl rfl rfl fg) _ (run_fieldAddr_op rfl e10 (field0 bd _)) rfl
                · intro a W hI hun haft hi
                  have fg : a.eval (.tmp 78) = .bool true := haft ⟨13, .guard⟩ (by simp) rfl _ _ rfl rfl
                  have f20 : a.eval (.tmp 85) = .pointer (some ⟨bd, 0, none⟩) := haft ⟨20, .data⟩ (by simp) rfl _ _ rfl rfl
                  exact b_same hi hI (guard_ok rfl rfl rfl fg) _ (run_loadint_op rfl f20 Try.underlying3 ((Blk.cell (Blk.below MD.out hI (Blk.lt MD.out)) 0).trans rfl)) rfl
                · intro a W hI hun haft hi
                  have fg : a.eval (.tmp 78) = .bool true := haft ⟨13, .guard⟩ (by simp) rfl _ _ rfl rfl
                  have f19 : a.eval (.tmp 84) = .int .i64 ((r' : Nat) : Int) := haft ⟨19, .data⟩ (by simp) rfl _ _ rfl rfl
                  have f21 : a.eval (.tmp 86) = .int .i64 ((r : Nat) : Int) := haft ⟨21, .data⟩ (by simp) rfl _ _ rfl rfl
                  exact b_same hi hI (guard_ok rfl rfl rfl fg) (.bool false) (run_bin_op rfl f19 f21 (guardI _ _ _ _ _ _ _) (run_gt HG1.out _)) rfl
                · intro a W hI hun haft hi
                  have fg : a.eval (.tmp 75) = .bool false := haft ⟨10, .guard⟩ (by simp) rfl _ _ rfl rfl
                  have f13 : a.eval (.tmp 78) = .bool true := haft ⟨13, .data⟩ (by simp) rfl _ _ rfl rfl
                  have f22 : a.eval (.tmp 87) = .bool false := haft ⟨22, .data⟩ (by simp) rfl _ _ rfl rfl
                  exact b_same hi hI (guard_ok rfl rfl rfl fg) _ (run_pick_op (b := true) rfl f13 f22 rfl) rfl
                · intro a W hI hun haft hi
                  have f10 : a.eval (.tmp 75) = .bool false := haft ⟨10, .data⟩ (by simp) rfl _ _ rfl rfl
                  have f23 : a.eval (.tmp 88) = .bool false := haft ⟨23, .data⟩ (by simp) rfl _ _ rfl rfl
                  exact b_same hi hI rfl _ (run_pick_op (b := false) rfl f10 rfl f23) rfl
              · intro vals W hI hp
                have hl24 : vals 24 = .bool false := hp 24 (by decide)
                have HI := Lib.hid hI
                clear hp hI
                simp only [layN, List.size_toArray, List.length_cons, List.length_nil, List.range, List.range.loop, if_true, List.getElem?_toArray, List.getElem?_cons_zero, List.getElem?_cons_succ, Act.put, List.setIfInBounds_toArray, List.set_cons_zero, List.set_cons_succ, Nat.zero_add, Nat.reduceAdd, hl24]
                clear hl24
                have i1 := Blk.below M1.out HI.out (Blk.lt M1.out)
                have iz := MZ.out.trans (HI.out.mono MZ.out.size)
                have id := Blk.below MD.out HI.out (Blk.lt MD.out)
                have I1 := Lib.hid i1
                have IZ := Lib.hid iz
                have ID := Lib.hid id
                clear i1 iz id
                go_wp2_with (first | (refine wpList_load_if rfl 23 (.tmp 8) rfl Z.heap.size rfl _ _ _ _ I1.out Try.underlying23 rfl (sizeV _) ?_) | (refine wpList_load_if rfl 28 (.tmp 10) rfl bd rfl _ _ _ _ ID.out Try.underlying28 rfl (by kernel_rfl) ?_))
                refine (add_any _ _ _ _).mono ?_
                rintro e W3 ⟨rfl, hb3⟩
                rw [← HSU.out]
                have b1 := Blk.below I1.out hb3 (Blk.lt I1.out)
                have bz := IZ.out.trans (hb3.mono IZ.out.size)
                have B1 := Lib.hid b1
                have R1 := Lib.hid (setRow_VB W3 Z.heap.size _ (vF f (l.take (k + 1))) b1)
                have R2 := Lib.hid (bz.trans (setRow_below W3 Z.heap.size Z.heap.size (vA (vF f (l.take (k + 1)))) (Nat.le_refl _)))
                clear b1 bz hb3
                go_wp2_with (refine wpList_store_row rfl 23 (.tmp 8) (.tmp 92) rfl Z.heap.size (vA (vF f (l.take (k + 1)))) rfl rfl _ _ B1.out (sizeV _) (by rw [vA_size, vA_size]) (vA_one _) ?_)
                go_roundw
                case rel => exact ⟨k + 1, by omega, by go_num, R1.out, R2.out⟩
                case measure => simp [intOf] <;> omega
          · have hkk : k = T.length := by omega
            subst hkk
            rw [List.take_of_length_le (by omega), EL.out] at hv
            have HV := Lib.hid hv
            have j1 := Blk.below J1.out hz (Blk.lt J1.out)
            have j2 := Blk.below J2.out hz (Blk.lt J2.out)
            have JJ1 := Lib.hid j1
            have JJ2 := Lib.hid j2
            have HWW := Lib.hid (JB.out.trans (hz.mono JB.out.size))
            clear hv hz j1 j2
            go_upto_region 22 with fail
            refine wp_region_any (by kernel_rfl) ?_
            refine wpAny_below (fun i v _ => v = ([.int .i64 ((T.length : Nat) : Int), .bool false, .bool false, .agg (vA (vF f T)), .agg (vA f), .agg (vA g), .agg (vA (joinV f g)), .bool true, .bool true, .bool true] : List Value).getD i undef) _ wr (by kernel_rfl) (by kernel_rfl) (by kernel_rfl) (fun i v w w' _ h => h) ?_ ?_
            · refine ⟨?_, ?_, ?_, ?_, ?_, ?_, ?_, ?_, ?_, ?_, trivial⟩
              · intro a W hI hun haft hi
                have e5 : a.eval (.tmp 5) = .int .i64 ((T.length : Nat) : Int) := hun 5 (by kernel_rfl)
                exact b_same hi hI rfl _ (run_move_op rfl e5) rfl
              · intro a W hI hun haft hi
                have f0 : a.eval (.tmp 94) = .int .i64 ((T.length : Nat) : Int) := haft ⟨0, .data⟩ (by simp) rfl _ _ rfl rfl
                exact b_same hi hI rfl (.bool false) (run_bin_op rfl f0 rfl (guardI _ _ _ _ _ _ _) (run_gt hq _)) rfl
              · intro a W hI hun haft hi
                have f1 : a.eval (.tmp 95) = .bool false := haft ⟨1, .data⟩ (by simp) rfl _ _ rfl rfl
                exact b_same hi hI rfl _ (run_move_op rfl f1) rfl
              · intro a W hI hun haft hi
                have fg : a.eval (.tmp 96) = .bool false := haft ⟨2, .guard⟩ (by simp) rfl _ _ rfl rfl
                have e8 : a.eval (.tmp 8) = .pointer (some ⟨Z.heap.size, 0, none⟩) := hun 8 (by kernel_rfl)
                exact b_same hi hI (guard_ok rfl rfl rfl fg) _ (run_load_op rfl e8 (Blk.below HV.out hI (Blk.lt HV.out)) Try.underlying23 rfl (sizeV _)) rfl
              · intro a W hI hun haft hi
                have fg : a.eval (.tmp 96) = .bool false := haft ⟨2, .guard⟩ (by simp) rfl _ _ rfl rfl
                have e2 : a.eval (.tmp 2) = .pointer (some ⟨w.heap.size, 0, none⟩) := hun 2 (by kernel_rfl)
                exact b_same hi hI (guard_ok rfl rfl rfl fg) _ (run_load_op rfl e2 (Blk.below JJ1.out hI (Blk.lt JJ1.out)) Try.underlying23 rfl (sizeV _)) rfl
              · intro a W hI hun haft hi
                have fg : a.eval (.tmp 96) = .bool false := haft ⟨2, .guard⟩ (by simp) rfl _ _ rfl rfl
                have e3 : a.eval (.tmp 3) = .pointer (some ⟨w.heap.size + 1, 0, none⟩) := hun 3 (by kernel_rfl)
                exact b_same hi hI (guard_ok rfl rfl rfl fg) _ (run_load_op rfl e3 (Blk.below JJ2.out hI (Blk.lt JJ2.out)) Try.underlying23 rfl (sizeV _)) rfl
              · intro a W hI hun haft hi
                have fg : a.eval (.tmp 96) = .bool false := haft ⟨2, .guard⟩ (by simp) rfl _ _ rfl rfl
                have f4 : a.eval (.tmp 98) = .agg (vA f) := haft ⟨4, .data⟩ (by simp) rfl _ _ rfl rfl
                have f5 : a.eval (.tmp 99) = .agg (vA g) := haft ⟨5, .data⟩ (by simp) rfl _ _ rfl rfl
                refine b_call hi hI (guard_ok rfl rfl rfl fg) _ _ (run_call_op (args := #[.agg (vA f), .agg (vA g)]) rfl (by simp [f4, f5]) (by kernel_rfl)) ?_
                exact (join_any f g W).mono fun e w' H => ⟨_, H.1, rfl, H.2⟩
              · intro a W hI hun haft hi
                have fg : a.eval (.tmp 96) = .bool false := haft ⟨2, .guard⟩ (by simp) rfl _ _ rfl rfl
                have f3 : a.eval (.tmp 97) = .agg (vA (vF f T)) := haft ⟨3, .data⟩ (by simp) rfl _ _ rfl rfl
                have f6 : a.eval (.tmp 100) = .agg (vA (joinV f g)) := haft ⟨6, .data⟩ (by simp) rfl _ _ rfl rfl
                exact b_same hi hI (guard_ok rfl rfl rfl fg) (.bool true) (run_bin_op rfl f3 f6 (guardV _ _ _ _ _) (eq_is ALL.out _)) rfl
              · intro a W hI hun haft hi
                have f2 : a.eval (.tmp 96) = .bool false := haft ⟨2, .data⟩ (by simp) rfl _ _ rfl rfl
                have f7 : a.eval (.tmp 101) = .bool true := haft ⟨7, .data⟩ (by simp) rfl _ _ rfl rfl
                exact b_same hi hI rfl _ (run_pick_op (b := false) rfl f2 rfl f7) rfl
              · intro a W hI hun haft hi
                have f8 : a.eval (.tmp 102) = .bool true := haft ⟨8, .data⟩ (by simp) rfl _ _ rfl rfl
                exact b_same hi hI rfl _ (run_assign_op rfl f8) rfl
            · intro vals W hI hp
              have hl9 : vals 9 = .bool true := hp 9 (by decide)
              have HI := Lib.hid hI
              clear hp hI
              simp only [layN, List.size_toArray, List.length_cons, List.length_nil, List.range, List.range.loop, if_true, List.getElem?_toArray, List.getElem?_cons_zero, List.getElem?_cons_succ, Act.put, List.setIfInBounds_toArray, List.set_cons_zero, List.set_cons_succ, Nat.zero_add, Nat.reduceAdd, hl9]
              clear hl9
              go_wp2
              go_ret
              exact ⟨rfl, HWW.out.trans (HI.out.mono HWW.out.size)⟩

end Go.Proofs.Ytcgbiikphcgoaaa
