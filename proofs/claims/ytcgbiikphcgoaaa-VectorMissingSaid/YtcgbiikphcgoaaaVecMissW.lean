/-
  vector.Missing: the contract, by a walk. Conditions: none.
-/
import Derived.Test.YtcgbiikphcgoaaaVecMiss
namespace Go.Proofs.Ytcgbiikphcgoaaa
open Go.RowKit

set_option maxRecDepth 100000 in
set_option maxHeartbeats 2000000 in
theorem missing_any (f g : Nat → Int) (w : World) : Calls Try.prog 8 #[.agg (vA f), .agg (vA g)] w fun e w' => ∃ v, e = .returned v ∧ w'.ownsRow w.heap.size 28 2 v (missV f g).length (dcells (missV f g)) ∧ Below w.heap.size w w' := by
  obtain ⟨X, hX⟩ : ∃ X, X = (w.alloc (.cells (vA f) 23)).alloc (.cells (vA g) 23) := ⟨_, rfl⟩
  have hv1 : VB X w.heap.size f := by rw [hX]; exact (VB.new_ f rfl).alloc_ _
  have hv2 : VB X (w.heap.size + 1) g := by rw [hX]; exact VB.new_ g (by simp)
  have hb : Below w.heap.size w X := by rw [hX]; exact ((Below.refl _ _).alloc (Nat.le_refl _) _).alloc (by simp) _
  have hsz : X.heap.size = w.heap.size + 2 := by rw [hX]; simp
  have HX := Lib.hid hX
  have H1 := Lib.hid hv1
  have H2 := Lib.hid hv2
  have HB := Lib.hid hb
  have HSZ := Lib.hid hsz
  clear hX hv1 hv2 hb hsz
  go_enter Try.func8, Try.ntmps8
  go_upto_region 1 with fail
  rw [← HX.out]
  go_cut [] (fun W => VB W w.heap.size (clampV f) ∧ VB W (w.heap.size + 1) (clampV g) ∧ Below w.heap.size w W ∧ w.heap.size + 2 ≤ W.heap.size)
  case first =>
    refine wp_region_any (by kernel_rfl) ?_
    refine wpAny_inv (fun L vals W => MInv w f g L vals W ∧ w.heap.size + 2 ≤ W.heap.size) _ _ (by kernel_rfl) (by kernel_rfl) (by kernel_rfl) ?_ ?_ ?_
    · intro L hL
      refine ⟨⟨HB.out.drew, ?_, ?_, ?_, ?_, ?_, ?_⟩, by have := HSZ.out; show _ ≤ X.heap.size; omega⟩
      · rw [hL]; exact H1.out
      · rw [hL]; exact H2.out
      all_goals (intro h; rw [hL] at h; cases h)
    · refine ⟨?_, ?_, ?_, ?_, ?_, ?_, trivial⟩
      · intro L vals a W hF ⟨⟨hb, h1, h2, p0, p1, p2, p3⟩, hs⟩
        have l4 : L 4 = false := by
          cases h4 : L 4 with
          | false => rfl
          | true =>
            have a1 : L 1 = true := hF.closed 4 _ rfl h4 ⟨1, .data⟩ (by simp) rfl
            have a0 : L 0 = true := hF.closed 1 _ rfl a1 ⟨0, .data⟩ (by simp) rfl
            have := hF.open_
            simp_all
        have e2 : a.eval (.tmp 2) = .pointer (some ⟨w.heap.size, 0, none⟩) := hF.old 2 (by kernel_rfl)
        have h1' := h1
        rw [l4] at h1'
        refine i_val hF rfl _ W (run_load_op rfl e2 h1' Try.underlying23 rfl (sizeV _)) ?_
        intro L' hL' hi
        exact ⟨⟨hb, by rw [hL' 4 (by decide)]; exact h1, by rw [hL' 5 (by decide)]; exact h2, fun _ => if_pos rfl, fun h => (if_neg (by decide)).trans (p1 (by rw [← hL' 1 (by decide)]; exact h)), fun h => (if_neg (by decide)).trans (p2 (by rw [← hL' 2 (by decide)]; exact h)), fun h => (if_neg (by decide)).trans (p3 (by rw [← hL' 3 (by decide)]; exact h))⟩, hs⟩
      · intro L vals a W hF ⟨⟨hb, h1, h2, p0, p1, p2, p3⟩, hs⟩
        have e8 : a.eval (.tmp 8) = .agg (vA f) := (hF.slot 0 _ _ rfl rfl (hF.ahead ⟨0, .data⟩ (by simp) rfl)).trans (p0 (hF.ahead ⟨0, .data⟩ (by simp) rfl))
        refine i_call hF rfl _ _ (run_call_op (args := #[.agg (vA f)]) rfl (by simp [e8]) (by kernel_rfl)) ?_
        refine (clamp_any f W).mono fun e w' ⟨he, hbw⟩ => ⟨_, he, fun L' hL' hi => ?_⟩
        exact ⟨⟨hb.trans (hbw.mono hb.size), by rw [hL' 4 (by decide)]; exact h1.keep hbw, by rw [hL' 5 (by decide)]; exact h2.keep hbw, fun h => (if_neg (by decide)).trans (p0 (by rw [← hL' 0 (by decide)]; exact h)), fun _ => if_pos rfl, fun h => (if_neg (by decide)).trans (p2 (by rw [← hL' 2 (by decide)]; exact h)), fun h => (if_neg (by decide)).trans (p3 (by rw [← hL' 3 (by decide)]; exact h))⟩, Nat.le_trans hs hbw.size⟩
      · intro L vals a W hF ⟨⟨hb, h1, h2, p0, p1, p2, p3⟩, hs⟩
        have l5 : L 5 = false := by
          cases h5 : L 5 with
          | false => rfl
          | true =>
            have a3 : L 3 = true := hF.closed 5 _ rfl h5 ⟨3, .data⟩ (by simp) rfl
            have a2 : L 2 = true := hF.closed 3 _ rfl a3 ⟨2, .data⟩ (by simp) rfl
            have := hF.open_
            simp_all
        have e3 : a.eval (.tmp 3) = .pointer (some ⟨w.heap.size + 1, 0, none⟩) := hF.old 3 (by kernel_rfl)
        have h2' := h2
        rw [l5] at h2'
        refine i_val hF rfl _ W (run_load_op rfl e3 h2' Try.underlying23 rfl (sizeV _)) ?_
        intro L' hL' hi
        exact ⟨⟨hb, by rw [hL' 4 (by decide)]; exact h1, by rw [hL' 5 (by decide)]; exact h2, fun h => (if_neg (by decide)).trans (p0 (by rw [← hL' 0 (by decide)]; exact h)), fun h => (if_neg (by decide)).trans (p1 (by rw [← hL' 1 (by decide)]; exact h)), fun _ => if_pos rfl, fun h => (if_neg (by decide)).trans (p3 (by rw [← hL' 3 (by decide)]; exact h))⟩, hs⟩
      · intro L vals a W hF ⟨⟨hb, h1, h2, p0, p1, p2, p3⟩, hs⟩
        have e10 : a.eval (.tmp 10) = .agg (vA g) := (hF.slot 2 _ _ rfl rfl (hF.ahead ⟨2, .data⟩ (by simp) rfl)).trans (p2 (hF.ahead ⟨2, .data⟩ (by simp) rfl))
        refine i_call hF rfl _ _ (run_call_op (args := #[.agg (vA g)]) rfl (by simp [e10]) (by kernel_rfl)) ?_
        refine (clamp_any g W).mono fun e w' ⟨he, hbw⟩ => ⟨_, he, fun L' hL' hi => ?_⟩
        exact ⟨⟨hb.trans (hbw.mono hb.size), by rw [hL' 4 (by decide)]; exact h1.keep hbw, by rw [hL' 5 (by decide)]; exact h2.keep hbw, fun h => (if_neg (by decide)).trans (p0 (by rw [← hL' 0 (by decide)]; exact h)), fun h => (if_neg (by decide)).trans (p1 (by rw [← hL' 1 (by decide)]; exact h)), fun h => (if_neg (by decide)).trans (p2 (by rw [← hL' 2 (by decide)]; exact h)), fun _ => if_pos rfl⟩, Nat.le_trans hs hbw.size⟩
      · intro L vals a W hF ⟨⟨hb, h1, h2, p0, p1, p2, p3⟩, hs⟩
        have e2 : a.eval (.tmp 2) = .pointer (some ⟨w.heap.size, 0, none⟩) := hF.old 2 (by kernel_rfl)
        have e9 : a.eval (.tmp 9) = .agg (vA (clampV f)) := (hF.slot 1 _ _ rfl rfl (hF.ahead ⟨1, .data⟩ (by simp) rfl)).trans (p1 (hF.ahead ⟨1, .data⟩ (by simp) rfl))
        refine i_skip hF rfl rfl _ (run_storerow_op rfl e2 e9 h1 (sizeV _) (by rw [vA_size, vA_size]) (vA_one _)) ?_
        intro L' hL' hi
        exact ⟨⟨hb.trans (setRow_below W w.heap.size w.heap.size _ (by omega)), by rw [hi]; exact setRow_VB W w.heap.size _ (clampV f) h1, by rw [hL' 5 (by decide)]; exact (setRow_other W w.heap.size (w.heap.size + 1) _ (by omega)).trans h2, fun h => (if_neg (by decide)).trans (p0 (by rw [← hL' 0 (by decide)]; exact h)), fun h => (if_neg (by decide)).trans (p1 (by rw [← hL' 1 (by decide)]; exact h)), fun h => (if_neg (by decide)).trans (p2 (by rw [← hL' 2 (by decide)]; exact h)), fun h => (if_neg (by decide)).trans (p3 (by rw [← hL' 3 (by decide)]; exact h))⟩, by simpa [World.setRow] using hs⟩
      · intro L vals a W hF ⟨⟨hb, h1, h2, p0, p1, p2, p3⟩, hs⟩
        have e3 : a.eval (.tmp 3) = .pointer (some ⟨w.heap.size + 1, 0, none⟩) := hF.old 3 (by kernel_rfl)
        have e11 : a.eval (.tmp 11) = .agg (vA (clampV g)) := (hF.slot 3 _ _ rfl rfl (hF.ahead ⟨3, .data⟩ (by simp) rfl)).trans (p3 (hF.ahead ⟨3, .data⟩ (by simp) rfl))
        refine i_skip hF rfl rfl _ (run_storerow_op rfl e3 e11 h2 (sizeV _) (by rw [vA_size, vA_size]) (vA_one _)) ?_
        intro L' hL' hi
        exact ⟨⟨hb.trans (setRow_below W (w.heap.size + 1) w.heap.size _ (by omega)), by rw [hL' 4 (by decide)]; exact (setRow_other W (w.heap.size + 1) w.heap.size _ (by omega)).trans h1, by rw [hi]; exact setRow_VB W (w.heap.size + 1) _ (clampV g) h2, fun h => (if_neg (by decide)).trans (p0 (by rw [← hL' 0 (by decide)]; exact h)), fun h => (if_neg (by decide)).trans (p1 (by rw [← hL' 1 (by decide)]; exact h)), fun h => (if_neg (by decide)).trans (p2 (by rw [← hL' 2 (by decide)]; exact h)), fun h => (if_neg (by decide)).trans (p3 (by rw [← hL' 3 (by decide)]; exact h))⟩, by simpa [World.setRow] using hs⟩
    · intro L vals W hall ⟨⟨hb, h1, h2, _⟩, hs⟩
      rw [hall 4 (by decide)] at h1
      rw [hall 5 (by decide)] at h2
      have K1 := Lib.hid h1
      have K2 := Lib.hid h2
      have KB := Lib.hid hb
      have KS := Lib.hid hs
      simp only [layN, List.size_toArray, List.length_cons, List.length_nil, List.range, List.range.loop, if_true, List.getElem?_toArray, List.getElem?_cons_zero, List.getElem?_cons_succ, Act.put, List.setIfInBounds_toArray, List.set_cons_zero, List.set_cons_succ, Nat.zero_add, Nat.reduceAdd]
      clear h1 h2 hb hs
      go_wp2_with fail
      go_meet
      exact ⟨K1.out, K2.out, KB.out, KS.out⟩
  case rest =>
    obtain ⟨k1, k2, kb, ks⟩ := hcut
    obtain ⟨iD, hiD, hzD, hsD, hbD⟩ := info_parts infoD
    have HF := Lib.hid (clampV_in f)
    have HG := Lib.hid (clampV_in g)
    have HM : Hid (missV f g = (dotsTo (clampV f) (clampV g) 16).take 4096) := Lib.hid rfl
    generalize clampV f = F at *
    generalize clampV g = G at *
    have HD := Lib.hid hiD
    have HDz := Lib.hid hzD
    have HDs := Lib.hid hsD
    have HDb := Lib.hid hbD
    clear hiD hzD hsD hbD HSZ HB H1 H2 HX
    go_wp2
    go_loopw [5, 6, 7, 12] (fun l _ _ i wr => ∃ k : Nat, k ≤ 16 ∧ i = .int .i64 k ∧ wr.ownsRow (w.heap.size + 2) 28 2 l (dotsTo F G k).length (dcells (dotsTo F G k)) ∧ (dotsTo F G k).length ≤ 4096 ∧ VB wr w.heap.size F ∧ VB wr (w.heap.size + 1) G ∧ Below w.heap.size w wr ∧ w.heap.size + 2 ≤ wr.heap.size) (fun _ _ _ i _ => 16 - (intOf i).toNat)
    case atStart => exact ⟨0, by omega, rfl, World.ownsRow_nil _ _ _ _, by simp [dotsTo], k1, k2, kb, ks⟩
    case round =>
      clear k1 k2 kb ks
      obtain ⟨k, hk, rfl, ho, hl, k1, k2, kb, ks⟩ := hrel
      obtain ⟨wo, rfl⟩ : ∃ wo : World, wo = wr := ⟨_, rfl⟩
      by_cases hlt : k < 16
      · have cF := k1.cell_ k hlt
        have hF := HF.out k
        have hG := HG.out k
        have hS := dotsTo_succ F G k
        have HS := Lib.hid hS
        have HO := Lib.hid ho
        have HL := Lib.hid hl
        have K1 := Lib.hid k1
        have K2 := Lib.hid k2
        have KB := Lib.hid kb
        have KS := Lib.hid ks
        clear hS ho hl k1 k2 kb ks
        generalize hA : F k = A at *
        generalize hB : G k = B at *
        have HAA := Lib.hid hA
        have HBB := Lib.hid hB
        clear hA hB
        have hd16 : decide ((k : Int) < 16) = true := decide_eq_true (by omega)
        go_wp2
        go_loopw [5, 7] (fun l c wi => ∃ j : Nat, j ≤ (B - A).toNat ∧ c = .int .i64 (A + 1 + j) ∧ wi.ownsRow (w.heap.size + 2) 28 2 l (dotsTo F G k ++ rowD k A j).length (dcells (dotsTo F G k ++ rowD k A j)) ∧ (dotsTo F G k ++ rowD k A j).length ≤ 4096 ∧ VB wi w.heap.size F ∧ VB wi (w.heap.size + 1) G ∧ Below w.heap.size w wi ∧ w.heap.size + 2 ≤ wi.heap.size) (fun _ c _ => (B + 1 - intOf c).toNat)
        case atStart =>
          have e : dotsTo F G k ++ rowD k A 0 = dotsTo F G k := by simp [rowD]
          exact ⟨0, by omega, by simp, by rw [e]; exact HO.out, by rw [e]; exact HL.out, K1.out, K2.out, KB.out, KS.out⟩
        case round =>
          clear HO HL K1 K2 KB KS
          obtain ⟨j, hj, rfl, ho, hl, k1, k2, kb, ks⟩ := hrel
          have cG := k2.cell_ k hlt
          rw [HBB.out] at cG
          by_cases hc : A + 1 + j ≤ B
          · have hT : dotsTo F G k ++ rowD k A (j + 1) = (dotsTo F G k ++ rowD k A j) ++ [(k, A + 1 + j)] := by rw [rowD_succ, List.append_assoc]
            have hcut := cut_miss F G k j hlt (by rw [HAA.out, HBB.out]; exact hj)
            rw [HAA.out] at hcut
            have HT := Lib.hid hT
            have HC := Lib.hid hcut
            clear hT hcut
            generalize dotsTo F G k ++ rowD k A j = T at *
            obtain ⟨Al, cl, rfl⟩ := own_form ho
            by_cases hfull : T.length = 4096
            · have HO := Lib.hid (own_base ho (Nat.le_add_right _ 2))
              have hTT := HC.out hfull
              have hq : ((T.length : Int) == 4096) = true := by rw [beq_iff_eq]; omega
              have HTT := Lib.hid hTT
              have KB := Lib.hid kb
              have HFU := Lib.hid hfull
              clear hTT ho k1 k2 kb ks hl hfull HT HC
              go_wp2
              go_ret
              refine ⟨_, rfl, ?_, KB.out⟩
              rw [HM.out, HTT.out]
              exact HO.out
            · have hq : ((T.length : Int) == 4096) = false := by rw [beq_eq_false_iff_ne]; omega
              have hcl := dcells_append T [(k, A + 1 + j)]
              have hnew := Blk.new wr 28 #[.int .i64 k, .int .i64 (A + 1 + j)]
              obtain ⟨v', w2, hr, ho2, hg2, _⟩ := run_append_own (P := Try.prog) (wr.alloc (.cells #[.int .i64 k, .int .i64 (A + 1 + j)] 28)) (w.heap.size + 2) 25 25 28 iD _ 2 16 Try.underlying25 HD.out HDz.out HDs.out HDb.out rfl (by decide) _ _ _ (ho.alloc _) ⟨wr.heap.size, 0, none⟩ 1 1 [.int .i64 k, .int .i64 (A + 1 + j)] rfl
                (fun q u hu => by
                  rw [Addr.add_lit, Blk.cell hnew]
                  simpa using hu) (fun u hu => by simp at hu; rcases hu with rfl | rfl <;> rfl) (by unfold maxLen; omega) (by omega) (by simp; omega)
              have hrow : ∀ q, (Value.slice Al T.length cl).ownBlock = some q → w.heap.size + 2 ≤ q := own_lt ho
              have k1' := (k1.alloc_ (.cells #[.int .i64 k, .int .i64 (A + 1 + j)] 28)).grown hg2 (fun q hq => by have := hrow q hq; omega)
              have k2' := (k2.alloc_ (.cells #[.int .i64 k, .int .i64 (A + 1 + j)] 28)).grown hg2 (fun q hq => by have := hrow q hq; omega)
              have kb' := (kb.alloc kb.size (.cells #[.int .i64 k, .int .i64 (A + 1 + j)] 28)).grown hg2 (by have := kb.size; simp; omega) (fun q hq => by have := hrow q hq; omega)
              have ks' : w.heap.size + 2 ≤ w2.heap.size := by have := hg2.size; simp at this; omega
              rw [show dcells T ++ [.int .i64 k, .int .i64 (A + 1 + j)] = dcells (T ++ [(k, A + 1 + j)]) from hcl.symm, ← HT.out] at ho2
              have hl2 : (dotsTo F G k ++ rowD k A (j + 1)).length = T.length + 1 := by rw [HT.out, List.length_append]; rfl
              rw [← hl2] at ho2
              have hl3 : (dotsTo F G k ++ rowD k A (j + 1)).length ≤ 4096 := by omega
              have HR := Lib.hid hr
              have HO2 := Lib.hid ho2
              have HL3 := Lib.hid hl3
              have K1 := Lib.hid k1'
              have K2 := Lib.hid k2'
              have KB := Lib.hid kb'
              have KS := Lib.hid ks'
              have hw := IntWalk.i64_in (A + 1 + j + 1) (by omega)
              clear hr ho2 hl3 hl2 k1' k2' kb' ks' hg2 hrow hcl hnew k1 k2 kb ks ho hl HT HC
              go_wp2_with (at_builtin; refine Lib.wpList_append_run _ rfl _ _ _ _ rfl _ _ rfl rfl _ _ HR.out ?_)
              go_roundw
              case rel => exact ⟨j + 1, by omega, by go_num, HO2.out, HL3.out, K1.out, K2.out, KB.out, KS.out⟩
              case measure => simp [intOf]; omega
          · have hjj : j = (B - A).toNat := by omega
            have hS := HS.out
            rw [← hjj] at hS
            rw [← hS] at ho hl
            have HO := Lib.hid ho
            have HL := Lib.hid hl
            have K1 := Lib.hid k1
            have K2 := Lib.hid k2
            have KB := Lib.hid kb
            have KS := Lib.hid ks
            clear ho hl k1 k2 kb ks hS HS hjj
            go_wp2
            go_roundw
            case rel => exact ⟨k + 1, by omega, by go_num, HO.out, HL.out, K1.out, K2.out, KB.out, KS.out⟩
            case measure => simp [intOf]; omega
      · have hkk : k = 16 := by omega
        subst hkk
        have ht : (dotsTo F G 16).take 4096 = dotsTo F G 16 := List.take_of_length_le hl
        have HT := Lib.hid ht
        have HO := Lib.hid (own_base ho (Nat.le_add_right _ 2))
        have KB := Lib.hid kb
        clear ho hl k1 k2 kb ks ht
        go_wp2
        go_ret
        refine ⟨_, rfl, ?_, KB.out⟩
        rw [HM.out, HT.out]
        exact HO.out

end Go.Proofs.Ytcgbiikphcgoaaa
