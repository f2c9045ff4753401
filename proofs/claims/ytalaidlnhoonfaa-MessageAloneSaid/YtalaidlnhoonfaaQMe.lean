/-
  hedgerowref14.payload: the contract, by a walk. message.Bytes, hedgerowref14.Bytes: the contracts, by walks. Conditions: lengths.
-/
import Derived.Test.YtalaidlnhoonfaaMgLaid
import Derived.Test.YtalaidlnhoonfaaMgRefPut
import Derived.Test.YtalaidlnhoonfaaQMc
import Derived.Test.YtalaidlnhoonfaaMgRightW
import Derived.Test.YtalaidlnhoonfaaQCd
namespace Go.Proofs.Ytalaidlnhoonfaa
open Go.RowKit

theorem at_msgn (g k : Nat) (hk : k < 3) (w : World) : (Instr.fieldAt 26 (.pointer (some ⟨g, 0, none⟩)) k).run Try.prog w = .ok (.pointer (some ⟨g, k, none⟩)) w := by
  rcases (show k = 0 ∨ k = 1 ∨ k = 2 by omega) with rfl | rfl | rfl <;> go_simp
theorem payP_three (m : Mg) : (([] ++ putB m.k) ++ putB m.f) ++ putB m.t = payP m 3 := by simp [payP, List.range, List.range.loop, Mg.p]
theorem payP_vec (m : Mg) (k : Nat) : payP m (3 + k) ++ putB (m.v k) = payP m (3 + (k + 1)) := by
  rw [show 3 + (k + 1) = (3 + k) + 1 from rfl, payP_next]
  have : m.p (3 + k) = m.v k := by unfold Mg.p; rw [if_neg (by omega), if_neg (by omega), if_neg (by omega)]; congr 1; omega
  rw [this]

set_option maxRecDepth 100000 in
set_option maxHeartbeats 4000000 in
theorem refpay_any (m : Mg) (l : List Ev) (A : Option Addr) (N c : Nat) (w : World) (hs : SlK encE 27 w (.slice A N c) l) (hN : l.length = N) (hN2 : N ≤ 1000) (hl : ∀ e ∈ l, Lens e) :
    Calls Try.prog 28 #[mV m (.slice A N c)] w (Reads w (payB m l)) := by
  obtain ⟨p, hp⟩ : ∃ p, w.heap.size = p := ⟨_, rfl⟩
  obtain ⟨X, hX⟩ : ∃ X, X = w.alloc (.cells (mC m (.slice A N c)) 26) := ⟨_, rfl⟩
  have hbX : Below w.heap.size w X := by rw [hX]; exact (Below.refl _ _).alloc (Nat.le_refl _) _
  have HM := Lib.hid (show MB X p m (.slice A N c) by rw [hX, ← hp]; exact MB.new_ w m _)
  have HS0 := Lib.hid hs
  have HX := Lib.hid hX
  have HP := Lib.hid hp
  have HB := Lib.hid hbX
  have HN := Lib.hid hN
  have HN2 := Lib.hid hN2
  have HL := Lib.hid hl
  have HPB : Hid (payB m l = payE m N (l.take N)) := Lib.hid (by rw [List.take_of_length_le (Nat.le_of_eq hN), ← hN]; rfl)
  have HZe := Lib.hid (zero_of_info zeroE).1
  have HPl := Lib.hid (fun k (hk : k ≤ 19) => show (payP m k).length ≤ 140737488350000 by have := payP_len m k; omega)
  have L1 := Lib.hid (show ([] ++ putB m.k).length ≤ 140737488350000 by have := putB_len m.k; simp; omega)
  have L2 := Lib.hid (show (([] ++ putB m.k) ++ putB m.f).length ≤ 140737488350000 by have := putB_len m.k; have := putB_len m.f; simp; omega)
  clear hX hbX hp hs hN hN2 hl
  unfold mV
  go_enter Try.func28, Try.ntmps28
  go_upto_region 1 with fail
  rw [← HX.out, HP.out]
  go_cut [3] (fun x wx => Sl bv wx x (payP m 3) ∧ Below X.heap.size X wx)
  case first =>
    refine wp_region_any (by kernel_rfl) ?_
    refine wpAny_below (fun i => pOf6 (([(some (.pointer (some ⟨p, 0, none⟩)), none), (some (.int .i64 m.k), none), (none, some ([] ++ putB m.k)), (some (.pointer (some ⟨p, 1, none⟩)), none), (some (.int .i64 m.f), none), (none, some (([] ++ putB m.k) ++ putB m.f)), (some (.pointer (some ⟨p, 2, none⟩)), none), (some (.int .i64 m.t), none), (none, some ((([] ++ putB m.k) ++ putB m.f) ++ putB m.t)), (none, some ((([] ++ putB m.k) ++ putB m.f) ++ putB m.t))] : List (Option Value × Option (List UInt8))).getD i (none, none))) _ X (by kernel_rfl) (by kernel_rfl) (by kernel_rfl) (fun i v w w' hb h => pOf6_stable _ i v w w' hb h) ?_ ?_
    · refine ⟨?_, ?_, ?_, ?_, ?_, ?_, ?_, ?_, ?_, ?_, trivial⟩
      · intro a W hI hun haft hi
        have e1 : a.eval (.tmp 1) = .pointer (some ⟨p, 0, none⟩) := hun 1 (by kernel_rfl)
        exact b_same hi hI rfl _ (run_fieldAddr_any rfl e1 (at_msgn p 0 (by decide) W)) rfl
      · intro a W hI hun haft hi
        have f0 : a.eval (.tmp 8) = .pointer (some ⟨p, 0, none⟩) := haft ⟨0, .data⟩ (by simp) rfl _ _ rfl rfl
        exact b_same hi hI rfl _ (run_loadint_op rfl f0 Try.underlying3 ((MB.keep HM.out hI).at_ 0 (by decide))) rfl
      · intro a W hI hun haft hi
        have f1 : a.eval (.tmp 9) = .int .i64 m.k := haft ⟨1, .data⟩ (by simp) rfl _ _ rfl rfl
        refine b_call hi hI rfl _ _ (run_call_op (args := #[.slice none 0 0, .int .i64 m.k]) rfl (by simp [f1]; rfl) (by kernel_rfl)) ?_
        exact (refput_any _ [] m.k W (Sl.nil_ bv W) (by simp)).mono fun e' w' ⟨v', he, ho, hb⟩ => ⟨v', he, ho, hb⟩
      · intro a W hI hun haft hi
        have e1 : a.eval (.tmp 1) = .pointer (some ⟨p, 0, none⟩) := hun 1 (by kernel_rfl)
        exact b_same hi hI rfl _ (run_fieldAddr_any rfl e1 (at_msgn p 1 (by decide) W)) rfl
      · intro a W hI hun haft hi
        have f3 : a.eval (.tmp 11) = .pointer (some ⟨p, 1, none⟩) := haft ⟨3, .data⟩ (by simp) rfl _ _ rfl rfl
        exact b_same hi hI rfl _ (run_loadint_op rfl f3 Try.underlying3 ((MB.keep HM.out hI).at_ 1 (by decide))) rfl
      · intro a W hI hun haft hi
        have f2 : Sl bv W (a.eval (.tmp 10)) ([] ++ putB m.k) := haft ⟨2, .data⟩ (by simp) rfl _ _ rfl rfl
        have f4 : a.eval (.tmp 12) = .int .i64 m.f := haft ⟨4, .data⟩ (by simp) rfl _ _ rfl rfl
        refine b_call hi hI rfl _ _ (run_call_op (args := #[a.eval (.tmp 10), .int .i64 m.f]) rfl (by simp [f4]) (by kernel_rfl)) ?_
        exact (refput_any _ _ m.f W f2 L1.out).mono fun e' w' ⟨v', he, ho, hb⟩ => ⟨v', he, ho, hb⟩
      · intro a W hI hun haft hi
        have e1 : a.eval (.tmp 1) = .pointer (some ⟨p, 0, none⟩) := hun 1 (by kernel_rfl)
        exact b_same hi hI rfl _ (run_fieldAddr_any rfl e1 (at_msgn p 2 (by decide) W)) rfl
      · intro a W hI hun haft hi
        have f6 : a.eval (.tmp 14) = .pointer (some ⟨p, 2, none⟩) := haft ⟨6, .data⟩ (by simp) rfl _ _ rfl rfl
        exact b_same hi hI rfl _ (run_loadint_op rfl f6 Try.underlying3 ((MB.keep HM.out hI).at_ 2 (by decide))) rfl
      · intro a W hI hun haft hi
        have f5 : Sl bv W (a.eval (.tmp 13)) (([] ++ putB m.k) ++ putB m.f) := haft ⟨5, .data⟩ (by simp) rfl _ _ rfl rfl
        have f7 : a.eval (.tmp 15) = .int .i64 m.t := haft ⟨7, .data⟩ (by simp) rfl _ _ rfl rfl
        refine b_call hi hI rfl _ _ (run_call_op (args := #[a.eval (.tmp 13), .int .i64 m.t]) rfl (by simp [f7]) (by kernel_rfl)) ?_
        exact (refput_any _ _ m.t W f5 L2.out).mono fun e' w' ⟨v', he, ho, hb⟩ => ⟨v', he, ho, hb⟩
      · intro a W hI hun haft hi
        have f8 : Sl bv W (a.eval (.tmp 16)) ((([] ++ putB m.k) ++ putB m.f) ++ putB m.t) := haft ⟨8, .data⟩ (by simp) rfl _ _ rfl rfl
        exact b_same hi hI rfl _ (run_assign_op rfl rfl) f8
    · intro vals W hI hq
      have hl : Sl bv W (vals 9) ((([] ++ putB m.k) ++ putB m.f) ++ putB m.t) := hq 9 (by decide)
      rw [payP_three] at hl
      have HLl := Lib.hid hl
      have HI := Lib.hid hI
      clear hq hl hI
      simp only [layN, List.size_toArray, List.length_cons, List.length_nil, List.range, List.range.loop, if_true, List.getElem?_toArray, List.getElem?_cons_zero, List.getElem?_cons_succ, Act.put, List.setIfInBounds_toArray, List.set_cons_zero, List.set_cons_succ, Nat.zero_add, Nat.reduceAdd]
      go_wp2_with fail
      go_meet
      exact ⟨HLl.out, HI.out⟩
  case rest =>
    obtain ⟨hs1, hb1⟩ := hcut
    have HM1 := Lib.hid (MB.keep HM.out hb1)
    have HB1 := Lib.hid (HB.out.trans (hb1.mono HB.out.size))
    have S1 := Lib.hid hs1
    clear hs1 hb1
    go_wp2_with (refine wpList_load_midif rfl 23 (.tmp 17) rfl p 3 rfl _ _ HM1.out.vec Try.underlying23 rfl (by kernel_rfl) ?_)
    go_loopw [3, 5, 19] (fun l5 _ i W => ∃ k : Nat, k ≤ 16 ∧ i = .int .i64 k ∧ Sl bv W l5 (payP m (3 + k)) ∧ MB W p m (.slice A N c) ∧ Below w.heap.size w W) (fun _ _ i _ => 16 - (intOf i).toNat)
    case atStart => exact ⟨0, by omega, rfl, S1.out, HM1.out, HB1.out⟩
    case round =>
      clear S1 HM1 HB1
      obtain ⟨k, hk, hi, hs2, k2, y2⟩ := hrel
      obtain ⟨A2, c2, rfl⟩ := hs2.form
      have S2 := Lib.hid hs2
      have K2 := Lib.hid k2
      have Y2 := Lib.hid y2
      clear hs2 k2 y2
      by_cases hlt : k < 16
      · subst hi
        have hix := index_V m.v k hlt wr
        have HV := Lib.hid (payP_vec m k)
        go_wp2_with fail
        clear hix
        refine (refput_any _ (payP m (3 + k)) (m.v k) _ S2.out (HPl.out (3 + k) (by omega))).mono ?_
        rintro e' w3 ⟨v3, rfl, ho3, hb3⟩
        rw [HV.out] at ho3
        have O3 := Lib.hid ho3
        have K3 := Lib.hid (MB.keep K2.out hb3)
        have Y3 := Lib.hid (Y2.out.trans (hb3.mono Y2.out.size))
        clear ho3 hb3
        go_wp2
        go_roundw
        case rel => exact ⟨k + 1, by omega, by go_num, O3.out, K3.out, Y3.out⟩
        case measure => simp [intOf]; omega
      · have hkk : k = 16 := by omega
        subst hkk
        have hi' : _ = Value.int .i64 16 := hi
        subst hi'
        clear hi
        have hc1 : wr.cell? ⟨p, 19, none⟩ = some (.slice A N c) := K2.out.ev
        go_wp2_with fail
        refine (refput_any _ (payP m (3 + 16)) N _ S2.out (HPl.out 19 (by omega))).mono ?_
        rintro e w2 ⟨v', rfl, ho2, hb2⟩
        have hpe : payP m (3 + 16) ++ putB (N : Int) = payE m N (l.take 0) := by unfold payE; simp
        rw [hpe] at ho2
        have HO2 := Lib.hid ho2
        have HM2 := Lib.hid (MB.keep K2.out hb2)
        have HB2 := Lib.hid (Y2.out.trans (hb2.mono Y2.out.size))
        have hc1 : w2.cell? ⟨p, 19, none⟩ = some (.slice A N c) := HM2.out.ev
        clear ho2 hb2 hpe
        go_wp2_with fail
        clear hc1
        go_loopw [3, 34] (fun v3 v34 W => ∃ j : Nat, v34 = .int .i64 j ∧ j ≤ N ∧ Sl bv W v3 (payE m N (l.take j)) ∧ Below w.heap.size w W) (fun _ v34 _ => N - (intOf v34).toNat)
        case atStart => exact ⟨0, rfl, Nat.zero_le _, HO2.out, HB2.out⟩
        case round =>
          obtain ⟨j, rfl, hj, ho, hb⟩ := hrel
          obtain ⟨wi, rfl⟩ : ∃ wi, wi = wr := ⟨_, rfl⟩
          obtain ⟨A3, c3, rfl⟩ := ho.form
          have HO := Lib.hid ho
          have HBi := Lib.hid hb
          by_cases hlt : j < N
          · obtain ⟨e, he⟩ : ∃ e, l[j]? = some e := ⟨l[j]'(by rw [HN.out]; exact hlt), List.getElem?_eq_getElem _⟩
            obtain ⟨gs, o, rfl, hgl, hce⟩ := (HS0.out.below hb).ev he
            have HCe := Lib.hid hce
            have HAt := Lib.hid (at_Ev gs o c N j hlt wi)
            have HNx := Lib.hid (payE_next (m := m) (n := N) he)
            have HLe := Lib.hid (HL.out e (List.mem_of_getElem? he))
            have HAl := Lib.hid fun c => World.setRow_alloc_new wi (evC ev0) c 48
            have HZz := Lib.hid (show Blk (wi.alloc (.cells (evC ev0) 48)) wi.heap.size 48 (evC ev0) from Blk.new _ _ _)
            obtain ⟨Y, hY⟩ : ∃ Y, Y = wi.alloc (.cells (evC e) 48) := ⟨_, rfl⟩
            have hbY : Below wi.heap.size wi Y := by rw [hY]; exact (Below.refl _ _).alloc (Nat.le_refl _) _
            have HBY := Lib.hid (show EB Y wi.heap.size e by rw [hY]; exact Blk.new _ _ _)
            have HYe := Lib.hid hY
            have HOY := Lib.hid (ho.below hbY)
            have HbY := Lib.hid (show Below w.heap.size w Y from hb.trans (hbY.mono hb.size))
            have HLn := Lib.hid (show (payE m N (l.take j)).length ≤ 140000000000000 by
              have h1 := payE_len m N (l.take j) fun f hf => HL.out f (List.mem_of_mem_take hf)
              have h2 := List.length_take_le j l
              have h3 := HN2.out
              have h4 : (l.take j).length * 21474836700 ≤ 1000 * 21474836700 := Nat.mul_le_mul_right _ (by omega)
              omega)
            have HW1 := Lib.hid (IntWalk.i64_in ((j : Int) + 1) (by have := HN2.out; omega))
            have HJ1 := Lib.hid (show ¬ 9223372036854775807 < j + 1 by have := HN2.out; omega)
            clear he hgl hce hY hbY ho hb
            have hz := HZe.out
            go_upto_region 11 with (first
              | (refine wpList_val (o := ⟨some 36, _, _, _, _, _⟩) rfl (.pointer (some ⟨gs, o + j * 27, none⟩)) wi (run_indexAddr_op rfl rfl rfl HAt.out) ?_)
              | (refine' wpList_load_midif ?q1 48 (.tmp 36) ?q2 gs (o + j * 27) ?q3 (encE e) _ ?q4 Try.underlying48 ?q5 ?q6 ?_; (case q2 => rfl); (case q1 => rfl); (case q3 => rfl); (case q4 => exact HCe.out); (case q5 => rfl); (case q6 => exact (sizeE e)))
              | (refine wpList_store_row (o := ⟨none, _, _, _, _, _⟩) rfl 48 (.tmp 7) (.tmp 37) rfl wi.heap.size (evC e) rfl rfl _ _ HZz.out (sizeE e) rfl (by kernel_rfl) ?_; rw [HAl.out, ← HYe.out])
              | fail)
            clear hz HZz HAl HYe HAt HCe
            obtain ⟨b7, hb7⟩ : ∃ b7, wi.heap.size = b7 := ⟨_, rfl⟩
            rw [hb7] at HBY ⊢
            clear hb7
            try simp only [Act.put]
            go_wp2_with (first
              | (refine wpList_load_if rfl 48 (.tmp 7) rfl b7 rfl _ _ _ _ HBY.out Try.underlying48 rfl (sizeE e) ?_)
              | fail)
            refine (refputP_any (payE m N (l.take j)) A3 _ c3 e Y HOY.out HLn.out HLe.out).mono ?_
            rintro e' w9 ⟨v40, rfl, ho40, hb9⟩
            rw [gE_eq, ← HNx.out] at ho40
            have HO40 := Lib.hid ho40
            have HB9 := Lib.hid (show Below w.heap.size w w9 from HbY.out.trans (hb9.mono HbY.out.size))
            have hw := HW1.out
            have hjm := HJ1.out
            clear ho40 hb9
            go_wp2
            go_roundw
            case rel => exact ⟨j + 1, by go_num, by omega, HO40.out, HB9.out⟩
            case measure => simp [intOf] <;> omega
          · have hjN : N = j := by omega
            subst hjN
            have HPo := Lib.hid (show Sl bv wi (.slice A3 (payE m N (l.take N)).length c3) (payB m l) by rw [HPB.out]; exact ho)
            clear ho hb hj hlt HO
            go_wp2
            go_ret
            exact ⟨_, rfl, HPo.out, HBi.out⟩

end Go.Proofs.Ytalaidlnhoonfaa

namespace Go.Proofs.Ytalaidlnhoonfaa
open Go.RowKit

def bytesM (m : Mg) (l : List Ev) : List UInt8 := Fr.frameB (payB m l)
theorem mright_is (m : Mg) (l : List Ev) (A : Option Addr) (N c : Nat) (b : Bool) (hb : rightM m l = b) (w : World) (hs : SlK encE 27 w (.slice A N c) l) (hN : l.length = N) (hN2 : N ≤ 10000) (hl : ∀ e ∈ l, Lens e) (hw : CutOk w) :
    Calls Try.prog 11 #[mV m (.slice A N c)] w (Gives w (.int .i64 (codeI b))) := by subst hb; exact mright_any m l A N c w hs hN hN2 hl hw

set_option maxRecDepth 100000 in
set_option maxHeartbeats 2000000 in
theorem mbytes_any (m : Mg) (l : List Ev) (A : Option Addr) (N c : Nat) (w : World) (hs : SlK encE 27 w (.slice A N c) l) (hN : l.length = N) (hN2 : N ≤ 1000) (hl : ∀ e ∈ l, Lens e) (hw : CutOk w) (hpl : (payB m l).length < 16777216) :
    Calls Try.prog 9 #[mV m (.slice A N c)] w fun e w' => ∃ v, e = .returned (.tuple #[v, .int .i64 (codeI (rightM m l))]) ∧ w'.ownsRow w.heap.size 5 1 v (if rightM m l then bytesM m l else []).length (bs (if rightM m l then bytesM m l else [])) ∧ Below w.heap.size w w' := by
  obtain ⟨p, hp⟩ : ∃ p, w.heap.size = p := ⟨_, rfl⟩
  obtain ⟨X, hX⟩ : ∃ X, X = w.alloc (.cells (mC m (.slice A N c)) 26) := ⟨_, rfl⟩
  have hbX : Below w.heap.size w X := by rw [hX]; exact (Below.refl _ _).alloc (Nat.le_refl _) _
  have HM := Lib.hid (show MB X p m (.slice A N c) by rw [hX, ← hp]; exact MB.new_ w m _)
  have HX := Lib.hid hX
  have HP := Lib.hid hp
  have HB := Lib.hid hbX
  have HQ := Lib.hid (fun b hb => mright_is m l A N c b hb X (hs.below hbX) hN (by omega) hl (hw.below hbX))
  have HLd := Lib.hid (fun W hW => mlaid_any m l A N c W ((hs.below hbX).below hW) hN hN2 hl)
  have HPl := Lib.hid hpl
  clear hX hbX hp hs hN hN2 hl hw hpl
  unfold mV at *
  cases hr : rightM m l
  · have HQ' := Lib.hid (HQ.out false hr)
    clear hr HQ
    go_enter Try.func9, Try.ntmps9
    go_upto_region 1 with fail
    rw [← HX.out, HP.out]
    go_wp2_with (first
      | (refine wpList_load_if rfl 26 (.tmp 1) rfl p rfl _ _ _ _ HM.out Try.underlying26 rfl (sizeM m _) ?_)
      | fail)
    refine HQ'.out.mono ?_
    rintro e w1 ⟨rfl, hb⟩
    have HB1 := Lib.hid (HB.out.trans (hb.mono HB.out.size))
    clear hb
    go_wp2
    go_ret2
    exact ⟨_, rfl, World.ownsRow_nil _ _ _ _, HB1.out⟩
  · have HQ' := Lib.hid (HQ.out true hr)
    clear hr HQ
    go_enter Try.func9, Try.ntmps9
    go_upto_region 1 with fail
    rw [← HX.out, HP.out]
    go_wp2_with (first
      | (refine wpList_load_if rfl 26 (.tmp 1) rfl p rfl _ _ _ _ HM.out Try.underlying26 rfl (sizeM m _) ?_)
      | fail)
    refine HQ'.out.mono ?_
    rintro e w1 ⟨rfl, hb⟩
    have HM1 := Lib.hid (MB.keep HM.out hb)
    have HLd1 := Lib.hid (HLd.out w1 hb)
    have HB1 := Lib.hid (HB.out.trans (hb.mono HB.out.size))
    clear hb
    go_wp2_with (first
      | (refine wpList_load_if rfl 26 (.tmp 1) rfl p rfl _ _ _ _ HM1.out Try.underlying26 rfl (sizeM m _) ?_)
      | fail)
    refine HLd1.out.mono ?_
    rintro e w2 ⟨v, rfl, ho, hb⟩
    have HO := Lib.hid (show Sl bv w2 v (payB m l) from Sl.of_own ho)
    have HB2 := Lib.hid (HB1.out.trans (hb.mono HB1.out.size))
    clear ho hb
    go_wp2_with fail
    refine (Fr.fput_any _ _ [] (payB m l) w2 (Sl.nil_ bv w2) HO.out HPl.out (by simp)).mono ?_
    rintro e w3 ⟨u, rfl, ho, hb⟩
    have HO3 := Lib.hid (show w3.ownsRow w.heap.size 5 1 u (bytesM m l).length (bs (bytesM m l)) from own_baseP ho HB2.out.size)
    have HB3 := Lib.hid (HB2.out.trans (hb.mono HB2.out.size))
    clear ho hb
    go_wp2
    go_ret2
    exact ⟨_, rfl, HO3.out, HB3.out⟩

set_option maxRecDepth 100000 in
set_option maxHeartbeats 2000000 in
theorem refbytes_any (m : Mg) (l : List Ev) (A : Option Addr) (N c : Nat) (w : World) (hs : SlK encE 27 w (.slice A N c) l) (hN : l.length = N) (hN2 : N ≤ 1000) (hl : ∀ e ∈ l, Lens e) (hpl : (payB m l).length < 16777216) :
    Calls Try.prog 13 #[mV m (.slice A N c)] w (Makes w (bytesM m l)) := by
  obtain ⟨p, hp⟩ : ∃ p, w.heap.size = p := ⟨_, rfl⟩
  obtain ⟨X, hX⟩ : ∃ X, X = w.alloc (.cells (mC m (.slice A N c)) 26) := ⟨_, rfl⟩
  have hbX : Below w.heap.size w X := by rw [hX]; exact (Below.refl _ _).alloc (Nat.le_refl _) _
  have HM := Lib.hid (show MB X p m (.slice A N c) by rw [hX, ← hp]; exact MB.new_ w m _)
  have HX := Lib.hid hX
  have HP := Lib.hid hp
  have HB := Lib.hid hbX
  have HLd := Lib.hid (refpay_any m l A N c X (hs.below hbX) hN hN2 hl)
  have HPl := Lib.hid hpl
  clear hX hbX hp hs hN hN2 hl hpl
  unfold mV at *
  go_enter Try.func13, Try.ntmps13
  go_upto_region 1 with fail
  rw [← HX.out, HP.out]
  go_wp2_with (first
    | (refine wpList_load_if rfl 26 (.tmp 1) rfl p rfl _ _ _ _ HM.out Try.underlying26 rfl (sizeM m _) ?_)
    | fail)
  refine HLd.out.mono ?_
  rintro e w2 ⟨v, rfl, ho, hb⟩
  have HO := Lib.hid ho
  have HB2 := Lib.hid (HB.out.trans (hb.mono HB.out.size))
  clear ho hb
  go_wp2_with fail
  refine (Fr.rput_any _ _ [] (payB m l) w2 (Sl.nil_ bv w2) HO.out HPl.out (by simp)).mono ?_
  rintro e w3 ⟨u, rfl, ho, hb⟩
  have HO3 := Lib.hid (show w3.ownsRow w.heap.size 5 1 u (bytesM m l).length (bs (bytesM m l)) from own_baseP ho HB2.out.size)
  have HB3 := Lib.hid (HB2.out.trans (hb.mono HB2.out.size))
  clear ho hb
  go_wp2
  go_ret
  exact ⟨_, rfl, HO3.out, HB3.out⟩

end Go.Proofs.Ytalaidlnhoonfaa
