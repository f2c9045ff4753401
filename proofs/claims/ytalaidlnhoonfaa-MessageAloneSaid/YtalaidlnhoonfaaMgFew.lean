/-
  hedgerowlaw14.few: the contract, by a walk. Conditions: lengths.
-/
import Derived.Test.YtalaidlnhoonfaaMgBack
namespace Go.Proofs.Ytalaidlnhoonfaa
open Go.RowKit

theorem fewM_no {l : List Ev} {j : Nat} {e : Ev} (hj : l[j]? = some e) (h : shortB e = false) : fewM l = false := by
  unfold fewM
  rw [Bool.and_eq_false_iff]
  exact .inl (List.all_eq_false.2 ⟨e, List.mem_of_getElem? hj, by simp [h]⟩)
theorem fewM_yes {l : List Ev} (h : ∀ (k : Nat) (e : Ev), l[k]? = some e → shortB e = true) : fewM l = decide (l.length ≤ 30) := by
  unfold fewM
  rw [List.all_eq_true.2 (fun e he => by
    obtain ⟨k, hk⟩ := List.getElem?_of_mem he
    exact h k e hk), Bool.true_and]
theorem short_is14 (e : Ev) (hl : Fit e) (b : Bool) (h : shortB e = b) (w : World) : Calls Try.prog 17 #[evV e] w (Gives w (.bool b)) := by
  have := short_any e w hl; rwa [h] at this

set_option maxRecDepth 100000 in
set_option maxHeartbeats 2000000 in
theorem few14_any (m : Mg) (l : List Ev) (A : Option Addr) (N c : Nat) (w : World) (hs : SlK encE 27 w (.slice A N c) l) (hN : l.length = N) (hN2 : N ≤ 4611686018427387903) (hf : ∀ e ∈ l, Fit e) :
    Calls Try.prog 8 #[mV m (.slice A N c)] w (Gives w (.bool (fewM l))) := by
  obtain ⟨b, hb⟩ : ∃ b, fewM l = b := ⟨_, rfl⟩
  rw [hb]
  obtain ⟨p, hp⟩ : ∃ p, w.heap.size = p := ⟨_, rfl⟩
  obtain ⟨X, hX⟩ : ∃ X, X = w.alloc (.cells (mC m (.slice A N c)) 26) := ⟨_, rfl⟩
  have hbX : Below w.heap.size w X := by rw [hX]; exact (Below.refl _ _).alloc (Nat.le_refl _) _
  have hmb : MB X p m (.slice A N c) := by rw [hX, ← hp]; exact MB.new_ w m _
  have c19 := hmb.ev
  have HM := Lib.hid hmb
  have HS := Lib.hid (hs.below hbX)
  have HX := Lib.hid hX
  have HP := Lib.hid hp
  have HB0 := Lib.hid hbX
  have HB := Lib.hid hb
  have HN := Lib.hid hN
  have HN2 := Lib.hid hN2
  have HF := Lib.hid hf
  have HZe := Lib.hid (zero_of_info zeroE).1
  clear hb hs hN hN2 hf hX hbX hmb hp
  unfold mV
  go_enter Try.func8, Try.ntmps8
  go_upto_region 1 with fail
  rw [← HX.out, HP.out]
  go_wp2_with fail
  clear c19
  go_loopw [8] (fun v8 wr => ∃ j : Nat, v8 = .int .i64 j ∧ j ≤ N ∧ (∀ k e, k < j → l[k]? = some e → shortB e = true) ∧ Below X.heap.size X wr) (fun v8 _ => N - (intOf v8).toNat)
  case atStart => exact ⟨0, rfl, Nat.zero_le _, fun k e hk => absurd hk (Nat.not_lt_zero _), Below.refl _ _⟩
  case round =>
    obtain ⟨j, rfl, hj, hok, hbw⟩ := hrel
    have HOk := Lib.hid hok
    have HBx := Lib.hid hbw
    have HBw := Lib.hid (HB0.out.trans (hbw.mono HB0.out.size))
    clear hok hbw
    by_cases hlt : j < N
    · obtain ⟨e, he⟩ : ∃ e, l[j]? = some e := ⟨l[j]'(by rw [HN.out]; exact hlt), List.getElem?_eq_getElem _⟩
      obtain ⟨g, o, rfl, hgl, hce⟩ := (HS.out.below HBx.out).ev he
      have HCe := Lib.hid hce
      have HFe := Lib.hid (HF.out e (List.mem_of_getElem? he))
      have HAt := Lib.hid (at_Ev g o c N j hlt wr)
      have He := Lib.hid he
      have hAl := fun c => World.setRow_alloc_new wr (evC ev0) c 48
      have hZ : Blk (wr.alloc (.cells (evC ev0) 48)) wr.heap.size 48 (evC ev0) := Blk.new _ _ _
      obtain ⟨Y, hY⟩ : ∃ Y, Y = wr.alloc (.cells (evC e) 48) := ⟨_, rfl⟩
      have hbY : Below wr.heap.size wr Y := by rw [hY]; exact (Below.refl _ _).alloc (Nat.le_refl _) _
      have hBY : Blk Y wr.heap.size 48 (evC e) := by rw [hY]; exact Blk.new _ _ _
      have HYe := Lib.hid hY
      have HBY := Lib.hid hBY
      have HbY := Lib.hid (HBw.out.trans (hbY.mono HBw.out.size))
      have HbX := Lib.hid (HBx.out.trans (hbY.mono HBx.out.size))
      have HAl := Lib.hid hAl
      have HZz := Lib.hid hZ
      clear hY hbY hBY hce hgl he hAl hZ
      cases hsh : shortB e
      · have HSh := Lib.hid (short_is14 e HFe.out false hsh)
        have hbf : b = false := by rw [← HB.out]; exact fewM_no He.out hsh
        subst hbf
        clear hsh
        have hz := HZe.out
        go_wp2_with (first
          | (refine wpList_val (o := ⟨some 10, _, _, _, _, _⟩) rfl (.pointer (some ⟨g, o + j * 27, none⟩)) wr (run_indexAddr_op rfl rfl rfl HAt.out) ?_)
          | (refine wpList_load_midif rfl 48 (.tmp 10) rfl g (o + j * 27) rfl (encE e) _ HCe.out Try.underlying48 rfl (sizeE e) ?_)
          | (refine wpList_store_row rfl 48 (.tmp 4) (.tmp 11) rfl wr.heap.size (evC e) rfl rfl _ _ HZz.out (sizeE e) rfl (by kernel_rfl) ?_; rw [HAl.out, ← HYe.out])
          | (refine wpList_load_if rfl 48 (.tmp 4) rfl wr.heap.size rfl _ _ _ _ HBY.out Try.underlying48 rfl (sizeE e) ?_)
          | fail)
        clear hz
        refine (HSh.out Y).mono ?_
        rintro e1 w2 ⟨rfl, hb2⟩
        have HE := Lib.hid (HbY.out.trans (hb2.mono HbY.out.size))
        clear hb2
        go_wp2
        go_ret
        exact ⟨rfl, HE.out⟩
      · have HSh := Lib.hid (short_is14 e HFe.out true hsh)
        have HSt := Lib.hid hsh
        clear hsh
        have hz := HZe.out
        go_wp2_with (first
          | (refine wpList_val (o := ⟨some 10, _, _, _, _, _⟩) rfl (.pointer (some ⟨g, o + j * 27, none⟩)) wr (run_indexAddr_op rfl rfl rfl HAt.out) ?_)
          | (refine wpList_load_midif rfl 48 (.tmp 10) rfl g (o + j * 27) rfl (encE e) _ HCe.out Try.underlying48 rfl (sizeE e) ?_)
          | (refine wpList_store_row rfl 48 (.tmp 4) (.tmp 11) rfl wr.heap.size (evC e) rfl rfl _ _ HZz.out (sizeE e) rfl (by kernel_rfl) ?_; rw [HAl.out, ← HYe.out])
          | (refine wpList_load_if rfl 48 (.tmp 4) rfl wr.heap.size rfl _ _ _ _ HBY.out Try.underlying48 rfl (sizeE e) ?_)
          | fail)
        clear hz
        refine (HSh.out Y).mono ?_
        rintro e1 w2 ⟨rfl, hb2⟩
        have HE := Lib.hid (HbX.out.trans (hb2.mono HbX.out.size))
        clear hb2
        have hw := IntWalk.i64_in ((j : Int) + 1) (by have := HN2.out; omega)
        have hjm : ¬ 9223372036854775807 < j + 1 := by have := HN2.out; omega
        go_wp2
        go_roundw
        case rel => exact ⟨j + 1, by go_num, by omega, fun k f hk hf => by
          rcases Nat.lt_succ_iff_lt_or_eq.1 hk with h | h
          · exact HOk.out k f h hf
          · rw [h, He.out] at hf
            rw [← Option.some.inj hf]; exact HSt.out, HE.out⟩
        case measure => simp [intOf] <;> omega
    · have hjN : j = N := by omega
      subst hjN
      have hbe : decide ((j : Int) ≤ 30) = b := by
        rw [← HB.out, fewM_yes (fun k e hk => HOk.out k e (by rw [← HN.out]; exact (List.getElem?_eq_some_iff.1 hk).1) hk), HN.out]
        exact decide_eq_decide.2 (by omega)
      have HBe := Lib.hid hbe
      have k19 := (HM.out.keep HBx.out).ev
      clear hbe
      go_wp2
      go_ret
      exact ⟨by first | (rw [HBe.out]; rfl) | (rw [← HBe.out]; rfl) | (rw [← HBe.out]; simp) | (simp [HBe.out]), HBw.out⟩

end Go.Proofs.Ytalaidlnhoonfaa
