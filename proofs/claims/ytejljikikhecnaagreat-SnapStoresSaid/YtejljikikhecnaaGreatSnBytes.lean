/-
  snap.Bytes: a snapshot's bytes: the contract, by a walk. Conditions: lengths.
-/
import Derived.Test.YtejljikikhecnaaGreatSnRight
namespace Go.Proofs.YtejljikikhecnaaGreat
open Go.RowKit Go.MapKept Go.Sort

def rowIB (I : List (El × List (Dt × Va))) : List UInt8 := putB I.length ++ (I.map fun q => bytesI q.1 q.2).flatten
def rowEB (E : List Ev) : List UInt8 := putB E.length ++ (E.map bytesE).flatten
/-- A snapshot's bytes. -/
def bytesS (f : Nat → Int) (I : List (El × List (Dt × Va))) (E : List Ev) : List UInt8 := pastB f 16 ++ (rowIB I ++ rowEB E)
theorem sright_is (f : Nat → Int) (I : List (El × List (Dt × Va))) (E : List Ev) (A A' : Option Addr) (N N' c c' : Nat) (b : Bool) (hb : rightS f I E = b) (w : World) (hs : ItsIs w (.slice A N c) I) (hN : I.length = N) (hN2 : N ≤ 10000) (hx : ∀ q ∈ I, ItFits q) (he : SlK encE 27 w (.slice A' N' c') E) (hN' : E.length = N') (hN3 : N' ≤ 10000) (hl : ∀ e ∈ E, Lens e) (hw : CutOk w) :
    Calls Tryz.prog 10 #[sV f (.slice A N c) (.slice A' N' c')] w (Gives w (.int .i64 (codeI b))) := by subst hb; exact sright_any f I E A A' N N' c c' w hs hN hN2 hx he hN' hN3 hl hw
set_option maxRecDepth 100000 in
set_option maxHeartbeats 4000000 in
theorem rowI_makes (I : List (El × List (Dt × Va))) (A : Option Addr) (N c : Nat) (w : World) (hs : ItsIs w (.slice A N c) I) (hN : I.length = N) (hN2 : N ≤ 10000) (hx : ∀ q ∈ I, ItFits q) (hT : (rowIB I).length ≤ 140737488350000) :
    Calls Tryz.prog 23 #[.slice A N c, .func (.func 24) #[] #[]] w (Makes w (rowIB I)) := by
  obtain ⟨L, h1, h2, h3⟩ := hs
  obtain ⟨bl, hbl⟩ : ∃ bl : List (List UInt8), bl = I.map fun q => bytesI q.1 q.2 := ⟨_, rfl⟩
  have e0 : rowIB I = putB N ++ bl.flatten := by unfold rowIB; rw [hbl, hN]
  have e2 : bl.length = N := by rw [hbl, List.length_map, hN]
  rw [e0] at hT ⊢
  refine layRowI_any L bl A N c w h1 (by rw [h2, hN]) e2 (by omega) hT (fun y hy => ?_) (fun i y b hy hb W hW => ?_)
  · obtain ⟨i, hi⟩ := List.getElem?_of_mem hy
    have hil : i < I.length := by rw [← h2]; exact (List.getElem?_eq_some_iff.1 hi).1
    obtain ⟨_, A2, c2, e2, _⟩ := h3 i y I[i] hi (List.getElem?_eq_getElem hil)
    obtain ⟨y1, y2⟩ := y
    dsimp only at e2
    subst e2
    simp [cI, Value.oneCell']
  · have hil : i < I.length := by rw [← h2]; exact (List.getElem?_eq_some_iff.1 hy).1
    obtain ⟨q, hq⟩ : ∃ q, I[i]? = some q := ⟨_, List.getElem?_eq_getElem hil⟩
    obtain ⟨e1, A2, c2, e2, hsl⟩ := h3 i y q hy hq
    have hf := hx q (List.mem_of_getElem? hq)
    rw [hbl, List.getElem?_map, hq, Option.map_some] at hb
    have hb' : bytesI q.1 q.2 = b := Option.some.inj hb
    clear hT h1 h3 hx hb hbl e0
    obtain ⟨y1, y2⟩ := y
    dsimp only at e1 e2
    subst e1 e2 hb'
    exact layItem_any q.1 q.2 A2 q.2.length c2 W (hsl.below hW) rfl hf.2.1 hf.1 hf.2.2
theorem rowE_makes (E : List Ev) (A : Option Addr) (N c : Nat) (w : World) (hs : SlK encE 27 w (.slice A N c) E) (hN : E.length = N) (hN2 : N ≤ 10000) (hl : ∀ e ∈ E, Lens e) (hT : (rowEB E).length ≤ 140737488350000) :
    Calls Tryz.prog 25 #[.slice A N c, .func (.func 26) #[] #[]] w (Makes w (rowEB E)) := by
  obtain ⟨bl, hbl⟩ : ∃ bl : List (List UInt8), bl = E.map bytesE := ⟨_, rfl⟩
  have e0 : rowEB E = putB N ++ bl.flatten := by unfold rowEB; rw [hbl, hN]
  have e2 : bl.length = N := by rw [hbl, List.length_map, hN]
  rw [e0] at hT ⊢
  refine layRowE_any E bl A N c w hs hN e2 (by omega) hT (fun y _ => cE_one y) (fun i y b hy hb W hW => ?_)
  rw [hbl, List.getElem?_map, hy, Option.map_some] at hb
  have hb' : bytesE y = b := Option.some.inj hb
  subst hb'
  exact layEvent_any y W (hl y (List.mem_of_getElem? hy))
/-- Three pieces of bytes in a block. -/
def Three (W : World) (v : Value) (L1 L2 L3 : List UInt8) : Prop := ∃ g v1 v2 v3, v = .slice (some ⟨g, 0, none⟩) 3 3 ∧ Blk W g 30 #[v1, v2, v3] ∧ Sl bv W v1 L1 ∧ Sl bv W v2 L2 ∧ Sl bv W v3 L3
theorem Three.below {W W' : World} {v : Value} {L1 L2 L3 : List UInt8} (h : Three W v L1 L2 L3) (hb : Below W.heap.size W W') : Three W' v L1 L2 L3 := by
  obtain ⟨g, v1, v2, v3, h1, h2, h3, h4, h5⟩ := h
  exact ⟨g, v1, v2, v3, h1, Blk.below h2 hb (Blk.lt h2), h3.below hb, h4.below hb, h5.below hb⟩
theorem bs3 (A B C : Option Addr) (a b c x y z : Nat) (w : World) : (Instr.buildSlice 111 3 #[(0, .slice A a x), (1, .slice B b y), (2, .slice C c z)]).run Tryz.prog w = .ok (.slice (some ⟨w.heap.size, 0, none⟩) 3 3) (w.alloc (.cells #[.slice A a x, .slice B b y, .slice C c z] 30)) := by
  go_simp
theorem concat3 (W : World) (v : Value) (L1 L2 L3 : List UInt8) (h : Three W v L1 L2 L3) (hT : (L1 ++ (L2 ++ L3)).length ≤ 140737488350000) : Calls Tryz.prog 21 #[v] W (Makes W (L1 ++ (L2 ++ L3))) := by
  obtain ⟨g, v1, v2, v3, rfl, h2, h3, h4, h5⟩ := h
  have hfl : flat [(v1, L1), (v2, L2), (v3, L3)] = L1 ++ (L2 ++ L3) := by simp [flat]
  have hc := concat_any g 0 3 [(v1, L1), (v2, L2), (v3, L3)] W (by simp) (by simp) (Blk.lt h2) (fun j u hj => by
    rw [Blk.cell h2]
    match j, hj with
    | 0, hj => simp at hj ⊢; rw [← hj]
    | 1, hj => simp at hj ⊢; rw [← hj]
    | 2, hj => simp at hj ⊢; rw [← hj]
    | _ + 3, hj => simp at hj) (fun q hq => by
    simp only [List.mem_cons, List.not_mem_nil, or_false] at hq
    rcases hq with rfl | rfl | rfl
    · exact h3
    · exact h4
    · exact h5) (by rw [hfl]; omega)
  rw [hfl] at hc
  exact hc
def pBy (w : World) (p : Nat) (f : Nat → Int) (A A' : Option Addr) (N N' c c' : Nat) (I : List (El × List (Dt × Va))) (E : List Ev) (i : Nat) (v : Value) (W : World) : Prop :=
  match i with
  | 0 => v = .pointer (some ⟨p, 0, none⟩)
  | 1 => v = .agg (vA f)
  | 2 => Sl bv W v (pastB f 16)
  | 3 => v = .pointer (some ⟨p, 16, none⟩)
  | 4 => v = .slice A N c
  | 5 => Sl bv W v (rowIB I)
  | 6 => v = .pointer (some ⟨p, 17, none⟩)
  | 7 => v = .slice A' N' c'
  | 8 => Sl bv W v (rowEB E)
  | 9 => Three W v (pastB f 16) (rowIB I) (rowEB E)
  | 10 => W.ownsRow w.heap.size 5 1 v (bytesS f I E).length (bs (bytesS f I E))
  | 11 => W.ownsRow w.heap.size 5 1 v (bytesS f I E).length (bs (bytesS f I E))
  | 12 => v = .int .i64 0
  | _ => True
theorem at_snS0 (g : Nat) (w : World) : (Instr.fieldAt 27 (.pointer (some ⟨g, 0, none⟩)) 0).run Tryz.prog w = .ok (.pointer (some ⟨g, 0, none⟩)) w := by go_simp
theorem at_snS1 (g : Nat) (w : World) : (Instr.fieldAt 27 (.pointer (some ⟨g, 0, none⟩)) 1).run Tryz.prog w = .ok (.pointer (some ⟨g, 16, none⟩)) w := by go_simp
theorem at_snS2 (g : Nat) (w : World) : (Instr.fieldAt 27 (.pointer (some ⟨g, 0, none⟩)) 2).run Tryz.prog w = .ok (.pointer (some ⟨g, 17, none⟩)) w := by go_simp
theorem sizeSn (f : Nat → Int) (si se : Value) : (Tryz.prog.info? 27).map (·.size) = some (sC f si se).size := by kernel_rfl

set_option maxRecDepth 100000 in
set_option maxHeartbeats 4000000 in
theorem sbytes_any (f : Nat → Int) (I : List (El × List (Dt × Va))) (E : List Ev) (A A' : Option Addr) (N N' c c' : Nat) (w : World) (hs : ItsIs w (.slice A N c) I) (hN : I.length = N) (hN2 : N ≤ 10000) (hx : ∀ q ∈ I, ItFits q) (he : SlK encE 27 w (.slice A' N' c') E) (hN' : E.length = N') (hN3 : N' ≤ 10000) (hl : ∀ e ∈ E, Lens e) (hw : CutOk w) (hT : (bytesS f I E).length ≤ 140737488350000) :
    Calls Tryz.prog 8 #[sV f (.slice A N c) (.slice A' N' c')] w fun e w' => ∃ v, e = .returned (.tuple #[v, .int .i64 (codeI (rightS f I E))]) ∧ w'.ownsRow w.heap.size 5 1 v (if rightS f I E then bytesS f I E else []).length (bs (if rightS f I E then bytesS f I E else [])) ∧ Below w.heap.size w w' := by
  obtain ⟨p, hp⟩ : ∃ p, w.heap.size = p := ⟨_, rfl⟩
  obtain ⟨X, hX⟩ : ∃ X, X = w.alloc (.cells (sC f (.slice A N c) (.slice A' N' c')) 27) := ⟨_, rfl⟩
  have hbX : Below w.heap.size w X := by rw [hX]; exact (Below.refl _ _).alloc (Nat.le_refl _) _
  have HM := Lib.hid (show SB X p f (.slice A N c) (.slice A' N' c') by rw [hX, ← hp]; exact SB.new_ w f _ _)
  have HX := Lib.hid hX
  have HB := Lib.hid hbX
  have HP := Lib.hid hp
  have HI := Lib.hid (hs.below hbX)
  have HE := Lib.hid (he.below hbX)
  have HW := Lib.hid (hw.below hbX)
  have HT := Lib.hid hT
  have hlens : (rowIB I).length ≤ 140737488350000 ∧ (rowEB E).length ≤ 140737488350000 := by
    unfold bytesS at hT
    simp only [List.length_append] at hT
    omega
  have HRi := Lib.hid (fun W hs => rowI_makes I A N c W hs hN hN2 hx hlens.1)
  have HRe := Lib.hid (fun W hs => rowE_makes E A' N' c' W hs hN' hN3 hl hlens.2)
  obtain ⟨b, hb⟩ : ∃ b, rightS f I E = b := ⟨_, rfl⟩
  have HRt := Lib.hid (fun W hs he hw => sright_is f I E A A' N N' c c' b hb W hs hN hN2 hx he hN' hN3 hl hw)
  rw [hb]
  clear hX hbX hp hs hN hN2 hx he hN' hN3 hl hw hT hb hlens
  unfold sV at *
  go_enter Tryz.func8, Tryz.ntmps8
  go_upto_region 1 with fail
  rw [← HX.out, HP.out]
  go_wp2_with (refine wpList_load_if rfl 27 (.tmp 1) rfl p rfl _ _ _ _ HM.out Tryz.underlying27 rfl (sizeSn _ _ _) ?_)
  refine (HRt.out X HI.out HE.out HW.out).mono ?_
  rintro e' w1 ⟨rfl, hb⟩
  have HM1 := Lib.hid (SB.keep HM.out hb)
  have HI1 := Lib.hid (HI.out.below hb)
  have HE1 := Lib.hid (HE.out.below hb)
  have HB1 := Lib.hid (HB.out.trans (hb.mono HB.out.size))
  clear hb HM HI HE HW HB
  cases b
  · go_wp2
    go_ret2
    exact ⟨_, rfl, World.ownsRow_nil _ _ _ _, HB1.out⟩
  · go_upto_region 4 with fail
    refine wp_region_any (by kernel_rfl) ?_
    refine Lt.wpAny_late (pBy w p f A A' N N' c c' I E) _ w1 (by kernel_rfl) (by kernel_rfl) (by kernel_rfl) (fun i v w2 w' hb h => by
      match i, h with
      | 0, h => exact h
      | 1, h => exact h
      | 2, h => exact Sl.below h hb
      | 3, h => exact h
      | 4, h => exact h
      | 5, h => exact Sl.below h hb
      | 6, h => exact h
      | 7, h => exact h
      | 8, h => exact Sl.below h hb
      | 9, h => exact Three.below h hb
      | 10, h => exact own_belowS h hb
      | 11, h => exact own_belowS h hb
      | 12, h => exact h
      | _ + 13, _ => trivial) ?_ ?_
    · refine ⟨?_, ?_, ?_, ?_, ?_, ?_, ?_, ?_, ?_, ?_, ?_, ?_, ?_, trivial⟩
      · intro a W hI hun haft hi
        have e1 : a.eval (.tmp 1) = .pointer (some ⟨p, 0, none⟩) := hun 1 (by kernel_rfl)
        exact b_same hi hI rfl _ (run_fieldAddr_any rfl e1 (at_snS0 p W)) rfl
      · intro a W hI hun haft hi
        have f0 : a.eval (.tmp 10) = .pointer (some ⟨p, 0, none⟩) := haft ⟨0, .data⟩ (by simp) rfl _ _ rfl rfl
        exact b_same hi hI rfl _ (run_loadmid_op rfl f0 (rangeAt_same HM1.out.vec (hI.block p HM1.out.lt)) Tryz.underlying23 rfl (by kernel_rfl)) rfl
      · intro a W hI hun haft hi
        have f1 : a.eval (.tmp 11) = .agg (vA f) := haft ⟨1, .data⟩ (by simp) rfl _ _ rfl rfl
        refine b_call hi hI rfl _ _ (run_call_op (args := #[.agg (vA f)]) rfl (by simp [f1]) (by kernel_rfl)) ?_
        exact (layVector_any f W).mono fun e' w' H => by
          obtain ⟨v', he, ho, hb⟩ := H
          exact ⟨v', he, Sl.of_own ho, hb⟩
      · intro a W hI hun haft hi
        have e1 : a.eval (.tmp 1) = .pointer (some ⟨p, 0, none⟩) := hun 1 (by kernel_rfl)
        exact b_same hi hI rfl _ (run_fieldAddr_any rfl e1 (at_snS1 p W)) rfl
      · intro a W hI hun haft hi
        have f3 : a.eval (.tmp 13) = .pointer (some ⟨p, 16, none⟩) := haft ⟨3, .data⟩ (by simp) rfl _ _ rfl rfl
        exact b_same hi hI rfl _ (run_loadsl_op rfl f3 Tryz.underlying24 (HM1.out.keep hI).its) rfl
      · intro a W hI hun haft hi
        have f4 : a.eval (.tmp 14) = .slice A N c := haft ⟨4, .data⟩ (by simp) rfl _ _ rfl rfl
        refine b_call hi hI rfl _ _ (run_call_op (args := #[.slice A N c, .func (.func 24) #[] #[]]) rfl (by simp only [List.map_toArray, List.map_cons, List.map_nil, f4] <;> rfl) (by kernel_rfl)) ?_
        exact (HRi.out W (HI1.out.below hI)).mono fun e' w' H => by
          obtain ⟨v', he, ho, hb⟩ := H
          exact ⟨v', he, Sl.of_own ho, hb⟩
      · intro a W hI hun haft hi
        have e1 : a.eval (.tmp 1) = .pointer (some ⟨p, 0, none⟩) := hun 1 (by kernel_rfl)
        exact b_same hi hI rfl _ (run_fieldAddr_any rfl e1 (at_snS2 p W)) rfl
      · intro a W hI hun haft hi
        have f6 : a.eval (.tmp 16) = .pointer (some ⟨p, 17, none⟩) := haft ⟨6, .data⟩ (by simp) rfl _ _ rfl rfl
        exact b_same hi hI rfl _ (run_loadsl_op rfl f6 Tryz.underlying25 (HM1.out.keep hI).evs) rfl
      · intro a W hI hun haft hi
        have f7 : a.eval (.tmp 17) = .slice A' N' c' := haft ⟨7, .data⟩ (by simp) rfl _ _ rfl rfl
        refine b_call hi hI rfl _ _ (run_call_op (args := #[.slice A' N' c', .func (.func 26) #[] #[]]) rfl (by simp only [List.map_toArray, List.map_cons, List.map_nil, f7] <;> rfl) (by kernel_rfl)) ?_
        exact (HRe.out W (HE1.out.below hI)).mono fun e' w' H => by
          obtain ⟨v', he, ho, hb⟩ := H
          exact ⟨v', he, Sl.of_own ho, hb⟩
      · intro a W hI hun haft hi
        have f2 : Sl bv W (a.eval (.tmp 12)) (pastB f 16) := haft ⟨2, .data⟩ (by simp) rfl _ _ rfl rfl
        have f5 : Sl bv W (a.eval (.tmp 15)) (rowIB I) := haft ⟨5, .data⟩ (by simp) rfl _ _ rfl rfl
        have f8 : Sl bv W (a.eval (.tmp 18)) (rowEB E) := haft ⟨8, .data⟩ (by simp) rfl _ _ rfl rfl
        obtain ⟨B1, d1, q1⟩ := f2.form
        obtain ⟨B2, d2, q2⟩ := f5.form
        obtain ⟨B3, d3, q3⟩ := f8.form
        rw [q1] at f2
        rw [q2] at f5
        rw [q3] at f8
        have hba : Below W.heap.size W (W.alloc (.cells #[.slice B1 (pastB f 16).length d1, .slice B2 (rowIB I).length d2, .slice B3 (rowEB E).length d3] 30)) := (Below.refl _ _).alloc (Nat.le_refl _) _
        exact b_val hi hI rfl _ _ (run_buildSlice_op (vs := #[(0, .slice B1 (pastB f 16).length d1), (1, .slice B2 (rowIB I).length d2), (2, .slice B3 (rowEB E).length d3)]) rfl (by simp only [List.map_toArray, List.map_cons, List.map_nil, q1, q2, q3] <;> rfl) (bs3 _ _ _ _ _ _ _ _ _ _)) hba ⟨_, _, _, _, rfl, Blk.new _ _ _, Sl.below f2 hba, Sl.below f5 hba, Sl.below f8 hba⟩
      · intro a W hI hun haft hi
        have f9 : Three W (a.eval (.tmp 19)) (pastB f 16) (rowIB I) (rowEB E) := haft ⟨9, .data⟩ (by simp) rfl _ _ rfl rfl
        refine b_call hi hI rfl _ _ (run_call_op (args := #[a.eval (.tmp 19)]) rfl (by simp) (by kernel_rfl)) ?_
        exact (concat3 W _ _ _ _ f9 HT.out).mono fun e' w' H => by
          obtain ⟨v', he, ho, hb⟩ := H
          exact ⟨v', he, own_base ho (Nat.le_trans HB1.out.size hI.size), hb⟩
      · intro a W hI hun haft hi
        have f10 : W.ownsRow w.heap.size 5 1 (a.eval (.tmp 20)) (bytesS f I E).length (bs (bytesS f I E)) := haft ⟨10, .data⟩ (by simp) rfl _ _ rfl rfl
        exact b_same hi hI rfl _ (run_assign_op rfl rfl) f10
      · intro a W hI hun haft hi
        exact b_same hi hI rfl _ (run_assign_op rfl rfl) rfl
    · intro vals W hI hp
      have o11 : W.ownsRow w.heap.size 5 1 (vals 11) (bytesS f I E).length (bs (bytesS f I E)) := hp 11 (by decide)
      have hl12 : vals 12 = .int .i64 0 := hp 12 (by decide)
      have O11 := Lib.hid o11
      have HJ := Lib.hid (HB1.out.trans (hI.mono HB1.out.size))
      clear hp hI o11
      simp only [layN, List.size_toArray, List.length_cons, List.length_nil, List.range, List.range.loop, if_true, List.getElem?_toArray, List.getElem?_cons_zero, List.getElem?_cons_succ, Act.put, List.setIfInBounds_toArray, List.set_cons_zero, List.set_cons_succ, Nat.zero_add, Nat.reduceAdd, hl12]
      clear hl12
      go_wp2_with fail
      go_ret2
      exact ⟨_, rfl, O11.out, HJ.out⟩

end Go.Proofs.YtejljikikhecnaaGreat
