/-
  snap.Right: whether a snapshot may be: the contract, by a walk. Conditions: lengths.
-/
import Derived.Test.YtejljikikhecnaaGreatSnItemsR
namespace Go.Proofs.YtejljikikhecnaaGreat
open Go.RowKit Go.MapKept Go.Sort

/-- A snapshot's cells. -/
def sC (f : Nat → Int) (si se : Value) : Array Value := #[.int .i64 (f 0), .int .i64 (f 1), .int .i64 (f 2), .int .i64 (f 3), .int .i64 (f 4), .int .i64 (f 5), .int .i64 (f 6), .int .i64 (f 7), .int .i64 (f 8), .int .i64 (f 9), .int .i64 (f 10), .int .i64 (f 11), .int .i64 (f 12), .int .i64 (f 13), .int .i64 (f 14), .int .i64 (f 15), si, se]
def sV (f : Nat → Int) (si se : Value) : Value := .agg (sC f si se)
def SB (w : World) (g : Nat) (f : Nat → Int) (si se : Value) : Prop := Blk w g 27 (sC f si se)
section
variable {w w' : World} {g : Nat} {f : Nat → Int} {si se : Value}
theorem SB.keep (h : SB w g f si se) (hb : Below w.heap.size w w') : SB w' g f si se := Blk.below h hb (Blk.lt h)
theorem SB.new_ (w : World) (f : Nat → Int) (si se : Value) : SB (w.alloc (.cells (sC f si se) 27)) w.heap.size f si se := Blk.new w _ _
theorem SB.lt (h : SB w g f si se) : g < w.heap.size := Blk.lt h
theorem SB.vec (h : SB w g f si se) : w.rangeAt g 0 (vA f).toList := World.rangeAt_of_block (C := sC f si se) h 0 16
theorem SB.its (h : SB w g f si se) : w.cell? ⟨g, 16, none⟩ = some si := (Blk.cell h 16).trans rfl
theorem SB.evs (h : SB w g f si se) : w.cell? ⟨g, 17, none⟩ = some se := (Blk.cell h 17).trans rfl
end
def rightS (f : Nat → Int) (I : List (El × List (Dt × Va))) (E : List Ev) : Bool := rightV f && itsB f I && evsS f E
theorem rightv_is (f : Nat → Int) (b : Bool) (h : rightV f = b) (w : World) : Calls Tryz.prog 31 #[.agg (vA f)] w (Gives w (.bool b)) := by subst h; exact (vright_any f w).mono fun _ _ h => h
theorem rightits_is (f : Nat → Int) (I : List (El × List (Dt × Va))) (A : Option Addr) (N c : Nat) (b : Bool) (hb : itsB f I = b) (w : World) (hs : ItsIs w (.slice A N c) I) (hN : I.length = N) (hN2 : N ≤ 10000) (hx : ∀ q ∈ I, ItFits q) (hw : CutOk w) :
    Calls Tryz.prog 32 #[.agg (vA f), .slice A N c] w (Gives w (.bool b)) := by subst hb; exact rightItems_any f I A N c w hs hN hN2 hx hw
theorem rightevs_is (f : Nat → Int) (l : List Ev) (A : Option Addr) (N c : Nat) (b : Bool) (hb : evsS f l = b) (w : World) (hs : SlK encE 27 w (.slice A N c) l) (hN : l.length = N) (hN2 : N ≤ 10000) (hl : ∀ e ∈ l, Lens e) (hw : CutOk w) :
    Calls Tryz.prog 33 #[.agg (vA f), .slice A N c] w (Gives w (.bool b)) := by subst hb; exact rightEvents_any f l A N c w hs hN hN2 hl hw

set_option maxRecDepth 100000 in
set_option maxHeartbeats 4000000 in
theorem sright_any (f : Nat → Int) (I : List (El × List (Dt × Va))) (E : List Ev) (A A' : Option Addr) (N N' c c' : Nat) (w : World) (hs : ItsIs w (.slice A N c) I) (hN : I.length = N) (hN2 : N ≤ 10000) (hx : ∀ q ∈ I, ItFits q) (he : SlK encE 27 w (.slice A' N' c') E) (hN' : E.length = N') (hN3 : N' ≤ 10000) (hl : ∀ e ∈ E, Lens e) (hw : CutOk w) :
    Calls Tryz.prog 10 #[sV f (.slice A N c) (.slice A' N' c')] w (Gives w (.int .i64 (codeI (rightS f I E)))) := by
  obtain ⟨p, hp⟩ : ∃ p, w.heap.size = p := ⟨_, rfl⟩
  obtain ⟨X, hX⟩ : ∃ X, X = w.alloc (.cells (sC f (.slice A N c) (.slice A' N' c')) 27) := ⟨_, rfl⟩
  have hbX : Below w.heap.size w X := by rw [hX]; exact (Below.refl _ _).alloc (Nat.le_refl _) _
  have HM := Lib.hid (show SB X p f (.slice A N c) (.slice A' N' c') by rw [hX, ← hp]; exact SB.new_ w f _ _)
  have HX := Lib.hid hX
  have HB := Lib.hid hbX
  have HP := Lib.hid hp
  have HI := Lib.hid (hs.below hbX)
  have HE := Lib.hid (he.below hbX)
  have HW := Lib.hid (hw.below hbX)
  obtain ⟨b1, hb1⟩ : ∃ b, rightV f = b := ⟨_, rfl⟩
  obtain ⟨b2, hb2⟩ : ∃ b, itsB f I = b := ⟨_, rfl⟩
  obtain ⟨b3, hb3⟩ : ∃ b, evsS f E = b := ⟨_, rfl⟩
  have H1 := Lib.hid (fun W => rightv_is f b1 hb1 W)
  have H2 := Lib.hid (fun W hs hw => rightits_is f I A N c b2 hb2 W hs hN hN2 hx hw)
  have H3 := Lib.hid (fun W hs hw => rightevs_is f E A' N' c' b3 hb3 W hs hN' hN3 hl hw)
  have HC : Hid (rightS f I E = (b1 && b2 && b3)) := Lib.hid (by unfold rightS; rw [hb1, hb2, hb3])
  clear hX hbX hp hs hN hN2 hx he hN' hN3 hl hw hb1 hb2 hb3
  unfold sV
  cases b1
  case false =>
    go_enter Tryz.func10, Tryz.ntmps10
    go_upto_region 1 with fail
    rw [← HX.out, HP.out]
    go_wp2_with (first
      | (refine' wpList_load_midif ?q1 23 (.tmp 3) ?q2 p 0 ?q3 _ _ ?q4 Tryz.underlying23 ?q5 ?q6 ?_; (case q2 => rfl); (case q1 => rfl); (case q3 => rfl); (case q4 => exact HM.out.vec); (case q5 => rfl); (case q6 => kernel_rfl))
      | fail)
    refine (H1.out X).mono ?_
    rintro e' w1 ⟨rfl, hb⟩
    have HB1 := Lib.hid (HB.out.trans (hb.mono HB.out.size))
    clear hb
    go_wp2
    go_ret
    exact ⟨by rw [HC.out]; rfl, HB1.out⟩
  cases b2
  case false =>
    go_enter Tryz.func10, Tryz.ntmps10
    go_upto_region 1 with fail
    rw [← HX.out, HP.out]
    go_wp2_with (first
      | (refine' wpList_load_midif ?q1 23 (.tmp 3) ?q2 p 0 ?q3 _ _ ?q4 Tryz.underlying23 ?q5 ?q6 ?_; (case q2 => rfl); (case q1 => rfl); (case q3 => rfl); (case q4 => exact HM.out.vec); (case q5 => rfl); (case q6 => kernel_rfl))
      | fail)
    refine (H1.out X).mono ?_
    rintro e' w1 ⟨rfl, hb⟩
    have HM1 := Lib.hid (SB.keep HM.out hb)
    have HI1 := Lib.hid (HI.out.below hb)
    have HE1 := Lib.hid (HE.out.below hb)
    have HW1 := Lib.hid (HW.out.below hb)
    have HB1 := Lib.hid (HB.out.trans (hb.mono HB.out.size))
    have n16 := HM1.out.its
    have n17 := HM1.out.evs
    clear hb
    go_wp2_with (first
      | (refine' wpList_load_midif ?q1 23 (.tmp 8) ?q2 p 0 ?q3 _ _ ?q4 Tryz.underlying23 ?q5 ?q6 ?_; (case q2 => rfl); (case q1 => rfl); (case q3 => rfl); (case q4 => exact HM1.out.vec); (case q5 => rfl); (case q6 => kernel_rfl))
      | fail)
    clear n16 n17
    refine (H2.out w1 HI1.out HW1.out).mono ?_
    rintro e' w2 ⟨rfl, hb⟩
    have HM2 := Lib.hid (SB.keep HM1.out hb)
    have HI2 := Lib.hid (HI1.out.below hb)
    have HE2 := Lib.hid (HE1.out.below hb)
    have HW2 := Lib.hid (HW1.out.below hb)
    have HB2 := Lib.hid (HB1.out.trans (hb.mono HB1.out.size))
    have n16 := HM2.out.its
    have n17 := HM2.out.evs
    clear hb
    go_wp2
    go_ret
    exact ⟨by rw [HC.out]; rfl, HB2.out⟩
  cases b3
  case false =>
    go_enter Tryz.func10, Tryz.ntmps10
    go_upto_region 1 with fail
    rw [← HX.out, HP.out]
    go_wp2_with (first
      | (refine' wpList_load_midif ?q1 23 (.tmp 3) ?q2 p 0 ?q3 _ _ ?q4 Tryz.underlying23 ?q5 ?q6 ?_; (case q2 => rfl); (case q1 => rfl); (case q3 => rfl); (case q4 => exact HM.out.vec); (case q5 => rfl); (case q6 => kernel_rfl))
      | fail)
    refine (H1.out X).mono ?_
    rintro e' w1 ⟨rfl, hb⟩
    have HM1 := Lib.hid (SB.keep HM.out hb)
    have HI1 := Lib.hid (HI.out.below hb)
    have HE1 := Lib.hid (HE.out.below hb)
    have HW1 := Lib.hid (HW.out.below hb)
    have HB1 := Lib.hid (HB.out.trans (hb.mono HB.out.size))
    have n16 := HM1.out.its
    have n17 := HM1.out.evs
    clear hb
    go_wp2_with (first
      | (refine' wpList_load_midif ?q1 23 (.tmp 8) ?q2 p 0 ?q3 _ _ ?q4 Tryz.underlying23 ?q5 ?q6 ?_; (case q2 => rfl); (case q1 => rfl); (case q3 => rfl); (case q4 => exact HM1.out.vec); (case q5 => rfl); (case q6 => kernel_rfl))
      | fail)
    clear n16 n17
    refine (H2.out w1 HI1.out HW1.out).mono ?_
    rintro e' w2 ⟨rfl, hb⟩
    have HM2 := Lib.hid (SB.keep HM1.out hb)
    have HI2 := Lib.hid (HI1.out.below hb)
    have HE2 := Lib.hid (HE1.out.below hb)
    have HW2 := Lib.hid (HW1.out.below hb)
    have HB2 := Lib.hid (HB1.out.trans (hb.mono HB1.out.size))
    have n16 := HM2.out.its
    have n17 := HM2.out.evs
    clear hb
    go_wp2_with (first
      | (refine' wpList_load_midif ?q1 23 (.tmp 16) ?q2 p 0 ?q3 _ _ ?q4 Tryz.underlying23 ?q5 ?q6 ?_; (case q2 => rfl); (case q1 => rfl); (case q3 => rfl); (case q4 => exact HM2.out.vec); (case q5 => rfl); (case q6 => kernel_rfl))
      | fail)
    clear n16 n17
    refine (H3.out w2 HE2.out HW2.out).mono ?_
    rintro e' w3 ⟨rfl, hb⟩
    have HM3 := Lib.hid (SB.keep HM2.out hb)
    have HI3 := Lib.hid (HI2.out.below hb)
    have HE3 := Lib.hid (HE2.out.below hb)
    have HW3 := Lib.hid (HW2.out.below hb)
    have HB3 := Lib.hid (HB2.out.trans (hb.mono HB2.out.size))
    have n16 := HM3.out.its
    have n17 := HM3.out.evs
    clear hb
    go_wp2
    go_ret
    exact ⟨by rw [HC.out]; rfl, HB3.out⟩
  case true =>
    go_enter Tryz.func10, Tryz.ntmps10
    go_upto_region 1 with fail
    rw [← HX.out, HP.out]
    go_wp2_with (first
      | (refine' wpList_load_midif ?q1 23 (.tmp 3) ?q2 p 0 ?q3 _ _ ?q4 Tryz.underlying23 ?q5 ?q6 ?_; (case q2 => rfl); (case q1 => rfl); (case q3 => rfl); (case q4 => exact HM.out.vec); (case q5 => rfl); (case q6 => kernel_rfl))
      | fail)
    refine (H1.out X).mono ?_
    rintro e' w1 ⟨rfl, hb⟩
    have HM1 := Lib.hid (SB.keep HM.out hb)
    have HI1 := Lib.hid (HI.out.below hb)
    have HE1 := Lib.hid (HE.out.below hb)
    have HW1 := Lib.hid (HW.out.below hb)
    have HB1 := Lib.hid (HB.out.trans (hb.mono HB.out.size))
    have n16 := HM1.out.its
    have n17 := HM1.out.evs
    clear hb
    go_wp2_with (first
      | (refine' wpList_load_midif ?q1 23 (.tmp 8) ?q2 p 0 ?q3 _ _ ?q4 Tryz.underlying23 ?q5 ?q6 ?_; (case q2 => rfl); (case q1 => rfl); (case q3 => rfl); (case q4 => exact HM1.out.vec); (case q5 => rfl); (case q6 => kernel_rfl))
      | fail)
    clear n16 n17
    refine (H2.out w1 HI1.out HW1.out).mono ?_
    rintro e' w2 ⟨rfl, hb⟩
    have HM2 := Lib.hid (SB.keep HM1.out hb)
    have HI2 := Lib.hid (HI1.out.below hb)
    have HE2 := Lib.hid (HE1.out.below hb)
    have HW2 := Lib.hid (HW1.out.below hb)
    have HB2 := Lib.hid (HB1.out.trans (hb.mono HB1.out.size))
    have n16 := HM2.out.its
    have n17 := HM2.out.evs
    clear hb
    go_wp2_with (first
      | (refine' wpList_load_midif ?q1 23 (.tmp 16) ?q2 p 0 ?q3 _ _ ?q4 Tryz.underlying23 ?q5 ?q6 ?_; (case q2 => rfl); (case q1 => rfl); (case q3 => rfl); (case q4 => exact HM2.out.vec); (case q5 => rfl); (case q6 => kernel_rfl))
      | fail)
    clear n16 n17
    refine (H3.out w2 HE2.out HW2.out).mono ?_
    rintro e' w3 ⟨rfl, hb⟩
    have HM3 := Lib.hid (SB.keep HM2.out hb)
    have HI3 := Lib.hid (HI2.out.below hb)
    have HE3 := Lib.hid (HE2.out.below hb)
    have HW3 := Lib.hid (HW2.out.below hb)
    have HB3 := Lib.hid (HB2.out.trans (hb.mono HB2.out.size))
    have n16 := HM3.out.its
    have n17 := HM3.out.evs
    clear hb
    go_wp2
    go_ret
    exact ⟨by rw [HC.out]; rfl, HB3.out⟩

end Go.Proofs.YtejljikikhecnaaGreat
