/-
  The snapshot of nothing, a bad one, snap.Same's false way: mathematics, and small walks.
-/
import Derived.Test.YtejljikikhecnaaGreatSnSame
import Derived.Test.YtejljikikhecnaaGreatSnFew
namespace Go.Proofs.YtejljikikhecnaaGreat
open Go.RowKit Go.MapKept Go.Sort

def fz : Nat → Int := fun _ => 0
theorem rightS_zero : rightS fz [] [] = true := by decide +kernel
theorem bytesS_zero : (bytesS fz [] []).length = 18 := by decide +kernel
theorem rightS_bad : rightS fz [] [ev0] = false := by decide +kernel
theorem snC_one : snC [1] = 2 := by decide +kernel
theorem read_zero : snC (bytesS fz [] []) = 0 ∧ (sF (bytesS fz [] [])).1 = fz ∧ (sI (bytesS fz [] [])).1 = [] ∧ (sE (bytesS fz [] [])).1 = [] ∧ (sE (bytesS fz [] [])).2 = ([], false) := snap_read (f := fz) (I := []) (E := []) rightS_zero (fun _ _ => rfl) (by decide) (fun q hq => by cases hq) (by decide) (fun e he => by cases he)
theorem lensZ : Lens ev0 := by unfold Lens ev0; decide
theorem itsNil (w : World) : ItsIs w (.slice none 0 0) [] := ⟨[], SlK.nil_ _ _ _, rfl, fun i y q hy => by simp at hy⟩

set_option maxRecDepth 100000 in
set_option maxHeartbeats 4000000 in
theorem equalE_diff (A A' : Option Addr) (N N' c c' : Nat) (w : World) (h : N ≠ N') :
    Calls Tryz.prog 47 #[.slice A N c, .slice A' N' c'] w (Gives w (.bool false)) := by
  have q7 : ((N : Int) == (N' : Int)) = false := by rw [beq_eq_false_iff_ne]; omega
  have q8 : ((N : Int) != (N' : Int)) = true := by rw [bne, q7]; rfl
  go_enter Tryz.func47, Tryz.ntmps47
  go_wp2_with fail
  go_ret
  exact ⟨rfl, Below.refl _ _⟩

set_option maxRecDepth 100000 in
set_option maxHeartbeats 4000000 in
theorem ssame_diff (f : Nat → Int) (A A' B B' : Option Addr) (M M' c c' d d' : Nat) (w : World) (hs : ItsIs w (.slice A 0 c) []) (hs' : ItsIs w (.slice A' 0 c') []) (hM : M ≠ M') :
    Calls Tryz.prog 14 #[sV f (.slice A 0 c) (.slice B M d), sV f (.slice A' 0 c') (.slice B' M' d')] w (Gives w (.bool false)) := by
  obtain ⟨p, hp⟩ : ∃ p, w.heap.size = p := ⟨_, rfl⟩
  obtain ⟨X, hX⟩ : ∃ X, X = (w.alloc (.cells (sC f (.slice A 0 c) (.slice B M d)) 27)).alloc (.cells (sC f (.slice A' 0 c') (.slice B' M' d')) 27) := ⟨_, rfl⟩
  have hbX : Below w.heap.size w X := by rw [hX]; exact ((Below.refl _ _).alloc (Nat.le_refl _) _).alloc (by simp) _
  have hm1 : SB X p f (.slice A 0 c) (.slice B M d) := by rw [hX, ← hp]; exact (SB.new_ w f _ _).keep ((Below.refl _ _).alloc (Nat.le_refl _) _)
  have hm2 : SB X (p + 1) f (.slice A' 0 c') (.slice B' M' d') := by
    rw [hX, ← hp]
    have := SB.new_ (w.alloc (.cells (sC f (.slice A 0 c) (.slice B M d)) 27)) f (.slice A' 0 c') (.slice B' M' d')
    simpa using this
  have HM1 := Lib.hid hm1
  have HM2 := Lib.hid hm2
  have n16 := hm1.its
  have k16 := hm2.its
  have HF := Lib.hid (equalFunc_true [] A A' 0 c c' X (hs.below hbX) (hs'.below hbX) rfl (by decide) (fun q hq => by cases hq))
  have HE := Lib.hid (fun W => equalE_diff B B' M M' d d' W hM)
  have HX := Lib.hid hX
  have HP := Lib.hid hp
  have HB := Lib.hid hbX
  have hqv := fun w => eqv_true f w
  clear hX hbX hp hs hs' hM hm1 hm2
  unfold sV
  go_enter Tryz.func14, Tryz.ntmps14
  go_upto_region 1 with fail
  try simp only [World.size_alloc]
  rw [← HX.out, HP.out]
  go_wp2_with (first
    | (refine' wpList_load_midif ?q1 23 (.tmp 5) ?q2 p 0 ?q3 _ _ ?q4 Tryz.underlying23 ?q5 ?q6 ?_; (case q2 => rfl); (case q1 => rfl); (case q3 => rfl); (case q4 => exact HM1.out.vec); (case q5 => rfl); (case q6 => kernel_rfl))
    | (refine' wpList_load_midif ?q1 23 (.tmp 7) ?q2 (p + 1) 0 ?q3 _ _ ?q4 Tryz.underlying23 ?q5 ?q6 ?_; (case q2 => rfl); (case q1 => rfl); (case q3 => rfl); (case q4 => exact HM2.out.vec); (case q5 => rfl); (case q6 => kernel_rfl))
    | fail)
  refine HF.out.mono ?_
  rintro e w1 ⟨rfl, hb⟩
  have HB1 := Lib.hid (HB.out.trans (hb.mono HB.out.size))
  have n17 := (HM1.out.keep hb).evs
  have k17 := (HM2.out.keep hb).evs
  clear hb n16 k16 hqv
  go_wp2_with fail
  refine (HE.out w1).mono ?_
  rintro e w2 ⟨rfl, hb⟩
  have HB2 := Lib.hid (HB1.out.trans (hb.mono HB1.out.size))
  clear hb n17 k17
  go_wp2
  go_ret
  exact ⟨rfl, HB2.out⟩

end Go.Proofs.YtejljikikhecnaaGreat
