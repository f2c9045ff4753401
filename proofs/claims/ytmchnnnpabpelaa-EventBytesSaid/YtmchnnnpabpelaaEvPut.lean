/-
  event.Put: an event's bytes, laid behind none: the contract, by a walk. Conditions: texts that are not too long.
-/
import Derived.Test.YtmchnnnpabpelaaEvRefPut
namespace Go.Proofs.Ytmchnnnpabpelaa
open Go.RowKit

set_option maxRecDepth 100000 in
set_option maxHeartbeats 1500000 in
theorem evput_any (e : Ev) (w : World) (hl : Lens e) (hn : (bytesE e).length ≤ 140737488355328) : Calls Try.prog 16 #[.slice none 0 0, evV e] w (Makes w (bytesE e)) := by
  have HN := Lib.hid hn
  have HLd := Lib.hid (fun W => elaid_any e W hl)
  have hk : EB (w.alloc (.cells (evC e) 31)) w.heap.size e := EB.new_ w e
  have hy : Below w.heap.size w (w.alloc (.cells (evC e) 31)) := (Below.refl _ _).alloc (Nat.le_refl _) _
  obtain ⟨X, hX⟩ : ∃ X, X = w.alloc (.cells (evC e) 31) := ⟨_, rfl⟩
  rw [← hX] at hk hy
  have HX := Lib.hid hX
  have K0 := Lib.hid hk
  have Y0 := Lib.hid hy
  clear hX hk hy hl hn
  unfold evV at *
  go_enter Try.func16, Try.ntmps16
  go_upto_region 1 with fail
  rw [← HX.out]
  go_wp2_with (refine wpList_load_if rfl 31 (.tmp 3) rfl w.heap.size rfl _ _ _ _ K0.out Try.underlying31 rfl (sizeE _) ?_)
  refine (HLd.out _).mono ?_
  rintro x1 w1 ⟨v1, rfl, ho1, hb1⟩
  have hs1 := (Sl.of_own ho1)
  have hbw := Y0.out.trans (hb1.mono Y0.out.size)
  obtain ⟨A1, c1, rfl⟩ := hs1.form
  have Y1 := Lib.hid hbw
  have S1 := Lib.hid hs1
  clear ho1 hb1 hs1 hbw K0 Y0
  go_wp2_with fail
  have hfl : flat [(.slice none 0 0, []), (.slice A1 (bytesE e).length c1, bytesE e)] = bytesE e := by simp [flat]
  refine (concat_laid w1 [(.slice none 0 0, []), (.slice A1 (bytesE e).length c1, bytesE e)] 2 2 rfl (by omega) (by omega) _ rfl ?_ (by rw [hfl]; exact HN.out)).mono ?_
  · intro p hp
    simp only [List.mem_cons, List.not_mem_nil, or_false] at hp
    rcases hp with rfl | rfl
    · exact Sl.nil_ _ _
    · exact S1.out
  · intro e' w3 H
    have H2 := H.behind (Y1.out.alloc Y1.out.size _)
    rw [hfl] at H2
    obtain ⟨v3, rfl, H3⟩ := H2
    have H4 := Lib.hid (show Makes w (bytesE e) (.returned v3) w3 from ⟨v3, rfl, H3⟩)
    clear H H3 hfl
    go_wp2
    go_ret
    exact H4.out

end Go.Proofs.Ytmchnnnpabpelaa
