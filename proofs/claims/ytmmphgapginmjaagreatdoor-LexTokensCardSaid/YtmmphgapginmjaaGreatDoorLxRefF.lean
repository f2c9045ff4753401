/-
  hedgerowref18.One at what guess answers.
-/
import Derived.Test.YtmmphgapginmjaaGreatDoorLxRefE
namespace Go.Proofs.YtmmphgapginmjaaGreatDoor
open Go.RowKit

theorem Lx.size_le (c : UInt8) (t : List UInt8) : Lx.sizeR (c :: t) ≤ (c :: t).length := by
  unfold Lx.sizeR
  split
  · exact Lx.runL_le _ _
  · split
    · exact Lx.runL_le _ _
    · split
      · split
        · omega
        · have := Lx.qe_le ((c :: t).drop 1)
          rw [List.length_drop] at this
          have h : (c :: t).length = t.length + 1 := rfl
          omega
      · split
        · rename_i h
          simp only [Bool.and_eq_true, decide_eq_true_eq] at h
          omega
        · split
          · exact Nat.succ_le_succ (Nat.zero_le _)
          · omega

theorem rone_guess (p : List UInt8) (w : World) (h0 : p ≠ []) (hp : p.length ≤ 1000000) : Calls Tryz.prog 16 #[tkV (Lx.guessR p)] w (Gives w (.tuple #[.string ⟨(Lx.oneR (Lx.guessR p)).1.toArray⟩, .bool (Lx.oneR (Lx.guessR p)).2])) := by
  unfold Lx.guessR
  by_cases h1 : Lx.digU (p.headD 0) = true
  · rw [if_pos h1]
    obtain ⟨ha, hb⟩ := numF_small (p.take 15) (by rw [List.length_take]; omega)
    exact rone3_any _ w ha hb
  · rw [if_neg h1]
    by_cases h2 : p.headD 0 = 39
    · rw [if_pos h2]
      refine rone4_any _ w ?_
      cases hv : Lx.parseO p with
      | none => exact Nat.zero_le _
      | some v =>
        cases p with
        | nil => exact absurd rfl h0
        | cons c t =>
          have hc : c = 39 := h2
          subst hc
          obtain ⟨_, hr, _⟩ := Lx.quote_text rfl hv
          show v.2.2.length ≤ _
          unfold rightB at hr
          rw [if_neg (by decide), if_neg (by decide), if_neg (by decide), if_pos rfl] at hr
          simp only [Bool.and_eq_true] at hr
          have := hr.2
          unfold plainB at this
          simp only [Bool.and_eq_true, decide_eq_true_eq] at this
          omega
    · rw [if_neg h2]
      by_cases h3 : Lx.words.contains p = true
      · rw [if_pos h3]
        exact rone2_any _ w
      · rw [if_neg h3]
        by_cases h4 : Lx.signs.contains p = true
        · rw [if_pos h4]
          exact rone5_any _ w
        · rw [if_neg h4]
          exact rone1_any _ w hp

end Go.Proofs.YtmmphgapginmjaaGreatDoor
