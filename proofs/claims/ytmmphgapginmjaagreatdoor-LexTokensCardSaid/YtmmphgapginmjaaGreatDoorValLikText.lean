/-
  Only one value that may be has a text: plain mathematics. Conditions: none.
-/
import Derived.Test.YtmmphgapginmjaaGreatDoorValLik
namespace Go.Proofs.YtmmphgapginmjaaGreatDoor
open Go.RowKit

theorem lik_head (c : UInt8) (t : List UInt8) (h1 : c ≠ 110) (h2 : c ≠ 102) (h3 : c ≠ 116) : lik ⟨(c :: t).toArray⟩ = if c = 39 then (3, 0, unqL ⟨(c :: t).toArray⟩) else if c = 40 then (4, 0, (innerS ⟨(c :: t).toArray⟩).data.toList) else if c = 91 then (5, 0, (innerS ⟨(c :: t).toArray⟩).data.toList) else (2, numL (c :: t), []) := by
  unfold lik
  show (if c :: t = _ then _ else if c :: t = _ then _ else if c :: t = _ then _ else _) = _
  rw [if_neg (fun e => h1 (List.cons.inj e).1), if_neg (fun e => h2 (List.cons.inj e).1), if_neg (fun e => h3 (List.cons.inj e).1)]
  rfl
theorem lik_text (k n : Int) (l : List UInt8) (hr : rightB k n l = true) : lik ⟨(textB k n l).toArray⟩ = (k, n, l) := by
  have hT : textB k n l = (if k = 1 then Lib.formatBool (n == 1) else if k = 2 then Lib.itoa n else if k = 3 then quoteL l else if k = 4 then [40] ++ l ++ [41] else if k = 5 then [91] ++ l ++ [93] else [110, 117, 108, 108]) := by
    unfold textB; rw [if_pos hr]
  unfold rightB at hr
  by_cases k0 : k = 0
  · subst k0
    rw [if_pos rfl] at hr
    simp only [Bool.and_eq_true, beq_iff_eq] at hr
    obtain ⟨rfl, hr⟩ := hr
    obtain rfl := List.isEmpty_iff.1 hr
    rw [show textB 0 0 [] = [110, 117, 108, 108] from hT]; rfl
  rw [if_neg k0] at hr
  by_cases k1 : k = 1
  · subst k1
    rw [if_pos rfl] at hr
    simp only [Bool.and_eq_true, Bool.or_eq_true, beq_iff_eq] at hr
    obtain ⟨hn, hr⟩ := hr
    obtain rfl := List.isEmpty_iff.1 hr
    rcases hn with rfl | rfl
    · rw [show textB 1 0 [] = [102, 97, 108, 115, 101] from hT]; rfl
    · rw [show textB 1 1 [] = [116, 114, 117, 101] from hT]; rfl
  rw [if_neg k1] at hr hT
  by_cases k2 : k = 2
  · subst k2
    rw [if_pos rfl] at hr hT
    simp only [Bool.and_eq_true, decide_eq_true_eq] at hr
    obtain ⟨⟨hn1, hn2⟩, hr⟩ := hr
    obtain rfl := List.isEmpty_iff.1 hr
    obtain ⟨c, t, hc, hd⟩ := itoa_head n
    have hnum : numL (Lib.itoa n) = n := by unfold numL; rw [atoi_itoa n hn1 hn2]
    have hne : ∀ b : UInt8, b.toNat ≠ 45 → (b.toNat < 48 ∨ 57 < b.toNat) → c ≠ b := by
      intro b h1 h2 e
      subst e
      rcases hd with e | e
      · rw [e] at h1; exact h1 rfl
      · omega
    rw [hT, hc, lik_head c t (hne 110 (by decide) (by decide)) (hne 102 (by decide) (by decide)) (hne 116 (by decide) (by decide)), if_neg (hne 39 (by decide) (by decide)), if_neg (hne 40 (by decide) (by decide)), if_neg (hne 91 (by decide) (by decide)), ← hc, hnum]
  rw [if_neg k2] at hr hT
  by_cases k3 : k = 3
  · subst k3
    rw [if_pos rfl] at hr hT
    simp only [Bool.and_eq_true, beq_iff_eq] at hr
    obtain ⟨rfl, hr⟩ := hr
    obtain ⟨hp1, hp2⟩ := plain_bytes hr
    rw [hT]
    show lik ⟨(39 :: (qL l ++ [39])).toArray⟩ = _
    rw [lik_head 39 _ (by decide) (by decide) (by decide), if_pos rfl]
    exact congrArg (fun x => (3, 0, x)) (unq_quote l hp2)
  rw [if_neg k3] at hr hT
  by_cases k4 : k = 4
  · subst k4
    rw [if_pos rfl] at hr hT
    simp only [Bool.and_eq_true, beq_iff_eq] at hr
    obtain ⟨rfl, hr⟩ := hr
    rw [hT]
    show lik ⟨(40 :: (l ++ [41])).toArray⟩ = _
    rw [lik_head 40 _ (by decide) (by decide) (by decide), if_neg (by decide), if_pos rfl]
    exact congrArg (fun x : ByteArray => (4, 0, x.data.toList)) (inner_wrap 40 41 l)
  rw [if_neg k4] at hr hT
  by_cases k5 : k = 5
  · subst k5
    rw [if_pos rfl] at hr hT
    simp only [Bool.and_eq_true, beq_iff_eq] at hr
    obtain ⟨rfl, hr⟩ := hr
    rw [hT]
    show lik ⟨(91 :: (l ++ [93])).toArray⟩ = _
    rw [lik_head 91 _ (by decide) (by decide) (by decide), if_neg (by decide), if_neg (by decide), if_pos rfl]
    exact congrArg (fun x : ByteArray => (5, 0, x.data.toList)) (inner_wrap 91 93 l)
  · rw [if_neg k5] at hr; cases hr

end Go.Proofs.YtmmphgapginmjaaGreatDoor
