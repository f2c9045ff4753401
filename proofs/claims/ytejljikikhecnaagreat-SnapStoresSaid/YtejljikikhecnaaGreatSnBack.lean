/-
  Snapshots' bytes, there and back; with more behind; a part of them. Plain mathematics. Conditions: none.
-/
import Derived.Test.YtejljikikhecnaaGreatSnParse
namespace Go.Proofs.YtejljikikhecnaaGreat
open Go.RowKit Go.MapKept Go.Sort

def addS (s : List UInt8 × Bool) (t : List UInt8) : List UInt8 × Bool := (s.1 ++ t, s.2)
theorem rNum_add (s : List UInt8 × Bool) (t : List UInt8) (m : Int) (h : (rNum s m).2.2 = false) : rNum (addS s t) m = ((rNum s m).1, addS (rNum s m).2 t) := by
  have hs := rNum_flag s m h
  obtain ⟨l, f⟩ := s
  dsimp only at hs
  subst hs
  cases hq : takeN l with
  | none =>
    have : rNum (l, false) m = (0, (l, true)) := by unfold rNum; simp [hq]
    rw [this] at h; cases h
  | some nk =>
    obtain ⟨n, k⟩ := nk
    obtain ⟨h1, h2, h3⟩ := takeN_some hq
    have hk := takeN_len hq
    by_cases hm : m < (n : Int)
    · have : rNum (l, false) m = (0, (l, true)) := by unfold rNum; simp [hq, hm]
      rw [this] at h; cases h
    · have e1 : rNum (l, false) m = ((n : Int), (l.drop k, false)) := by unfold rNum; simp [hq, hm]
      have hl : l ++ t = enc n ++ (l.drop k ++ t) := by rw [← List.append_assoc, ← h3]
      have hq2 : takeN (l ++ t) = some (n, k) := by rw [hl, takeN_enc _ _ h1, ← h2]
      have e2 : rNum (l ++ t, false) m = ((n : Int), ((l ++ t).drop k, false)) := by unfold rNum; simp [hq2, hm]
      show rNum (l ++ t, false) m = _
      rw [e1, e2, List.drop_append_of_le_length (by omega)]
      rfl
theorem rText_flag2 (s : List UInt8 × Bool) (m : Int) (h : (rText s m).2.2 = false) : (rNum s m).2.2 = false ∧ ¬ ((rNum s m).2.1.length : Int) < (rNum s m).1 := by
  unfold rText at h
  split at h
  · rename_i hq; rw [hq] at h; cases h
  · rename_i hq
    split at h
    · cases h
    · rename_i hn
      exact ⟨by simpa using hq, hn⟩
theorem rText_add (s : List UInt8 × Bool) (t : List UInt8) (m : Int) (h : (rText s m).2.2 = false) : rText (addS s t) m = ((rText s m).1, addS (rText s m).2 t) := by
  obtain ⟨h1, h2⟩ := rText_flag2 s m h
  have ha := rNum_add s t m h1
  have h0 := (rNum_rng s m).1
  have e1 : rText s m = ((rNum s m).2.1.take (rNum s m).1.toNat, ((rNum s m).2.1.drop (rNum s m).1.toNat, false)) := by
    unfold rText
    rw [if_neg (by rw [h1]; decide), if_neg h2]
  have e2 : rText (addS s t) m = (((rNum s m).2.1 ++ t).take (rNum s m).1.toNat, (((rNum s m).2.1 ++ t).drop (rNum s m).1.toNat, false)) := by
    unfold rText
    rw [if_neg (by rw [ha]; show ¬ (rNum s m).2.2 = true; rw [h1]; decide), if_neg (by rw [ha]; show ¬ (((rNum s m).2.1 ++ t).length : Int) < (rNum s m).1; rw [List.length_append]; omega), ha]
    rfl
  rw [e1, e2, List.take_append_of_le_length (by omega), List.drop_append_of_le_length (by omega)]
  rfl
theorem rSig_flag (s : List UInt8 × Bool) (h : (rSig s).2.2 = false) : s.2 = false := rNum_flag _ _ h
theorem rSig_add (s : List UInt8 × Bool) (t : List UInt8) (h : (rSig s).2.2 = false) : rSig (addS s t) = ((rSig s).1, addS (rSig s).2 t) := by
  have ha := rNum_add s t 2305843009213693952 h
  unfold rSig
  rw [ha]
theorem rdD_add (s : List UInt8 × Bool) (t : List UInt8) (h : (rdD s).2.2 = false) : rdD (addS s t) = ((rdD s).1, addS (rdD s).2 t) := by
  have f2 : (d2 s).2.2 = false := h
  have a1 : d1 (addS s t) = ((d1 s).1, addS (d1 s).2 t) := rNum_add _ _ _ (rNum_flag _ _ f2)
  have a2 : d2 (addS s t) = ((d2 s).1, addS (d2 s).2 t) := by unfold d2; rw [a1]; exact rNum_add _ _ _ f2
  unfold rdD; rw [a1, a2]
theorem rdA_add (s : List UInt8 × Bool) (t : List UInt8) (h : (rdA s).2.2 = false) : rdA (addS s t) = ((rdA s).1, addS (rdA s).2 t) := by
  have f3 : (a3 s).2.2 = false := h
  have f2 : (a2 s).2.2 = false := rNum_flag _ _ (rText_flag _ _ f3)
  have f1 : (a1 s).2.2 = false := rNum_flag _ _ f2
  have b1 : a1 (addS s t) = ((a1 s).1, addS (a1 s).2 t) := rNum_add _ _ _ f1
  have b2 : a2 (addS s t) = ((a2 s).1, addS (a2 s).2 t) := by unfold a2; rw [b1]; exact rSig_add _ _ f2
  have b3 : a3 (addS s t) = ((a3 s).1, addS (a3 s).2 t) := by unfold a3; rw [b2]; exact rText_add _ _ _ f3
  unfold rdA; rw [b1, b2, b3]
theorem rdX_add (s : List UInt8 × Bool) (t : List UInt8) (h : (rdX s).2.2 = false) : rdX (addS s t) = ((rdX s).1, addS (rdX s).2 t) := by
  have f5 : (x5 s).2.2 = false := h
  have f4 : (x4 s).2.2 = false := rNum_flag _ _ (rText_flag _ _ f5)
  have f3 : (x3 s).2.2 = false := rNum_flag _ _ (rText_flag _ _ f4)
  have f2 : (x2 s).2.2 = false := rNum_flag _ _ (rText_flag _ _ f3)
  have f1 : (x1 s).2.2 = false := rNum_flag _ _ (rText_flag _ _ f2)
  have b1 : x1 (addS s t) = ((x1 s).1, addS (x1 s).2 t) := rNum_add _ _ _ f1
  have b2 : x2 (addS s t) = ((x2 s).1, addS (x2 s).2 t) := by unfold x2; rw [b1]; exact rText_add _ _ _ f2
  have b3 : x3 (addS s t) = ((x3 s).1, addS (x3 s).2 t) := by unfold x3; rw [b2]; exact rText_add _ _ _ f3
  have b4 : x4 (addS s t) = ((x4 s).1, addS (x4 s).2 t) := by unfold x4; rw [b3]; exact rText_add _ _ _ f4
  have b5 : x5 (addS s t) = ((x5 s).1, addS (x5 s).2 t) := by unfold x5; rw [b4]; exact rText_add _ _ _ f5
  unfold rdX; rw [b1, b2, b3, b4, b5]
theorem pV_add (s : List UInt8 × Bool) (t : List UInt8) : ∀ k, (pV s k).2.2 = false → pV (addS s t) k = ((pV s k).1, addS (pV s k).2 t)
  | 0, _ => rfl
  | k + 1, h => by
    have hi := pV_add s t k (rNum_flag _ _ h)
    have ha := rNum_add (pV s k).2 t mx h
    show ((fun i => if i = k then (rNum (pV (addS s t) k).2 mx).1 else (pV (addS s t) k).1 i), (rNum (pV (addS s t) k).2 mx).2) = _
    rw [hi]
    dsimp only
    rw [ha]
    rfl
theorem rdF_add (s : List UInt8 × Bool) (t : List UInt8) (h : (rdF s).2.2 = false) : rdF (addS s t) = ((rdF s).1, addS (rdF s).2 t) := pV_add s t 16 h
theorem rdN_add (s : List UInt8 × Bool) (t : List UInt8) (h : (rdN s).2.2 = false) : rdN (addS s t) = ((rdN s).1, addS (rdN s).2 t) := by
  have f2 : (rdA (rdD s).2).2.2 = false := h
  have b1 := rdD_add s t (rdA_flag _ f2)
  have b2 : rdA (rdD (addS s t)).2 = ((rdA (rdD s).2).1, addS (rdA (rdD s).2).2 t) := by rw [b1]; exact rdA_add _ _ f2
  unfold rdN; rw [b2, b1]
theorem rowGo_add {α : Type} (rd : List UInt8 × Bool → α × (List UInt8 × Bool)) (hrd : ∀ s t, (rd s).2.2 = false → rd (addS s t) = ((rd s).1, addS (rd s).2 t)) (t : List UInt8) : ∀ (n : Nat) (s : List UInt8 × Bool) (acc : List α), (rowGo rd n s acc).2.2 = false → rowGo rd n (addS s t) acc = ((rowGo rd n s acc).1, addS (rowGo rd n s acc).2 t)
  | 0, s, acc, _ => rfl
  | n + 1, s, acc, h => by
    unfold rowGo at h ⊢
    by_cases hf : (rd s).2.2 = true
    · rw [if_pos hf] at h; rw [hf] at h; cases h
    · rw [if_neg hf] at h ⊢
      have hf' : (rd s).2.2 = false := by simpa using hf
      rw [hrd s t hf']
      dsimp only
      rw [if_neg (by show ¬ (rd s).2.2 = true; exact hf)]
      exact rowGo_add rd hrd t n _ _ h
theorem rowR_add {α : Type} (rd : List UInt8 × Bool → α × (List UInt8 × Bool)) (hrd : ∀ s t, (rd s).2.2 = false → rd (addS s t) = ((rd s).1, addS (rd s).2 t)) (hfl : ∀ s, (rd s).2.2 = false → s.2 = false) (s : List UInt8 × Bool) (t : List UInt8) (h : (rowR rd s).2.2 = false) : rowR rd (addS s t) = ((rowR rd s).1, addS (rowR rd s).2 t) := by
  have h1 : (rNum s mx).2.2 = false := rowGo_flag rd hfl _ _ _ h
  unfold rowR
  rw [rNum_add s t mx h1]
  exact rowGo_add rd hrd t _ _ _ h
theorem rdI_flag (s : List UInt8 × Bool) (h : (rdI s).2.2 = false) : s.2 = false := rNum_flag _ _ (rdX_flag _ (rowN_flag _ h))
theorem rdI_add (s : List UInt8 × Bool) (t : List UInt8) (h : (rdI s).2.2 = false) : rdI (addS s t) = ((rdI s).1, addS (rdI s).2 t) := by
  have f2 : (rowR rdN (rdX s).2).2.2 = false := h
  have b1 := rdX_add s t (rowN_flag _ f2)
  have b2 : rowR rdN (rdX (addS s t)).2 = ((rowR rdN (rdX s).2).1, addS (rowR rdN (rdX s).2).2 t) := by rw [b1]; exact rowR_add rdN rdN_add rdN_flag _ _ f2
  unfold rdI; rw [b2, b1]
theorem rdEv_flag (s : List UInt8 × Bool) (h : (rdEv s).2.2 = false) : s.2 = false := rdD_flag _ (rdF_flag _ (rNum_flag _ _ (rNum_flag _ _ (rdX_flag _ (rdA_flag _ h)))))
theorem rdEv_add (s : List UInt8 × Bool) (t : List UInt8) (h : (rdEv s).2.2 = false) : rdEv (addS s t) = ((rdEv s).1, addS (rdEv s).2 t) := by
  have fA : (rdA (rdX (e3 s).2).2).2.2 = false := h
  have fX : (rdX (e3 s).2).2.2 = false := rdA_flag _ fA
  have f3 : (e3 s).2.2 = false := rNum_flag _ _ (rdX_flag _ fX)
  have fF : (rdF (rdD s).2).2.2 = false := rNum_flag _ _ f3
  have fD : (rdD s).2.2 = false := rdF_flag _ fF
  have b1 := rdD_add s t fD
  have b2 : rdF (rdD (addS s t)).2 = ((rdF (rdD s).2).1, addS (rdF (rdD s).2).2 t) := by rw [b1]; exact rdF_add _ _ fF
  have b3 : e3 (addS s t) = ((e3 s).1, addS (e3 s).2 t) := by unfold e3; rw [b2]; exact rNum_add _ _ _ f3
  have b4 : rdX (e3 (addS s t)).2 = ((rdX (e3 s).2).1, addS (rdX (e3 s).2).2 t) := by rw [b3]; exact rdX_add _ _ fX
  have b5 : rdA (rdX (e3 (addS s t)).2).2 = ((rdA (rdX (e3 s).2).2).1, addS (rdA (rdX (e3 s).2).2).2 t) := by rw [b4]; exact rdA_add _ _ fA
  unfold rdEv; rw [b5, b4, b3, b2, b1]
/-- What is read of bytes with more behind. -/
theorem sE_add (l t : List UInt8) (h : (sE l).2.2 = false) : sF (l ++ t) = ((sF l).1, addS (sF l).2 t) ∧ sI (l ++ t) = ((sI l).1, addS (sI l).2 t) ∧ sE (l ++ t) = ((sE l).1, addS (sE l).2 t) := by
  have f2 : (sI l).2.2 = false := rNum_flag _ _ (rowGo_flag rdEv rdEv_flag _ _ _ h)
  have f1 : (sF l).2.2 = false := rNum_flag _ _ (rowGo_flag rdI rdI_flag _ _ _ f2)
  have b1 : sF (l ++ t) = ((sF l).1, addS (sF l).2 t) := rdF_add (l, false) t f1
  have b2 : sI (l ++ t) = ((sI l).1, addS (sI l).2 t) := by unfold sI; rw [b1]; exact rowR_add rdI rdI_add rdI_flag _ _ f2
  have b3 : sE (l ++ t) = ((sE l).1, addS (sE l).2 t) := by unfold sE; rw [b2]; exact rowR_add rdEv rdEv_add rdEv_flag _ _ h
  exact ⟨b1, b2, b3⟩
/-- Bytes that are read to their end: with more behind they are not; nor is a part of them. -/
theorem done_more (l t : List UInt8) (h : (sE l).2 = ([], false)) (ht : t ≠ []) : rDone (sE (l ++ t)).2 = false := by
  obtain ⟨_, _, b3⟩ := sE_add l t (by rw [h])
  rw [b3, h]
  unfold addS rDone
  cases t with
  | nil => exact absurd rfl ht
  | cons a t => rfl
theorem done_part (l : List UInt8) (h : (sE l).2 = ([], false)) (k : Nat) (hk : k < l.length) : rDone (sE (l.take k)).2 = false := by
  cases hd : rDone (sE (l.take k)).2 with
  | false => rfl
  | true =>
    exfalso
    unfold rDone at hd
    simp only [Bool.and_eq_true, Bool.not_eq_true', List.isEmpty_iff] at hd
    have h1 : (sE (l.take k)).2 = ([], false) := Prod.ext hd.2 hd.1
    have h2 := done_more (l.take k) (l.drop k) h1 (by intro e; have := congrArg List.length e; simp at this; omega)
    rw [List.take_append_drop, h] at h2
    cases h2

end Go.Proofs.YtejljikikhecnaaGreat
