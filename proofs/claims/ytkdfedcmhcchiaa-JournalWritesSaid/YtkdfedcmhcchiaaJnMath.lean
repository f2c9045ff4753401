/-
  Records as frames: what is read of bytes, of part of them, of those of which a byte is turned. Plain mathematics. Conditions: none.
-/
import Derived.Test.YtkdfedcmhcchiaaFrCutMath
namespace Go.Proofs.Ytkdfedcmhcchiaa

/-- A record's payload: its kind, and what it has. -/
def payJ (r : UInt8 × List UInt8) : List UInt8 := r.1 :: r.2
/-- The records of payloads: as far as none is empty. -/
def recsJ : List (List UInt8) → List (UInt8 × List UInt8)
  | [] => []
  | [] :: _ => []
  | (x :: t) :: ps => (x, t) :: recsJ ps
/-- What is wrong then. -/
def errJ : List (List UInt8) → Nat → Nat
  | [], e => e
  | [] :: _, e => if e = 0 then 2 else e
  | (_ :: _) :: ps, e => errJ ps e
/-- What Read tells of bytes. -/
def readJ (b : List UInt8) : List (UInt8 × List UInt8) × Nat := (recsJ (allF b).1, errJ (allF b).1 (allF b).2.2)
/-- How many bytes records have. -/
def sizeJ (rs : List (UInt8 × List UInt8)) : Nat := (framesB (rs.map payJ)).length

theorem recsJ_pay (rs : List (UInt8 × List UInt8)) (e : Nat) : recsJ (rs.map payJ) = rs ∧ errJ (rs.map payJ) e = e := by
  induction rs with
  | nil => exact ⟨rfl, rfl⟩
  | cons r rs ih => exact ⟨by simp only [List.map_cons, payJ, recsJ]; rw [ih.1], by simp only [List.map_cons, payJ, errJ]; exact ih.2⟩
theorem recsJ_split (ps : List (List UInt8)) (e : Nat) : ((recsJ ps).map payJ = ps ∧ errJ ps e = e) ∨ ((∃ q, ps = (recsJ ps).map payJ ++ q) ∧ errJ ps e ≠ 0) := by
  induction ps with
  | nil => exact .inl ⟨rfl, rfl⟩
  | cons p ps ih =>
    cases p with
    | nil =>
      right
      refine ⟨⟨[] :: ps, rfl⟩, ?_⟩
      simp only [errJ]
      split
      · decide
      · assumption
    | cons x t =>
      rcases ih with ⟨h1, h2⟩ | ⟨⟨q, h1⟩, h2⟩
      · exact .inl ⟨by simp only [recsJ, List.map_cons, payJ]; rw [h1], h2⟩
      · exact .inr ⟨⟨q, by simp only [recsJ, List.map_cons, payJ, List.cons_append]; rw [← h1]⟩, h2⟩
theorem recsJ_prefix (ps : List (List UInt8)) : ∃ q, ps = (recsJ ps).map payJ ++ q := by
  rcases recsJ_split ps 0 with ⟨h, _⟩ | ⟨h, _⟩
  · exact ⟨[], by rw [h, List.append_nil]⟩
  · exact h
theorem framesB_append (l m : List (List UInt8)) : framesB (l ++ m) = framesB l ++ framesB m := by unfold framesB; exact List.flatMap_append

/-- What is taken is a frame, whole. -/
theorem takeF_sound (b : List UInt8) (h : (takeF b).2.2 = 0) : b.take (takeF b).2.1 = frameB (takeF b).1 ∧ (takeF b).1.length ≤ 1048576 := by
  unfold takeF at h ⊢
  split at h
  · cases h
  · split at h
    · cases h
    · split at h
      · cases h
      · split at h
        · cases h
        · split at h
          · cases h
          · rename_i h1 h2 h3 h4 h5
            rw [if_neg h1, if_neg h2, if_neg h3, if_neg h4, if_neg h5]
            simp only
            have h2 := Classical.not_not.1 h2
            have h5 := Classical.not_not.1 h5
            have hl : ((b.drop 4).take (lenB b)).length = lenB b := by rw [List.length_take, List.length_drop]; omega
            refine ⟨?_, by rw [hl]; omega⟩
            unfold frameB
            rw [hl, h2, h5, show lenB b + 8 = 4 + (lenB b + 4) from by omega, List.take_add, List.append_assoc]
            congr 1
            rw [List.take_add, List.drop_drop, show 4 + lenB b = lenB b + 4 from by omega]
/-- More behind changes nothing. -/
theorem takeF_mono (c u : List UInt8) (h : (takeF c).2.2 = 0) : (takeF (c ++ u)).2.2 = 0 := by
  obtain ⟨h1, h2⟩ := takeF_sound c h
  have e : c ++ u = frameB (takeF c).1 ++ (c.drop (takeF c).2.1 ++ u) := by rw [← h1, ← List.append_assoc, List.take_append_drop]
  rw [e, takeF_frame _ _ h2]

/-- All that is told is there, one behind the other. -/
theorem allF_sound : ∀ (n : Nat) (b : List UInt8), b.length ≤ n → framesB (allF b).1 = b.take (allF b).2.1 ∧ (allF b).2.1 ≤ b.length ∧ (∀ p ∈ (allF b).1, p.length ≤ 1048576) ∧ ((allF b).2.2 = 0 → (allF b).2.1 = b.length)
  | n, b, hn => by
    by_cases h0 : b = []
    · subst h0
      rw [allF_nil]
      exact ⟨rfl, Nat.le_refl _, (fun p hp => by cases hp), fun _ => rfl⟩
    · by_cases he : (takeF b).2.2 = 0
      · obtain ⟨h1, h2⟩ := takeF_sound b he
        have hs := takeF_size b he
        cases n with
        | zero => exact absurd (List.eq_nil_of_length_eq_zero (by omega)) h0
        | succ n =>
          obtain ⟨i1, i2, i3, i4⟩ := allF_sound n (b.drop (takeF b).2.1) (by rw [List.length_drop]; omega)
          rw [List.length_drop] at i2 i4
          rw [allF_cons b h0 he]
          refine ⟨?_, by simp only; omega, fun p hp => ?_, fun h => by have := i4 h; simp only; omega⟩
          · have e : framesB ((takeF b).1 :: (allF (b.drop (takeF b).2.1)).1) = frameB (takeF b).1 ++ framesB (allF (b.drop (takeF b).2.1)).1 := by simp [framesB]
            simp only [e]
            rw [i1, ← h1, List.take_add]
          · rcases List.mem_cons.1 hp with rfl | hp
            · exact h2
            · exact i3 p hp
      · rw [allF_err b h0 he]
        exact ⟨by simp [framesB], Nat.zero_le _, (fun p hp => by cases hp), fun h => absurd h he⟩

/-- What is read of bytes stands at their front. -/
theorem readJ_front (b : List UInt8) : sizeJ (readJ b).1 ≤ b.length ∧ b.take (sizeJ (readJ b).1) = framesB ((readJ b).1.map payJ) ∧ (∀ p ∈ (readJ b).1.map payJ, p.length ≤ 1048576) ∧ ((readJ b).2 = 0 → sizeJ (readJ b).1 = b.length) := by
  obtain ⟨h1, h2, h3, h4⟩ := allF_sound b.length b (Nat.le_refl _)
  obtain ⟨q, hq⟩ := recsJ_prefix (allF b).1
  have hf : framesB (allF b).1 = framesB ((readJ b).1.map payJ) ++ framesB q := by rw [← framesB_append]; exact congrArg framesB hq
  have hb : b = framesB ((readJ b).1.map payJ) ++ (framesB q ++ b.drop (allF b).2.1) := by
    rw [← List.append_assoc, ← hf, h1, List.take_append_drop]
  have hsz : sizeJ (readJ b).1 = (framesB ((readJ b).1.map payJ)).length := rfl
  refine ⟨?_, ?_, fun p hp => h3 p ?_, fun h => ?_⟩
  · rw [hsz]
    have := congrArg List.length hb
    rw [List.length_append] at this
    omega
  · rw [hsz]
    exact (congrArg (List.take _) hb).trans (by rw [List.take_left])
  · rw [hq]; exact List.mem_append_left _ hp
  · rcases recsJ_split (allF b).1 (allF b).2.2 with ⟨e1, e2⟩ | ⟨_, e2⟩
    · have e3 : (allF b).2.2 = 0 := e2.symm.trans h
      have e4 := h4 e3
      have e5 : (readJ b).1.map payJ = (allF b).1 := e1
      rw [hsz, e5, h1, e4, List.take_length]
    · exact absurd h e2
/-- Records that were laid are read. -/
theorem readJ_laid (rs : List (UInt8 × List UInt8)) (h : ∀ p ∈ rs.map payJ, p.length ≤ 1048576) : readJ (framesB (rs.map payJ)) = (rs, 0) := by
  unfold readJ
  rw [allF_whole _ h]
  simp only [(recsJ_pay rs 0).1, (recsJ_pay rs 0).2]
/-- A part of them, and whatever stands behind it of which no frame is taken. -/
theorem readJ_part (rs : List (UInt8 × List UInt8)) (t : List UInt8) (h : ∀ p ∈ rs.map payJ, p.length ≤ 1048576) (h0 : t ≠ []) (he : (takeF t).2.2 ≠ 0) : readJ (framesB (rs.map payJ) ++ t) = (rs, (takeF t).2.2) := by
  unfold readJ
  rw [allF_frames _ _ h, allF_err t h0 he]
  simp only [List.append_nil, (recsJ_pay rs (takeF t).2.2).1, (recsJ_pay rs (takeF t).2.2).2]

/-- Where the records' parts end. -/
theorem endL_mono (l : List (List UInt8)) {a b : Nat} (h : a ≤ b) : endL l a ≤ endL l b := by
  have e : l.take b = l.take a ++ (l.take b).drop a := by
    conv => lhs; rw [← List.take_append_drop a (l.take b)]
    rw [List.take_take, Nat.min_eq_left h]
  unfold endL
  rw [e, framesB_append, List.length_append]
  omega
theorem find_end (l : List (List UInt8)) (n : Nat) : ∀ m : Nat, m ≤ l.length → endL l m ≤ n ∨ ∃ k, k < m ∧ endL l k ≤ n ∧ n < endL l (k + 1)
  | 0, _ => .inl (by rw [endL_zero]; omega)
  | m + 1, hm => by
    rcases find_end l n m (by omega) with h | ⟨k, h1, h2, h3⟩
    · by_cases h2 : endL l (m + 1) ≤ n
      · exact .inl h2
      · exact .inr ⟨m, by omega, h, by omega⟩
    · exact .inr ⟨k, by omega, h2, h3⟩

/-- BEHIND A CRASH: of records that were laid n bytes are left, all those ahead of place a as they were: what is read is some of the first, all that end at place a or ahead of it. -/
theorem crash_read (rs : List (UInt8 × List UInt8)) (hl : ∀ p ∈ rs.map payJ, p.length ≤ 1048576) (n j : Nat) (x : UInt8) (hn : n ≤ sizeJ rs) (s : Nat) (hs : s ≤ n) (hj : x ≠ 0 → s ≤ j ∧ j < n) :
    ∃ k, k ≤ rs.length ∧ (readJ ((if x = 0 then framesB (rs.map payJ) else tb (framesB (rs.map payJ)) j x).take n)).1 = rs.take k ∧ (∀ m, m ≤ rs.length → endL (rs.map payJ) m ≤ s → m ≤ k) ∧ endL (rs.map payJ) k ≤ n ∧
      ((if x = 0 then framesB (rs.map payJ) else tb (framesB (rs.map payJ)) j x).take n).take (endL (rs.map payJ) k) = framesB ((rs.take k).map payJ) := by
  obtain ⟨ps, hps⟩ : ∃ ps, ps = rs.map payJ := ⟨_, rfl⟩
  have hpl : ps.length = rs.length := by rw [hps, List.length_map]
  have htk : ∀ k, ps.take k = (rs.take k).map payJ := fun k => by rw [hps, List.map_take]
  have hle : ∀ k, k < rs.length → endL ps k < endL ps (k + 1) := fun k hk => by rw [endL_succ ps k (by omega)]; omega
  have hsz : sizeJ rs = (framesB ps).length := by rw [hps]; rfl
  rw [← hps] at hl ⊢
  rw [hsz] at hn
  have hk_of : ∀ k, k ≤ rs.length → (∀ m, m ≤ rs.length → endL ps m ≤ s → s < endL ps (k + 1) → m ≤ k) := by
    intro k _ m _ h1 h2
    rcases Nat.lt_or_ge k m with h | h
    · have := endL_mono ps (show k + 1 ≤ m from h); omega
    · exact h
  by_cases hx : x = 0
  · rw [if_pos hx]
    obtain ⟨k, hk, h1, h2⟩ : ∃ k, k ≤ ps.length ∧ endL ps k ≤ n ∧ (k < ps.length → n < endL ps (k + 1)) := by
      rcases find_end ps n ps.length (Nat.le_refl _) with h | ⟨k, h1, h2, h3⟩
      · exact ⟨_, Nat.le_refl _, h, fun h => absurd h (Nat.lt_irrefl _)⟩
      · exact ⟨k, by omega, h2, fun _ => h3⟩
    obtain ⟨e, he, _⟩ := cut_all ps hl n k hk hn h1 h2
    refine ⟨k, by omega, ?_, fun m hm hms => ?_, h1, ?_⟩
    · unfold readJ
      rw [he, htk]
      exact (recsJ_pay _ e).1
    · by_cases hkl : k < ps.length
      · exact hk_of k (by omega) m hm hms (by have := h2 hkl; omega)
      · omega
    · rw [List.take_take, Nat.min_eq_left h1, endL_split ps k]
      unfold endL
      rw [List.take_left, htk]
  · rw [if_neg hx]
    obtain ⟨hsj, hjn⟩ := hj hx
    obtain ⟨k, hk, h1, h2⟩ : ∃ k, k < ps.length ∧ endL ps k ≤ j ∧ j < endL ps (k + 1) := by
      rcases find_end ps j ps.length (Nat.le_refl _) with h | ⟨k, h1, h2, h3⟩
      · rw [endL_all] at h; omega
      · exact ⟨k, h1, h2, h3⟩
    obtain ⟨r, rfl⟩ : ∃ r, j = (framesB (ps.take k)).length + r := ⟨j - endL ps k, by unfold endL at h1 ⊢; omega⟩
    have hd : ps.drop k = ps[k] :: ps.drop (k + 1) := List.drop_eq_getElem_cons hk
    have hrl : r < ps[k].length + 8 := by rw [endL_succ ps k hk] at h2; unfold endL at h2; omega
    have hpk := hl ps[k] (List.getElem_mem hk)
    have hf : framesB (ps.drop k) = frameB ps[k] ++ framesB (ps.drop (k + 1)) := by unfold framesB; rw [hd, List.flatMap_cons]
    have ht := takeF_turned ps[k] (framesB (ps.drop (k + 1))) hpk r hrl x hx
    obtain ⟨m, hm⟩ : ∃ m, n = (framesB (ps.take k)).length + m := ⟨n - endL ps k, by unfold endL at h1 ⊢; omega⟩
    have hm0 : r < m := by omega
    have hB : (tb (framesB ps) ((framesB (ps.take k)).length + r) x).take n = framesB (ps.take k) ++ (tb (frameB ps[k] ++ framesB (ps.drop (k + 1))) r x).take m := by
      rw [endL_split ps k, tb_right, hf, hm, List.take_length_add_append]
    have hlen : r < (tb (frameB ps[k] ++ framesB (ps.drop (k + 1))) r x).length := by rw [tb_length, List.length_append, frameB_length]; omega
    have hne : (tb (frameB ps[k] ++ framesB (ps.drop (k + 1))) r x).take m ≠ [] := by
      intro e
      have := congrArg List.length e
      rw [List.length_take, List.length_nil] at this
      omega
    have her : (takeF ((tb (frameB ps[k] ++ framesB (ps.drop (k + 1))) r x).take m)).2.2 ≠ 0 := by
      intro e
      have := takeF_mono _ ((tb (frameB ps[k] ++ framesB (ps.drop (k + 1))) r x).drop m) e
      rw [List.take_append_drop, ht] at this
      cases this
    rw [hB, htk]
    have hlk : ∀ p ∈ (rs.take k).map payJ, p.length ≤ 1048576 := fun p hp => hl p (List.mem_of_mem_take (by rw [htk]; exact hp))
    refine ⟨k, by omega, ?_, fun m' hm' hms => hk_of k (by omega) m' hm' hms (by unfold endL at h2 ⊢; omega), ?_, ?_⟩
    · rw [readJ_part _ _ hlk hne her]
    · unfold endL; omega
    · unfold endL
      rw [htk, List.take_left]
/-- A byte that is turned is told. -/
theorem spoilt_read (rs : List (UInt8 × List UInt8)) (hl : ∀ p ∈ rs.map payJ, p.length ≤ 1048576) (j : Nat) (x : UInt8) (hj : j < sizeJ rs) (hx : x ≠ 0) : sizeJ (readJ (tb (framesB (rs.map payJ)) j x)).1 < sizeJ rs ∧ (readJ (tb (framesB (rs.map payJ)) j x)).2 = 7 := by
  obtain ⟨ps, hps⟩ : ∃ ps, ps = rs.map payJ := ⟨_, rfl⟩
  have hsz : sizeJ rs = (framesB ps).length := by rw [hps]; rfl
  have htk : ∀ k, ps.take k = (rs.take k).map payJ := fun k => by rw [hps, List.map_take]
  rw [← hps] at hl ⊢
  rw [hsz] at hj ⊢
  obtain ⟨k, hk, h1, h2⟩ : ∃ k, k < ps.length ∧ endL ps k ≤ j ∧ j < endL ps (k + 1) := by
    rcases find_end ps j ps.length (Nat.le_refl _) with h | ⟨k, h1, h2, h3⟩
    · rw [endL_all] at h; omega
    · exact ⟨k, h1, h2, h3⟩
  have e := turned_all ps hl j k hk h1 h2 x hx
  unfold readJ
  rw [e, htk]
  simp only [(recsJ_pay (rs.take k) 7).1, (recsJ_pay (rs.take k) 7).2, and_true]
  unfold sizeJ
  rw [← htk]
  exact Nat.lt_of_le_of_lt h1 hj

end Go.Proofs.Ytkdfedcmhcchiaa
