/-
  What Missing's dots are to the vectors: mathematics for hedgerowlaw05.VectorMissing. Conditions: none.
-/
import Derived.Test.YtcgbiikphcgoaaaVecSums
namespace Go.Proofs.Ytcgbiikphcgoaaa
open Go.RowKit

/-- Numbers that may be. -/
def OkV (f : Nat → Int) (n : Nat) : Prop := ∀ i, i < n → 0 ≤ f i ∧ f i ≤ 1048576
theorem dotsTo_congr {f g f' g' : Nat → Int} (n : Nat) (hf : ∀ i, i < n → f i = f' i) (hg : ∀ i, i < n → g i = g' i) : dotsTo f g n = dotsTo f' g' n := by
  induction n with
  | zero => rfl
  | succ n ih =>
    rw [dotsTo_succ, dotsTo_succ, ih (fun i hi => hf i (by omega)) (fun i hi => hg i (by omega)), hf n (by omega), hg n (by omega)]
theorem miss_ok (f g : Nat → Int) (hf : OkV f 16) (hg : OkV g 16) : missV f g = (dotsTo f g 16).take 4096 := by
  unfold missV
  rw [dotsTo_congr (f' := f) (g' := g) 16 (fun i hi => by have := hf i hi; unfold clampV; omega) (fun i hi => by have := hg i hi; unfold clampV; omega)]
theorem dots_length (f g : Nat → Int) (n : Nat) : (dotsTo f g (n + 1)).length = (dotsTo f g n).length + (g n - f n).toNat := by
  rw [dotsTo_succ, List.length_append, rowD_length]
theorem dots_bound (f g : Nat → Int) (n : Nat) (hf : OkV f n) (hg : OkV g n) : (dotsTo f g n).length ≤ 1048576 * n := by
  induction n with
  | zero => simp [dotsTo]
  | succ n ih =>
    have := ih (fun i hi => hf i (by omega)) (fun i hi => hg i (by omega))
    have := hf n (by omega); have := hg n (by omega)
    rw [dots_length]; omega
/-- The vector that knows the dots of the first k replicas, and j of the next one's. -/
def vS (f g : Nat → Int) (k j q : Nat) : Int := if q < k then max (f q) (g q) else if q = k then f k + j else f q
/-- The vector behind dots. -/
def vF (f : Nat → Int) (l : List (Nat × Int)) : Nat → Int := l.foldl (fun v d => addV v d.1 d.2) f
theorem vF_snoc (f : Nat → Int) (l : List (Nat × Int)) (d : Nat × Int) : vF f (l ++ [d]) = addV (vF f l) d.1 d.2 := by simp [vF]
theorem addV_congr {f g : Nat → Int} {n : Nat} (r c : Int) (h : ∀ q, q < n → f q = g q) : ∀ q, q < n → addV f r c q = addV g r c q := by
  intro q hq; unfold addV; rw [h q hq]
theorem vF_at (f g : Nat → Int) (hf : OkV f 16) (hg : OkV g 16) (k : Nat) (hk : k ≤ 16) : ∀ j, (k = 16 → j = 0) → (k < 16 → j ≤ (g k - f k).toNat) → ∀ q, q < 16 → vF f (dotsTo f g k ++ rowD k (f k) j) q = vS f g k j q := by
  induction k with
  | zero =>
    intro j
    induction j with
    | zero =>
      intro _ _ q hq
      have e : dotsTo f g 0 ++ rowD 0 (f 0) 0 = [] := by simp [dotsTo, rowD]
      rw [e]
      show f q = _
      unfold vS
      by_cases h : q = 0
      · subst h; simp
      · rw [if_neg (by omega), if_neg h]
    | succ j ih =>
      intro _ hj q hq
      have hj' := hj (by omega)
      have h0 := hf 0 (by omega); have h1 := hg 0 (by omega)
      rw [rowD_succ, ← List.append_assoc, vF_snoc, addV_congr _ _ (ih (by omega) (fun _ => by omega)) q hq]
      have hd : dotB ((0 : Nat) : Int) (f 0 + 1 + j) = true := (dotB_iff _ _).2 ⟨0, rfl, by omega, by omega, by omega⟩
      unfold addV
      dsimp only
      by_cases e : q = 0
      · subst e
        rw [if_pos ⟨hd, rfl⟩]
        unfold vS
        rw [if_neg (by omega), if_pos rfl, if_neg (by omega), if_pos rfl]
        omega
      · rw [if_neg (fun h => e (by omega))]
        unfold vS
        rw [if_neg (by omega), if_neg e, if_neg (by omega), if_neg e]
  | succ k ihk =>
    intro j
    induction j with
    | zero =>
      intro _ _ q hq
      have hk0 := hf k (by omega); have hk1 := hg k (by omega)
      have e : dotsTo f g (k + 1) ++ rowD (k + 1) (f (k + 1)) 0 = dotsTo f g k ++ rowD k (f k) (g k - f k).toNat := by
        rw [dotsTo_succ]; simp [rowD]
      rw [e, ihk (by omega) _ (by omega) (fun _ => Nat.le_refl _) q hq]
      unfold vS
      by_cases h1 : q < k
      · rw [if_pos h1, if_pos (by omega)]
      · by_cases h2 : q = k
        · subst h2
          rw [if_neg h1, if_pos rfl, if_pos (by omega)]
          omega
        · by_cases h3 : q = k + 1
          · subst h3
            rw [if_neg h1, if_neg h2, if_neg (by omega), if_pos rfl]
            omega
          · rw [if_neg h1, if_neg h2, if_neg (by omega), if_neg h3]
    | succ j ih =>
      intro hk16 hj q hq
      have hkk : k + 1 < 16 := by
        by_cases e : k + 1 = 16
        · have := hk16 e; omega
        · omega
      have hj' := hj hkk
      have h0 := hf (k + 1) hkk; have h1 := hg (k + 1) hkk
      rw [rowD_succ, ← List.append_assoc, vF_snoc, addV_congr _ _ (ih (by omega) (fun _ => by omega)) q hq]
      have hd : dotB ((k + 1 : Nat) : Int) (f (k + 1) + 1 + j) = true := (dotB_iff _ _).2 ⟨k + 1, rfl, hkk, by omega, by omega⟩
      unfold addV
      dsimp only
      by_cases e : q = k + 1
      · subst e
        rw [if_pos ⟨hd, rfl⟩]
        unfold vS
        rw [if_neg (by omega), if_pos rfl, if_neg (by omega), if_pos rfl]
        omega
      · rw [if_neg (fun h => e (by omega))]
        unfold vS
        by_cases h3 : q < k + 1
        · rw [if_pos h3, if_pos h3]
        · rw [if_neg h3, if_neg e, if_neg h3, if_neg e]
/-- Each dot's place. -/
theorem dots_place (f g : Nat → Int) (n : Nat) : ∀ i, i < (dotsTo f g n).length → ∃ k j, k < n ∧ j < (g k - f k).toNat ∧ (dotsTo f g n).take i = dotsTo f g k ++ rowD k (f k) j ∧ (dotsTo f g n)[i]? = some (k, f k + 1 + j) := by
  induction n with
  | zero => intro i hi; simp [dotsTo] at hi
  | succ n ih =>
    intro i hi
    by_cases h : i < (dotsTo f g n).length
    · obtain ⟨k, j, h1, h2, h3, h4⟩ := ih i h
      refine ⟨k, j, by omega, h2, ?_, ?_⟩
      · rw [dotsTo_succ, List.take_append_of_le_length (by omega)]; exact h3
      · rw [dotsTo_succ, List.getElem?_append_left h]; exact h4
    · rw [dots_length] at hi
      refine ⟨n, i - (dotsTo f g n).length, by omega, by omega, ?_, ?_⟩
      · rw [dotsTo_succ, List.take_append, List.take_of_length_le (by omega)]
        congr 1
        simp only [rowD, ← List.map_take, List.take_range]
        congr 2
        omega
      · rw [dotsTo_succ, List.getElem?_append_right (by omega)]
        have : i - (dotsTo f g n).length < (g n - f n).toNat := by omega
        simp [rowD, this]
/-- No replica falls. -/
theorem dots_rise (f g : Nat → Int) (n : Nat) : (∀ d ∈ dotsTo f g n, d.1 < n) ∧ (dotsTo f g n).Pairwise fun a b => a.1 ≤ b.1 := by
  induction n with
  | zero => simp [dotsTo]
  | succ n ih =>
    rw [dotsTo_succ]
    have hr : ∀ d ∈ rowD n (f n) (g n - f n).toNat, d.1 = n := by
      intro d hd
      simp only [rowD, List.mem_map] at hd
      obtain ⟨x, _, rfl⟩ := hd
      rfl
    refine ⟨fun d hd => ?_, List.pairwise_append.2 ⟨ih.2, ?_, fun a ha b hb => ?_⟩⟩
    · rcases List.mem_append.1 hd with h | h
      · have := ih.1 d h; omega
      · have := hr d h; omega
    · rw [List.pairwise_iff_getElem]
      intro i j hi hj _
      rw [hr _ (List.getElem_mem hi), hr _ (List.getElem_mem hj)]
      exact Nat.le_refl _
    · have := ih.1 a ha; have := hr b hb; omega
theorem dots_prev (f g : Nat → Int) (i : Nat) (d e : Nat × Int) (h1 : (dotsTo f g 16)[i]? = some d) (h2 : (dotsTo f g 16)[i + 1]? = some e) : d.1 ≤ e.1 := by
  obtain ⟨hi, rfl⟩ := List.getElem?_eq_some_iff.1 h1
  obtain ⟨hj, rfl⟩ := List.getElem?_eq_some_iff.1 h2
  exact (List.pairwise_iff_getElem.1 (dots_rise f g 16).2) i (i + 1) hi hj (by omega)
/-- What is asked of each dot. -/
theorem dot_asked (f g : Nat → Int) (hf : OkV f 16) (hg : OkV g 16) (i : Nat) (hi : i < (dotsTo f g 16).length) :
    ∃ (k : Nat) (c : Int), (dotsTo f g 16)[i]? = some (k, c) ∧ nextB (vF f ((dotsTo f g 16).take i)) k c = true ∧ knowsB g k c = true := by
  obtain ⟨k, j, h1, h2, h3, h4⟩ := dots_place f g 16 i hi
  have h0 := hf k h1; have hh := hg k h1
  have hd : dotB (k : Int) (f k + 1 + j) = true := (dotB_iff _ _).2 ⟨k, rfl, h1, by omega, by omega⟩
  refine ⟨k, f k + 1 + j, h4, ?_, ?_⟩
  · unfold nextB
    rw [hd, h3, Int.toNat_natCast, vF_at f g hf hg k (by omega) j (by omega) (fun _ => by omega) k h1]
    unfold vS
    rw [if_neg (by omega), if_pos rfl]
    simp; omega
  · unfold knowsB
    rw [hd, Int.toNat_natCast]
    simp; omega
theorem all_known (f g : Nat → Int) (hf : OkV f 16) (hg : OkV g 16) : eqV (vF f (dotsTo f g 16)) (joinV f g) = true := by
  rw [eqV_iff]
  intro q hq
  have e : dotsTo f g 16 = dotsTo f g 16 ++ rowD 16 (f 16) 0 := by simp [rowD]
  rw [e, vF_at f g hf hg 16 (Nat.le_refl _) 0 (fun _ => rfl) (fun h => by omega) q hq]
  unfold vS joinV
  rw [if_pos hq]

end Go.Proofs.Ytcgbiikphcgoaaa
