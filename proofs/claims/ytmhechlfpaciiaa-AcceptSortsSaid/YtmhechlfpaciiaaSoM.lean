/-
  A STABLE SORT's PARTS, AS PLAIN MATHEMATICS: exchanging parts of a row, turning them round, laying one into a sorted row, merging two sorted rows, blocks of sorted rows. Nothing of the program.
-/
import Derived.Sort.LotA
namespace Go.Proofs.Ytmhechlfpaciiaa.So
open Go.Sort
variable {α : Type} [Inhabited α] {lt : α → α → Bool}

/-! ### Parts exchanged -/
structure SwapR (a b n : Nat) (d d' : Array α) : Prop where
  size : d'.size = d.size
  left : ∀ t, t < n → d'[a + t]! = d[b + t]!
  right : ∀ t, t < n → d'[b + t]! = d[a + t]!
  other : ∀ k, (k < a ∨ a + n ≤ k) → (k < b ∨ b + n ≤ k) → d'[k]! = d[k]!
  perm : ∀ lo hi, lo ≤ a → b + n ≤ hi → hi ≤ d.size → PermIn lo hi d d'
theorem SwapR.start (a b : Nat) (d : Array α) : SwapR a b 0 d d := ⟨rfl, fun t h => by omega, fun t h => by omega, fun _ _ _ => rfl, fun lo hi _ _ _ => permIn_refl d lo hi⟩
theorem SwapR.step {a b n : Nat} {d d' : Array α} (h : SwapR a b n d d') (hab : a + (n + 1) ≤ b) (hb : b + n < d.size) : SwapR a b (n + 1) d (swp d' (a + n) (b + n)) := by
  have s := h.size
  have g := swp_get d' (show a + n < d'.size by omega) (show b + n < d'.size by omega)
  refine ⟨by rw [swp_size]; exact s, fun t ht => ?_, fun t ht => ?_, fun k h1 h2 => ?_, fun lo hi h1 h2 h3 => ?_⟩
  · rw [g]
    by_cases e : t = n
    · subst e
      rw [if_neg (by omega), if_pos rfl]
      exact h.other (b + t) (by omega) (by omega)
    · rw [if_neg (by omega), if_neg (by omega)]
      exact h.left t (by omega)
  · rw [g]
    by_cases e : t = n
    · subst e
      rw [if_pos rfl]
      exact h.other (a + t) (by omega) (by omega)
    · rw [if_neg (by omega), if_neg (by omega)]
      exact h.right t (by omega)
  · rw [g, if_neg (by omega), if_neg (by omega)]
    exact h.other k (by omega) (by omega)
  · exact permIn_trans _ _ _ lo hi (h.perm lo hi h1 (by omega) h3) (swp_permIn d' lo hi (a + n) (b + n) (by omega) (by omega) (by omega) (by omega) (by omega))

/-! ### Two neighbours turned round -/
structure RotD (a m b : Nat) (d d' : Array α) : Prop where
  size : d'.size = d.size
  out : ∀ k, (k < a ∨ b ≤ k) → d'[k]! = d[k]!
  left : ∀ k, a ≤ k → k < a + (b - m) → d'[k]! = d[k + (m - a)]!
  right : ∀ k, a + (b - m) ≤ k → k < b → d'[k]! = d[k - (b - m)]!
  perm : PermIn a b d d'
/-- On the way: parts of lengths i and j around m are still to be turned round. -/
structure Turning (a m b i j : Nat) (d dc : Array α) : Prop where
  size : dc.size = d.size
  lo : a + i ≤ m
  hi : m + j ≤ b
  ini : 0 < i
  inj : 0 < j
  out : ∀ k, (k < a ∨ b ≤ k) → dc[k]! = d[k]!
  done : ∀ k, a ≤ k → k < b → (k < m - i ∨ m + j ≤ k) → (k < a + (b - m) → dc[k]! = d[k + (m - a)]!) ∧ (a + (b - m) ≤ k → dc[k]! = d[k - (b - m)]!)
  left : ∀ k, m - i ≤ k → k < m - i + j → (k < a + (b - m) → dc[k + i]! = d[k + (m - a)]!) ∧ (a + (b - m) ≤ k → dc[k + i]! = d[k - (b - m)]!)
  right : ∀ k, m - i + j ≤ k → k < m + j → (k < a + (b - m) → dc[k - j]! = d[k + (m - a)]!) ∧ (a + (b - m) ≤ k → dc[k - j]! = d[k - (b - m)]!)
  perm : PermIn a b d dc
theorem Turning.start {a m b : Nat} (d : Array α) (h1 : a < m) (h2 : m < b) : Turning a m b (m - a) (b - m) d d := by
  refine ⟨rfl, by omega, by omega, by omega, by omega, fun _ _ => rfl, fun k h3 h4 h5 => by omega, fun k h3 h4 => ⟨fun _ => rfl, fun h => by omega⟩, fun k h3 h4 => ⟨fun h => by omega, fun _ => rfl⟩, permIn_refl d a b⟩
theorem Turning.more {a m b i j : Nat} {d dc d' : Array α} (h : Turning a m b i j d dc) (hij : j < i) (hs : SwapR (m - i) m j dc d') (hb : b ≤ d.size) : Turning a m b (i - j) j d d' := by
  have hlo := h.lo
  have hhi := h.hi
  have hinj := h.inj
  refine ⟨hs.size.trans h.size, by omega, by omega, by omega, h.inj, fun k hk => (hs.other k (by omega) (by omega)).trans (h.out k hk), fun k h1 h2 h3 => ?_, fun k h1 h2 => ?_, fun k h1 h2 => ?_, ?_⟩
  · by_cases hk : k < m - i ∨ m + j ≤ k
    · rw [hs.other k (by omega) (by omega)]
      exact h.done k h1 h2 hk
    · have e : d'[k]! = dc[k + i]! := by
        have := hs.left (k - (m - i)) (by omega)
        rw [show m - i + (k - (m - i)) = k by omega, show m + (k - (m - i)) = k + i by omega] at this
        exact this
      rw [e]
      exact h.left k (by omega) (by omega)
  · have e : d'[k + (i - j)]! = dc[k - j]! := by
      have := hs.right (k + (i - j) - m) (by omega)
      rw [show m + (k + (i - j) - m) = k + (i - j) by omega, show m - i + (k + (i - j) - m) = k - j by omega] at this
      exact this
    rw [e]
    exact h.right k (by omega) (by omega)
  · have e : d'[k - j]! = dc[k - j]! := hs.other _ (by omega) (by omega)
    rw [e]
    exact h.right k (by omega) (by omega)
  · exact permIn_trans _ _ _ a b h.perm (hs.perm a b (by omega) (by omega) (by rw [h.size]; exact hb))
theorem Turning.less {a m b i j : Nat} {d dc d' : Array α} (h : Turning a m b i j d dc) (hij : i < j) (hs : SwapR (m - i) (m + j - i) i dc d') (hb : b ≤ d.size) : Turning a m b i (j - i) d d' := by
  have hlo := h.lo
  have hhi := h.hi
  have hini := h.ini
  refine ⟨hs.size.trans h.size, by omega, by omega, h.ini, by omega, fun k hk => (hs.other k (by omega) (by omega)).trans (h.out k hk), fun k h1 h2 h3 => ?_, fun k h1 h2 => ?_, fun k h1 h2 => ?_, ?_⟩
  · by_cases hk : k < m - i ∨ m + j ≤ k
    · rw [hs.other k (by omega) (by omega)]
      exact h.done k h1 h2 hk
    · have e : d'[k]! = dc[k - j]! := by
        have := hs.right (k - (m + j - i)) (by omega)
        rw [show m + j - i + (k - (m + j - i)) = k by omega, show m - i + (k - (m + j - i)) = k - j by omega] at this
        exact this
      rw [e]
      exact h.right k (by omega) (by omega)
  · have e : d'[k + i]! = dc[k + i]! := hs.other _ (by omega) (by omega)
    rw [e]
    exact h.left k (by omega) (by omega)
  · have e : d'[k - (j - i)]! = dc[k + i]! := by
      have := hs.left (k - (j - i) - (m - i)) (by omega)
      rw [show m - i + (k - (j - i) - (m - i)) = k - (j - i) by omega, show m + j - i + (k - (j - i) - (m - i)) = k + i by omega] at this
      exact this
    rw [e]
    exact h.left k (by omega) (by omega)
  · exact permIn_trans _ _ _ a b h.perm (hs.perm a b (by omega) (by omega) (by rw [h.size]; exact hb))
theorem Turning.end_ {a m b i : Nat} {d dc d' : Array α} (h : Turning a m b i i d dc) (hs : SwapR (m - i) m i dc d') (hb : b ≤ d.size) : RotD a m b d d' := by
  have hlo := h.lo
  have hhi := h.hi
  have key : ∀ k, a ≤ k → k < b → (k < a + (b - m) → d'[k]! = d[k + (m - a)]!) ∧ (a + (b - m) ≤ k → d'[k]! = d[k - (b - m)]!) := by
    intro k h1 h2
    by_cases hk : k < m - i ∨ m + i ≤ k
    · rw [hs.other k (by omega) (by omega)]
      exact h.done k h1 h2 hk
    · by_cases hk2 : k < m
      · have e : d'[k]! = dc[k + i]! := by
          have := hs.left (k - (m - i)) (by omega)
          rw [show m - i + (k - (m - i)) = k by omega, show m + (k - (m - i)) = k + i by omega] at this
          exact this
        rw [e]
        exact h.left k (by omega) (by omega)
      · have e : d'[k]! = dc[k - i]! := by
          have := hs.right (k - m) (by omega)
          rw [show m + (k - m) = k by omega, show m - i + (k - m) = k - i by omega] at this
          exact this
        rw [e]
        exact h.right k (by omega) (by omega)
  refine ⟨hs.size.trans h.size, fun k hk => (hs.other k (by omega) (by omega)).trans (h.out k hk), fun k h1 h2 => (key k h1 (by omega)).1 h2, fun k h1 h2 => (key k (by omega) h2).2 h1, ?_⟩
  exact permIn_trans _ _ _ a b h.perm (hs.perm a b (by omega) (by omega) (by rw [h.size]; exact hb))

/-! ### One laid into a sorted row -/
/-- The element at a goes right, up to k. -/
structure GoesR (a k b : Nat) (d dc : Array α) : Prop where
  size : dc.size = d.size
  ge : a ≤ k
  past : ∀ p, a ≤ p → p < k → dc[p]! = d[p + 1]!
  at_ : dc[k]! = d[a]!
  other : ∀ p, p < a ∨ k < p → dc[p]! = d[p]!
  perm : PermIn a b d dc
theorem GoesR.start (a b : Nat) (d : Array α) : GoesR a a b d d := ⟨rfl, Nat.le_refl _, fun p h1 h2 => by omega, rfl, fun _ _ => rfl, permIn_refl d a b⟩
theorem GoesR.step {a k b : Nat} {d dc : Array α} (h : GoesR a k b d dc) (hk : k + 1 < b) (hb : b ≤ d.size) : GoesR a (k + 1) b d (swp dc k (k + 1)) := by
  have hge := h.ge
  have hs := h.size
  have g := swp_get dc (show k < dc.size by omega) (show k + 1 < dc.size by omega)
  refine ⟨by rw [swp_size]; exact hs, by omega, fun p h1 h2 => ?_, ?_, fun p hp => ?_, permIn_trans _ _ _ a b h.perm (swp_permIn dc a b k (k + 1) (by omega) (by omega) (by omega) (by omega) (by omega))⟩
  · rw [g, if_neg (by omega)]
    by_cases e : p = k
    · subst e
      rw [if_pos rfl]
      exact h.other _ (by omega)
    · rw [if_neg e]
      exact h.past p h1 (by omega)
  · rw [g, if_pos rfl]; exact h.at_
  · rw [g, if_neg (by omega), if_neg (by omega)]
    exact h.other p (by omega)
theorem GoesR.sorted (hS : SWO lt) {a i b : Nat} {d dc : Array α} (hi : a + 1 ≤ i) (hib : i ≤ b) (h : GoesR a (i - 1) b d dc) (hY : SortedIn lt (a + 1) b d) (h1 : ∀ p, a + 1 ≤ p → p < i → lt d[p]! d[a]! = true) (h2 : ∀ p, i ≤ p → p < b → lt d[p]! d[a]! = false) : SortedIn lt a b dc := by
  have val : ∀ p, a ≤ p → p < b → dc[p]! = if p < i - 1 then d[p + 1]! else if p = i - 1 then d[a]! else d[p]! := fun p q1 q2 => by
    by_cases e1 : p < i - 1
    · rw [if_pos e1]; exact h.past p q1 e1
    · rw [if_neg e1]
      by_cases e2 : p = i - 1
      · rw [if_pos e2, e2]; exact h.at_
      · rw [if_neg e2]; exact h.other p (by omega)
  intro p q hap hpq hqb
  rw [val p hap (by omega), val q (by omega) hqb]
  by_cases e1 : p < i - 1
  · rw [if_pos e1]
    by_cases f1 : q < i - 1
    · rw [if_pos f1]; exact hY _ _ (by omega) (by omega) (by omega)
    · rw [if_neg f1]
      by_cases f2 : q = i - 1
      · rw [if_pos f2]; exact hS.asymmA (h1 _ (by omega) (by omega))
      · rw [if_neg f2]; exact hY _ _ (by omega) (by omega) (by omega)
  · rw [if_neg e1, if_neg (by omega)]
    by_cases e2 : p = i - 1
    · rw [if_pos e2, if_neg (by omega)]; exact h2 q (by omega) hqb
    · rw [if_neg e2, if_neg (by omega)]; exact hY _ _ (by omega) hpq hqb
/-- The element at m goes left, down to k. -/
structure GoesL (a k m b : Nat) (d dc : Array α) : Prop where
  size : dc.size = d.size
  le : k ≤ m
  past : ∀ p, k < p → p ≤ m → dc[p]! = d[p - 1]!
  at_ : dc[k]! = d[m]!
  other : ∀ p, p < k ∨ m < p → dc[p]! = d[p]!
  perm : PermIn a b d dc
theorem GoesL.start (a m b : Nat) (d : Array α) : GoesL a m m b d d := ⟨rfl, Nat.le_refl _, fun p h1 h2 => by omega, rfl, fun _ _ => rfl, permIn_refl d a b⟩
theorem GoesL.step {a k m b : Nat} {d dc : Array α} (h : GoesL a k m b d dc) (hk : a < k) (hm : m < b) (hb : b ≤ d.size) : GoesL a (k - 1) m b d (swp dc k (k - 1)) := by
  have hle := h.le
  have hs := h.size
  have g := swp_get dc (show k < dc.size by omega) (show k - 1 < dc.size by omega)
  refine ⟨by rw [swp_size]; exact hs, by omega, fun p h1 h2 => ?_, ?_, fun p hp => ?_, permIn_trans _ _ _ a b h.perm (swp_permIn dc a b k (k - 1) (by omega) (by omega) (by omega) (by omega) (by omega))⟩
  · rw [g, if_neg (by omega)]
    by_cases e : p = k
    · subst e
      rw [if_pos rfl]
      exact h.other _ (by omega)
    · rw [if_neg e]
      exact h.past p (by omega) h2
  · rw [g, if_pos rfl]; exact h.at_
  · rw [g, if_neg (by omega), if_neg (by omega)]
    exact h.other p (by omega)
theorem GoesL.sorted (hS : SWO lt) {a i m : Nat} {d dc : Array α} (hai : a ≤ i) (him : i ≤ m) (h : GoesL a i m (m + 1) d dc) (hX : SortedIn lt a m d) (h1 : ∀ p, a ≤ p → p < i → lt d[m]! d[p]! = false) (h2 : ∀ p, i ≤ p → p < m → lt d[m]! d[p]! = true) : SortedIn lt a (m + 1) dc := by
  have val : ∀ p, a ≤ p → p ≤ m → dc[p]! = if p < i then d[p]! else if p = i then d[m]! else d[p - 1]! := fun p q1 q2 => by
    by_cases e1 : p < i
    · rw [if_pos e1]; exact h.other p (by omega)
    · rw [if_neg e1]
      by_cases e2 : p = i
      · rw [if_pos e2, e2]; exact h.at_
      · rw [if_neg e2]; exact h.past p (by omega) q2
  intro p q hap hpq hqb
  rw [val p hap (by omega), val q (by omega) (by omega)]
  by_cases e1 : p < i
  · rw [if_pos e1]
    by_cases f1 : q < i
    · rw [if_pos f1]; exact hX _ _ hap hpq (by omega)
    · rw [if_neg f1]
      by_cases f2 : q = i
      · rw [if_pos f2]; exact h1 p hap e1
      · rw [if_neg f2]; exact hX _ _ hap (by omega) (by omega)
  · rw [if_neg e1, if_neg (by omega)]
    by_cases e2 : p = i
    · rw [if_pos e2, if_neg (by omega)]; exact hS.asymmA (h2 _ (by omega) (by omega))
    · rw [if_neg e2, if_neg (by omega)]; exact hX _ _ (by omega) (by omega) (by omega)

/-! ### Looking for the place -/
theorem up_less (hS : SWO lt) {a m b h : Nat} {d : Array α} (hY : SortedIn lt m b d) (hb : h < b) (hl : lt d[h]! d[a]! = true) {p : Nat} (hp : m ≤ p) (hph : p ≤ h) : lt d[p]! d[a]! = true := by
  by_cases e : p = h
  · rw [e]; exact hl
  · have h1 := hY p h hp (by omega) hb
    cases hq : lt d[p]! d[a]! with
    | true => rfl
    | false =>
      have := hS.ntrans _ _ _ h1 hq
      rw [hl] at this; cases this
theorem down_not (hS : SWO lt) {a m b h : Nat} {d : Array α} (hY : SortedIn lt m b d) (hh : m ≤ h) (hl : lt d[h]! d[a]! = false) {p : Nat} (hp : h ≤ p) (hpb : p < b) : lt d[p]! d[a]! = false := by
  by_cases e : p = h
  · rw [e]; exact hl
  · exact hS.ntrans _ _ _ (hY h p hh (by omega) hpb) hl
theorem left_not (hS : SWO lt) {a m h : Nat} {d : Array α} {x : α} (hX : SortedIn lt a m d) (hh : h < m) (hl : lt x d[h]! = false) {p : Nat} (hp : a ≤ p) (hph : p ≤ h) : lt x d[p]! = false := by
  by_cases e : p = h
  · rw [e]; exact hl
  · exact hS.ntrans _ _ _ hl (hX p h hp (by omega) hh)
theorem right_less (hS : SWO lt) {a m h : Nat} {d : Array α} {x : α} (hX : SortedIn lt a m d) (hh : a ≤ h) (hl : lt x d[h]! = true) {p : Nat} (hp : h ≤ p) (hpm : p < m) : lt x d[p]! = true := by
  by_cases e : p = h
  · rw [e]; exact hl
  · have h1 := hX h p hh (by omega) hpm
    cases hq : lt x d[p]! with
    | true => rfl
    | false =>
      have := hS.ntrans _ _ _ hq h1
      rw [hl] at this; cases this

/-! ### Merging -/
/-- Where the two sorted rows [a, m) and [m, b) are to be cut: at s the first, at mid + m - s the second. -/
structure CutAt (lt : α → α → Bool) (a m b mid s : Nat) (d : Array α) : Prop where
  h1 : ∀ c, (if m > mid then mid + m - b else a) ≤ c → c < s → lt d[mid + m - 1 - c]! d[c]! = false
  h2 : ∀ c, s ≤ c → c < (if m > mid then mid else m) → lt d[mid + m - 1 - c]! d[c]! = true
/-- A test that comes out one way tells those ahead, or behind. -/
theorem cut_up (hS : SWO lt) {a m b mid c : Nat} {d : Array α} (hX : SortedIn lt a m d) (hY : SortedIn lt m b d) (hmid : mid = (a + b) / 2) (ham : a < m) (hmb : m < b) (hc2 : c < (if m > mid then mid else m)) (hl : lt d[mid + m - 1 - c]! d[c]! = false) {p : Nat} (hp1 : (if m > mid then mid + m - b else a) ≤ p) (hp2 : p ≤ c) : lt d[mid + m - 1 - p]! d[p]! = false := by
  have q1 : a ≤ p ∧ c < m ∧ m ≤ mid + m - 1 - c ∧ mid + m - 1 - p < b := by
    split at hp1 <;> rename_i h <;> simp only [h, if_true, if_false] at hc2 <;> omega
  by_cases e : p = c
  · rw [e]; exact hl
  · have y := hY (mid + m - 1 - c) (mid + m - 1 - p) q1.2.2.1 (by omega) q1.2.2.2
    have x := hX p c q1.1 (by omega) q1.2.1
    exact hS.ntrans _ _ _ (hS.ntrans _ _ _ y hl) x
theorem cut_down (hS : SWO lt) {a m b mid c : Nat} {d : Array α} (hX : SortedIn lt a m d) (hY : SortedIn lt m b d) (hmid : mid = (a + b) / 2) (ham : a < m) (hmb : m < b) (hc1 : (if m > mid then mid + m - b else a) ≤ c) (hl : lt d[mid + m - 1 - c]! d[c]! = true) {p : Nat} (hp1 : c ≤ p) (hp2 : p < (if m > mid then mid else m)) : lt d[mid + m - 1 - p]! d[p]! = true := by
  have q1 : a ≤ c ∧ p < m ∧ m ≤ mid + m - 1 - p ∧ mid + m - 1 - c < b := by
    split at hc1 <;> rename_i h <;> simp only [h, if_true, if_false] at hp2 <;> omega
  by_cases e : p = c
  · rw [e]; exact hl
  · have y := hY (mid + m - 1 - p) (mid + m - 1 - c) q1.2.2.1 (by omega) q1.2.2.2
    have x := hX c p q1.1 (by omega) q1.2.1
    cases hq : lt d[mid + m - 1 - p]! d[p]! with
    | true => rfl
    | false =>
      have := hS.ntrans _ _ _ (hS.ntrans _ _ _ y hq) x
      rw [hl] at this; cases this
theorem cut_bounds {a m b mid s : Nat} (hmid : mid = (a + b) / 2) (ham : a < m) (hs1 : (if m > mid then mid + m - b else a) ≤ s) (hs2 : s ≤ (if m > mid then mid else m)) : a ≤ s ∧ s ≤ mid ∧ s ≤ m ∧ m ≤ mid + m - s ∧ mid ≤ mid + m - s ∧ mid + m - s ≤ b := by
  split at hs1 <;> rename_i h <;> simp only [h, if_true, if_false] at hs2 <;> omega
theorem rot_none {a m b : Nat} (d : Array α) (h : a = m ∨ b = m) (ham : a ≤ m) (hmb : m ≤ b) : RotD a m b d d := by
  refine ⟨rfl, fun _ _ => rfl, fun k h1 h2 => ?_, fun k h1 h2 => ?_, permIn_refl d a b⟩
  · congr 1; omega
  · congr 1; omega
/-- Turned round at the cut: each half is two sorted rows, and nothing of the right half is less than one of the left. -/
theorem cut_turned (hS : SWO lt) {a m b mid s : Nat} {d dr : Array α} (hX : SortedIn lt a m d) (hY : SortedIn lt m b d) (hmid : mid = (a + b) / 2) (ham : a < m) (hmb : m < b) (hs1 : (if m > mid then mid + m - b else a) ≤ s) (hs2 : s ≤ (if m > mid then mid else m)) (hc : CutAt lt a m b mid s d) (hr : RotD s m (mid + m - s) d dr) :
    SortedIn lt a s dr ∧ SortedIn lt s mid dr ∧ SortedIn lt mid (mid + m - s) dr ∧ SortedIn lt (mid + m - s) b dr ∧ ∀ i j, a ≤ i → i < mid → mid ≤ j → j < b → lt dr[j]! dr[i]! = false := by
  obtain ⟨b1, b2, b3, b4, b5, b6⟩ := cut_bounds hmid ham hs1 hs2
  have v1 : ∀ k, k < s → dr[k]! = d[k]! := fun k hk => hr.out k (by omega)
  have v2 : ∀ k, s ≤ k → k < mid → dr[k]! = d[k + (m - s)]! := fun k h1 h2 => hr.left k h1 (by omega)
  have v3 : ∀ k, mid ≤ k → k < mid + m - s → dr[k]! = d[k - (mid - s)]! := fun k h1 h2 => by
    have := hr.right k (by omega) h2
    rw [this]; congr 1; omega
  have v4 : ∀ k, mid + m - s ≤ k → dr[k]! = d[k]! := fun k hk => hr.out k (by omega)
  refine ⟨fun i j h1 h2 h3 => ?_, fun i j h1 h2 h3 => ?_, fun i j h1 h2 h3 => ?_, fun i j h1 h2 h3 => ?_, fun i j h1 h2 h3 h4 => ?_⟩
  · rw [v1 i (by omega), v1 j h3]; exact hX i j h1 h2 (by omega)
  · rw [v2 i h1 (by omega), v2 j (by omega) h3]; exact hY _ _ (by omega) (by omega) (by omega)
  · rw [v3 i h1 (by omega), v3 j (by omega) h3]; exact hX _ _ (by omega) (by omega) (by omega)
  · rw [v4 i h1, v4 j (by omega)]; exact hY i j (by omega) h2 h3
  · by_cases i1 : i < s
    · rw [v1 i i1]
      by_cases j1 : j < mid + m - s
      · rw [v3 j h3 j1]; exact hX _ _ h1 (by omega) (by omega)
      · rw [v4 j (by omega)]
        have hcut := hc.h1 (s - 1) (by split at hs1 <;> rename_i h <;> simp only [h, if_true, if_false] <;> omega) (by omega)
        rw [show mid + m - 1 - (s - 1) = mid + m - s by omega] at hcut
        have q1 : lt d[j]! d[s - 1]! = false := by
          by_cases e : j = mid + m - s
          · rw [e]; exact hcut
          · exact hS.ntrans _ _ _ (hY (mid + m - s) j (by omega) (by omega) h4) hcut
        by_cases e : i = s - 1
        · rw [e]; exact q1
        · exact hS.ntrans _ _ _ q1 (hX i (s - 1) h1 (by omega) (by omega))
    · rw [v2 i (by omega) h2]
      by_cases j1 : j < mid + m - s
      · rw [v3 j h3 j1]
        have hcut := hS.asymmA (hc.h2 s (Nat.le_refl _) (by split at hs2 <;> rename_i h <;> simp only [h, if_true, if_false] <;> omega))
        have q1 : lt d[j - (mid - s)]! d[mid + m - 1 - s]! = false := by
          by_cases e : j - (mid - s) = s
          · rw [e]; exact hcut
          · exact hS.ntrans _ _ _ (hX s (j - (mid - s)) b1 (by omega) (by omega)) hcut
        by_cases e : i + (m - s) = mid + m - 1 - s
        · rw [e]; exact q1
        · exact hS.ntrans _ _ _ q1 (hY (i + (m - s)) (mid + m - 1 - s) (by omega) (by omega) (by omega))
      · rw [v4 j (by omega)]; exact hY _ _ (by omega) (by omega) h4
theorem sorted_same {a b : Nat} {d d' : Array α} (h : SortedIn lt a b d) (e : ∀ k, a ≤ k → k < b → d'[k]! = d[k]!) : SortedIn lt a b d' := fun i j h1 h2 h3 => by
  rw [e i h1 (by omega), e j (by omega) h3]; exact h i j h1 h2 h3
/-- Both halves merged: all is sorted. -/
theorem halves {a b mid : Nat} {dr dl dd : Array α} (hb : b ≤ dr.size) (h1 : a ≤ mid) (h2 : mid ≤ b) (hcr : ∀ i j, a ≤ i → i < mid → mid ≤ j → j < b → lt dr[j]! dr[i]! = false) (pl : PermIn a mid dr dl) (sl : SortedIn lt a mid dl) (pr : PermIn mid b dl dd) (sr : SortedIn lt mid b dd) :
    SortedIn lt a b dd ∧ PermIn a b dr dd := by
  have hls := pl.1
  refine ⟨fun i j q1 q2 q3 => ?_, permIn_trans _ _ _ a b (permIn_mono _ _ a mid a b (Nat.le_refl _) h2 hb pl) (permIn_mono _ _ mid b a b h1 (Nat.le_refl _) (by omega) pr)⟩
  by_cases hi : mid ≤ i
  · exact sr i j hi q2 q3
  · by_cases hj : j < mid
    · rw [pr.2.1 i (by omega), pr.2.1 j (by omega)]; exact sl i j q1 q2 hj
    · rw [pr.2.1 i (by omega)]
      have k1 : ∀ j, mid ≤ j → j < b → lt dl[j]! dl[i]! = false := fun j j1 j2 => by
        rw [pl.2.1 j (by omega)]
        exact permIn_all dr dl a mid (fun x => lt dr[j]! x = false) (by omega) pl (fun i i1 i2 => hcr i j i1 i2 j1 j2) i q1 (by omega)
      exact permIn_all dl dd mid b (fun y => lt y dl[i]! = false) (by omega) pr k1 j (by omega) q3

/-! ### Blocks -/
/-- Each block of bs is sorted. -/
def BlkS (lt : α → α → Bool) (bs n : Nat) (d : Array α) : Prop := ∀ q, q * bs < n → SortedIn lt (q * bs) (min ((q + 1) * bs) n) d
theorem BlkS.all {bs n : Nat} {d : Array α} (h : BlkS lt bs n d) (hn : n ≤ bs) : SortedIn lt 0 n d := by
  by_cases h0 : 0 < n
  · have := h 0 (by omega)
    rwa [Nat.zero_mul, Nat.zero_add, Nat.one_mul, Nat.min_eq_right hn] at this
  · intro i j h1 h2 h3; omega

end Go.Proofs.Ytmhechlfpaciiaa.So
