/-
  Which dots one vector knows and another doesn't, as a list; vector.Missing: the contract, by a walk. Conditions: none.
-/
import Derived.Test.YtcgbiikphcgoaaaVecSum
import Derived.Test.YtcgbiikphcgoaaaOrderInv
import Derived.Lib.AppendZeros
namespace Go.Proofs.Ytcgbiikphcgoaaa
open Go.RowKit

/-- The dots of replica i behind a, up to b; those of the first n replicas. -/
def rowD (i : Nat) (a : Int) (j : Nat) : List (Nat × Int) := (List.range j).map fun (x : Nat) => (i, a + 1 + (x : Int))
def dotsTo (f g : Nat → Int) (n : Nat) : List (Nat × Int) := (List.range n).flatMap fun i => rowD i (f i) (g i - f i).toNat
/-- What Missing tells. -/
def missV (f g : Nat → Int) : List (Nat × Int) := (dotsTo (clampV f) (clampV g) 16).take 4096
def dcells (l : List (Nat × Int)) : List Value := l.flatMap fun d => [.int .i64 d.1, .int .i64 d.2]
theorem dcells_length (l : List (Nat × Int)) : (dcells l).length = l.length * 2 := by
  induction l with
  | nil => rfl
  | cons d l ih => simp only [dcells, List.flatMap_cons, List.length_append, List.length_cons, List.length_nil] at ih ⊢; omega
theorem dcells_append (l m : List (Nat × Int)) : dcells (l ++ m) = dcells l ++ dcells m := by simp [dcells]
theorem dcells_at (l : List (Nat × Int)) (i : Nat) (d : Nat × Int) (h : l[i]? = some d) : (dcells l)[2 * i]? = some (.int .i64 d.1) ∧ (dcells l)[2 * i + 1]? = some (.int .i64 d.2) := by
  induction l generalizing i with
  | nil => simp at h
  | cons x l ih =>
    have e : dcells (x :: l) = .int .i64 x.1 :: .int .i64 x.2 :: dcells l := rfl
    rw [e]
    cases i with
    | zero =>
      obtain rfl : x = d := by simpa using h
      exact ⟨rfl, rfl⟩
    | succ i =>
      have := ih i (by simpa using h)
      have e1 : 2 * (i + 1) = 2 * i + 1 + 1 := by omega
      rw [e1]
      exact ⟨this.1, this.2⟩
theorem rowD_succ (i : Nat) (a : Int) (j : Nat) : rowD i a (j + 1) = rowD i a j ++ [(i, a + 1 + j)] := by
  simp [rowD, List.range_succ]
theorem rowD_length (i : Nat) (a : Int) (j : Nat) : (rowD i a j).length = j := by simp [rowD]
theorem dotsTo_succ (f g : Nat → Int) (n : Nat) : dotsTo f g (n + 1) = dotsTo f g n ++ rowD n (f n) (g n - f n).toNat := by
  simp [dotsTo, List.range_succ]
theorem rowD_le (i : Nat) (a : Int) (j k : Nat) (h : j ≤ k) : ∃ t, rowD i a k = rowD i a j ++ t := by
  induction k with
  | zero => exact ⟨[], by simp [Nat.le_zero.1 h]⟩
  | succ k ih =>
    by_cases e : j = k + 1
    · subst e; exact ⟨[], by simp⟩
    · obtain ⟨t, ht⟩ := ih (by omega)
      exact ⟨t ++ [(i, a + 1 + k)], by rw [rowD_succ, ht, List.append_assoc]⟩
theorem dotsTo_le (f g : Nat → Int) (n m : Nat) (h : n ≤ m) : ∃ t, dotsTo f g m = dotsTo f g n ++ t := by
  induction m with
  | zero => exact ⟨[], by simp [Nat.le_zero.1 h]⟩
  | succ m ih =>
    by_cases e : n = m + 1
    · subst e; exact ⟨[], by simp⟩
    · obtain ⟨t, ht⟩ := ih (by omega)
      exact ⟨t ++ rowD m (f m) (g m - f m).toNat, by rw [dotsTo_succ, ht, List.append_assoc]⟩
/-- As far as it has come, when it is cut. -/
theorem cut_miss (f g : Nat → Int) (k j : Nat) (hk : k < 16) (hj : j ≤ (g k - f k).toNat) (hl : (dotsTo f g k ++ rowD k (f k) j).length = 4096) : (dotsTo f g 16).take 4096 = dotsTo f g k ++ rowD k (f k) j := by
  obtain ⟨t, ht⟩ := rowD_le k (f k) j _ hj
  obtain ⟨t2, ht2⟩ := dotsTo_le f g (k + 1) 16 (by omega)
  rw [ht2, dotsTo_succ, ht, ← List.append_assoc, List.append_assoc (dotsTo f g k ++ rowD k (f k) j), ← hl]
  exact List.take_left ..
theorem clampV_in (f : Nat → Int) (i : Nat) : 0 ≤ clampV f i ∧ clampV f i ≤ 1048576 := by unfold clampV; omega

theorem VB.grown {w w' : World} {g : Nat} {f : Nat → Int} (h : VB w g f) {row : Option Nat} (hg : w.grownBy w' row) (hr : ∀ k, row = some k → g < k) : VB w' g f := by
  refine (hg.block g (Blk.lt h) ?_).trans h
  intro e
  have := hr g e.symm
  omega
theorem infoD : (Try.prog.info? 28).map (fun i => (i.zero, i.size, i.bytes)) = some (some (.agg #[.int .i64 0, .int .i64 0]), 2, 16) := by kernel_rfl

theorem own_form {w : World} {base size n : Nat} {e : TypeId} {v : Value} {xs : List Value} (h : w.ownsRow base e size v n xs) : ∃ A c, v = .slice A n c := by
  rcases h.2 with ⟨rfl, rfl⟩ | ⟨g, cap, cur, rfl, _⟩
  · exact ⟨none, 0, rfl⟩
  · exact ⟨_, _, rfl⟩
theorem own_lt {w : World} {base size n : Nat} {e : TypeId} {v : Value} {xs : List Value} (h : w.ownsRow base e size v n xs) : ∀ q, v.ownBlock = some q → base ≤ q := by
  intro q hq
  rcases h.2 with ⟨rfl, rfl⟩ | ⟨g, cap, cur, rfl, hb, _⟩
  · cases hq
  · have : g = q := Option.some.inj hq
    omega
theorem own_base {w : World} {base b' size n : Nat} {e : TypeId} {v : Value} {xs : List Value} (h : w.ownsRow base e size v n xs) (hb : b' ≤ base) : w.ownsRow b' e size v n xs := by
  refine ⟨h.1, ?_⟩
  rcases h.2 with h2 | ⟨g, cap, cur, h1, h2, h3⟩
  · exact .inl h2
  · exact .inr ⟨g, cap, cur, h1, by omega, h3⟩
/-- What stands behind the first region: both clamped. -/
def MInv (w : World) (f g : Nat → Int) (L : Nat → Bool) (vals : Nat → Value) (W : World) : Prop :=
  Below w.heap.size w W ∧ VB W w.heap.size (if L 4 = true then clampV f else f) ∧ VB W (w.heap.size + 1) (if L 5 = true then clampV g else g) ∧
  (L 0 = true → vals 0 = .agg (vA f)) ∧ (L 1 = true → vals 1 = .agg (vA (clampV f))) ∧ (L 2 = true → vals 2 = .agg (vA g)) ∧ (L 3 = true → vals 3 = .agg (vA (clampV g)))

end Go.Proofs.Ytcgbiikphcgoaaa
