/-
  StorePuts' mathematics: which items may be. Conditions: none.
-/
import Derived.Test.YtojhloaleefieaaSPuM
namespace Go.Proofs.Ytojhloaleefieaa
open Go.RowKit Go.MapKept Go.Sort

def okL (x : El) (l : List (Dt × Va)) (k : Nat) : Bool := elB x && (List.range k).all (okE7 x l)
theorem okL_zero (x : El) (l : List (Dt × Va)) : okL x l 0 = elB x := by simp [okL]
theorem okL_next (x : El) (l : List (Dt × Va)) (k : Nat) : okL x l (k + 1) = (okL x l k && okE7 x l k) := by
  unfold okL
  rw [List.range_succ, List.all_append, Bool.and_assoc]
  simp
theorem okL_full (x : El) (l : List (Dt × Va)) : okL x l l.length = rightI x l := rfl
theorem okE_zero {x : El} {l : List (Dt × Va)} {q : Dt × Va} (h : l[0]? = some q) : okE7 x l 0 = (dotB q.1.r q.1.c && fit7B x q.2) := by
  simp only [okE7, h, Bool.and_true]
theorem okE_succ {x : El} {l : List (Dt × Va)} {q p : Dt × Va} {k : Nat} (h : l[k + 1]? = some q) (hp : l[k]? = some p) : okE7 x l (k + 1) = (dotB q.1.r q.1.c && fit7B x q.2 && firstB p.1 q.1) := by
  simp only [okE7, h, hp, firstB]
theorem fit_len {x : El} {v : Va} (h : fit7B x v = true) : v.t.size ≤ 300 := by
  have e1 : v.t.data.toList.length = v.t.size := by rw [Array.length_toList]; rfl
  unfold fit7B changeB at h
  simp only [Bool.and_eq_true] at h
  have h2 := h.2
  have key : ∀ op ek k n, ∀ l : List UInt8, fitsB op ek k n l = true → l.length ≤ 300 := by
    intro op ek k n l hf
    have hn : ∀ k n, noneB k n l = true → l.length ≤ 300 := by
      intro k n hh
      unfold noneB at hh
      simp only [Bool.and_eq_true, List.isEmpty_iff] at hh
      rw [hh.2]; simp
    unfold fitsB at hf
    split at hf
    · simp only [Bool.and_eq_true] at hf; exact hn _ _ hf.2
    · split at hf
      · simp only [Bool.and_eq_true] at hf
        have h3 := hf.2
        unfold setB rightB at h3
        simp only [Bool.and_eq_true, decide_eq_true_eq] at h3
        obtain ⟨hk, h4⟩ := h3
        split at h4
        · omega
        · split at h4
          · simp only [Bool.and_eq_true, List.isEmpty_iff] at h4; rw [h4.2]; simp
          · split at h4
            · simp only [Bool.and_eq_true, List.isEmpty_iff] at h4; rw [h4.2]; simp
            · split at h4
              · simp only [Bool.and_eq_true, plainB, decide_eq_true_eq] at h4; omega
              · omega
      · split at hf
        · simp only [Bool.and_eq_true] at hf; exact hn _ _ hf.2
        · cases hf
  have := key _ _ _ _ _ h2
  simp only [evX] at this
  omega
theorem cfD_lt {a b c : Dt} (h : cfD a b < 0) (k : cfD b c < 0) : cfD a c < 0 := by
  have h3 := cfD_ok.trans a b c (by omega) (by omega)
  rcases Int.lt_or_eq_of_le h3 with h4 | h4
  · exact h4
  · have := (cfD_ok.zero (x := a) (y := b) (z := c) (by omega) (by omega) h4).1; omega
theorem right_rise {x : El} {l : List (Dt × Va)} (h : rightI x l = true) : ∀ (j i : Nat) (p q : Dt × Va), i < j → l[i]? = some p → l[j]? = some q → cfD p.1 q.1 < 0 := by
  unfold rightI at h
  simp only [Bool.and_eq_true, List.all_eq_true, List.mem_range] at h
  intro j
  induction j with
  | zero => intro i p q hi; omega
  | succ j ih =>
    intro i p q hi hp hq
    have hj : j + 1 < l.length := (List.getElem?_eq_some_iff.1 hq).1
    obtain ⟨m, hm⟩ : ∃ m, l[j]? = some m := ⟨l[j]'(by omega), List.getElem?_eq_getElem _⟩
    have h1 := h.2 (j + 1) hj
    rw [okE_succ hq hm] at h1
    simp only [Bool.and_eq_true, firstB, decide_eq_true_eq] at h1
    by_cases e : i = j
    · subst e
      rw [hm] at hp
      injection hp with hp
      rw [← hp]; exact h1.2
    · exact cfD_lt (ih i p m (by omega) hp hm) h1.2
theorem right_pair {x : El} {l : List (Dt × Va)} (h : rightI x l = true) : l.Pairwise fun a b => cfD a.1 b.1 < 0 := by
  rw [List.pairwise_iff_getElem]
  intro i j hi hj hij
  exact right_rise h j i _ _ hij (List.getElem?_eq_getElem hi) (List.getElem?_eq_getElem hj)
theorem cfD_self (a : Dt) : cfD a a = 0 := by have := cfD_ok.anti a a; omega
theorem right_keys {x : El} {l : List (Dt × Va)} (h : rightI x l = true) : (keysL l).Nodup := by
  unfold keysL
  refine List.pairwise_map.2 ((right_pair h).imp fun {a b} hab e => ?_)
  rw [e, cfD_self] at hab
  omega

end Go.Proofs.Ytojhloaleefieaa
