/-
  Trees of a row that may be; their tokens by items; how many. expr.Tokens: its state, and the function that is told tokens: the contract, by a walk. Conditions: lengths.
-/
import Derived.Test.YtdabanocofimmaaGreatDoorJExSize
namespace Go.Proofs.YtdabanocofimmaaGreatDoor
open Go.RowKit
set_option linter.unusedVariables false

/-- The tree at a place. -/
def treeF (row : List Ex.X) : Nat → Nat → Ex.Tr
  | 0, _ => .lf zEx
  | f + 1, p => if (row.getD p zEx).k ≤ 4 then .lf (row.getD p zEx) else if (row.getD p zEx).k ≤ 7 then .un (row.getD p zEx).k (treeF row f (row.getD p zEx).l.toNat)
    else .bi (row.getD p zEx).k (treeF row f (row.getD p zEx).l.toNat) (treeF row f (row.getD p zEx).r.toNat)
def treeL (row : List Ex.X) (p : Nat) : Ex.Tr := treeF row (p + 1) p
/-- What is known of an expression of a row that may be. -/
structure XRt (row : List Ex.X) (p : Nat) (e : Ex.X) : Prop where
  kd : 1 ≤ e.k ∧ e.k ≤ 18
  lf : e.k ≤ 4 → e.l = 0 ∧ e.r = 0
  val : e.k = 1 → spokenB e.vk e.vn e.vt = true ∧ e.v = [] ∧ e.p = []
  var : e.k = 2 → e = ⟨2, 0, 0, [], e.v, [], 0, 0⟩ ∧ idB e.v = true
  prop : e.k = 3 ∨ e.k = 4 → e = ⟨e.k, 0, 0, [], e.v, e.p, 0, 0⟩ ∧ idB e.v = true ∧ idB e.p = true
  un : 5 ≤ e.k → e.k ≤ 7 → ∃ q : Nat, e.l = q ∧ q < p ∧ e = Ex.unE e.k q
  bi : 8 ≤ e.k → ∃ q r : Nat, e.l = q ∧ e.r = r ∧ q < p ∧ r < p ∧ e = Ex.biE e.k q r
theorem xrt_of {row : List Ex.X} {p : Nat} {e : Ex.X} (h : rightX p e = true) : XRt row p e := by
  unfold rightX at h
  obtain ⟨hs, ho⟩ := Bool.and_eq_true_iff.1 h
  have hsd : ∀ s ∈ sidesL e, 0 ≤ s ∧ s < p := fun s hm => by
    have := List.all_eq_true.1 hs s hm
    unfold sideOk at this
    simpa using this
  unfold okX at ho
  have hkd : 1 ≤ e.k ∧ e.k ≤ 18 := by
    by_cases h1 : e.k = 1
    · omega
    rw [if_neg h1] at ho
    by_cases h2 : e.k = 2
    · omega
    rw [if_neg h2] at ho
    by_cases h3 : e.k = 3 ∨ e.k = 4
    · omega
    rw [if_neg h3] at ho
    by_cases h4 : e.k = 5 ∨ e.k = 6 ∨ e.k = 7
    · omega
    rw [if_neg h4] at ho
    have := (Bool.and_eq_true_iff.1 ho).1
    unfold twoB at this
    simp at this
    omega
  refine ⟨hkd, fun hk => ?_, fun hk => ?_, fun hk => ?_, fun hk => ?_, fun h5 h7 => ?_, fun h8 => ?_⟩
  · by_cases h1 : e.k = 1
    · rw [if_pos h1] at ho
      have := of_decide_eq_true (Bool.and_eq_true_iff.1 ho).2
      rw [this]; exact ⟨rfl, rfl⟩
    rw [if_neg h1] at ho
    by_cases h2 : e.k = 2
    · rw [if_pos h2] at ho
      have := of_decide_eq_true (Bool.and_eq_true_iff.1 ho).2
      rw [this]; exact ⟨rfl, rfl⟩
    rw [if_neg h2, if_pos (by omega)] at ho
    have := of_decide_eq_true (Bool.and_eq_true_iff.1 ho).2
    rw [this]; exact ⟨rfl, rfl⟩
  · rw [if_pos hk] at ho
    have h2 := of_decide_eq_true (Bool.and_eq_true_iff.1 ho).2
    refine ⟨(Bool.and_eq_true_iff.1 ho).1, ?_, ?_⟩ <;> (rw [h2])
  · rw [if_neg (by omega), if_pos hk] at ho
    have h2 := of_decide_eq_true (Bool.and_eq_true_iff.1 ho).2
    rw [hk] at h2
    exact ⟨h2, (Bool.and_eq_true_iff.1 ho).1⟩
  · rw [if_neg (by omega), if_neg (by omega), if_pos hk] at ho
    have h2 := of_decide_eq_true (Bool.and_eq_true_iff.1 ho).2
    exact ⟨h2, (Bool.and_eq_true_iff.1 (Bool.and_eq_true_iff.1 ho).1).1, (Bool.and_eq_true_iff.1 (Bool.and_eq_true_iff.1 ho).1).2⟩
  · have h567 : e.k = 5 ∨ e.k = 6 ∨ e.k = 7 := by omega
    rw [if_neg (by omega), if_neg (by omega), if_neg (by omega), if_pos h567] at ho
    have h2 := of_decide_eq_true ho
    have hl := hsd e.l (by unfold sidesL; rw [if_pos h567]; simp)
    obtain ⟨q, hq⟩ := Int.eq_ofNat_of_zero_le hl.1
    refine ⟨q, hq, by omega, ?_⟩
    rw [hq] at h2
    exact h2
  · rw [if_neg (by omega), if_neg (by omega), if_neg (by omega), if_neg (by omega)] at ho
    have h2 := of_decide_eq_true (Bool.and_eq_true_iff.1 ho).2
    have htw := (Bool.and_eq_true_iff.1 ho).1
    have hm : sidesL e = [e.l, e.r] := by unfold sidesL; rw [if_neg (by omega), if_pos htw]
    have hl := hsd e.l (by rw [hm]; simp)
    have hr := hsd e.r (by rw [hm]; simp)
    obtain ⟨q, hq⟩ := Int.eq_ofNat_of_zero_le hl.1
    obtain ⟨r, hr'⟩ := Int.eq_ofNat_of_zero_le hr.1
    refine ⟨q, r, hq, hr', by omega, by omega, ?_⟩
    rw [hq, hr'] at h2
    exact h2
theorem row_rt {row : List Ex.X} (h : rowB 0 row = true) {p : Nat} {e : Ex.X} (he : row[p]? = some e) : XRt row p e := by
  have := (rowB_iff row 0).1 h p e he
  rw [Nat.zero_add] at this
  exact xrt_of this
theorem getD_of {row : List Ex.X} {p : Nat} {e : Ex.X} (he : row[p]? = some e) : row.getD p zEx = e := by
  rw [List.getD_eq_getElem?_getD, he]; rfl
theorem tree_fuel {row : List Ex.X} (h : rowB 0 row = true) : ∀ (f g p : Nat), p < row.length → p < f → p < g → treeF row f p = treeF row g p
  | 0, _, _, _, hf, _ => absurd hf (Nat.not_lt_zero _)
  | _, 0, _, _, _, hg => absurd hg (Nat.not_lt_zero _)
  | f + 1, g + 1, p, hp, hf, hg => by
    obtain ⟨e, he⟩ : ∃ e, row[p]? = some e := ⟨_, List.getElem?_eq_getElem hp⟩
    have hx := row_rt h he
    unfold treeF
    rw [getD_of he]
    by_cases h4 : e.k ≤ 4
    · rw [if_pos h4, if_pos h4]
    rw [if_neg h4, if_neg h4]
    by_cases h7 : e.k ≤ 7
    · rw [if_pos h7, if_pos h7]
      obtain ⟨q, hq, hqp, _⟩ := hx.un (by omega) h7
      rw [hq, Int.toNat_natCast, tree_fuel h f g q (by omega) (by omega) (by omega)]
    rw [if_neg h7, if_neg h7]
    obtain ⟨q, r, hq, hr, hqp, hrp, _⟩ := hx.bi (by omega)
    rw [hq, hr, Int.toNat_natCast, Int.toNat_natCast, tree_fuel h f g q (by omega) (by omega) (by omega), tree_fuel h f g r (by omega) (by omega) (by omega)]
theorem tree_lf {row : List Ex.X} (_ : rowB 0 row = true) {p : Nat} {e : Ex.X} (he : row[p]? = some e) (hk : e.k ≤ 4) : treeL row p = .lf e := by
  unfold treeL treeF
  rw [getD_of he, if_pos hk]
section
variable {row : List Ex.X} (h : rowB 0 row = true) {p : Nat} {e : Ex.X} (he : row[p]? = some e)
include h he
theorem tree_un {q : Nat} (h5 : 5 ≤ e.k) (h7 : e.k ≤ 7) (hq : e.l = q) (hqp : q < p) : treeL row p = .un e.k (treeL row q) := by
  have hp := (List.getElem?_eq_some_iff.1 he).1
  unfold treeL treeF
  rw [getD_of he, if_neg (by omega), if_pos h7, hq, Int.toNat_natCast]
  rw [tree_fuel h p (q + 1) q (by omega) hqp (by omega)]
  rfl
theorem tree_bi {q r : Nat} (h8 : 8 ≤ e.k) (hq : e.l = q) (hr : e.r = r) (hqp : q < p) (hrp : r < p) : treeL row p = .bi e.k (treeL row q) (treeL row r) := by
  have hp := (List.getElem?_eq_some_iff.1 he).1
  unfold treeL treeF
  rw [getD_of he, if_neg (by omega), if_neg (by omega), hq, hr, Int.toNat_natCast, Int.toNat_natCast]
  rw [tree_fuel h p (q + 1) q (by omega) hqp (by omega), tree_fuel h p (r + 1) r (by omega) hrp (by omega)]
  rfl
/-- The level of a tree is its kind's rule. -/
theorem tree_lv : (Ex.lvT (treeL row p) : Int) = ruleI e.k + 1 := by
  have hx := row_rt h he
  by_cases h4 : e.k ≤ 4
  · rw [tree_lf h he h4]
    have : ruleI e.k = 6 := by unfold ruleI; rw [if_pos (by have := hx.kd; omega)]
    rw [this]; rfl
  have hlv : (Ex.lvK e.k : Int) = ruleI e.k + 1 := by
    have hc : e.k = 5 ∨ e.k = 6 ∨ e.k = 7 ∨ e.k = 8 ∨ e.k = 9 ∨ e.k = 10 ∨ e.k = 11 ∨ e.k = 12 ∨ e.k = 13 ∨ e.k = 14 ∨ e.k = 15 ∨ e.k = 16 ∨ e.k = 17 ∨ e.k = 18 := by have := hx.kd; omega
    rcases hc with e | e | e | e | e | e | e | e | e | e | e | e | e | e <;> rw [e] <;> decide
  by_cases h7 : e.k ≤ 7
  · obtain ⟨q, hq, hqp, _⟩ := hx.un (by omega) h7
    rw [tree_un h he (by omega) h7 hq hqp]; exact hlv
  · obtain ⟨q, r, hq, hr, hqp, hrp, _⟩ := hx.bi (by omega)
    rw [tree_bi h he (by omega) hq hr hqp hrp]; exact hlv
end
/-- Items as tokens. -/
def rendI (row : List Ex.X) : Itm → List Lx.Tk
  | .t x => [x]
  | .s i r => Ex.atT (r.toNat + 1) (treeL row i.toNat)
def rendL (row : List Ex.X) (l : List Itm) : List Lx.Tk := l.flatMap (rendI row)
theorem spoken_kind {k n : Int} {s : List UInt8} (h : spokenB k n s = true) : k = 0 ∨ k = 1 ∨ k = 2 ∨ k = 3 ∨ k = 4 := by
  unfold spokenB at h
  by_cases h5 : k = 5
  · rw [if_pos h5] at h; cases h
  rw [if_neg h5] at h
  by_cases h4 : k = 4
  · omega
  rw [if_neg h4] at h
  unfold rightB at h
  by_cases h0 : k = 0
  · omega
  by_cases h1 : k = 1
  · omega
  by_cases h2 : k = 2
  · omega
  by_cases h3 : k = 3
  · omega
  rw [if_neg h0, if_neg h1, if_neg h2, if_neg h3, if_neg h4, if_neg h5] at h
  cases h
theorem mid_mark {k : Int} (h8 : 8 ≤ k) (h18 : k ≤ 18) : markT (Ex.betw k) = Ex.midT k := by
  have hc : k = 8 ∨ k = 9 ∨ k = 10 ∨ k = 11 ∨ k = 12 ∨ k = 13 ∨ k = 14 ∨ k = 15 ∨ k = 16 ∨ k = 17 ∨ k = 18 := by omega
  rcases hc with e | e | e | e | e | e | e | e | e | e | e <;> (rw [e]; decide)
theorem rend_val {k n : Int} {s : List UInt8} (row : List Ex.X) (h : k = 0 ∨ k = 1 ∨ k = 2 ∨ k = 3 ∨ k = 4) : rendL row (valI k n s) = Ex.valT k n s := by
  unfold valI Ex.valT
  rcases h with rfl | rfl | rfl | rfl | rfl
  · rfl
  · by_cases hn : n = 1
    · subst hn; rfl
    · simp only [show ¬ (1 : Int) = 4 by decide, show ¬ (1 : Int) = 3 by decide, show ¬ (1 : Int) = 2 by decide, show ¬ (1 : Int) = 0 by decide, if_false, if_true, hn]
      rfl
  · by_cases hn : n < 0
    · simp only [show ¬ (2 : Int) = 4 by decide, show ¬ (2 : Int) = 3 by decide, show ¬ (2 : Int) = 1 by decide, show ¬ (2 : Int) = 0 by decide, if_false, if_true, hn]
      rfl
    · simp only [show ¬ (2 : Int) = 4 by decide, show ¬ (2 : Int) = 3 by decide, show ¬ (2 : Int) = 1 by decide, show ¬ (2 : Int) = 0 by decide, if_false, if_true, hn]
      rfl
  · rfl
  · rfl
theorem rend_spell {row : List Ex.X} (h : rowB 0 row = true) {p : Nat} {e : Ex.X} (he : row[p]? = some e) : rendL row (spellI e) = Ex.plainT (treeL row p) := by
  have hx := row_rt h he
  by_cases h4 : e.k ≤ 4
  · rw [tree_lf h he h4]
    show _ = Ex.leafT e
    unfold spellI Ex.leafT
    have hc : e.k = 1 ∨ e.k = 2 ∨ e.k = 3 ∨ e.k = 4 := by have := hx.kd; omega
    rcases hc with e1 | e1 | e1 | e1
    · rw [if_pos e1, if_pos e1]; exact rend_val row (spoken_kind (hx.val e1).1)
    · rw [if_neg (by omega), if_pos e1, if_neg (by omega), if_pos e1]; rfl
    · rw [if_neg (by omega), if_neg (by omega), if_pos e1, if_neg (by omega), if_neg (by omega), if_pos e1]; rfl
    · rw [if_neg (by omega), if_neg (by omega), if_neg (by omega), if_pos e1, if_neg (by omega), if_neg (by omega), if_neg (by omega)]; rfl
  by_cases h7 : e.k ≤ 7
  · obtain ⟨q, hq, hqp, _⟩ := hx.un (by omega) h7
    rw [tree_un h he (by omega) h7 hq hqp]
    unfold spellI
    have hc : e.k = 5 ∨ e.k = 6 ∨ e.k = 7 := by omega
    rcases hc with e1 | e1 | e1
    · rw [if_neg (by omega), if_neg (by omega), if_neg (by omega), if_neg (by omega), if_pos e1, e1, hq]
      unfold rendL rendI
      simp [Ex.plainT, Ex.atT]
    · rw [if_neg (by omega), if_neg (by omega), if_neg (by omega), if_neg (by omega), if_neg (by omega), if_pos e1, e1, hq]
      unfold rendL rendI
      simp [Ex.plainT, Ex.atT]
    · rw [if_neg (by omega), if_neg (by omega), if_neg (by omega), if_neg (by omega), if_neg (by omega), if_neg (by omega), if_pos e1, e1, hq]
      unfold rendL rendI
      simp [Ex.plainT, Ex.atT]
  · obtain ⟨q, r, hq, hr, hqp, hrp, _⟩ := hx.bi (by omega)
    have hlv := tree_lv h he
    rw [tree_bi h he (by omega) hq hr hqp hrp] at hlv ⊢
    unfold spellI twoI
    rw [if_neg (by omega), if_neg (by omega), if_neg (by omega), if_neg (by omega), if_neg (by omega), if_neg (by omega), if_neg (by omega), hq, hr, mid_mark (by omega) hx.kd.2]
    have hlk : (Ex.lvK e.k : Int) = ruleI e.k + 1 := hlv
    have hbd := ruleI_bd e.k
    have h1 : (leftI (ruleI e.k)).toNat + 1 = if Ex.lvK e.k = 4 then 5 else Ex.lvK e.k := by
      unfold leftI
      split <;> split <;> omega
    have h2 : (ruleI e.k + 1).toNat + 1 = Ex.lvK e.k + 1 := by omega
    show Ex.atT ((leftI (ruleI e.k)).toNat + 1) (treeL row (Int.toNat (q : Int))) ++ ([Ex.midT e.k] ++ (Ex.atT ((ruleI e.k + 1).toNat + 1) (treeL row (Int.toNat (r : Int))) ++ [])) = _
    rw [h1, h2, Int.toNat_natCast, Int.toNat_natCast, List.append_nil]
    rfl
theorem at_len (m : Nat) (t : Ex.Tr) : (Ex.atT m t).length = (Ex.plainT t).length + if Ex.lvT t < m then 2 else 0 := by
  unfold Ex.atT Ex.brT
  split
  · simp
  · simp
theorem min_two (a : Nat) : 0 ≤ min (a : Int) 4097 + 2 ∧ min (a : Int) 4097 + 2 ≤ ((a + 2 : Nat) : Int) ∧ min (min (a : Int) 4097 + 2) 4097 = min ((a + 2 : Nat) : Int) 4097 := by omega
theorem min_none (a : Nat) : 0 ≤ min (a : Int) 4097 + 0 ∧ min (a : Int) 4097 + 0 ≤ ((a + 0 : Nat) : Int) ∧ min (min (a : Int) 4097 + 0) 4097 = min ((a + 0 : Nat) : Int) 4097 := by omega
/-- How many tokens, told by those ahead. -/
theorem size_len {row : List Ex.X} (h : rowB 0 row = true) : ∀ n, n ≤ row.length → ∀ k, k < n → (reckL (sizeOne row) 4097 (row.take n))[k]? = some (min ((Ex.plainT (treeL row k)).length : Int) 4097)
  | 0, _, k, hk => absurd hk (Nat.not_lt_zero _)
  | n + 1, hn, k, hk => by
    obtain ⟨e, he⟩ : ∃ e, row[n]? = some e := ⟨_, List.getElem?_eq_getElem (by omega)⟩
    have ih := size_len h n (by omega)
    have hx := row_rt h he
    rw [List.take_add_one, he, Option.toList_some, reckL_snoc]
    have hl : (reckL (sizeOne row) 4097 (row.take n)).length = n := by rw [reckL_len, List.length_take]; omega
    by_cases hkn : k < n
    · rw [List.getElem?_append_left (by rw [hl]; exact hkn)]; exact ih k hkn
    · have hke : k = n := by omega
      subst hke
      rw [List.getElem?_append_right (by rw [hl]; exact Nat.le_refl _), hl, Nat.sub_self]
      show some _ = some _
      congr 1
      rw [← rend_spell h he]
      have hw : ∀ l : List Itm, (∀ i q, Itm.s i q ∈ l → i ∈ sidesL e ∧ 0 ≤ q) → 0 ≤ cntI row (reckL (sizeOne row) 4097 (row.take k)) l ∧ cntI row (reckL (sizeOne row) 4097 (row.take k)) l ≤ (rendL row l).length ∧ min (cntI row (reckL (sizeOne row) 4097 (row.take k)) l) 4097 = min ((rendL row l).length : Int) 4097 := by
        intro l
        induction l with
        | nil => exact fun _ => (show (0 : Int) ≤ 0 ∧ (0 : Int) ≤ ((0 : Nat) : Int) ∧ min (0 : Int) 4097 = min ((0 : Nat) : Int) 4097 from ⟨by omega, by omega, by omega⟩)
        | cons x l ihl =>
          intro hm
          have h1 := ihl fun i q hi => hm i q (List.mem_cons_of_mem _ hi)
          have e1 : cntI row (reckL (sizeOne row) 4097 (row.take k)) (x :: l) = wtI row (reckL (sizeOne row) 4097 (row.take k)) x + cntI row (reckL (sizeOne row) 4097 (row.take k)) l := by unfold cntI; simp
          have e2 : (rendL row (x :: l)).length = (rendI row x).length + (rendL row l).length := by unfold rendL; rw [List.flatMap_cons, List.length_append]
          have h2 : 0 ≤ wtI row (reckL (sizeOne row) 4097 (row.take k)) x ∧ wtI row (reckL (sizeOne row) 4097 (row.take k)) x ≤ (rendI row x).length ∧ min (wtI row (reckL (sizeOne row) 4097 (row.take k)) x) 4097 = min ((rendI row x).length : Int) 4097 := by
            cases x with
            | t x => exact (show (0 : Int) ≤ 1 ∧ (1 : Int) ≤ ((1 : Nat) : Int) ∧ min (1 : Int) 4097 = min ((1 : Nat) : Int) 4097 from ⟨by omega, by omega, by omega⟩)
            | s i q =>
              obtain ⟨hi, hq0⟩ := hm i q List.mem_cons_self
              have hik : 0 ≤ i ∧ i < k := by
                have hc : e.k ≤ 4 ∨ (5 ≤ e.k ∧ e.k ≤ 7) ∨ 8 ≤ e.k := by omega
                unfold sidesL at hi
                rcases hc with hc | ⟨h5, h7⟩ | hc
                · rw [if_neg (by omega), if_neg (by unfold twoB; simp; omega)] at hi; cases hi
                · obtain ⟨q', hq', hqp, _⟩ := hx.un h5 h7
                  rw [if_pos (by omega)] at hi
                  simp at hi
                  omega
                · obtain ⟨q', r', hq', hr', hqp, hrp, _⟩ := hx.bi hc
                  rw [if_neg (by omega), if_pos (by unfold twoB; simp; have := hx.kd; omega)] at hi
                  simp at hi
                  omega
              obtain ⟨i, rfl⟩ := Int.eq_ofNat_of_zero_le hik.1
              have hik2 : i < k := by omega
              obtain ⟨e', he'⟩ : ∃ e', row[i]? = some e' := ⟨_, List.getElem?_eq_getElem (by omega)⟩
              have hlv := tree_lv h he'
              have hb := ruleI_bd e'.k
              have hg := ih i hik2
              show 0 ≤ List.getD _ (Int.toNat (i : Int)) 0 + (if ruleI (row.getD (Int.toNat (i : Int)) zEx).k < q then 2 else 0) ∧ _ ≤ ((Ex.atT (q.toNat + 1) (treeL row (Int.toNat (i : Int)))).length : Int) ∧ min (List.getD _ (Int.toNat (i : Int)) 0 + (if ruleI (row.getD (Int.toNat (i : Int)) zEx).k < q then 2 else 0)) 4097 = min ((Ex.atT (q.toNat + 1) (treeL row (Int.toNat (i : Int)))).length : Int) 4097
              show 0 ≤ List.getD _ (Int.toNat (i : Int)) 0 + (if ruleI (row.getD (Int.toNat (i : Int)) zEx).k < q then 2 else 0) ∧ List.getD _ (Int.toNat (i : Int)) 0 + (if ruleI (row.getD (Int.toNat (i : Int)) zEx).k < q then 2 else 0) ≤ ((Ex.atT (q.toNat + 1) (treeL row (Int.toNat (i : Int)))).length : Int) ∧ _
              rw [Int.toNat_natCast, at_len, getD_of he', List.getD_eq_getElem?_getD, hg]
              by_cases hr : ruleI e'.k < q
              · rw [if_pos hr, if_pos (by omega)]; exact min_two _
              · rw [if_neg hr, if_neg (by omega)]; exact min_none _
          rw [e1, e2]
          omega
      refine (hw (spellI e) fun i q hi => ⟨spell_side hx.kd hi, ?_⟩).2.2
      have hb := ruleI_bd e.k
      unfold spellI at hi
      by_cases h1 : e.k = 1
      · rw [if_pos h1] at hi; exact absurd hi val_side
      rw [if_neg h1] at hi
      by_cases h2 : e.k = 2
      · rw [if_pos h2] at hi; simp at hi
      rw [if_neg h2] at hi
      by_cases h3 : e.k = 3
      · rw [if_pos h3] at hi; unfold propI at hi; simp at hi
      rw [if_neg h3] at hi
      by_cases h4 : e.k = 4
      · rw [if_pos h4] at hi; unfold propI at hi; simp at hi
      rw [if_neg h4] at hi
      by_cases h5 : e.k = 5
      · rw [if_pos h5] at hi; simp at hi; omega
      rw [if_neg h5] at hi
      by_cases h6 : e.k = 6
      · rw [if_pos h6] at hi; simp at hi; omega
      rw [if_neg h6] at hi
      by_cases h7 : e.k = 7
      · rw [if_pos h7] at hi; simp at hi; omega
      rw [if_neg h7] at hi
      unfold twoI leftI at hi
      simp at hi
      rcases hi with hi | hi
      · rw [hi.2]; split <;> omega
      · omega
end Go.Proofs.YtdabanocofimmaaGreatDoor

namespace Go.Proofs.YtdabanocofimmaaGreatDoor
open Go.RowKit
set_option linter.unusedVariables false

theorem infoTA : (Tryz.prog.info? 43).map (fun i => (i.zero, i.size, i.bytes)) = some (some (.agg (tkC zTk)), 3, 32) := by kernel_rfl
theorem encT_len3 (x : Lx.Tk) : (encT x).length = 3 := rfl
theorem append_t (R : Nat) (w : World) (v : Value) (xs : List Lx.Tk) (hown : OwnK encT R 43 3 w v xs) (v2 : Value) (l : List Lx.Tk) (hl : SlK encT 3 w v2 l) (hn : xs.length + l.length ≤ 1000000) (hR : R ≤ w.heap.size) :
    ∃ v' w', (Builtin.append_ #[25, 25] 25 #[v, v2]).run Tryz.prog w = .ok v' w' ∧ OwnK encT R 43 3 w' v' (xs ++ l) ∧ w.grownBy w' v.ownBlock ∧ (v'.ownBlock = v.ownBlock ∨ (Below w.heap.size w w' ∧ ∀ g, v'.ownBlock = some g → w.heap.size ≤ g)) := by
  obtain ⟨i, hi, hz0, hz1, hz2⟩ := info_parts infoTA
  exact run_append_at (P := Tryz.prog) encT_len3 (by decide) R w 25 25 43 i _ 32 Tryz.underlying25 hi hz0 hz1 hz2 rfl v xs hown v2 l hl (fun e u hu => by
    simp only [encT, List.mem_cons, List.not_mem_nil, or_false] at hu
    rcases hu with rfl | rfl | rfl <;> rfl) (by omega) (by omega) hR
def tokFn (bl : Nat) : Value := .func (.func 24) #[] #[.pointer (some ⟨bl, 0, none⟩)]
def sideFn (br bt bs : Nat) : Value := .func (.func 25) #[] #[.pointer (some ⟨br, 0, none⟩), .pointer (some ⟨bt, 0, none⟩), .pointer (some ⟨bs, 0, none⟩)]
/-- The state of Tokens: boxes of the row, of the two functions, of the tokens. -/
structure TokSt (row : List Ex.X) (R br bt bs bl : Nat) (vr : Value) (xs : List Lx.Tk) (w : World) : Prop where
  r : Blk w br 22 #[vr]
  t : Blk w bt 50 #[tokFn bl]
  s : Blk w bs 51 #[sideFn br bt bs]
  l : ∃ v, Blk w bl 25 #[v] ∧ OwnK encT R 43 3 w v xs
  sr : SlK encX 8 w vr row
  betw : BetwIs w
  low : br < R ∧ bt < R ∧ bs < R ∧ bl < R ∧ 0 < R ∧ R ≤ w.heap.size
  ne : br ≠ bl ∧ bt ≠ bl ∧ bs ≠ bl ∧ bl ≠ 0
  adr : row ≠ [] → ∀ g o s n c, vr = .slice (some ⟨g, o, s⟩) n c → g < R ∧ g ≠ bl
/-- A block that is none of the tokens'. -/
def TSafe (bl : Nat) (k : Nat) (w : World) : Prop := k ≠ bl ∧ ∀ v, w.cell? ⟨bl, 0, none⟩ = some v → v.ownBlock ≠ some k
section
variable {row : List Ex.X} {R br bt bs bl : Nat} {vr : Value} {xs : List Lx.Tk} {w w' : World}
theorem TokSt.keep (h : TokSt row R br bt bs bl vr xs w) (hb : Below w.heap.size w w') : TokSt row R br bt bs bl vr xs w' := by
  obtain ⟨v, h1, h2⟩ := h.l
  exact ⟨h.r.below hb h.r.lt, h.t.below hb h.t.lt, h.s.below hb h.s.lt, ⟨v, h1.below hb h1.lt, h2.keep hb⟩, h.sr.below hb, h.betw.same hb.size (hb.block _ h.betw.1), ⟨h.low.1, h.low.2.1, h.low.2.2.1, h.low.2.2.2.1, h.low.2.2.2.2.1, Nat.le_trans h.low.2.2.2.2.2 hb.size⟩, h.ne, h.adr⟩
theorem TokSt.fram (h : TokSt row R br bt bs bl vr xs w) (hb : Below w.heap.size w w') : Fram (TSafe bl) w w' ∧ ∀ k, w.heap.size ≤ k → TSafe bl k w' := by
  obtain ⟨v, h1, h2⟩ := h.l
  have hc : w'.cell? ⟨bl, 0, none⟩ = w.cell? ⟨bl, 0, none⟩ := World.cell?_of_block (hb.block bl h1.lt)
  refine ⟨⟨⟨hb.os, hb.tape, hb.output, hb.size⟩, fun k hk hs => ⟨hb.block k hk, hs.1, fun u hu => hs.2 u (hc ▸ hu)⟩⟩, fun k hk => ⟨by have := h1.lt; omega, fun u hu e => ?_⟩⟩
  rw [hc, Blk.cell h1 0] at hu
  have hv : v = u := by simpa using hu
  subst hv
  have := (h2.lt k e).2
  omega
/-- The tokens have grown, and are laid into their box. -/
theorem TokSt.put (h : TokSt row R br bt bs bl vr xs w) {X W1 : World} {v v1 : Value} {x : Lx.Tk} (hbX : Below w.heap.size w X) (hv : Blk X bl 25 #[v]) (ho0 : OwnK encT R 43 3 X v xs) (ho : OwnK encT R 43 3 W1 v1 (xs ++ [x])) (hg : X.grownBy W1 v.ownBlock)
    (hl : v1.ownBlock = v.ownBlock ∨ (Below X.heap.size X W1 ∧ ∀ g, v1.ownBlock = some g → X.heap.size ≤ g)) :
    TokSt row R br bt bs bl vr (xs ++ [x]) (W1.setCell ⟨bl, 0, none⟩ v1) ∧ Fram (TSafe bl) w (W1.setCell ⟨bl, 0, none⟩ v1) := by
  have hX := h.keep hbX
  obtain ⟨p1, p2, p3, p4, p5, p6⟩ := hX.low
  obtain ⟨n1, n2, n3, n4⟩ := h.ne
  have hk : ∀ k, k < X.heap.size → k ≠ bl → v.ownBlock ≠ some k → (W1.setCell ⟨bl, 0, none⟩ v1).heap[k]? = X.heap[k]? := fun k hk1 hk2 hk3 => (Below.heap_setCell _ _ _ _ hk2).trans (hg.block k hk1 (fun e => hk3 e.symm))
  have hlo : ∀ k, k < R → v.ownBlock ≠ some k := fun k hk e => by have := (ho0.lt k e).1; omega
  have hsz : X.heap.size ≤ (W1.setCell ⟨bl, 0, none⟩ v1).heap.size := by simpa using hg.size
  have hbl : Blk W1 bl 25 #[v] := (hg.block bl (by omega) (fun e => hlo bl p4 e.symm)).trans hv
  have hap : v1.ownBlock ≠ some bl := fun e => by
    have := (ho.lt bl e).1
    omega
  refine ⟨⟨(hk br (by omega) n1 (hlo br p1)).trans hX.r, (hk bt (by omega) n2 (hlo bt p2)).trans hX.t, (hk bs (by omega) n3 (hlo bs p3)).trans hX.s, ⟨v1, hbl.set_ 0 v1, ho.same fun g hg' => Below.heap_setCell _ _ _ _ (fun e => hap (by rw [hg', e]))⟩,
    hX.sr.kept2 hsz fun hne b o n c e => ?_, hX.betw.same hsz (hk _ (by omega) (fun e => n4 e.symm) (hlo _ p5)), ⟨p1, p2, p3, p4, p5, Nat.le_trans p6 hsz⟩, h.ne, h.adr⟩, ⟨⟨hg.os.trans hbX.os, hg.tape.trans hbX.tape, hg.output.trans hbX.output, Nat.le_trans hbX.size hsz⟩, fun k hk1 hs => ?_⟩⟩
  · obtain ⟨a1, a2⟩ := h.adr hne b o none n c e
    exact hk b (by omega) a2 (hlo b a1)
  · have hvk : v.ownBlock ≠ some k := hs.2 v (by
      obtain ⟨v', h1, _⟩ := h.l
      have h3 := h1.below hbX h1.lt
      have h4 : (#[v'] : Array Value) = #[v] := by
        have := h3.symm.trans hv
        injection this with this
        injection this
      rw [Blk.cell h1 0, h4]
      rfl)
    refine ⟨(hk k (Nat.lt_of_lt_of_le hk1 hbX.size) hs.1 hvk).trans (hbX.block k hk1), hs.1, fun u hu => ?_⟩
    rw [Blk.cell (hbl.set_ 0 v1) 0] at hu
    have hu' : v1 = u := by simpa using hu
    subst hu'
    rcases hl with hl | ⟨_, hl⟩
    · rw [hl]; exact hvk
    · intro e
      have := hl k e
      have := hbX.size
      omega
end

set_option maxRecDepth 100000 in
set_option maxHeartbeats 3000000 in
theorem tk1_any {row : List Ex.X} {R br bt bs bl : Nat} {vr : Value} {xs : List Lx.Tk} {w : World} (x : Lx.Tk) (h : TokSt row R br bt bs bl vr xs w) (hn : xs.length + 1 ≤ 1000000) :
    Calls Tryz.prog 24 #[tkV x, .pointer (some ⟨bl, 0, none⟩)] w fun r w' => r = .returned (.tuple #[]) ∧ TokSt row R br bt bs bl vr (xs ++ [x]) w' ∧ Fram (TSafe bl) w w' := by
  obtain ⟨p, hp⟩ : ∃ p, w.heap.size = p := ⟨_, rfl⟩
  obtain ⟨X, hX⟩ : ∃ X, X = w.alloc (.cells (tkC x) 43) := ⟨_, rfl⟩
  obtain ⟨Y, hY⟩ : ∃ Y, Y = X.alloc (.cells (tkC x) 43) := ⟨_, rfl⟩
  have hbX : Below w.heap.size w X := by rw [hX]; exact (Below.refl _ _).alloc (Nat.le_refl _) _
  have hbY : Below X.heap.size X Y := by rw [hY]; exact (Below.refl _ _).alloc (Nat.le_refl _) _
  have hbw : Below w.heap.size w Y := hbX.trans (hbY.mono hbX.size)
  have hk := h.keep hbX
  have hkY := h.keep hbw
  obtain ⟨v, hv, ho⟩ := hk.l
  have hvY := hv.below hbY hv.lt
  have hoY := ho.keep hbY
  obtain ⟨v1, W1, hr, ho1, hg1, hl1⟩ := append_t R Y v xs hoY _ [x] (by rw [hY]; exact sl_oneT x X) hn hkY.low.2.2.2.2.2
  obtain ⟨A, c, rfl, _, _⟩ := ho.read encT_len3
  obtain ⟨A1, c1, rfl, _, _⟩ := ho1.read encT_len3
  have c0 : X.cell? ⟨bl, 0, none⟩ = some (.slice A xs.length c) := (Blk.cell hv 0).trans rfl
  have hE : Blk X p 43 (tkC x) := by rw [hX, ← hp]; exact Blk.new w _ _
  have hbl1 : Blk W1 bl 25 #[.slice A xs.length c] := (hg1.block bl hvY.lt (fun e => by
    have := (hoY.lt bl e.symm).1
    have := h.low.2.2.2.1
    omega)).trans hvY
  have d0 : W1.cell? ⟨bl, 0, none⟩ = some (.slice A xs.length c) := (Blk.cell hbl1 0).trans rfl
  have f0 := Blk.free hbl1 0
  have HFin := Lib.hid (h.put hbw hvY hoY ho1 hg1 hl1)
  obtain ⟨n, hnn⟩ : ∃ n, xs.length = n := ⟨_, rfl⟩
  obtain ⟨n1, hn1⟩ : ∃ n, (xs ++ [x]).length = n := ⟨_, rfl⟩
  rw [hnn] at c0 d0 hr
  rw [hn1] at hr HFin
  have HA := Lib.hid (show (Builtin.append_ #[25, 25] 25 #[.slice A n c, .slice (some ⟨X.heap.size, 0, none⟩) 1 1]).run Tryz.prog Y = _ from hr)
  have HX := Lib.hid hX
  have HY := Lib.hid hY
  have HP := Lib.hid hp
  have HE := Lib.hid hE
  have HS2 := Lib.hid (show p + 1 = X.heap.size by rw [hX, ← hp]; simp)
  clear hp hX hY hbX hbY hbw hk hkY hv ho hvY hoY hr ho1 hg1 hl1 hE hbl1 h hn hnn hn1
  obtain ⟨tk, tn, ts⟩ := x
  unfold tkC at HX HY HE
  unfold tkV
  dsimp only at HX HY HE ⊢
  have hA := HA.out
  rw [HY.out] at hA
  have HA2 := Lib.hid hA
  clear hA
  have g0 : X.cell? ⟨p, 0, none⟩ = some (.int .i64 tk) := (Blk.cell HE.out 0).trans rfl
  have g1 : X.cell? ⟨p, 1, none⟩ = some (.int .i64 tn) := (Blk.cell HE.out 1).trans rfl
  have g2 : X.cell? ⟨p, 2, none⟩ = some (.string ⟨ts.toArray⟩) := (Blk.cell HE.out 2).trans rfl
  go_enter Tryz.func24, Tryz.ntmps24
  go_upto_region 1 with fail
  rw [← HX.out, HP.out]
  go_wp2_with (first
    | (at_builtin; refine Lib.wpList_append_run (o := ⟨some 6, _, _, _, _, _⟩) _ rfl _ _ _ _ rfl _ _ rfl rfl _ _ HA2.out ?_)
    | fail)
  go_end0
  exact ⟨rfl, HFin.out⟩

end Go.Proofs.YtdabanocofimmaaGreatDoor
