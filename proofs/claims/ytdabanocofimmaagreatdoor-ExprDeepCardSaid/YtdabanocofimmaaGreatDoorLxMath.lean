/-
  The words of a text: mathematics of lex. Conditions: none.
-/
import Derived.Test.YtdabanocofimmaaGreatDoorJValBack
import Derived.Lib.SlTrimSet
import Derived.Lib.TrimByte
namespace Go.Proofs.YtdabanocofimmaaGreatDoor.Lx
open Go.RowKit

/-- A token: its kind, number and text. -/
abbrev Tk := Int × Int × List UInt8
def inNums : List UInt8 := [48, 49, 50, 51, 52, 53, 54, 55, 56, 57]
def inNames : List UInt8 := [97, 98, 99, 100, 101, 102, 103, 104, 105, 106, 107, 108, 109, 110, 111, 112, 113, 114, 115, 116, 117, 118, 119, 120, 121, 122, 65, 66, 67, 68, 69, 70, 71, 72, 73, 74, 75, 76, 77, 78, 79, 80, 81, 82, 83, 84, 85, 86, 87, 88, 89, 90, 95, 48, 49, 50, 51, 52, 53, 54, 55, 56, 57]
def words : List (List UInt8) := [[77, 65, 84, 67, 72], [79, 80, 84, 73, 79, 78, 65, 76], [87, 72, 69, 82, 69], [82, 69, 84, 85, 82, 78], [68, 73, 83, 84, 73, 78, 67, 84], [79, 82, 68, 69, 82], [66, 89], [68, 69, 83, 67], [83, 75, 73, 80], [76, 73, 77, 73, 84], [67, 82, 69, 65, 84, 69], [83, 69, 84], [82, 69, 77, 79, 86, 69], [68, 69, 76, 69, 84, 69], [65, 78, 68], [79, 82], [78, 79, 84], [73, 83], [78, 85, 76, 76], [84, 82, 85, 69], [70, 65, 76, 83, 69], [67, 79, 85, 78, 84], [83, 85, 77], [77, 73, 78], [77, 65, 88], [77, 65, 78, 89]]
def signs : List (List UInt8) := [[40], [41], [91], [93], [58], [44], [46], [46, 46], [45], [45, 62], [60, 45], [61], [60, 62], [60], [60, 61], [62], [62, 61], [43], [42], [64]]

/-- What value.Parse tells. -/
def parseO (l : List UInt8) : Option Tk := if fits ⟨l.toArray⟩ (lik ⟨l.toArray⟩) = true then some (lik ⟨l.toArray⟩) else none
theorem parseO_some {l : List UInt8} {c : Tk} : parseO l = some c ↔ rightB c.1 c.2.1 c.2.2 = true ∧ textB c.1 c.2.1 c.2.2 = l := by
  unfold parseO
  constructor
  · intro h
    split at h
    · rename_i hf
      injection h with h
      rw [h] at hf
      unfold fits at hf
      simp only [Bool.and_eq_true, decide_eq_true_eq] at hf
      exact hf
    · cases h
  · rintro ⟨h1, h2⟩
    have hk : lik ⟨l.toArray⟩ = c := by rw [← h2]; exact lik_text _ _ _ h1
    rw [hk, if_pos]
    unfold fits
    simp only [Bool.and_eq_true, decide_eq_true_eq]
    exact ⟨h1, h2⟩

def runL (s l : List UInt8) : List UInt8 := l.takeWhile (s.contains ·)
def nameO (l : List UInt8) : Option (Tk × Nat) := if nameB (runL inNames l) = true then some ((if words.contains (runL inNames l) = true then 2 else 1, 0, runL inNames l), (runL inNames l).length) else none
def numO (l : List UInt8) : Option (Tk × Nat) := match parseO (runL inNums l) with | some v => some ((3, v.2.1, []), (runL inNums l).length) | none => none
/-- How many bytes there are up to the sign that ends a text; 0: it doesn't end. -/
def qe : List UInt8 → Nat
  | [] => 0
  | c :: t => if c = 92 then (match t with | [] => 0 | _ :: t' => if qe t' = 0 then 0 else qe t' + 2) else if c = 39 then 1 else if qe t = 0 then 0 else qe t + 1
def quotedL : List UInt8 → List UInt8
  | [] => []
  | c :: t => if c = 39 then (if qe t = 0 then [] else (c :: t).take (qe t + 1)) else []
theorem quotedL_cons (c : UInt8) (t : List UInt8) : quotedL (c :: t) = if c = 39 then (if qe t = 0 then [] else (c :: t).take (qe t + 1)) else [] := rfl
def textO (l : List UInt8) : Option (Tk × Nat) := match parseO (quotedL l) with | some v => some ((4, 0, v.2.2), (quotedL l).length) | none => none
def longer (l g one : List UInt8) : List UInt8 := if (decide (g.length < one.length) && Lib.hasPrefix l one) = true then one else g
def signL (l : List UInt8) : List UInt8 := signs.foldl (longer l) []
def signO (l : List UInt8) : Option (Tk × Nat) := if signL l = [] then none else some ((5, 0, signL l), (signL l).length)
def firstO (l : List UInt8) : Option (Tk × Nat) := match nameO l with | some x => some x | none => match numO l with | some x => some x | none => match textO l with | some x => some x | none => signO l
def speltL (t : Tk) : List UInt8 := if t.1 = 3 then textB 2 t.2.1 [] else if t.1 = 4 then textB 3 0 t.2.2 else t.2.2
def rightT (t : Tk) : Bool := match firstO (speltL t) with | some (u, _) => decide (u = t) | none => false

/-! The kinds of bytes. -/
def letU (c : UInt8) : Bool := lettB (c.toNat : Int)
def digU (c : UInt8) : Bool := digI (c.toNat : Int)
theorem all_bytes {p : UInt8 → Bool} (h : (List.range 256).all (fun n => p (UInt8.ofNat n)) = true) (c : UInt8) : p c = true := by
  have h1 := List.all_eq_true.1 h c.toNat (List.mem_range.2 (UInt8.toNat_lt c))
  rwa [UInt8.ofNat_toNat] at h1
theorem in_names (c : UInt8) : inNames.contains c = (letU c || digU c || c == 95) := by
  have := all_bytes (p := fun c => inNames.contains c == (letU c || digU c || c == 95)) (by decide +kernel) c
  exact eq_of_beq this
theorem in_nums (c : UInt8) : inNums.contains c = digU c := by
  have := all_bytes (p := fun c => inNums.contains c == digU c) (by decide +kernel) c
  exact eq_of_beq this
theorem let_not (c : UInt8) (h : letU c = true) : digU c = false ∧ c ≠ 39 ∧ c ≠ 32 ∧ c ≠ 95 := by
  have := all_bytes (p := fun c => !letU c || (!digU c && c != 39 && c != 32 && c != 95)) (by decide +kernel) c
  rw [h] at this
  simpa [and_assoc] using this
theorem dig_not (c : UInt8) (h : digU c = true) : letU c = false ∧ c ≠ 39 ∧ c ≠ 32 ∧ c ≠ 110 ∧ c ≠ 102 ∧ c ≠ 116 ∧ c ≠ 40 ∧ c ≠ 91 ∧ c ≠ 45 := by
  have := all_bytes (p := fun c => !digU c || (!letU c && c != 39 && c != 32 && c != 110 && c != 102 && c != 116 && c != 40 && c != 91 && c != 45)) (by decide +kernel) c
  rw [h] at this
  simpa [and_assoc] using this
theorem signs_head : signs.all (fun g => match g with | [] => false | c :: _ => !letU c && !digU c && c != 39 && c != 32) = true := by decide +kernel
theorem sign_cons {g : List UInt8} (h : g ∈ signs) : ∃ c t, g = c :: t ∧ letU c = false ∧ digU c = false ∧ c ≠ 39 ∧ c ≠ 32 := by
  have := List.all_eq_true.1 signs_head g h
  cases g with
  | nil => cases this
  | cons c t => exact ⟨c, t, rfl, by simpa [and_assoc] using this⟩
theorem words_name : words.all (fun g => nameB g && !signs.contains g) = true := by decide +kernel

theorem runL_nil (s : List UInt8) : runL s [] = [] := rfl
theorem runL_cons (s : List UInt8) (c : UInt8) (t : List UInt8) : runL s (c :: t) = if s.contains c = true then c :: runL s t else [] := by
  unfold runL; rw [List.takeWhile_cons]
theorem runL_take (s : List UInt8) : ∀ l : List UInt8, l.take (runL s l).length = runL s l
  | [] => rfl
  | c :: t => by
    rw [runL_cons]
    split
    · rw [List.length_cons, List.take_succ_cons, runL_take s t]
    · rfl
theorem runL_le (s : List UInt8) (l : List UInt8) : (runL s l).length ≤ l.length := by
  have := congrArg List.length (runL_take s l)
  rw [List.length_take] at this
  omega
theorem runL_run (s : List UInt8) : ∀ l : List UInt8, runL s (runL s l) = runL s l
  | [] => rfl
  | c :: t => by
    rw [runL_cons]
    split
    · rename_i h
      rw [runL_cons, if_pos h, runL_run s t]
    · rfl
theorem nameB_head {c : UInt8} {t : List UInt8} (h : nameB (c :: t) = true) : letU c = true := by
  unfold nameB at h
  simp only [Bool.and_eq_true, List.all_eq_true, List.mem_range] at h
  have := h.2 0 (by simp)
  unfold okAt okR at this
  simpa [letU] using this
theorem parseO_nil : parseO [] = none := by
  cases h : parseO [] with
  | none => rfl
  | some c =>
    exfalso
    obtain ⟨h1, h2⟩ := parseO_some.1 h
    have h3 := parseO_some.2 ⟨h1, h2⟩
    have hk : lik ⟨#[]⟩ = c := by
      have := lik_text _ _ _ h1
      rwa [h2] at this
    rw [show lik ⟨#[]⟩ = (2, numL [], []) from rfl] at hk
    subst hk
    obtain ⟨q, r, hq, _⟩ := itoa_head (numL [])
    unfold textB at h2
    rw [if_pos h1] at h2
    simp [hq] at h2

theorem nameO_not {c : UInt8} {t : List UInt8} (h : letU c = false) : nameO (c :: t) = none := by
  unfold nameO
  rw [if_neg]
  intro hn
  rw [runL_cons] at hn
  split at hn
  · rw [nameB_head hn] at h; cases h
  · cases hn
theorem numO_not {c : UInt8} {t : List UInt8} (h : digU c = false) : numO (c :: t) = none := by
  unfold numO
  rw [runL_cons, in_nums, h, if_neg (by decide), parseO_nil]
theorem textO_not {c : UInt8} {t : List UInt8} (h : c ≠ 39) : textO (c :: t) = none := by
  unfold textO
  rw [quotedL_cons, if_neg h, parseO_nil]

/-! Signs. -/
theorem longer_fold (l : List UInt8) : ∀ (S : List (List UInt8)) (g : List UInt8),
    (S.foldl (longer l) g = g ∨ S.foldl (longer l) g ∈ S) ∧ (Lib.hasPrefix l g = true → Lib.hasPrefix l (S.foldl (longer l) g) = true) ∧ g.length ≤ (S.foldl (longer l) g).length ∧ ∀ one ∈ S, Lib.hasPrefix l one = true → one.length ≤ (S.foldl (longer l) g).length
  | [], g => ⟨.inl rfl, id, Nat.le_refl _, fun _ h => by cases h⟩
  | o :: S, g => by
    obtain ⟨h1, h2, h3, h4⟩ := longer_fold l S (longer l g o)
    rw [List.foldl_cons]
    have hlen : g.length ≤ (longer l g o).length ∧ (Lib.hasPrefix l o = true → o.length ≤ (longer l g o).length) := by
      unfold longer
      split
      · rename_i h
        simp only [Bool.and_eq_true, decide_eq_true_eq] at h
        exact ⟨by omega, fun _ => Nat.le_refl _⟩
      · rename_i h
        refine ⟨Nat.le_refl _, fun hp => ?_⟩
        rw [hp, Bool.and_true, decide_eq_true_eq] at h
        omega
    refine ⟨?_, fun hg => h2 ?_, Nat.le_trans hlen.1 h3, fun one hm hp => ?_⟩
    · rcases h1 with h1 | h1
      · rw [h1]
        unfold longer
        split
        · exact .inr (by simp)
        · exact .inl rfl
      · exact .inr (List.mem_cons_of_mem _ h1)
    · unfold longer
      split
      · rename_i h
        simp only [Bool.and_eq_true] at h
        exact h.2
      · exact hg
    · rcases List.mem_cons.1 hm with rfl | hm
      · exact Nat.le_trans (hlen.2 hp) h3
      · exact h4 one hm hp
theorem pre_iff {l g : List UInt8} : Lib.hasPrefix l g = true ↔ g = l.take g.length := by
  unfold Lib.hasPrefix
  rw [List.isPrefixOf_iff_prefix, List.prefix_iff_eq_take]
theorem signL_spec (l : List UInt8) : (signL l = [] ∨ signL l ∈ signs) ∧ signL l = l.take (signL l).length ∧ ∀ one ∈ signs, one = l.take one.length → one.length ≤ (signL l).length := by
  obtain ⟨h1, h2, _, h4⟩ := longer_fold l signs []
  exact ⟨h1, pre_iff.1 (h2 (by unfold Lib.hasPrefix; simp [List.isPrefixOf])), fun one hm hp => h4 one hm (pre_iff.2 hp)⟩
theorem signO_not {c : UInt8} {t : List UInt8} (h : letU c = true ∨ digU c = true ∨ c = 39 ∨ c = 32) : signO (c :: t) = none := by
  unfold signO
  rw [if_pos]
  obtain ⟨h1, h2, _⟩ := signL_spec (c :: t)
  rcases h1 with h1 | h1
  · exact h1
  · exfalso
    obtain ⟨d, u, he, k1, k2, k3, k4⟩ := sign_cons h1
    rw [he, List.length_cons, List.take_succ_cons] at h2
    obtain ⟨rfl, _⟩ := List.cons.inj h2
    rcases h with h | h | h | h
    · rw [k1] at h; cases h
    · rw [k2] at h; cases h
    · exact k3 h
    · exact k4 h
theorem signL_self : signs.all (fun g => signL g == g) = true := by decide +kernel
theorem signL_at {g : List UInt8} (h : g ∈ signs) : signL g = g := eq_of_beq (List.all_eq_true.1 signL_self g h)

/-- Which reader speaks is told by the first byte. -/
theorem firstO_cons (c : UInt8) (t : List UInt8) : firstO (c :: t) = if letU c = true then nameO (c :: t) else if digU c = true then numO (c :: t) else if c = 39 then textO (c :: t) else signO (c :: t) := by
  unfold firstO
  by_cases h1 : letU c = true
  · obtain ⟨k1, k2, _⟩ := let_not c h1
    rw [if_pos h1, numO_not k1, textO_not k2, signO_not (.inl h1)]
    cases nameO (c :: t) <;> rfl
  · have h1' : letU c = false := by simpa using h1
    rw [if_neg h1, nameO_not h1']
    by_cases h2 : digU c = true
    · obtain ⟨_, k2, _⟩ := dig_not c h2
      rw [if_pos h2, textO_not k2, signO_not (.inr (.inl h2))]
      cases numO (c :: t) <;> rfl
    · have h2' : digU c = false := by simpa using h2
      rw [if_neg h2, numO_not h2']
      by_cases h3 : c = 39
      · rw [if_pos h3, signO_not (.inr (.inr (.inl h3)))]
        cases textO (c :: t) <;> rfl
      · rw [if_neg h3, textO_not h3]
set_option maxRecDepth 100000 in
theorem firstO_nil : firstO [] = none := by
  unfold firstO
  rw [show nameO [] = none from rfl, show signO [] = none from rfl]
  unfold numO textO
  rw [runL_nil, show quotedL [] = [] from rfl, parseO_nil]

/-! A text's end. -/
theorem qe_le : ∀ l : List UInt8, qe l ≤ l.length
  | [] => Nat.le_refl _
  | c :: t => by
    unfold qe
    split
    · cases t with
      | nil => exact Nat.zero_le _
      | cons d t' =>
        have := qe_le t'
        simp only [List.length_cons]
        split <;> omega
    · split
      · simp
      · have := qe_le t
        simp only [List.length_cons]
        split <;> omega
theorem qe_append (z : List UInt8) : ∀ l : List UInt8, qe l ≠ 0 → qe (l ++ z) = qe l
  | [], h => absurd rfl h
  | c :: t, h => by
    rw [List.cons_append]
    unfold qe at h ⊢
    by_cases h1 : c = 92
    · rw [if_pos h1] at h ⊢
      rw [if_pos h1]
      cases t with
      | nil => exact absurd rfl h
      | cons d t' =>
        simp only [List.cons_append] at h ⊢
        by_cases h2 : qe t' = 0
        · rw [if_pos h2] at h; exact absurd rfl h
        · rw [qe_append z t' h2]
    · rw [if_neg h1] at h ⊢
      rw [if_neg h1]
      by_cases h3 : c = 39
      · rw [if_pos h3, if_pos h3]
      · rw [if_neg h3] at h ⊢
        rw [if_neg h3]
        by_cases h2 : qe t = 0
        · rw [if_pos h2] at h; exact absurd rfl h
        · rw [qe_append z t h2]
theorem qe_take : ∀ l : List UInt8, qe l ≠ 0 → qe (l.take (qe l)) ≠ 0
  | [], h => absurd rfl h
  | c :: t, h => by
    unfold qe at h
    by_cases h1 : c = 92
    · rw [if_pos h1] at h
      cases t with
      | nil => exact absurd rfl h
      | cons d t' =>
        simp only at h
        by_cases h2 : qe t' = 0
        · rw [if_pos h2] at h; exact absurd rfl h
        · have e : qe (c :: d :: t') = qe t' + 2 := by
            rw [qe.eq_def]; simp only [h1, if_true, if_neg h2]
          rw [e, List.take_succ_cons, List.take_succ_cons, qe.eq_def]
          have := qe_take t' h2
          simp only [h1, if_true, if_neg this]
          omega
    · rw [if_neg h1] at h
      by_cases h3 : c = 39
      · have e : qe (c :: t) = 1 := by rw [qe.eq_def]; simp only [if_neg h1, if_pos h3]
        rw [e, List.take_succ_cons, qe.eq_def]
        simp only [if_neg h1, if_pos h3]
        decide
      · rw [if_neg h3] at h
        by_cases h2 : qe t = 0
        · rw [if_pos h2] at h; exact absurd rfl h
        · have e : qe (c :: t) = qe t + 1 := by rw [qe.eq_def]; simp only [if_neg h1, if_neg h3, if_neg h2]
          rw [e, List.take_succ_cons, qe.eq_def]
          have := qe_take t h2
          simp only [if_neg h1, if_neg h3, if_neg this]
          omega
theorem quotedL_take (l : List UInt8) : l.take (quotedL l).length = quotedL l := by
  cases l with
  | nil => rfl
  | cons c t =>
    rw [quotedL_cons]
    split
    · split
      · rfl
      · have := qe_le t
        rw [List.length_take, Nat.min_eq_left (by simp; omega)]
    · rfl
theorem quotedL_self (l : List UInt8) : quotedL (quotedL l) = quotedL l := by
  cases l with
  | nil => rfl
  | cons c t =>
    by_cases h : c = 39
    · by_cases h2 : qe t = 0
      · have : quotedL (c :: t) = [] := by rw [quotedL_cons, if_pos h, if_pos h2]
        rw [this]; rfl
      · have e : quotedL (c :: t) = c :: t.take (qe t) := by rw [quotedL_cons, if_pos h, if_neg h2, List.take_succ_cons]
        have h3 := qe_take t h2
        have h4 : qe (t.take (qe t)) = qe t := by
          have := qe_append (t.drop (qe t)) _ h3
          rw [List.take_append_drop] at this
          exact this.symm
        rw [e]
        show (if c = 39 then (if qe (t.take (qe t)) = 0 then [] else (c :: t.take (qe t)).take (qe (t.take (qe t)) + 1)) else []) = _
        rw [if_pos h, if_neg h3, h4, List.take_succ_cons, List.take_take, Nat.min_self]
    · have : quotedL (c :: t) = [] := by rw [quotedL_cons, if_neg h]
      rw [this]; rfl
/-! What a token at the beginning is: its text alone, whatever stands behind a blank. -/
theorem num_text {l : List UInt8} {v : Tk} {c : UInt8} {t : List UInt8} (hl : l = c :: t) (hc : digU c = true) (h : parseO l = some v) : v = (2, v.2.1, []) ∧ rightB 2 v.2.1 [] = true ∧ textB 2 v.2.1 [] = l ∧ 0 ≤ v.2.1 := by
  obtain ⟨h1, h2⟩ := parseO_some.1 h
  have hk : lik ⟨l.toArray⟩ = v := by rw [← h2]; exact lik_text _ _ _ h1
  obtain ⟨_, k39, _, k1, k2, k3, k4, k5, k6⟩ := dig_not c hc
  rw [hl, lik_head c t k1 k2 k3, if_neg k39, if_neg k4, if_neg k5] at hk
  have e1 : v = (2, v.2.1, []) := by rw [← hk]
  rw [e1] at h1 h2
  refine ⟨e1, h1, h2, ?_⟩
  by_cases hn : 0 ≤ v.2.1
  · exact hn
  · exfalso
    have h2' : textB 2 v.2.1 [] = Lib.itoa v.2.1 := by
      unfold textB; rw [if_pos h1]; rfl
    have h3 : Lib.itoa v.2.1 = c :: t := by rw [← h2', ← hl]; exact h2
    unfold Lib.itoa at h3
    rw [if_pos (by omega)] at h3
    exact k6 (List.cons.inj h3).1.symm
theorem quote_text {l : List UInt8} {v : Tk} {t : List UInt8} (hl : l = 39 :: t) (h : parseO l = some v) : v = (3, 0, v.2.2) ∧ rightB 3 0 v.2.2 = true ∧ textB 3 0 v.2.2 = l := by
  obtain ⟨h1, h2⟩ := parseO_some.1 h
  have hk : lik ⟨l.toArray⟩ = v := by rw [← h2]; exact lik_text _ _ _ h1
  rw [hl, lik_head 39 t (by decide) (by decide) (by decide), if_pos rfl] at hk
  have e1 : v = (3, 0, v.2.2) := by rw [← hk]
  rw [e1] at h1 h2
  exact ⟨e1, h1, h2⟩

end Go.Proofs.YtdabanocofimmaaGreatDoor.Lx
