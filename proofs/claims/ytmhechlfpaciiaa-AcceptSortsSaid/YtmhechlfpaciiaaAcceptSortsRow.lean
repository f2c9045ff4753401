/-
  hedgerowlaw09.AcceptSorts answers true for all arguments, and leaves all memory as it was. Conditions: none.
-/
import Derived.Test.YtmhechlfpaciiaaJAsClosed
import Derived.Test.YtmhechlfpaciiaaJWords
import Derived.Test.YtmhechlfpaciiaaRow
import Derived.Test.YtmhechlfpaciiaaArgsS
namespace Go.Proofs.Ytmhechlfpaciiaa
open Go.RowKit Go.MapKept Go.Sort

/-- What a vector tells of the events that came. -/
structure Came (T : List Ev) (f : Nat → Int) : Prop where
  low : ∀ i, i < 16 → 0 ≤ f i
  ok : ∀ x ∈ T, okB x = true
  up : ∀ x ∈ T, x.c ≤ f x.r.toNat
  all : ∀ i : Nat, i < 16 → ∀ n : Int, 1 ≤ n → n ≤ f i → ∃ x ∈ T, x.r.toNat = i ∧ x.c = n
def dotNe (x y : Ev) : Prop := ¬ (x.r.toNat = y.r.toNat ∧ x.c = y.c)
theorem dotNe_symm {x y : Ev} (h : dotNe x y) : dotNe y x := fun ⟨a, b⟩ => h ⟨a.symm, b.symm⟩
theorem may_parts {f : Nat → Int} {e : Ev} (h : mayC f e = true) : okB e = true ∧ f e.r.toNat = e.c - 1 ∧ ∀ i, i < 16 → e.p i ≤ f i := by
  unfold mayC at h
  simp only [Bool.and_eq_true, beq_iff_eq] at h
  exact ⟨h.1.1, h.1.2, fun i hi => by have := List.all_eq_true.1 h.2 i (List.mem_range.2 hi); simpa using this⟩
theorem may_of {f : Nat → Int} {e : Ev} (h1 : okB e = true) (h2 : f e.r.toNat = e.c - 1) (h3 : ∀ i, i < 16 → e.p i ≤ f i) : mayC f e = true := by
  unfold mayC
  simp only [Bool.and_eq_true, beq_iff_eq]
  exact ⟨⟨h1, h2⟩, List.all_eq_true.2 fun i hi => decide_eq_true (h3 i (List.mem_range.1 hi))⟩
theorem came_step {T : List Ev} {f : Nat → Int} {e : Ev} (h : Came T f) (hm : mayC f e = true) : Came (T ++ [e]) (setD f e) := by
  obtain ⟨h1, h2, _⟩ := may_parts hm
  obtain ⟨n, hn, hn2, hn3, _⟩ := ok_dot h1
  have hr : e.r.toNat = n := by omega
  refine ⟨fun i hi => ?_, fun x hx => ?_, fun x hx => ?_, fun i hi m hm1 hm2 => ?_⟩
  · unfold setD
    split
    · omega
    · exact h.low i hi
  · rcases List.mem_append.1 hx with hx | hx
    · exact h.ok x hx
    · rw [List.mem_singleton.1 hx]; exact h1
  · rcases List.mem_append.1 hx with hx | hx
    · have := h.up x hx
      unfold setD
      split
      · rename_i e1
        rw [e1] at this
        omega
      · exact this
    · rw [List.mem_singleton.1 hx]
      unfold setD
      rw [if_pos rfl]
      exact Int.le_refl _
  · unfold setD at hm2
    split at hm2
    · rename_i e1
      by_cases hme : m = e.c
      · exact ⟨e, List.mem_append.2 (.inr (List.mem_singleton.2 rfl)), e1.symm, hme.symm⟩
      · obtain ⟨x, hx, hx2⟩ := h.all i hi m hm1 (by rw [e1, h2]; omega)
        exact ⟨x, List.mem_append.2 (.inl hx), hx2⟩
    · obtain ⟨x, hx, hx2⟩ := h.all i hi m hm1 hm2
      exact ⟨x, List.mem_append.2 (.inl hx), hx2⟩

/-- What a row is, beside. -/
structure Rowed (R : List Ev) (k : Nat → Int) : Prop where
  came : Came R k
  ne : R.Pairwise dotNe
  past : ∀ x ∈ R, ∀ i, i < 16 → x.p i ≤ k i
theorem rowed_step {R : List Ev} {k : Nat → Int} {e : Ev} (h : Rowed R k) (hm : mayC k e = true) : Rowed (R ++ [e]) (setD k e) := by
  obtain ⟨h1, h2, h3⟩ := may_parts hm
  have hmono : ∀ i, k i ≤ setD k e i := by
    intro i
    unfold setD
    split
    · rename_i e1
      rw [e1]; omega
    · exact Int.le_refl _
  refine ⟨came_step h.came hm, ?_, fun x hx i hi => ?_⟩
  · refine List.pairwise_append.2 ⟨h.ne, List.pairwise_singleton _ _, fun x hx y hy => ?_⟩
    rw [List.mem_singleton.1 hy]
    rintro ⟨e1, e2⟩
    have := h.came.up x hx
    rw [e1] at this
    omega
  · rcases List.mem_append.1 hx with hx | hx
    · exact Int.le_trans (h.past x hx i hi) (hmono i)
    · rw [List.mem_singleton.1 hx]
      exact Int.le_trans (h3 i hi) (hmono i)
theorem rowed_caus (l : List Ev) : Rowed (causC l).1 (causC l).2 := by
  suffices h : ∀ (l : List Ev) (s : List Ev × (Nat → Int)), Rowed s.1 s.2 → Rowed (l.foldl comeC s).1 (l.foldl comeC s).2 by
    exact h l ([], fun _ => 0) ⟨⟨fun i _ => Int.le_refl _, fun x hx => (by cases hx), fun x hx => (by cases hx), fun i _ n h1 h2 => (by have h3 : (1 : Int) ≤ 0 := Int.le_trans h1 h2; omega)⟩, List.Pairwise.nil, fun x hx => (by cases hx)⟩
  intro l
  induction l with
  | nil => exact fun s h => h
  | cons e l ih =>
    intro s h
    rw [List.foldl_cons]
    apply ih
    cases hm : mayC s.2 e with
    | false => rw [comeC_no hm]; exact h
    | true => rw [comeC_yes hm]; exact rowed_step h hm

theorem sum_plain {f : Nat → Int} (hf : ∀ i, i < 16 → 0 ≤ f i ∧ f i ≤ 1048576) : ∀ k, k ≤ 16 → 0 ≤ sumN f k ∧ sumN f k ≤ k * 1048576 ∧ (k < 16 → sumN f (k + 1) = sumN f k + f k)
  | 0, _ => by
    have := hf 0 (by omega)
    refine ⟨Int.le_refl _, Int.le_refl _, fun _ => ?_⟩
    simp only [sumN]
    omega
  | k + 1, hk => by
    obtain ⟨h1, h2, h3⟩ := sum_plain hf k (by omega)
    have h4 := h3 (by omega)
    have hk2 := hf k (by omega)
    refine ⟨by rw [h4]; omega, by rw [h4]; omega, fun hk3 => ?_⟩
    have := hf (k + 1) hk3
    show sumN f (k + 1) + min (max (f (k + 1)) 0) (4611686018427387904 - sumN f (k + 1)) = _
    omega
theorem sum_less {f g : Nat → Int} (hf : ∀ i, i < 16 → 0 ≤ f i ∧ f i ≤ 1048576) (hg : ∀ i, i < 16 → 0 ≤ g i ∧ g i ≤ 1048576) (hle : ∀ i, i < 16 → f i ≤ g i) {j : Nat} (hj : j < 16) (hlt : f j < g j) : sumN f 16 < sumN g 16 := by
  have h : ∀ k, k ≤ 16 → sumN f k ≤ sumN g k ∧ (j < k → sumN f k < sumN g k) := by
    intro k
    induction k with
    | zero => exact fun _ => ⟨Int.le_refl _, fun h => absurd h (Nat.not_lt_zero j)⟩
    | succ k ih =>
      intro hk
      obtain ⟨a, b⟩ := ih (by omega)
      have e1 := (sum_plain hf k (by omega)).2.2 (by omega)
      have e2 := (sum_plain hg k (by omega)).2.2 (by omega)
      have := hle k (by omega)
      rw [e1, e2]
      refine ⟨by omega, fun hjk => ?_⟩
      by_cases hjk2 : j = k
      · subst hjk2; omega
      · have := b (by omega); omega
  exact (h 16 (Nat.le_refl _)).2 hj
theorem ok_past {e : Ev} (h : okB e = true) : e.p e.r.toNat = e.c - 1 ∧ ∀ i, i < 16 → 0 ≤ e.p i ∧ e.p i ≤ 1048576 := by
  unfold okB nextB at h
  simp only [Bool.and_eq_true, beq_iff_eq] at h
  exact ⟨h.1.1.2, (right_iff e.p).1 h.1.2⟩
theorem closed_key {R : List Ev} {k : Nat → Int} (hR : Rowed R k) (hc : closedB R = true) {e x : Ev} (he : e ∈ R) (hx : x ∈ R) (h : x.c ≤ e.p x.r.toNat) : sumN x.p 16 < sumN e.p 16 := by
  have h1 := List.all_eq_true.1 (List.all_eq_true.1 hc e he) x hx
  unfold belowC at h1
  rw [decide_eq_false (by omega), Bool.false_or] at h1
  obtain ⟨n, hn, hn2, _⟩ := ok_dot (hR.came.ok x hx)
  obtain ⟨q1, q2⟩ := ok_past (hR.came.ok x hx)
  have hxn : x.r.toNat = n := by omega
  refine sum_less q2 (ok_past (hR.came.ok e he)).2 (fun i hi => ?_) (j := x.r.toNat) (by omega) (by omega)
  simpa using List.all_eq_true.1 h1 i (List.mem_range.2 hi)

theorem sorted_takes {R s : List Ev} {k : Nat → Int} (hR : Rowed R k) (hc : closedB R = true) (hsub : ∀ x, x ∈ s ↔ x ∈ R) (hne : s.Pairwise dotNe) (hso : s.Pairwise fun x y => ¬ sumN y.p 16 < sumN x.p 16) :
    ∀ (U T : List Ev) (f : Nat → Int), T ++ U = s → Came T f → ∃ g, allA U T f = (s, g, 0) ∧ Came s g
  | [], T, f, hs, h => by
    rw [List.append_nil] at hs
    subst hs
    exact ⟨f, rfl, h⟩
  | e :: U, T, f, hs, h => by
    have hes : e ∈ s := by rw [← hs]; simp
    have he := (hsub e).1 hes
    have hok := hR.came.ok e he
    obtain ⟨n, hn, hn2, hn3, _⟩ := ok_dot hok
    obtain ⟨q1, q2⟩ := ok_past hok
    have hern : e.r.toNat = n := by omega
    have hin : ∀ x ∈ R, x.c ≤ e.p x.r.toNat → x ∈ T := by
      intro x hx hxe
      have hlt := closed_key hR hc he hx hxe
      have hxs := (hsub x).2 hx
      rw [← hs] at hxs hso
      rcases List.mem_append.1 hxs with hxs | hxs
      · exact hxs
      · exfalso
        rcases List.mem_cons.1 hxs with rfl | hxs
        · omega
        · exact (List.pairwise_cons.1 (List.pairwise_append.1 hso).2.1).1 x hxs hlt
    have hge : ∀ i, i < 16 → e.p i ≤ f i := by
      intro i hi
      by_cases h1 : 1 ≤ e.p i
      · obtain ⟨x, hx, hx2, hx3⟩ := hR.came.all i hi (e.p i) h1 (hR.past e he i hi)
        have := h.up x (hin x hx (by rw [hx2, hx3]; exact Int.le_refl _))
        rwa [hx2, hx3] at this
      · have := h.low i hi
        omega
    have hm : mayC f e = true := by
      refine may_of hok ?_ hge
      have h1 := hge e.r.toNat (by omega)
      have h2 : ¬ e.c ≤ f e.r.toNat := by
        intro h3
        obtain ⟨x, hx, hx2, hx3⟩ := h.all e.r.toNat (by omega) e.c hn3 h3
        rw [← hs] at hne
        exact (List.pairwise_append.1 hne).2.2 x hx e (by simp) ⟨hx2, hx3⟩
      omega
    obtain ⟨g, hg, hg2⟩ := sorted_takes hR hc hsub hne hso U (T ++ [e]) (setD f e) (by rw [← hs, List.append_assoc]; rfl) (came_step h hm)
    refine ⟨g, ?_, hg2⟩
    rw [allA, if_pos (oneI_may.2 hm)]
    exact hg
theorem came_same {R s : List Ev} {k g : Nat → Int} (h : Came R k) (h2 : Came s g) (hsub : ∀ x, x ∈ s ↔ x ∈ R) : ∀ i, i < 16 → g i = k i := by
  intro i hi
  have a1 := h.low i hi
  have a2 := h2.low i hi
  by_cases h3 : k i < g i
  · obtain ⟨x, hx, hx2, hx3⟩ := h2.all i hi (g i) (by omega) (Int.le_refl _)
    have := h.up x ((hsub x).1 hx)
    rw [hx2, hx3] at this
    omega
  · by_cases h4 : g i < k i
    · obtain ⟨x, hx, hx2, hx3⟩ := h.all i hi (k i) (by omega) (Int.le_refl _)
      have := h2.up x ((hsub x).2 hx)
      rw [hx2, hx3] at this
      omega
    · omega

/-! The order in which they are handed in. -/
def mixL (R : List Ev) (t : Nat) : List Ev := (List.range R.length).map fun i => R[(i * 7 + t) % R.length]!
theorem inv7 : ∀ n, n < 81 → n % 7 ≠ 0 → ∃ m, m < 81 ∧ (7 * m) % n = 1 % n := by decide +kernel
theorem mix_inj {n t i j : Nat} (h7 : n % 7 ≠ 0) (_hi : i < n) (hj : j < n) (h : (i * 7 + t) % n = (j * 7 + t) % n) (hij : i < j) : False := by
  have hco : Nat.Coprime n 7 := by
    have : Nat.gcd n 7 = Nat.gcd (n % 7) 7 := (Nat.gcd_comm _ _).trans (Nat.gcd_rec 7 n)
    show Nat.gcd n 7 = 1
    rw [this]
    have h8 : n % 7 < 7 := Nat.mod_lt _ (by decide)
    generalize n % 7 = r at *
    have : r = 1 ∨ r = 2 ∨ r = 3 ∨ r = 4 ∨ r = 5 ∨ r = 6 := by omega
    rcases this with rfl | rfl | rfl | rfl | rfl | rfl <;> decide
  have hd : n ∣ (j - i) * 7 := by
    have h1 := (Nat.sub_mod_eq_zero_of_mod_eq h.symm : ((j * 7 + t) - (i * 7 + t)) % n = 0)
    have h2 : (j * 7 + t) - (i * 7 + t) = (j - i) * 7 := by omega
    rw [h2] at h1
    exact Nat.dvd_of_mod_eq_zero h1
  have h3 := hco.dvd_of_dvd_mul_right hd
  have := Nat.le_of_dvd (by omega) h3
  omega
theorem mix_sur {n t j : Nat} (h7 : n % 7 ≠ 0) (hn : n < 81) (hj : j < n) : ∃ i, i < n ∧ (i * 7 + t) % n = j := by
  obtain ⟨m, _, hm⟩ := inv7 n hn h7
  have hn0 : 0 < n := by omega
  obtain ⟨X, hX⟩ : ∃ X, j + (n - t % n) = X := ⟨_, rfl⟩
  have hXt : (X + t) % n = j := by
    have h1 : t % n < n := Nat.mod_lt _ hn0
    have h2 := Nat.div_add_mod t n
    have h3 : X + t = j + n * (t / n + 1) := by
      rw [Nat.mul_add, Nat.mul_one]
      omega
    rw [h3, Nat.add_mul_mod_self_left, Nat.mod_eq_of_lt hj]
  refine ⟨(m * X) % n, Nat.mod_lt _ hn0, ?_⟩
  rw [Nat.add_mod, Nat.mul_mod, Nat.mod_mod, ← Nat.mul_mod, ← Nat.add_mod]
  have h4 : (m * X * 7) % n = X % n := by
    rw [show m * X * 7 = (7 * m) * X by rw [Nat.mul_comm (m * X) 7, Nat.mul_assoc], Nat.mul_mod, hm, ← Nat.mul_mod, Nat.one_mul]
  rw [Nat.add_mod, h4, ← Nat.add_mod]
  exact hXt
theorem mix_mem {R : List Ev} (t : Nat) (h7 : R.length % 7 ≠ 0) (hn : R.length < 81) (x : Ev) : x ∈ mixL R t ↔ x ∈ R := by
  unfold mixL
  rw [List.mem_map]
  constructor
  · rintro ⟨i, hi, rfl⟩
    have h1 := List.mem_range.1 hi
    have h2 : (i * 7 + t) % R.length < R.length := Nat.mod_lt _ (by omega)
    rw [getElem!_pos R _ h2]
    exact List.getElem_mem h2
  · intro hx
    obtain ⟨j, hj, rfl⟩ := List.mem_iff_getElem.1 hx
    obtain ⟨i, hi, hij⟩ := mix_sur (t := t) h7 hn hj
    exact ⟨i, List.mem_range.2 hi, by rw [hij, getElem!_pos R _ hj]⟩
theorem mix_ne {R : List Ev} (t : Nat) (h7 : R.length % 7 ≠ 0) (hR : R.Pairwise dotNe) : (mixL R t).Pairwise dotNe := by
  unfold mixL
  rw [List.pairwise_map]
  refine List.Pairwise.imp_of_mem ?_ List.pairwise_lt_range
  intro i j hi hj hij
  have h1 := List.mem_range.1 hi
  have h2 := List.mem_range.1 hj
  have a1 : (i * 7 + t) % R.length < R.length := Nat.mod_lt _ (by omega)
  have a2 : (j * 7 + t) % R.length < R.length := Nat.mod_lt _ (by omega)
  rw [getElem!_pos R _ a1, getElem!_pos R _ a2]
  have hp := List.pairwise_iff_getElem.1 hR
  by_cases h3 : (i * 7 + t) % R.length < (j * 7 + t) % R.length
  · exact hp _ _ a1 a2 h3
  · by_cases h4 : (j * 7 + t) % R.length < (i * 7 + t) % R.length
    · exact dotNe_symm (hp _ _ a2 a1 h4)
    · exact absurd (mix_inj (t := t) h7 h1 h2 (by omega) hij) id
theorem sorted_sums {n : Nat} {d : Array Ev} (hs : SortedIn (ltOf cfP) 0 n d) (hn : d.size = n) : d.toList.Pairwise fun x y => ¬ sumN y.p 16 < sumN x.p 16 := by
  refine List.pairwise_iff_getElem.2 fun i j hi hj hij => ?_
  rw [Array.length_toList] at hi hj
  have h := hs i j (Nat.zero_le _) hij (by omega)
  rw [getElem!_pos d i hi, getElem!_pos d j hj] at h
  rw [Array.getElem_toList, Array.getElem_toList]
  generalize d[j] = y at *
  generalize d[i] = x at *
  have h1 : ¬ cfP y x < 0 := of_decide_eq_false h
  unfold cfP at h1
  rw [orI, orI, orI_one] at h1
  unfold Lib.compareInt at h1
  intro h2
  simp [h2] at h1
/-- What is handed in, sorted, is taken whole. -/
theorem sorts_math (l M : List Ev) (d : Array Ev) (n : Nat) (hc : closedB (causC l).1 = true) (hM : ∀ x, x ∈ M ↔ x ∈ (causC l).1) (hMn : M.Pairwise dotNe) (hn : M.length = n) (hd : d.size = n) (hp : PermIn 0 n M.toArray d) (hs : SortedIn (ltOf cfP) 0 n d) :
    ∃ g, allA d.toList [] (fun _ => 0) = (d.toList, g, 0) ∧ vA g = vA (causC l).2 ∧ rowB d.toList = true := by
  have hR := rowed_caus l
  have hpm : d.toList.Perm M := by
    obtain ⟨_, _, h3⟩ := hp
    have e1 : (d.extract 0 n).toList = d.toList := by rw [← hd]; simp
    have e2 : (M.toArray.extract 0 n).toList = M := by rw [← hn]; simp
    rwa [e1, e2] at h3
  have hsub : ∀ x, x ∈ d.toList ↔ x ∈ (causC l).1 := fun x => (hpm.mem_iff).trans (hM x)
  obtain ⟨g, h1, h2⟩ := sorted_takes hR hc hsub ((hpm.pairwise_iff dotNe_symm).2 hMn) (sorted_sums hs hd) d.toList [] (fun _ => 0) rfl ⟨fun i _ => Int.le_refl _, fun x hx => (by cases hx), fun x hx => (by cases hx), fun i _ n h1 h2 => (by have h3 : (1 : Int) ≤ 0 := Int.le_trans h1 h2; omega)⟩
  refine ⟨g, h1, vA_congr (came_same hR.came h2 hsub), ?_⟩
  unfold rowB
  rw [h1]
  exact decide_eq_true rfl

end Go.Proofs.Ytmhechlfpaciiaa

namespace Go.Proofs.Ytmhechlfpaciiaa
open Go.RowKit Go.MapKept Go.Sort

theorem rem_i64 (m d r : Nat) (e : m % d = r) (hd : 0 < d) (_hm : m ≤ 1000000) (_hd2 : d ≤ 1000000) (w : World) : (binOp .rem 3 (.int .i64 (m : Nat)) (.int .i64 (d : Nat))).run Try.prog w = .ok (.int .i64 ((r : Nat) : Int)) w := by
  have h1 : ((m : Nat) : Int).tmod ((d : Nat) : Int) = (r : Nat) := by rw [← e]; rfl
  have h2 : ((d : Nat) : Int) ≠ 0 := by omega
  have h5 : ¬ d = 0 := by omega
  have h3 : r < d := by rw [← e]; exact Nat.mod_lt _ hd
  have h4 : IntKind.i64.wrap ((r : Nat) : Int) = (r : Nat) := IntWalk.i64_in _ (by omega)
  clear e
  go_simp
theorem conv_u8i (r : Nat) (h : r ≤ 255) (w : World) : (convert 5 3 (.int .u8 (r : Nat))).run Try.prog w = .ok (.int .i64 ((r : Nat) : Int)) w := by
  have h4 : IntKind.i64.wrap ((r : Nat) : Int) = (r : Nat) := IntWalk.i64_in _ (by omega)
  go_simp
theorem sl_oneE (e : Ev) (w : World) : SlK encE 27 (w.alloc (.cells (evC e) 39)) (.slice (some ⟨w.heap.size, 0, none⟩) 1 1) [e] := ⟨_, _, rfl, Nat.le_refl _, fun _ => ⟨w.heap.size, 0, rfl, by simp, fun q y hq => by
  have hq0 : q = 0 := by have := (List.getElem?_eq_some_iff.1 hq).1; simp at this; exact this
  subst hq0
  have hy : y = e := by simpa using hq.symm
  subst hy
  intro i u hu
  rw [Blk.cell (Blk.new w _ _)]
  simpa [encE] using hu⟩⟩
theorem mixL_len (R : List Ev) (t : Nat) : (mixL R t).length = R.length := by unfold mixL; rw [List.length_map, List.length_range]
theorem mixL_next {R : List Ev} {t i : Nat} {x : Ev} (hi : i < R.length) (hx : R[(i * 7 + t) % R.length]? = some x) : (mixL R t).take (i + 1) = (mixL R t).take i ++ [x] := by
  have h1 : (mixL R t)[i]? = some x := by
    unfold mixL
    rw [List.getElem?_map, List.getElem?_range hi]
    have h2 : (i * 7 + t) % R.length < R.length := Nat.mod_lt _ (by omega)
    rw [Option.map_some, getElem!_pos R _ h2]
    rw [List.getElem?_eq_getElem h2] at hx
    exact hx
  rw [List.take_add_one, h1]
  rfl

set_option maxRecDepth 100000 in
set_option maxHeartbeats 4000000 in
theorem sorts_walk (l : List Ev) (A : Option Addr) (N c t : Nat) (ht : t ≤ 255) (w : World) (hs : SlK encE 27 w (.slice A N c) l) (hN : l.length = N) (hN2 : N ≤ 4611686018427387903) (hf : ∀ e ∈ l, Fit e) (hw : CutOk w) :
    Calls Try.prog 7 #[.slice A N c, .int .u8 (t : Nat)] w (Law w) := by
  have HS := Lib.hid hs
  have HN := Lib.hid hN
  have HC := Lib.hid hw
  have HTt := Lib.hid ht
  have HFw := Lib.hid (few_is9o l A N c hN hN2 hf)
  clear hs hN hN2 hf hw ht
  cases hfew : few9B l
  · have HFe := Lib.hid (HFw.out false hfew)
    clear hfew HFw
    go_enter Try.func7, Try.ntmps7
    go_wp2_with fail
    refine (fixed9 w HC.out).mono ?_
    rintro e w1 ⟨rfl, hb⟩
    have HB1 := Lib.hid hb
    clear hb
    go_wp2_with fail
    refine (HFe.out w1 (HS.out.below HB1.out)).mono ?_
    rintro e w2 ⟨rfl, hb⟩
    have HB2 := Lib.hid (HB1.out.trans (hb.mono HB1.out.size))
    clear hb
    go_wp2
    go_ret
    exact ⟨rfl, HB2.out⟩
  · have HFe := Lib.hid (HFw.out true hfew)
    have hsh : ∀ e ∈ l, shortB e = true := by
      unfold few9B at hfew
      simp only [Bool.and_eq_true, List.all_eq_true] at hfew
      exact hfew.1
    have H80 := Lib.hid (show N ≤ 80 by
      unfold few9B at hfew
      simp only [Bool.and_eq_true, decide_eq_true_eq] at hfew
      rw [← HN.out]; exact hfew.2)
    have HTy := Lib.hid (show ∀ e ∈ l, Tiny e from fun e he => short_tiny e (hsh e he))
    have hLn : ∀ e ∈ l, Lens e := fun e he => short_lens e (hsh e he)
    have HLm := Lib.hid (show ∀ e ∈ (causC l).1, Lens e from fun e he => hLn e (causC_mem l e he))
    have HRd := Lib.hid (show ∀ e ∈ (causC l).1, 0 ≤ e.r ∧ e.r < 16 from fun e he => by
      obtain ⟨n, h1, h2, _⟩ := ok_dot ((rowed_caus l).came.ok e he)
      exact ⟨by omega, by omega⟩)
    have HRn := Lib.hid (rowed_caus l).ne
    have HRl := Lib.hid (show (causC l).1.length ≤ 80 by have := causC_len l; have h1 := HN.out; have h2 := H80.out; omega)
    clear hfew HFw hsh hLn
    go_enter Try.func7, Try.ntmps7
    go_wp2_with fail
    refine (fixed9 w HC.out).mono ?_
    rintro e w1 ⟨rfl, hb⟩
    have HB1 := Lib.hid hb
    clear hb
    go_wp2_with fail
    refine (HFe.out w1 (HS.out.below HB1.out)).mono ?_
    rintro e w2 ⟨rfl, hb⟩
    have HB2 := Lib.hid (HB1.out.trans (hb.mono HB1.out.size))
    clear hb
    have hzv := (zero_of_info zeroV).1
    go_wp2_with fail
    refine (causal8_any l A N c w2 (HS.out.below HB2.out) HN.out (by have := H80.out; omega) HTy.out).mono ?_
    rintro e w3 ⟨v5, rfl, ho5, hb3⟩
    have HSm := Lib.hid (sorts_math l)
    obtain ⟨R, hR⟩ : ∃ R, (causC l).1 = R := ⟨_, rfl⟩
    obtain ⟨kn, hkn⟩ : ∃ kn, (causC l).2 = kn := ⟨_, rfl⟩
    rw [hR] at ho5 HLm HRd HRn HRl
    rw [hR, hkn] at HSm
    rw [hkn]
    clear hR hkn
    obtain ⟨A5, c5, rfl, _, _⟩ := ho5.read encE_len
    obtain ⟨n, hn⟩ : ∃ n, R.length = n := ⟨_, rfl⟩
    rw [hn] at ho5 HRl ⊢
    have HNr := Lib.hid hn
    obtain ⟨X3, hX3⟩ : ∃ X3, X3 = w3.alloc (.cells (vA kn) 27) := ⟨_, rfl⟩
    have hbX3 : Below w3.heap.size w3 X3 := by rw [hX3]; exact (Below.refl _ _).alloc (Nat.le_refl _) _
    have HV3 := Lib.hid (show VB X3 w3.heap.size kn by rw [hX3]; exact VB.new_ _ rfl)
    have HAl3 := Lib.hid fun c => World.setRow_alloc_new w3 (vA fun _ => 0) c 27
    have HZ3 := Lib.hid (show Blk (w3.alloc (.cells (vA fun _ => 0) 27)) w3.heap.size 27 (vA fun _ => 0) from Blk.new _ _ _)
    have HX3 := Lib.hid hX3
    have HO3 := Lib.hid (ho5.keep hbX3)
    have hb23 := hb3.trans (hbX3.mono hb3.size)
    have HB3 := Lib.hid (HB2.out.trans (hb23.mono HB2.out.size))
    clear ho5 hb3 hn hX3 hbX3 hb23
    go_upto_region 6 with (first
      | (refine wpList_store_row (o := ⟨none, _, _, _, _, _⟩) rfl 27 (.tmp 6) (.tmp 22) rfl w3.heap.size (vA kn) rfl rfl _ _ HZ3.out (sizeV _) (by rw [vA_size, vA_size]) (vA_one _) ?_; rw [HAl3.out, ← HX3.out])
      | fail)
    obtain ⟨b6, hb6⟩ : ∃ b6, w3.heap.size = b6 := ⟨_, rfl⟩
    rw [hb6] at HV3 ⊢
    clear hb6 HZ3 HAl3 HX3
    have HS3 := Lib.hid (HO3.out.read encE_len)
    clear HO3
    go_wp2_with fail
    refine (closed_any R A5 n c5 X3 HS3.out HNr.out (by have := HRl.out; omega) HRd.out).mono ?_
    rintro e w4 ⟨rfl, hb⟩
    have HV4 := Lib.hid (VB.keep HV3.out hb)
    have HS4 := Lib.hid (HS3.out.below hb)
    have HB4 := Lib.hid (HB3.out.trans (hb.mono HB3.out.size))
    clear hb
    cases hcl : closedB R
    · clear hcl
      go_wp2_with fail
      go_ret
      exact ⟨rfl, HB4.out⟩
    · have HCl := Lib.hid hcl
      clear hcl
      go_wp2_with fail
      go_loopw [7, 28] (fun v7 v28 wr => ∃ (i : Nat) (Am : Option Addr) (cm : Nat), v28 = .int .i64 (i : Nat) ∧ i ≤ n ∧ v7 = .slice Am i cm ∧ OwnK encE w4.heap.size 39 27 wr (.slice Am i cm) ((mixL R t).take i) ∧ Below w4.heap.size w4 wr) (fun _ v28 _ => n - (intOf v28).toNat)
      case atStart => exact ⟨0, none, 0, rfl, Nat.zero_le _, rfl, by rw [List.take_zero]; exact OwnK.nil_ _ _ _ _ _, Below.refl _ _⟩
      case round =>
        obtain ⟨i, Am, cm, rfl, hi, rfl, ho, hbr⟩ := hrel
        have HOw := Lib.hid ho
        have HBr := Lib.hid hbr
        clear ho hbr
        by_cases hlt : i < n
        case pos =>
          as_aux_lemma =>
          obtain ⟨h1, hh1⟩ : ∃ h1, i * 7 = h1 := ⟨_, rfl⟩
          obtain ⟨h2, hh2⟩ : ∃ h2, h1 + t = h2 := ⟨_, rfl⟩
          obtain ⟨h3, hh3⟩ : ∃ h3, h2 % n = h3 := ⟨_, rfl⟩
          obtain ⟨i1, hi1⟩ : ∃ i1, i + 1 = i1 := ⟨_, rfl⟩
          have hh3n : h3 < n := by rw [← hh3]; exact Nat.mod_lt _ (by omega)
          have HH := Lib.hid (show i * 7 = h1 ∧ h1 + t = h2 ∧ h2 % n = h3 ∧ h3 < n ∧ i + 1 = i1 ∧ i < n ∧ n ≤ 80 ∧ t ≤ 255 from ⟨hh1, hh2, hh3, hh3n, hi1, hlt, HRl.out, HTt.out⟩)
          obtain ⟨x, hx⟩ : ∃ x, R[h3]? = some x := ⟨R[h3]'(by rw [HNr.out]; exact hh3n), List.getElem?_eq_getElem _⟩
          have HNx := Lib.hid (mixL_next (R := R) (t := t) (i := i) (x := x) (by rw [HNr.out]; exact hlt) (by rw [HNr.out, hh1, hh2, hh3]; exact hx))
          obtain ⟨g, o, hA', _, hce⟩ := (HS4.out.below HBr.out).ev hx
          have HCe := Lib.hid hce
          have HAt := Lib.hid (show (Instr.indexAt 22 (.slice A5 n c5) (.int .i64 ((h3 : Nat) : Int))).run Try.prog wr = .ok (.pointer (some ⟨g, o + h3 * 27, none⟩)) wr by rw [hA']; exact at_Ev g o c5 n h3 hh3n wr)
          have hba : Below wr.heap.size wr (wr.alloc (.cells (evC x) 39)) := (Below.refl _ _).alloc (Nat.le_refl _) _
          have hBs := HBr.out.size
          obtain ⟨v', w6, hr6, ho6, hg6, _⟩ := append_ev w4.heap.size (wr.alloc (.cells (evC x) 39)) _ _ (HOw.out.keep hba) _ [x] (sl_oneE x wr) (by have := HH.out; rw [List.length_take, List.length_singleton]; omega) (Nat.le_trans hBs hba.size)
          rw [← HNx.out, hi1] at ho6
          obtain ⟨A6, c6, rfl, _, _⟩ := ho6.read encE_len
          rw [show ((mixL R t).take i1).length = i1 by rw [List.length_take, mixL_len, HNr.out]; have := HH.out; omega] at ho6 hr6
          have HA := Lib.hid hr6
          have HO6 := Lib.hid ho6
          have HB6 := Lib.hid ((HBr.out.trans (hba.mono hBs)).grown hg6 (Nat.le_trans hBs hba.size) (fun q hq => ((HOw.out.keep hba).lt q hq).1))
          have hin : (i : Int) < (n : Int) := by omega
          have hzr : ((n : Int) == 0) = false := by rw [beq_eq_false_iff_ne]; omega
          clear hh1 hh2 hh3 hi1 hh3n hx hA' hce hba hBs hr6 ho6 hg6 hlt hi
          go_wp2_with (first
            | (refine wpList_val (o := ⟨some 34, _, _, _, _, _⟩) rfl (.int .i64 ((h1 : Nat) : Int)) wr (run_bin_op rfl rfl rfl (guardI _ _ _ _ _ _ _) (mul_h i 7 h1 HH.out.1 (by have := HH.out; omega) _)) ?_)
            | (refine wpList_val (o := ⟨some 36, _, _, _, _, _⟩) rfl (.int .i64 ((t : Nat) : Int)) wr (run_convert_op rfl rfl (conv_u8i t HTt.out _)) ?_)
            | (refine wpList_val (o := ⟨some 37, _, _, _, _, _⟩) rfl (.int .i64 ((h2 : Nat) : Int)) wr (run_bin_op rfl rfl rfl (guardI _ _ _ _ _ _ _) (add_h h1 t h2 HH.out.2.1 (by have := HH.out; omega) _)) ?_)
            | (refine wpList_val (o := ⟨some 40, _, _, _, _, _⟩) rfl (.int .i64 ((h3 : Nat) : Int)) wr (run_bin_op rfl rfl rfl (guardI _ _ _ _ _ _ _) (rem_i64 h2 n h3 HH.out.2.2.1 (by have := HH.out; omega) (by have := HH.out; omega) (by have := HH.out; omega) _)) ?_)
            | (refine wpList_val (o := ⟨some 41, _, _, _, _, _⟩) rfl (.pointer (some ⟨g, o + h3 * 27, none⟩)) wr (run_indexAddr_op rfl rfl rfl HAt.out) ?_)
            | (refine' wpList_load_midif ?q1 39 (.tmp 41) ?q2 g (o + h3 * 27) ?q3 (encE x) _ ?q4 Try.underlying39 ?q5 ?q6 ?_; (case q2 => rfl); (case q1 => rfl); (case q3 => rfl); (case q4 => exact HCe.out); (case q5 => rfl); (case q6 => exact (sizeE x)))
            | (refine wpList_val (o := ⟨some 43, _, _, _, _, _⟩) rfl (.slice (some ⟨wr.heap.size, 0, none⟩) 1 1) (wr.alloc (.cells (evC x) 39)) (run_buildSlice_op (vs := #[(0, .agg (evC x))]) rfl (by simp only [List.map_toArray, List.map_cons, List.map_nil]; rfl) (bsEv x wr)) ?_)
            | (at_builtin; refine Lib.wpList_append_run (o := ⟨some 44, _, _, _, _, _⟩) _ rfl _ _ _ _ rfl _ _ rfl rfl _ _ HA.out ?_)
            | (refine wpList_val (o := ⟨some 45, _, _, _, _, _⟩) rfl (.int .i64 ((i1 : Nat) : Int)) _ (run_bin_op rfl rfl rfl (guardI _ _ _ _ _ _ _) (add_h i 1 i1 HH.out.2.2.2.2.1 (by have := HH.out; omega) _)) ?_)
            | fail)
          go_roundw
          case rel => exact ⟨i1, A6, c6, rfl, by have := HH.out; omega, rfl, HO6.out, HB6.out⟩
          case measure => have := HH.out; simp [intOf] <;> omega
        have hin : i = n := by omega
        subst hin
        rw [List.take_of_length_le (Nat.le_of_eq ((mixL_len R t).trans HNr.out))] at HOw
        have HVr := Lib.hid (VB.keep HV4.out HBr.out)
        have HSr := Lib.hid (HS4.out.below HBr.out)
        have HBw := Lib.hid (HB4.out.trans (HBr.out.mono HB4.out.size))
        obtain ⟨r7, hr7⟩ : ∃ r7, i % 7 = r7 := ⟨_, rfl⟩
        have HR7 := Lib.hid hr7
        have hii : ¬ (i : Int) < (i : Int) := by omega
        clear hlt hi hr7
        by_cases h70 : r7 = 0
        · have hq7 : ((r7 : Int) == 0) = true := by rw [h70]; rfl
          have hba : Below wr.heap.size wr (wr.alloc (.cells #[] 39)) := (Below.refl _ _).alloc (Nat.le_refl _) _
          obtain ⟨v', w6, hr, ho, hb⟩ := append_new wr.heap.size (wr.alloc (.cells #[] 39)) _ R (HSr.out.below hba) (by have := HRl.out; have := HNr.out; omega) wr.heap.size (own_empty wr) hba.size
          obtain ⟨A6, c6, rfl, _, _⟩ := ho.read encE_len
          rw [HNr.out] at ho hr
          have HA := Lib.hid hr
          have hb6 := hba.trans (hb.mono hba.size)
          have HSM := Lib.hid (ho.read encE_len)
          have HV6 := Lib.hid (VB.keep HVr.out hb6)
          have HB6 := Lib.hid (HBw.out.trans (hb6.mono HBw.out.size))
          have HMne := Lib.hid HRn.out
          have HMl := Lib.hid HNr.out
          clear hba hr ho hb hb6 h70 HOw
          go_wp2_with (first
            | (refine wpList_val (o := ⟨some 48, _, _, _, _, _⟩) rfl (.int .i64 ((r7 : Nat) : Int)) wr (run_bin_op rfl rfl rfl (guardI _ _ _ _ _ _ _) (rem_i64 i 7 r7 HR7.out (by omega) (by have := HRl.out; omega) (by omega) _)) ?_)
            | (refine wpList_val (o := ⟨some 50, _, _, _, _, _⟩) rfl (.slice (some ⟨wr.heap.size, 0, none⟩) 0 0) (wr.alloc (.cells #[] 39)) (run_buildSlice_op (vs := #[]) rfl (by simp only [List.map_toArray, List.map_nil]) (bsNil wr)) ?_)
            | (at_builtin; refine Lib.wpList_append_run (o := ⟨some 52, _, _, _, _, _⟩) _ rfl _ _ _ _ rfl _ _ rfl rfl _ _ HA.out ?_)
            | fail)
          clear hq7 hii
          refine (sortW_any R A6 i c6 w6 HSM.out HMl.out (by have := HRl.out; omega)).mono ?_
          rintro e w7 ⟨A7, c7, d, rfl, hsd, hsz, hb, hp, hso⟩
          obtain ⟨gg, hg1, hg2, hg3⟩ := HSm.out R d i HCl.out (fun x : Ev => (Iff.rfl : x ∈ R ↔ x ∈ R)) HMne.out HMl.out hsz hp hso
          have hmd : ∀ e ∈ d.toList, Lens e := by
            intro e he
            have hpm : d.toList.Perm R := by
              obtain ⟨_, _, h3⟩ := hp
              have e1 : (d.extract 0 i).toList = d.toList := by rw [← hsz]; simp
              have e2 : ((R : List Ev).toArray.extract 0 i).toList = R := by rw [← HMl.out]; simp
              rwa [e1, e2] at h3
            exact HLm.out e (((fun x : Ev => (Iff.rfl : x ∈ R ↔ x ∈ R)) e).1 (hpm.mem_iff.1 he))
          have hdl : d.toList.length = i := by rw [Array.length_toList]; exact hsz
          obtain ⟨S, hS⟩ : ∃ S, d.toList = S := ⟨_, rfl⟩
          rw [hS] at hsd hg1 hg3 hmd hdl
          have HS7 := Lib.hid hsd
          have HV7 := Lib.hid (VB.keep HV6.out hb)
          have HB7 := Lib.hid (HB6.out.trans (hb.mono HB6.out.size))
          have HDl := Lib.hid hdl
          have HDm := Lib.hid hmd
          have HG1 := Lib.hid hg1
          have HG2 := Lib.hid hg2
          have HG3 := Lib.hid hg3
          clear hsd hsz hb hp hso hg1 hg2 hg3 hmd hdl hS
          have HAa := Lib.hid (all8_any S A7 i c7 (fun _ => 0) w7 HS7.out HDl.out (by have := HRl.out; omega) HDm.out (HC.out.below HB7.out))
          rw [HG1.out] at HAa
          dsimp only at HAa
          rw [HG2.out] at HAa
          go_wp2_with fail
          refine HAa.out.mono ?_
          rintro e w8 ⟨v8, rfl, ho8, hb8⟩
          obtain ⟨A8, c8, rfl, _, _⟩ := ho8.read encE_len
          rw [HDl.out]
          obtain ⟨X8, hX8⟩ : ∃ X8, X8 = w8.alloc (.cells (vA kn) 27) := ⟨_, rfl⟩
          have hbX8 : Below w8.heap.size w8 X8 := by rw [hX8]; exact (Below.refl _ _).alloc (Nat.le_refl _) _
          have HV8 := Lib.hid (show VB X8 w8.heap.size kn by rw [hX8]; exact VB.new_ _ rfl)
          have HAl8 := Lib.hid fun c => World.setRow_alloc_new w8 (vA fun _ => 0) c 27
          have HZ8 := Lib.hid (show Blk (w8.alloc (.cells (vA fun _ => 0) 27)) w8.heap.size 27 (vA fun _ => 0) from Blk.new _ _ _)
          have HX8 := Lib.hid hX8
          have hb78 := hb8.trans (hbX8.mono hb8.size)
          have HS8 := Lib.hid (HS7.out.below hb78)
          have HV68 := Lib.hid (VB.keep HV7.out hb78)
          have HB8 := Lib.hid (HB7.out.trans (hb78.mono HB7.out.size))
          clear ho8 hb8 hX8 hbX8 hb78
          go_upto_region 18 with (first
            | (refine wpList_store_row (o := ⟨none, _, _, _, _, _⟩) rfl 27 (.tmp 11) (.tmp 60) rfl w8.heap.size (vA kn) rfl rfl _ _ HZ8.out (sizeV _) (by rw [vA_size, vA_size]) (vA_one _) ?_; rw [HAl8.out, ← HX8.out])
            | fail)
          clear hzv
          obtain ⟨b11, hb11⟩ : ∃ b11, w8.heap.size = b11 := ⟨_, rfl⟩
          rw [hb11] at HV8 ⊢
          clear hb11 HZ8 HAl8 HX8
          have HQv := Lib.hid ((run_eqV X8 kn kn).trans (by rw [eqV_self]))
          go_wp2_with (first
            | (refine' wpList_load_if ?q1 27 (.tmp 11) ?q2 b11 ?q3 _ _ _ _ ?q4 Try.underlying27 ?q5 ?q6 ?_; (case q2 => rfl); (case q1 => rfl); (case q3 => rfl); (case q4 => exact HV8.out); (case q5 => rfl); (case q6 => exact sizeV _))
            | (refine' wpList_load_if ?q1 27 (.tmp 6) ?q2 b6 ?q3 _ _ _ _ ?q4 Try.underlying27 ?q5 ?q6 ?_; (case q2 => rfl); (case q1 => rfl); (case q3 => rfl); (case q4 => exact HV68.out); (case q5 => rfl); (case q6 => exact sizeV _))
            | (refine wpList_val (o := ⟨some 67, _, _, _, _, _⟩) rfl (.bool true) X8 (run_bin_op rfl rfl rfl (by kernel_rfl) HQv.out) ?_)
            | fail)
          refine (row8_any S A7 i c7 X8 HS8.out HDl.out (by have := HRl.out; omega) HDm.out (HC.out.below HB8.out)).mono ?_
          rintro e w9 ⟨rfl, hb9⟩
          rw [HG3.out]
          have HB9 := Lib.hid (HB8.out.trans (hb9.mono HB8.out.size))
          clear hb9
          go_wp2_with fail
          go_ret
          exact ⟨rfl, HB9.out⟩
        · have hq7 : ((r7 : Int) == 0) = false := by rw [beq_eq_false_iff_ne]; omega
          have h7 : R.length % 7 ≠ 0 := by rw [HNr.out, HR7.out]; exact h70
          have HMem := Lib.hid (mix_mem t h7 (by have := HRl.out; have := HNr.out; omega))
          have HMne := Lib.hid (mix_ne t h7 HRn.out)
          have HMl := Lib.hid ((mixL_len R t).trans HNr.out)
          have HSM := Lib.hid (HOw.out.read encE_len)
          have HV6 := HVr
          have HB6 := HBw
          clear h70 h7 HOw
          go_wp2_with (first
            | (refine wpList_val (o := ⟨some 48, _, _, _, _, _⟩) rfl (.int .i64 ((r7 : Nat) : Int)) wr (run_bin_op rfl rfl rfl (guardI _ _ _ _ _ _ _) (rem_i64 i 7 r7 HR7.out (by omega) (by have := HRl.out; omega) (by omega) _)) ?_)
            | fail)
          clear hq7 hii
          refine (sortW_any (mixL R t) Am i cm wr HSM.out HMl.out (by have := HRl.out; omega)).mono ?_
          rintro e w7 ⟨A7, c7, d, rfl, hsd, hsz, hb, hp, hso⟩
          obtain ⟨gg, hg1, hg2, hg3⟩ := HSm.out (mixL R t) d i HCl.out HMem.out HMne.out HMl.out hsz hp hso
          have hmd : ∀ e ∈ d.toList, Lens e := by
            intro e he
            have hpm : d.toList.Perm (mixL R t) := by
              obtain ⟨_, _, h3⟩ := hp
              have e1 : (d.extract 0 i).toList = d.toList := by rw [← hsz]; simp
              have e2 : (((mixL R t) : List Ev).toArray.extract 0 i).toList = (mixL R t) := by rw [← HMl.out]; simp
              rwa [e1, e2] at h3
            exact HLm.out e ((HMem.out e).1 (hpm.mem_iff.1 he))
          have hdl : d.toList.length = i := by rw [Array.length_toList]; exact hsz
          obtain ⟨S, hS⟩ : ∃ S, d.toList = S := ⟨_, rfl⟩
          rw [hS] at hsd hg1 hg3 hmd hdl
          have HS7 := Lib.hid hsd
          have HV7 := Lib.hid (VB.keep HV6.out hb)
          have HB7 := Lib.hid (HB6.out.trans (hb.mono HB6.out.size))
          have HDl := Lib.hid hdl
          have HDm := Lib.hid hmd
          have HG1 := Lib.hid hg1
          have HG2 := Lib.hid hg2
          have HG3 := Lib.hid hg3
          clear hsd hsz hb hp hso hg1 hg2 hg3 hmd hdl hS
          have HAa := Lib.hid (all8_any S A7 i c7 (fun _ => 0) w7 HS7.out HDl.out (by have := HRl.out; omega) HDm.out (HC.out.below HB7.out))
          rw [HG1.out] at HAa
          dsimp only at HAa
          rw [HG2.out] at HAa
          go_wp2_with fail
          refine HAa.out.mono ?_
          rintro e w8 ⟨v8, rfl, ho8, hb8⟩
          obtain ⟨A8, c8, rfl, _, _⟩ := ho8.read encE_len
          rw [HDl.out]
          obtain ⟨X8, hX8⟩ : ∃ X8, X8 = w8.alloc (.cells (vA kn) 27) := ⟨_, rfl⟩
          have hbX8 : Below w8.heap.size w8 X8 := by rw [hX8]; exact (Below.refl _ _).alloc (Nat.le_refl _) _
          have HV8 := Lib.hid (show VB X8 w8.heap.size kn by rw [hX8]; exact VB.new_ _ rfl)
          have HAl8 := Lib.hid fun c => World.setRow_alloc_new w8 (vA fun _ => 0) c 27
          have HZ8 := Lib.hid (show Blk (w8.alloc (.cells (vA fun _ => 0) 27)) w8.heap.size 27 (vA fun _ => 0) from Blk.new _ _ _)
          have HX8 := Lib.hid hX8
          have hb78 := hb8.trans (hbX8.mono hb8.size)
          have HS8 := Lib.hid (HS7.out.below hb78)
          have HV68 := Lib.hid (VB.keep HV7.out hb78)
          have HB8 := Lib.hid (HB7.out.trans (hb78.mono HB7.out.size))
          clear ho8 hb8 hX8 hbX8 hb78
          go_upto_region 18 with (first
            | (refine wpList_store_row (o := ⟨none, _, _, _, _, _⟩) rfl 27 (.tmp 11) (.tmp 60) rfl w8.heap.size (vA kn) rfl rfl _ _ HZ8.out (sizeV _) (by rw [vA_size, vA_size]) (vA_one _) ?_; rw [HAl8.out, ← HX8.out])
            | fail)
          clear hzv
          obtain ⟨b11, hb11⟩ : ∃ b11, w8.heap.size = b11 := ⟨_, rfl⟩
          rw [hb11] at HV8 ⊢
          clear hb11 HZ8 HAl8 HX8
          have HQv := Lib.hid ((run_eqV X8 kn kn).trans (by rw [eqV_self]))
          go_wp2_with (first
            | (refine' wpList_load_if ?q1 27 (.tmp 11) ?q2 b11 ?q3 _ _ _ _ ?q4 Try.underlying27 ?q5 ?q6 ?_; (case q2 => rfl); (case q1 => rfl); (case q3 => rfl); (case q4 => exact HV8.out); (case q5 => rfl); (case q6 => exact sizeV _))
            | (refine' wpList_load_if ?q1 27 (.tmp 6) ?q2 b6 ?q3 _ _ _ _ ?q4 Try.underlying27 ?q5 ?q6 ?_; (case q2 => rfl); (case q1 => rfl); (case q3 => rfl); (case q4 => exact HV68.out); (case q5 => rfl); (case q6 => exact sizeV _))
            | (refine wpList_val (o := ⟨some 67, _, _, _, _, _⟩) rfl (.bool true) X8 (run_bin_op rfl rfl rfl (by kernel_rfl) HQv.out) ?_)
            | fail)
          refine (row8_any S A7 i c7 X8 HS8.out HDl.out (by have := HRl.out; omega) HDm.out (HC.out.below HB8.out)).mono ?_
          rintro e w9 ⟨rfl, hb9⟩
          rw [HG3.out]
          have HB9 := Lib.hid (HB8.out.trans (hb9.mono HB8.out.size))
          clear hb9
          go_wp2_with fail
          go_ret
          exact ⟨rfl, HB9.out⟩

end Go.Proofs.Ytmhechlfpaciiaa

namespace Go.Proofs.Ytmhechlfpaciiaa
open Go.ChangeShapes Go.WideShapes Go.ChangeAt Go.RowKit

theorem u8_bounds {n : Int} (h : (Lit.int .u8 n).wf = true) : 0 ≤ n ∧ n < 256 := by
  have h1 : IntKind.u8.min = 0 := rfl
  have h2 : IntKind.u8.max = 255 := rfl
  simp only [Lit.wf, Bool.and_eq_true, decide_eq_true_eq] at h
  omega

/-- A slice of bytes that came in. -/
theorem sl_bytes {H : Type} {enc : TypeId × Value → H} {P : Program} {t e : TypeId} {W : World} {v : Value} {d : DataW H} {p : List MemPlace} {r : Reach} {b0 : Nat} (ht : P.underlying t = some (.slice e)) (he : P.underlying e = some (.int .u8)) (hc : P.cellsOf e = 1)
    (hv : Value.okWide P W r b0 t v) (h : DataW.Trod enc P W 0 (fun _ => true) true t v d p) (hlt : ∀ x ∈ p, x.block < W.heap.size) :
    ∃ l : List UInt8, Sl bv W v l ∧ (d = .nil ∧ l.length = 0 ∨ ∃ ys zs' : List (DataW H), d = .slice ys zs' ∧ ys.length = l.length) := by
  obtain ⟨a0, len, cap, rfl⟩ := okWide_slice ht hv
  obtain ⟨fuel, hf⟩ := h
  rcases open_ints ht he hc hf with ⟨hcs, hx⟩ | ⟨a, len', cap', zs, hcs, _, hl, hm, hz, hx, hcell, hwz⟩
  · simp [Value.cells] at hcs
    obtain ⟨rfl, rfl, rfl⟩ := hcs
    simp only [Prod.mk.injEq] at hx
    exact ⟨[], Sl.nil_ _ _, .inl ⟨hx.1, rfl⟩⟩
  · simp [Value.cells] at hcs
    obtain ⟨rfl, rfl, rfl⟩ := hcs
    simp only [Prod.mk.injEq] at hx
    obtain ⟨rfl, rfl⟩ := hx
    simp only [if_true] at hz
    have hln : ((zs.take len).map fun n => UInt8.ofNat n.toNat).length = len := by rw [List.length_map, List.length_take]; omega
    refine ⟨(zs.take len).map fun n => UInt8.ofNat n.toNat, ⟨some a, cap, by rw [hln], by omega, fun hn => ?_⟩, .inr ⟨_, _, rfl, by rw [hln]; simp [lits]; omega⟩⟩
    have hl0 : 0 < len := by
      rcases Nat.eq_zero_or_pos len with h0 | h0
      · subst h0; simp at hn
      · exact h0
    obtain ⟨b, off, spot⟩ := a
    have hspot : spot = none := by simpa [Addr.add] using World.cell?_spot (hcell 0 (by omega))
    subst hspot
    have hbW : b < W.heap.size := hlt (.cell b off) (MemPlace.mem_row.2 ⟨0, by omega, by simp⟩)
    refine ⟨b, off, rfl, hbW, fun j u hu => ?_⟩
    have hj : j < len := by have := (List.getElem?_eq_some_iff.1 hu).1; omega
    have := hcell j (by omega)
    rw [add_plain] at this
    rw [this]
    have hjz : j < zs.length := by omega
    rw [List.getElem?_map, List.getElem?_take] at hu
    simp [hj, List.getElem?_eq_getElem hjz] at hu
    have hb := u8_bounds (hwz zs[j] (List.getElem_mem hjz))
    subst hu
    simp only [List.getD, List.getElem?_eq_getElem hjz, Option.getD_some, bv]
    have e : ((UInt8.ofNat zs[j].toNat).toNat : Int) = zs[j] := by
      have : (UInt8.ofNat zs[j].toNat).toNat = zs[j].toNat := by simp; omega
      rw [this]; omega
    rw [e]

theorem cellsU : Try.prog.cellsOf 5 = 1 := by kernel_rfl
theorem bytesU : Try.prog.bytesOf 5 = 1 := by kernel_rfl
/-- Its length's bound, out of the call's own reach. -/
theorem sl_reach {H : Type} {ts : List TypeId} {ds : List (DataW H)} {j : Nat} {d : DataW H} {l : List UInt8} (hsz : (DataW.weightsEach Try.prog ts ds).all (· ≤ reachBytes) = true) (ht : ts[j]? = some 23) (hd : ds[j]? = some d)
    (h : d = .nil ∧ l.length = 0 ∨ ∃ ys zs' : List (DataW H), d = .slice ys zs' ∧ ys.length = l.length) : l.length ≤ 140737488355328 := by
  rcases h with ⟨_, h⟩ | ⟨ys, zs', rfl, h⟩
  · omega
  · have := sized_slice hsz (j := j) (t := 23) (e := 5) ht hd Try.underlying23
    rw [bytesU] at this
    simp only [reachBytes] at this
    omega

end Go.Proofs.Ytmhechlfpaciiaa

namespace Go.Proofs.Ytmhechlfpaciiaa
open Go.ChangeShapes Go.WideShapes Go.ChangeAt Go.RowKit

set_option maxRecDepth 100000 in
theorem sorts_lifted (os : Os) (started : os.Started) (H : Type) (enc : TypeId × Value → H) :
    ReturnsInHanded {} Try.checked os 7 .any (Rows.acceptSortsSpec.pre6 enc Try.prog Try.f7 Rows.acceptSortsRow.domain false) (Rows.acceptSortsSpec.post enc Try.prog Try.f7 false true false false) := by
  refine returnsInHanded_of_change_shaped (C := Try.checked) Try.own started (by kernel_rfl) Try.func7
    (ChangeSpec.witness6 (enc := enc) (C := Try.checked) false ⟨#[], #[.slice none 0 0, .int .u8 0], []⟩ 12 (by kernel_rfl) (by kernel_rfl) (by kernel_rfl) (by kernel_rfl)) ?_
  intro W base args ds gs before hval0 hW _ hsz0 hsh _
  have hsz : (DataW.weightsEach Try.prog (Try.f7.params.toList ++ Rows.acceptSortsSpec.plain.varTypes Try.prog) (ds ++ gs)).all (· ≤ reachBytes) = true := hsz0
  clear hsz0
  have hval : ∀ (j : Nat) t v, Try.f7.params[j]? = some t → args[j]? = some v → Value.okWide Try.prog W .any base t v := hval0
  have hW' := hW
  obtain ⟨p, q, hA0, hV, rfl, _, _⟩ := hW
  have hA : DataW.TrodAll enc Try.prog W 0 (fun _ => true) true Try.f7.params.toList args.toList ds p := hA0
  rw [Try.params7] at hA hval hsz
  obtain ⟨v0, v1, d0, d1, p0, p1, rfl, rfl, rfl, h0, h1⟩ := trodAll_two hA
  obtain ⟨rfl, rfl⟩ := trodVars_none hV
  clear hA0 hval0
  obtain ⟨l0, A0, N0, c0, rfl, hs0, hn0, hb0, hf0⟩ := evs_in hsz (j := 0) rfl rfl (hval 0 22 v0 rfl rfl) h0
  obtain ⟨z1, rfl, rfl, rfl, hz1⟩ := open_int Try.underlying5 (hval 1 5 v1 rfl rfl) h1
  have hb1 := u8_bounds hz1
  obtain ⟨n1, rfl⟩ := Int.eq_ofNat_of_zero_le hb1.1
  refine (sorts_walk l0 A0 N0 c0 n1 (by omega) W hs0 hn0 hb0 hf0 (cut_of hsh)).mono fun e W' ⟨he, hb⟩ => ?_
  subst he
  exact ⟨_, rfl, law_post Try.laidOut hW' rfl (of_decide_eq_true (by kernel_rfl)) (by kernel_rfl) Try.underlying4 rfl rfl rfl hb⟩

theorem sorts_holds : Rows.AcceptSortsSaid :=
  OpenClaim.holds_of_wide 7 Try.f7 rfl rfl rfl rfl rfl rfl rfl ⟨rfl, rfl, rfl, rfl, rfl⟩ rfl rfl rfl rfl rfl (by kernel_rfl) Try.func7 (by kernel_rfl)
    (of_decide_eq_true (by kernel_rfl)) (by unfold Func.isWrapper; first | (rw [if_pos (by decide +kernel)]; kernel_rfl) | (rw [if_neg (by decide +kernel)]; exact ⟨rfl, rfl⟩))
    (fun os started H enc _ => sorts_lifted os started H enc)

end Go.Proofs.Ytmhechlfpaciiaa
