/-
  What a walk over two stores leans on. Conditions: lengths.
-/
import Derived.Test.YtmhechlfpaciiaaStCausal
import Derived.Test.YtmhechlfpaciiaaStMath
namespace Go.Proofs.Ytmhechlfpaciiaa
open Go.RowKit Go.MapKept Go.Sort

theorem causC_mem (l : List Ev) : ∀ e ∈ (causC l).1, e ∈ l := by
  suffices h : ∀ (l : List Ev) (s : List Ev × (Nat → Int)), ∀ e ∈ (l.foldl comeC s).1, e ∈ s.1 ∨ e ∈ l by
    intro e he
    rcases h l ([], fun _ => 0) e he with h | h
    · cases h
    · exact h
  intro l
  induction l with
  | nil => intro s e h; exact .inl h
  | cons a l ih =>
    intro s e h
    rcases ih (comeC s a) e h with h | h
    · unfold comeC at h
      split at h
      · rcases List.mem_append.1 h with h | h
        · exact .inl h
        · exact .inr (by rw [List.mem_singleton.1 h]; exact List.mem_cons_self ..)
      · exact .inl h
    · exact .inr (List.mem_cons_of_mem _ h)
theorem at_Ev0 (g c n k : Nat) (h : k < n) (w : World) : (Instr.indexAt 22 (.slice (some ⟨g, 0, none⟩) n c) (.int .i64 k)).run Try.prog w = .ok (.pointer (some ⟨g, k * 27, none⟩)) w := by
  have h2 : (k : Int) < n := by omega
  go_simp
theorem at_It (g c n k : Nat) (h : k < n) (w : World) : (Instr.indexAt 42 (.slice (some ⟨g, 0, none⟩) n c) (.int .i64 k)).run Try.prog w = .ok (.pointer (some ⟨g, k * 6, none⟩)) w := by
  have h2 : (k : Int) < n := by omega
  go_simp
theorem conv7 (z : Nat) (h : z ≤ 255) (w : World) : (convert 5 3 (.int .u8 z)).run Try.prog w = .ok (.int .i64 z) w := by
  have hw := IntWalk.i64_in (z : Int) (by omega)
  go_simp
theorem add7 (a b : Nat) (h : a + b ≤ 100000) (w : World) : (binOp .add 3 (.int .i64 a) (.int .i64 b)).run Try.prog w = .ok (.int .i64 (a + b : Nat)) w := by
  have hw := IntWalk.i64_in ((a : Int) + b) (by omega)
  go_simp
theorem rem7 (a b : Nat) (h2 : b ≤ 100000) (hb : 0 < b) (w : World) : (binOp .rem 3 (.int .i64 a) (.int .i64 b)).run Try.prog w = .ok (.int .i64 (a % b : Nat)) w := by
  have h0 : ((b : Int) == 0) = false := by simp; omega
  have h1 : ¬ ((b : Int) = 0) := by omega
  have hm : (a % b : Nat) < b := Nat.mod_lt _ hb
  have e : Int.tmod (a : Int) (b : Int) = ((a % b : Nat) : Int) := rfl
  have hw := IntWalk.i64_in ((a % b : Nat) : Int) (by omega)
  rw [← e] at hw
  go_simp
  omega
theorem st_blank {w : World} {sb B : Nat} (h : Blk w sb 78 #[.map none]) : StAt w sb B [] := ⟨fun i => i = sb, ⟨rfl, fun _ hi => hi ▸ h.lt, .inl ⟨h, rfl⟩⟩, fun _ hi => .inl hi⟩
theorem put_yes2 {w : World} {sb B : Nat} {τ : List (El × List (Dt × Va))} (h : StAt w sb B τ) (hB : B ≤ w.heap.size) (x : El) (l : List (Dt × Va)) (A : Option Addr) (N c : Nat) (hs : SlK enN 5 w (.slice A N c) l) (hA : ∀ g o, A = some ⟨g, o, none⟩ → g ≠ sb ∧ g < B) (hN : l.length = N) (hN2 : N ≤ 1000000) (hx : LenE x) (hv : ∀ q ∈ l, q.2.t.size ≤ 4294967280) (hw : CutOk w) (hr : rightI x l = true) :
    Calls Try.prog 22 #[.pointer (some ⟨sb, 0, none⟩), .agg #[.int .i64 x.k, .string x.a, .string x.b, .string x.c, .string x.d, .slice A N c]] w fun e w' =>
      e = .returned (.int .i64 0) ∧ StAt w' sb B (putI x l τ) ∧ Kept sb B w w' := by
  have := put_at h hB x l A N c hs hA hN hN2 hx (fun q hq => Nat.le_trans (hv q hq) (by decide)) hw
  rw [hr, if_pos rfl] at this
  exact this
/-- Laying down all, from one on, round. -/
def PutInv (σ τ : List (El × List (Dt × Va))) (es : List El) (zn j : Nat) : Prop := (keysL τ).Nodup ∧ (∀ y, y ∈ keysL τ ↔ ∃ i, i < j ∧ es[(i + zn) % es.length]? = some y) ∧ ∀ y ∈ keysL τ, (entS y τ).Perm (entS y σ)
theorem PutInv.start (σ : List (El × List (Dt × Va))) (es : List El) (zn : Nat) : PutInv σ [] es zn 0 := ⟨List.nodup_nil, fun y => by simp [keysL], fun y hy => by cases hy⟩
theorem PutInv.step {σ τ : List (El × List (Dt × Va))} {es : List El} {zn j : Nat} {x : El} {l : List (Dt × Va)} (h : PutInv σ τ es zn j) (hx : es[(j + zn) % es.length]? = some x) (hl : l.Perm (entS x σ)) (hn : (keysL l).Nodup) (hne : l ≠ []) : PutInv σ (putI x l τ) es zn (j + 1) := by
  obtain ⟨h1, h2, h3⟩ := h
  refine ⟨put_nodup h1, fun y => ?_, fun y hy => ?_⟩
  · rw [put_keys hne, h2]
    constructor
    · rintro (rfl | ⟨i, hi, he⟩)
      · exact ⟨j, by omega, hx⟩
      · exact ⟨i, by omega, he⟩
    · rintro ⟨i, hi, he⟩
      rcases Nat.lt_succ_iff_lt_or_eq.1 hi with h | h
      · exact .inr ⟨i, h, he⟩
      · rw [h, hx] at he; exact .inl (Option.some.inj he).symm
  · rw [ent_put hn]
    by_cases e : x = y
    · rw [if_pos e, ← e]; exact hl
    · rw [if_neg e]
      rcases (put_keys hne).1 hy with h | h
      · exact absurd h.symm e
      · exact h3 y h
theorem turn_all (M zn t : Nat) (ht : t < M) : ∃ i, i < M ∧ (i + zn) % M = t := by
  have h1 := Nat.div_add_mod zn M
  have h2 := Nat.mod_lt zn (show 0 < M by omega)
  generalize zn / M = q at h1
  generalize zn % M = r at h1 h2
  subst h1
  by_cases h : r ≤ t
  · refine ⟨t - r, by omega, ?_⟩
    rw [show t - r + (M * q + r) = t + M * q from by omega, Nat.add_mul_mod_self_left, Nat.mod_eq_of_lt ht]
  · refine ⟨t + M - r, by omega, ?_⟩
    rw [show t + M - r + (M * q + r) = t + M * (q + 1) from by rw [Nat.mul_add]; omega, Nat.add_mul_mod_self_left, Nat.mod_eq_of_lt ht]
theorem ent_none {x : El} {σ : List (El × List (Dt × Va))} (h : x ∉ keysL σ) : entS x σ = [] := by unfold entS; rw [getL_none.2 h]; rfl
theorem PutInv.done {σ τ : List (El × List (Dt × Va))} {es : List El} {zn : Nat} (h : PutInv σ τ es zn es.length) (hp : es.Perm (keysL σ)) (hn : (keysL σ).Nodup) : (∀ x, x ∈ keysL τ ↔ x ∈ keysL σ) ∧ (∀ x, (entS x τ).Perm (entS x σ)) ∧ (keysL τ).Perm (keysL σ) ∧ totS τ = totS σ := by
  obtain ⟨h1, h2, h3⟩ := h
  have hk : ∀ x, x ∈ keysL τ ↔ x ∈ keysL σ := fun x => by
    rw [h2, ← hp.mem_iff]
    constructor
    · rintro ⟨i, _, he⟩; exact List.mem_of_getElem? he
    · intro hx
      obtain ⟨t, ht⟩ := List.getElem?_of_mem hx
      obtain ⟨i, hi, e⟩ := turn_all es.length zn t (List.getElem?_eq_some_iff.1 ht).1
      exact ⟨i, hi, by rw [e]; exact ht⟩
  have he : ∀ x, (entS x τ).Perm (entS x σ) := fun x => by
    by_cases hx : x ∈ keysL τ
    · exact h3 x hx
    · rw [ent_none hx, ent_none fun e => hx ((hk x).2 e)]
  obtain ⟨q1, q2⟩ := tot_same hn h1 hk he
  exact ⟨hk, he, q1, q2⟩
theorem ne_E (x : El) (w : World) : (binOp .neq 35 (eE x) (eE x)).run Try.prog w = .ok (.bool false) w := by
  unfold eE elV
  go_simp
theorem ne_N (d : Dt) (v : Va) (w : World) : (binOp .neq 48 (enV d v) (enV d v)).run Try.prog w = .ok (.bool false) w := by
  unfold enV enA
  go_simp
theorem at_N0 (g c n k : Nat) (h : k < n) (w : World) : (Instr.indexAt 44 (.slice (some ⟨g, 0, none⟩) n c) (.int .i64 k)).run Try.prog w = .ok (.pointer (some ⟨g, k * 5, none⟩)) w := by
  have h2 : (k : Int) < n := by omega
  go_simp
/-- An item's element, and its entries, in memory. -/
theorem item_parts {w : World} {g o : Nat} {x : El} {v : Value} (h : w.rangeAt g o (enI (x, v))) : w.rangeAt g o [.int .i64 x.k, .string x.a, .string x.b, .string x.c, .string x.d] ∧ w.cell? ⟨g, o + 5, none⟩ = some v := by
  refine ⟨fun j u hu => ?_, h 5 v rfl⟩
  refine h j u ?_
  have hj : j < 5 := (List.getElem?_eq_some_iff.1 hu).1
  show [Value.int .i64 x.k, .string x.a, .string x.b, .string x.c, .string x.d, v][j]? = some u
  rw [← hu]
  exact List.getElem?_append_left (l₁ := [Value.int .i64 x.k, .string x.a, .string x.b, .string x.c, .string x.d]) (l₂ := [v]) hj
theorem few_is7 (l : List Ev) (A : Option Addr) (N c : Nat) (hN : l.length = N) (hN2 : N ≤ 4611686018427387903) (hf : ∀ e ∈ l, Fit e) (b : Bool) (h : fewB l = b) (w : World) (hs : SlK encE 27 w (.slice A N c) l) :
    Calls Try.prog 11 #[.slice A N c] w (Gives w (.bool b)) := by
  have := few_any l A N c w hs hN hN2 hf; rwa [h] at this

end Go.Proofs.Ytmhechlfpaciiaa
