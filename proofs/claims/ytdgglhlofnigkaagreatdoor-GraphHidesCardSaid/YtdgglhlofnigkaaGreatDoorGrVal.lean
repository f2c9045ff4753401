/-
  Rows that rise: put in one by one, each once; a row is told by what is in it. A property's values, and edges, in order. Conditions: none.
-/
import Derived.Test.YtdgglhlofnigkaaGreatDoorStVB
import Derived.Test.YtdgglhlofnigkaaGreatDoorJGrRef
namespace Go.Proofs.YtdgglhlofnigkaaGreatDoor
open Go.RowKit Go.MapKept Go.Sort
section
variable {α : Type} {c : α → α → Int}
def RiseC (c : α → α → Int) (l : List α) : Prop := l.Pairwise fun a b => c a b < 0
theorem cC_self (hc : CmpOk c) (a : α) : c a a = 0 := by have := hc.anti a a; omega
theorem cC_lt (hc : CmpOk c) {a b d : α} (h : c a b < 0) (k : c b d < 0) : c a d < 0 := by
 have h3 := hc.trans a b d (by omega) (by omega)
 rcases Int.lt_or_eq_of_le h3 with h4 | h4
 ·exact h4
 ·have := (hc.zero (x := a) (y := b) (z := d) (by omega) (by omega) h4).1; omega
theorem RiseC.nodup (hc : CmpOk c) {l : List α} (h : RiseC c l) : l.Nodup := h.imp fun {a b} hab e => by rw [e, cC_self hc] at hab; omega
theorem RiseC.sorted (hc : CmpOk c) {l : List α} (h : RiseC c l) : l.Pairwise fun x y => ltOf c y x = false := h.imp fun {a b} hab => by
 have := hc.anti a b
 unfold ltOf
 apply decide_eq_false
 omega
theorem unique_of (hc : CmpOk c) (hz : ∀ x y, c x y = 0 → x = y) {l1 l2 : List α} (hp : l1.Perm l2) (h1 : l1.Pairwise fun x y => ltOf c y x = false) (h2 : l2.Pairwise fun x y => ltOf c y x = false) : l1 = l2 := by
 have hT : ∀ x ∈ l2, ∀ y ∈ l2, ltOf c x y = false → ltOf c y x = false → x = y := by
  intro x _ y _ h1 h2
  have h3 := hc.anti x y
  unfold ltOf at h1 h2
  simp only [decide_eq_false_iff_not, Int.not_lt] at h1 h2
  exact hz _ _ (by omega)
 exact (sort_unique hc.swo hp h1 hT).trans (sort_unique hc.swo (List.Perm.refl l2) h2 hT).symm
theorem rise_unique (hc : CmpOk c) (hz : ∀ x y, c x y = 0 → x = y) {l1 l2 : List α} (h1 : RiseC c l1) (h2 : RiseC c l2) (hm : ∀ x, x ∈ l1 ↔ x ∈ l2) : l1 = l2 :=
 unique_of hc hz ((List.perm_ext_iff_of_nodup (h1.nodup hc) (h2.nodup hc)).2 hm) (h1.sorted hc) (h2.sorted hc)
end
section
variable {α : Type} [DecidableEq α]
def addC (c : α → α → Int) (x : α) (l : List α) : List α := if (l.dropWhile fun y => decide (c y x < 0)).head? = some x then l else insP (fun y => decide (c y x < 0)) x l
def riseC (c : α → α → Int) (l : List α) : List α := l.foldl (fun out x => addC c x out) []
variable {c : α → α → Int}
theorem addC_rise (hc : CmpOk c) (hz : ∀ x y, c x y = 0 → x = y) {x : α} {l : List α} (h : RiseC c l) : RiseC c (addC c x l) := by
 unfold addC
 split
 ·exact h
 ·rename_i hne
  have h0 : (l.takeWhile (fun y => decide (c y x < 0)) ++ l.dropWhile (fun y => decide (c y x < 0))).Pairwise fun a b => c a b < 0 := by rw [List.takeWhile_append_dropWhile]; exact h
  obtain ⟨h1, h2, h3⟩ := List.pairwise_append.1 h0
  have hx : ∀ y ∈ l.dropWhile (fun y => decide (c y x < 0)), c x y < 0 := by
   cases hd : l.dropWhile (fun y => decide (c y x < 0)) with
   | nil => intro y hy; cases hy
   | cons a m =>
    have ha := dw_head l a m hd
    rw [hd] at h2 hne
    have hax : c x a < 0 := by
     have e1 := of_decide_eq_false ha
     have e2 := hc.anti a x
     have e3 : c a x ≠ 0 := fun e => hne (by rw [hz _ _ e]; rfl)
     omega
    intro y hy
    rcases List.mem_cons.1 hy with rfl | hy
    ·exact hax
    ·exact cC_lt hc hax ((List.pairwise_cons.1 h2).1 y hy)
  unfold insP
  refine List.pairwise_append.2 ⟨h1, List.pairwise_cons.2 ⟨hx, h2⟩, fun a ha b hb => ?_⟩
  rcases List.mem_cons.1 hb with rfl | hb
  ·exact of_decide_eq_true (tw_all l a ha)
  ·exact h3 a ha b hb
theorem addC_mem {x y : α} {l : List α} : y ∈ addC c x l ↔ y = x ∨ y ∈ l := by
 unfold addC
 split
 ·rename_i h
  constructor
  ·exact .inr
  ·rintro (rfl | h')
   ·have : y ∈ l.dropWhile fun z => decide (c z y < 0) := by
     cases hd : l.dropWhile fun z => decide (c z y < 0) with
     | nil => rw [hd] at h; cases h
     | cons a m =>
      rw [hd] at h
      simp only [List.head?_cons, Option.some.injEq] at h
      rw [h]; exact List.mem_cons_self
    exact (List.dropWhile_sublist _).subset this
   ·exact h'
 ·rw [(insP_perm _ x l).mem_iff]
  exact List.mem_cons
theorem addC_len (x : α) (l : List α) : (addC c x l).length ≤ l.length + 1 := by
 unfold addC
 split
 ·omega
 ·rw [(insP_perm _ x l).length_eq]; simp
theorem riseC_rise (hc : CmpOk c) (hz : ∀ x y, c x y = 0 → x = y) (l : List α) : RiseC c (riseC c l) := by
 suffices h : ∀ (l o : List α), RiseC c o → RiseC c (l.foldl (fun out x => addC c x out) o) from h l [] List.Pairwise.nil
 intro l
 induction l with
 | nil => intro o h; exact h
 | cons e l ih => intro o h; exact ih _ (addC_rise hc hz h)
theorem riseC_mem (l : List α) (x : α) : x ∈ riseC c l ↔ x ∈ l := by
 suffices h : ∀ (l o : List α), x ∈ l.foldl (fun out x => addC c x out) o ↔ x ∈ o ∨ x ∈ l by
  have := h l []
  unfold riseC
  rw [this]
  simp
 intro l
 induction l with
 | nil => intro o; simp
 | cons e l ih =>
  intro o
  rw [List.foldl_cons, ih, addC_mem]
  simp only [List.mem_cons]
  constructor
  ·rintro ((h | h) | h)
   ·exact .inr (.inl h)
   ·exact .inl h
   ·exact .inr (.inr h)
  ·rintro (h | h | h)
   ·exact .inl (.inr h)
   ·exact .inl (.inl h)
   ·exact .inr h
theorem riseC_len (l : List α) : (riseC c l).length ≤ l.length := by
 suffices h : ∀ (l o : List α), (l.foldl (fun out x => addC c x out) o).length ≤ o.length + l.length by simpa [riseC] using h l []
 intro l
 induction l with
 | nil => intro o; simp
 | cons e l ih =>
  intro o
  refine Nat.le_trans (ih _) ?_
  have := addC_len (c := c) e o
  simp only [List.length_cons]
  omega
end
def valsS (σ : List (El × List (Dt × Va))) (x : El) : List Va := riseC cfV (valsL (entS x σ))
def valsG (l : List Ev) (x : El) : List Va := riseC cfV ((liveL l x).map vaOf)
theorem compact_is {σ : List (El × List (Dt × Va))} {x : El} {ss : List Va} (hp : ss.Perm (valsL (entS x σ))) (hs : ss.Pairwise fun a b => ltOf cfV b a = false) : Lib.compact ss = valsS σ x :=
 rise_unique cfV_ok (fun _ _ => cfV_zero) (compact_rise hs) (riseC_rise cfV_ok (fun _ _ => cfV_zero) _) fun v => by rw [compact_mem, hp.mem_iff]; exact (riseC_mem _ _).symm
theorem vals_is {row : List Ev} (hc : CausL row) (hl : ∀ e ∈ row, Lens e) (x : El) : valsS (runS row) x = valsG row x :=
 rise_unique cfV_ok (fun _ _ => cfV_zero) (riseC_rise cfV_ok (fun _ _ => cfV_zero) _) (riseC_rise cfV_ok (fun _ _ => cfV_zero) _) fun v => by
  rw [show v ∈ valsG row x ↔ ∃ e ∈ liveL row x, vaOf e = v from (riseC_mem _ _).trans List.mem_map]
  have h := vals_live hc hl (x := x) (List.Perm.refl _) (v := v)
  rw [compact_mem] at h
  rw [← h]
  exact riseC_mem _ _
theorem Lk.ext_iff' (x y : Lk) : x = y ↔ (x.f = y.f ∧ x.t = y.t ∧ x.y = y.y) := by
 obtain ⟨f, t, k⟩ := x
 obtain ⟨f', t', k'⟩ := y
 simp
instance : DecidableEq Lk := fun x y => decidable_of_iff _ (Lk.ext_iff' x y).symm
instance : Inhabited Lk := ⟨⟨⟨#[]⟩, ⟨#[]⟩, ⟨#[]⟩⟩⟩
def cfK (x y : Lk) : Int := orI [Lib.compareBytes x.f.data.toList y.f.data.toList, Lib.compareBytes x.y.data.toList y.y.data.toList, Lib.compareBytes x.t.data.toList y.t.data.toList]
theorem cfK_ok : CmpOk cfK := by
 have := (cbOk.map fun x : Lk => x.f.data.toList).lex ((cbOk.map fun x : Lk => x.y.data.toList).lex (cbOk.map fun x : Lk => x.t.data.toList))
 have e : cfK = fun x y => if Lib.compareBytes x.f.data.toList y.f.data.toList = 0 then if Lib.compareBytes x.y.data.toList y.y.data.toList = 0 then Lib.compareBytes x.t.data.toList y.t.data.toList else Lib.compareBytes x.y.data.toList y.y.data.toList else Lib.compareBytes x.f.data.toList y.f.data.toList := by
  funext x y
  unfold cfK
  rw [orI, orI, orI_one]
 rw [e]; exact this
theorem cfK_zero (x y : Lk) (h : cfK x y = 0) : x = y := by
 unfold cfK at h
 rw [orI, orI, orI_one] at h
 by_cases h1 : Lib.compareBytes x.f.data.toList y.f.data.toList = 0
 ·rw [if_pos h1] at h
  by_cases h2 : Lib.compareBytes x.y.data.toList y.y.data.toList = 0
  ·rw [if_pos h2] at h
   exact (Lk.ext_iff' x y).2 ⟨ba_ext ((cb_zero _ _).1 h1), ba_ext ((cb_zero _ _).1 h), ba_ext ((cb_zero _ _).1 h2)⟩
  ·rw [if_neg h2] at h; exact absurd h h2
 ·rw [if_neg h1] at h; exact absurd h h1
def sortK (l : List Lk) : List Lk := l.foldl (fun out x => insP (fun y => decide (cfK y x < 0)) x out) []
theorem sortK_perm (l : List Lk) : (sortK l).Perm l := by
 suffices h : ∀ (l o : List Lk), (l.foldl (fun out x => insP (fun y => decide (cfK y x < 0)) x out) o).Perm (o ++ l) by simpa [sortK] using h l []
 intro l
 induction l with
 | nil => intro o; simp
 | cons e l ih =>
  intro o
  refine (ih _).trans ?_
  refine ((insP_perm _ e o).append_right l).trans ?_
  rw [List.cons_append]
  exact List.perm_middle.symm
theorem sortK_sorted (l : List Lk) : (sortK l).Pairwise fun a b => ltOf cfK b a = false := by
 suffices h : ∀ (l o : List Lk), (o.Pairwise fun a b => ltOf cfK b a = false) → (l.foldl (fun out x => insP (fun y => decide (cfK y x < 0)) x out) o).Pairwise fun a b => ltOf cfK b a = false from h l [] List.Pairwise.nil
 intro l
 induction l with
 | nil => intro o h; exact h
 | cons e l ih => intro o h; exact ih _ (insP_sorted cfK_ok e h)
theorem sortK_unique {l l' : List Lk} (hp : l'.Perm l) (hs : l'.Pairwise fun a b => ltOf cfK b a = false) : l' = sortK l := unique_of cfK_ok cfK_zero (hp.trans (sortK_perm l).symm) hs (sortK_sorted l)
end Go.Proofs.YtdgglhlofnigkaaGreatDoor
