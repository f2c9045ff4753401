/-
  store.fits. hedgerowref06.Short. (*store.Store).Put. What a store holds after events that may be. hedgerowref07.First, Less. Conditions: lengths.
-/import Derived.Test.YtdgglhlofnigkaaGreatDoorStAll
import Derived.Test.YtdgglhlofnigkaaGreatDoorJEvOf
namespace Go.Proofs.YtdgglhlofnigkaaGreatDoor
open Go.RowKit Go.MapKept Go.Sort
def evX (x : El) (v : Va) : Ev := ⟨0, 0, fun _ => 0, if valdB x.k then 3 else 1, x.k, x.a, x.b, x.c, x.d, v.k, v.n, v.t⟩
def fit7B (x : El) (v : Va) : Bool := changeB (evX x v)
def LenE (x : El) : Prop := x.a.size ≤ 4294967280 ∧ x.b.size ≤ 4294967280 ∧ x.c.size ≤ 4294967280 ∧ x.d.size ≤ 4294967280
def elB (x : El) : Bool := elemB x.k x.a.data.toList x.b.data.toList x.c.data.toList x.d.data.toList
theorem rangeAt_below {w w' : World} {g o : Nat} {cs : List Value} (h : w.rangeAt g o cs) (hg : g < w.heap.size) (hb : Below w.heap.size w w') : w'.rangeAt g o cs := rangeAt_same h (hb.block g hg)
section
variable {P : Program}
theorem run_loadsl_op {o : Oper} {ρ : Operand → Value} {w : World} {ty e : TypeId} {x : Operand} {ad : Addr} {A : Option Addr} {n c : Nat} (ho : o.op = .load ty x) (hx : ρ x = .pointer (some ad)) (hu : P.underlying ty = some (.slice e)) (hc : w.cell? ad = some (.slice A n c)) :
  (execOp ρ o).run P w = .ok (.value (.slice A n c)) w := by
 unfold execOp
 have ha : (isAgg ty).run P w = .ok false w := by unfold isAgg; rw [Sem.run_bind, run_underlying hu w]; simp
 simp [ho, hx, Instr.loadAt, Instr.sureAddr, loadVar, ha, hc, go_sem]
end
open Lib (hid)
open Go.RowKit
def shortB (e : Ev) : Bool := decide (e.a.size + e.b.size + e.cc.size + e.d.size + e.t.size ≤ 300)
def Fit (e : Ev) : Prop := e.a.size ≤ 140737488355328 ∧ e.b.size ≤ 140737488355328 ∧ e.cc.size ≤ 140737488355328 ∧ e.d.size ≤ 140737488355328 ∧ e.t.size ≤ 140737488355328
theorem short_lens (e : Ev) (h : shortB e = true) : Lens e := by
 unfold shortB at h
 rw [decide_eq_true_eq] at h
 exact ⟨by omega, by omega, by omega, by omega, by omega⟩
set_option maxRecDepth 100000 in
set_option maxHeartbeats 1000000 in
theorem short_any (e : Ev) (w : World) (hl : Fit e) : Calls Tryz.prog 35 #[evV e] w (Gives w (.bool (shortB e))) := by
 obtain ⟨r, c, p, op, ek, a, b, cc, d, vk, vn, t⟩ := e
 obtain ⟨l1, l2, l3, l4, l5⟩ := hl
 dsimp only at l1 l2 l3 l4 l5
 have HS : Hid (shortB ⟨r, c, p, op, ek, a, b, cc, d, vk, vn, t⟩ = decide ((a.size : Int) + b.size + cc.size + d.size + t.size ≤ 300)) := hid (by unfold shortB; exact decide_eq_decide.2 (by dsimp only; omega))
 have hk := EB.new_ w ⟨r, c, p, op, ek, a, b, cc, d, vk, vn, t⟩
 have hy : Below w.heap.size w (w.alloc (.cells (evC ⟨r, c, p, op, ek, a, b, cc, d, vk, vn, t⟩) 60)) := (Below.refl _ _).alloc (Nat.le_refl _) _
 obtain ⟨X, hX⟩ : ∃ X, X = w.alloc (.cells (evC ⟨r, c, p, op, ek, a, b, cc, d, vk, vn, t⟩) 60) := ⟨_, rfl⟩
 rw [← hX] at hk hy
 have c1 : X.cell? ⟨w.heap.size, 20, none⟩ = some (.string a) := (Blk.cell hk 20).trans rfl
 have c2 : X.cell? ⟨w.heap.size, 21, none⟩ = some (.string b) := (Blk.cell hk 21).trans rfl
 have c3 : X.cell? ⟨w.heap.size, 22, none⟩ = some (.string cc) := (Blk.cell hk 22).trans rfl
 have c4 : X.cell? ⟨w.heap.size, 23, none⟩ = some (.string d) := (Blk.cell hk 23).trans rfl
 have c5 : X.cell? ⟨w.heap.size, 26, none⟩ = some (.string t) := (Blk.cell hk 26).trans rfl
 have HX := hid hX
 have HY := hid hy
 clear hX hk hy
 unfold evV
 go_enter Tryz.func35, Tryz.ntmps35
 go_upto_region 1 with fail
 rw [← HX.out]
 go_wp2
 go_ret
 exact ⟨by rw [HS.out]; rfl, HY.out⟩
section
variable {w W w' : World} {F : Nat → Prop} {sb ob : Nat} {I : List (El × Nat)} {h : Nat → List (Dt × Va)} {x : El} {σ : List (El × List (Dt × Va))}
end
def StAt (w : World) (sb B : Nat) (σ : List (El × List (Dt × Va))) : Prop := ∃ F, StoreIs w sb F σ ∧ ∀ i, F i → i = sb ∨ B ≤ i
def Kept (sb B : Nat) (w w' : World) : Prop := Out (fun i => i = sb ∨ B ≤ i) w w'
section
variable {w w' w'' : World} {sb B : Nat} {σ : List (El × List (Dt × Va))}
theorem Kept.refl : Kept sb B w w := Out.refl _ _
theorem Kept.trans (h : Kept sb B w w') (k : Kept sb B w' w'') : Kept sb B w w'' := Out.trans' h k
theorem Kept.of_below (h : Below w.heap.size w w') : Kept sb B w w' := Out.of_below h
theorem Kept.size (h : Kept sb B w w') : w.heap.size ≤ w'.heap.size := Out.size h
theorem Kept.below (h : Kept sb B w w') {C : Nat} (hs : C ≤ sb) (hB : C ≤ B) (hw : C ≤ w.heap.size) : Below C w w' := Out.below h hw fun i hi => by
 rcases hi with hi | hi <;> omega
theorem StAt.keep (h : StAt w sb B σ) (hb : Below w.heap.size w w') : StAt w' sb B σ := by
 obtain ⟨F, h1, h2⟩ := h
 exact ⟨F, h1.below hb, h2⟩
theorem new_at (w : World) (B : Nat) : StAt (w.alloc (.cells #[.map none] 91)) w.heap.size B [] := ⟨_, StoreIs.new_ w, fun _ h => .inl h⟩
theorem do_at (h : StAt w sb B σ) (hB : B ≤ w.heap.size) (e : Ev) (hl : Lens e) (hw : CutOk w) : Calls Tryz.prog 31 #[.pointer (some ⟨sb, 0, none⟩), evV e] w fun x w' =>
  x = .returned (.int .i64 (codeI (okB e))) ∧ StAt w' sb B (if okB e then doS e σ else σ) ∧ Kept sb B w w' := by
 obtain ⟨F, h1, h2⟩ := h
 refine (do_any e sb F σ w h1 hl hw).mono ?_
 rintro x w' ⟨r1, r2, r3⟩
 exact ⟨r1, ⟨_, r2, fun i hi => by
  rcases hi with hi | hi
  ·exact h2 i hi
  ·exact .inr (Nat.le_trans hB hi.1)⟩, r3.mono h2⟩
end
section
variable {w : World} {sb B : Nat} {σ : List (El × List (Dt × Va))}
theorem do_yes (h : StAt w sb B σ) (hB : B ≤ w.heap.size) (e : Ev) (hl : Lens e) (hw : CutOk w) (ho : okB e = true) (τ : List (El × List (Dt × Va))) (hτ : doS e σ = τ) : Calls Tryz.prog 31 #[.pointer (some ⟨sb, 0, none⟩), evV e] w fun x w' =>
  x = .returned (.int .i64 0) ∧ StAt w' sb B τ ∧ Kept sb B w w' := by
 have := do_at h hB e hl hw
 rw [ho, if_pos rfl, hτ] at this
 exact this
end
def encE (e : Ev) : List Value := (evC e).toList
theorem encE_len (e : Ev) : (encE e).length = 27 := rfl
theorem encE_one : ∀ e, ∀ v ∈ encE e, v.oneCell' = true := by
 intro e v hv
 simp only [encE, evC, List.mem_cons, List.not_mem_nil, or_false] at hv
 rcases hv with rfl | rfl | rfl | rfl | rfl | rfl | rfl | rfl | rfl | rfl | rfl | rfl | rfl | rfl | rfl | rfl | rfl | rfl | rfl | rfl | rfl | rfl | rfl | rfl | rfl | rfl | rfl <;> rfl
theorem at_Ev (g o c n k : Nat) (h : k < n) (w : World) : (Instr.indexAt 22 (.slice (some ⟨g, o, none⟩) n c) (.int .i64 k)).run Tryz.prog w = .ok (.pointer (some ⟨g, o + k * 27, none⟩)) w := by
 have h2 : (k : Int) < n := by omega
 go_simp
theorem SlK.ev {w : World} {A : Option Addr} {n c j : Nat} {l : List Ev} {e : Ev} (h : SlK encE 27 w (.slice A n c) l) (hj : l[j]? = some e) : ∃ g o, A = some ⟨g, o, none⟩ ∧ g < w.heap.size ∧ w.rangeAt g (o + j * 27) (encE e) := by
 obtain ⟨A', c', hv', _, hcells⟩ := h
 obtain ⟨g, o, rfl, hgl, hcell⟩ := hcells (fun e => by rw [e] at hj; cases hj)
 injection hv' with e1 e2 e3
 exact ⟨g, o, e1, hgl, hcell j e hj⟩
theorem short_is7 (e : Ev) (hl : Fit e) (b : Bool) (h : shortB e = b) (w : World) : Calls Tryz.prog 35 #[evV e] w (Gives w (.bool b)) := by
 have := short_any e w hl; rwa [h] at this
def OkItem (x : El) (l : List (Dt × Va)) : Prop := elB x = true ∧ LenE x ∧ l ≠ [] ∧ (keysL l).Nodup ∧ ∀ q ∈ l, dotB q.1.r q.1.c = true ∧ fit7B x q.2 = true ∧ q.2.t.size ≤ 4294967280
def OkS (σ : List (El × List (Dt × Va))) : Prop := (keysL σ).Nodup ∧ ∀ p ∈ σ, OkItem p.1 p.2
section
variable {σ : List (El × List (Dt × Va))} {x : El} {l : List (Dt × Va)}
theorem OkS.nil_ : OkS [] := ⟨List.nodup_nil, fun p hp => by cases hp⟩
theorem OkS.put_ (h : OkS σ) (hl : OkItem x l) : OkS (putL x l σ) := by
 refine ⟨nodup_putL h.1, fun p hp => ?_⟩
 rcases (mem_putL h.1).1 hp with rfl | ⟨h1, _⟩
 ·exact hl
 ·exact h.2 p h1
theorem OkS.del_ (h : OkS σ) : OkS (delL x σ) := ⟨(List.Sublist.map Prod.fst List.filter_sublist).nodup h.1, fun p hp => h.2 p (mem_delL.1 hp).1⟩
theorem OkS.ent (h : OkS σ) (hg : getL x σ = some l) : OkItem x l := h.2 (x, l) (getL_mem hg)
theorem OkS.undo_ (h : OkS σ) (kn : Dt → Bool) : OkS (undoS x kn σ) := by
 unfold undoS
 cases hg : getL x σ with
 | none => exact h
 | some l =>
  dsimp only
  by_cases hl : leftS kn l = []
  ·rw [if_pos hl]; exact h.del_
  ·rw [if_neg hl]
   obtain ⟨h1, h2, h3, h4, h5⟩ := h.ent hg
   exact h.put_ ⟨h1, h2, hl, nodup_filter h4 _, fun q hq => h5 q (List.mem_filter.1 hq).1⟩
theorem OkS.come_ (h : OkS σ) (e : Ev) (ho : okB e = true) (hl : Lens e) (hop : e.op = 1 ∨ e.op = 3) : OkS (comeS (elOf e) (dtOf e) (vaOf e) σ) := by
 unfold comeS
 have ho' := ho
 unfold okB changeB at ho'
 simp only [Bool.and_eq_true] at ho'
 obtain ⟨⟨hnx, _⟩, hel, hfi⟩ := ho'
 have hdot : dotB e.r e.c = true := by unfold nextB at hnx; simp only [Bool.and_eq_true] at hnx; exact hnx.1
 have hlE : LenE (elOf e) := ⟨hl.1, hl.2.1, hl.2.2.1, hl.2.2.2.1⟩
 have hfit : fit7B (elOf e) (vaOf e) = true := by
  unfold fit7B changeB
  rw [Bool.and_eq_true]
  refine ⟨hel, ?_⟩
  show fitsB (if valdB e.ek then 3 else 1) e.ek e.vk e.vn e.t.data.toList = true
  unfold fitsB at hfi ⊢
  rcases hop with h1 | h3
  ·rw [h1] at hfi
   simp only [true_or, if_true, Bool.and_eq_true, Bool.not_eq_true'] at hfi
   rw [hfi.1]
   simp [hfi.2]
  ·rw [h3] at hfi
   simp at hfi
   rw [hfi.1]
   simp [hfi.2]
 refine h.put_ ?_
 have key : ∀ q ∈ putL (dtOf e) (vaOf e) ((getL (elOf e) σ).getD []), (q = (dtOf e, vaOf e)) ∨ q ∈ (getL (elOf e) σ).getD [] := by
  intro q hq
  have : ∀ L : List (Dt × Va), q ∈ putL (dtOf e) (vaOf e) L → q = (dtOf e, vaOf e) ∨ q ∈ L := by
   intro L
   induction L with
   | nil => intro h; simp [putL] at h; exact .inl h
   | cons p L ih =>
    intro h
    simp only [putL] at h
    split at h
    ·rcases List.mem_cons.1 h with h | h
     ·exact .inl h
     ·exact .inr (List.mem_cons_of_mem _ h)
    ·rcases List.mem_cons.1 h with h | h
     ·exact .inr (h ▸ List.mem_cons_self ..)
     ·rcases ih h with h | h
      ·exact .inl h
      ·exact .inr (List.mem_cons_of_mem _ h)
  exact this _ hq
 have hne : putL (dtOf e) (vaOf e) ((getL (elOf e) σ).getD []) ≠ [] := by
  cases (getL (elOf e) σ).getD [] with
  | nil => simp [putL]
  | cons p L => simp only [putL]; split <;> simp
 cases hg : getL (elOf e) σ with
 | none =>
  rw [hg] at key hne
  refine ⟨hel, hlE, hne, by simp [putL, keysL], fun q hq => ?_⟩
  rcases key q hq with rfl | h
  ·exact ⟨hdot, hfit, hl.2.2.2.2⟩
  ·cases h
 | some l0 =>
  rw [hg] at key hne
  obtain ⟨_, _, _, h4, h5⟩ := h.ent hg
  refine ⟨hel, hlE, hne, nodup_putL h4, fun q hq => ?_⟩
  rcases key q hq with rfl | h
  ·exact ⟨hdot, hfit, hl.2.2.2.2⟩
  ·exact h5 q h
theorem OkS.do_ (h : OkS σ) (e : Ev) (ho : okB e = true) (hl : Lens e) : OkS (doS e σ) := by
 unfold doS
 by_cases h1 : e.op = 1
 ·rw [if_pos h1]; exact h.come_ e ho hl (.inl h1)
 ·rw [if_neg h1]
  by_cases h3 : e.op = 3
  ·rw [if_pos h3]; exact (h.undo_ _).come_ e ho hl (.inr h3)
  ·rw [if_neg h3]; exact h.undo_ _
theorem tot_putL : ∀ σ : List (El × List (Dt × Va)), totS (putL x l σ) + (entS x σ).length = totS σ + l.length
 | [] => by simp [totS, putL, entS, getL]
 | p :: σ => by
  have ih := tot_putL σ
  unfold entS at ih ⊢
  simp only [putL, getL, totS, List.map_cons, List.sum_cons] at ih ⊢
  by_cases hp : p.1 = x
  ·rw [if_pos hp, if_pos hp]
   simp
   omega
  ·rw [if_neg hp, if_neg hp]
   simp only [List.map_cons, List.sum_cons]
   omega
theorem tot_ent : (entS x σ).length ≤ totS σ := by
 have := tot_putL (x := x) (l := []) σ
 simp at this
 omega
theorem tot_filter (f : El × List (Dt × Va) → Bool) : ∀ σ : List (El × List (Dt × Va)), totS (σ.filter f) ≤ totS σ
 | [] => Nat.le_refl _
 | p :: σ => by
  have ih := tot_filter f σ
  simp only [List.filter_cons]
  split
  ·simp only [totS, List.map_cons, List.sum_cons] at ih ⊢; omega
  ·simp only [totS, List.map_cons, List.sum_cons] at ih ⊢; omega
theorem tot_undo (kn : Dt → Bool) : totS (undoS x kn σ) ≤ totS σ := by
 unfold undoS
 cases hg : getL x σ with
 | none => exact Nat.le_refl _
 | some l =>
  dsimp only
  split
  ·exact tot_filter _ σ
  ·have h1 := tot_putL (x := x) (l := leftS kn l) σ
   have h2 : (entS x σ).length = l.length := by unfold entS; rw [hg]; rfl
   have h3 : (leftS kn l).length ≤ l.length := List.length_filter_le _ _
   omega
theorem tot_come {d : Dt} {v : Va} : totS (comeS x d v σ) ≤ totS σ + 1 := by
 unfold comeS
 have h1 := tot_putL (x := x) (l := putL d v ((getL x σ).getD [])) σ
 have h2 : (putL d v ((getL x σ).getD [])).length ≤ ((getL x σ).getD []).length + 1 := length_putL_le
 have h3 : (entS x σ).length = ((getL x σ).getD []).length := rfl
 omega
theorem tot_do (e : Ev) : totS (doS e σ) ≤ totS σ + 1 := by
 unfold doS
 split
 ·exact tot_come
 ·split
  ·exact Nat.le_trans tot_come (Nat.add_le_add_right (tot_undo _) 1)
  ·exact Nat.le_trans (tot_undo _) (Nat.le_succ _)
theorem OkS.len (h : OkS σ) : σ.length ≤ totS σ := by
 have : ∀ σ : List (El × List (Dt × Va)), (∀ p ∈ σ, p.2 ≠ []) → σ.length ≤ totS σ := by
  intro σ
  induction σ with
  | nil => intro _; simp [totS]
  | cons p σ ih =>
   intro h
   have h1 := ih fun q hq => h q (List.mem_cons_of_mem _ hq)
   have h2 : 0 < p.2.length := List.length_pos_iff.2 (h p (List.mem_cons_self ..))
   simp only [totS, List.map_cons, List.sum_cons, List.length_cons] at h1 ⊢
   omega
 exact this σ fun p hp => (h.2 p hp).2.2.1
end
def runS (row : List Ev) : List (El × List (Dt × Va)) := row.foldl (fun s e => if okB e then doS e s else s) []
theorem runS_snoc (row : List Ev) (e : Ev) : runS (row ++ [e]) = if okB e then doS e (runS row) else runS row := by simp [runS]
theorem runS_next {row : List Ev} {j : Nat} {e : Ev} (h : row[j]? = some e) : runS (row.take (j + 1)) = if okB e then doS e (runS (row.take j)) else runS (row.take j) := by
 rw [List.take_add_one, h]; exact runS_snoc _ _
theorem runS_ok (row : List Ev) (h : ∀ e ∈ row, Lens e) : OkS (runS row) ∧ totS (runS row) ≤ row.length := by
 suffices hh : ∀ (row : List Ev), (∀ e ∈ row, Lens e) → ∀ s, OkS s → OkS (row.foldl (fun s e => if okB e then doS e s else s) s) ∧ totS (row.foldl (fun s e => if okB e then doS e s else s) s) ≤ totS s + row.length by
  have := hh row h [] OkS.nil_
  simpa [totS, runS] using this
 intro row
 induction row with
 | nil => intro _ s hs; exact ⟨hs, Nat.le_refl _⟩
 | cons e row ih =>
  intro h s hs
  have h1 := h e (List.mem_cons_self ..)
  simp only [List.foldl_cons, List.length_cons]
  by_cases ho : okB e = true
  ·rw [if_pos ho]
   obtain ⟨q1, q2⟩ := ih (fun e he => h e (List.mem_cons_of_mem _ he)) _ (hs.do_ e ho h1)
   have := tot_do (σ := s) e
   exact ⟨q1, by omega⟩
  ·rw [if_neg ho]
   obtain ⟨q1, q2⟩ := ih (fun e he => h e (List.mem_cons_of_mem _ he)) _ hs
   exact ⟨q1, by omega⟩
theorem el_unique {l l1 l2 : List El} (hp1 : l1.Perm l) (hs1 : l1.Pairwise fun x y => ltOf cfE y x = false) (hp2 : l2.Perm l) (hs2 : l2.Pairwise fun x y => ltOf cfE y x = false) : l1 = l2 := by
 have hT : ∀ x ∈ l, ∀ y ∈ l, ltOf cfE x y = false → ltOf cfE y x = false → x = y := by
  intro x _ y _ h1 h2
  have h3 := cfE_ok.anti x y
  unfold ltOf at h1 h2
  simp only [decide_eq_false_iff_not, Int.not_lt] at h1 h2
  exact cfE_zero _ _ (by omega)
 rw [sort_unique cfE_ok.swo hp1 hs1 hT, sort_unique cfE_ok.swo hp2 hs2 hT]
theorem getL_putL {α β : Type} [DecidableEq α] (x y : α) (v : β) : ∀ L : List (α × β), getL y (putL x v L) = if x = y then some v else getL y L
 | [] => by simp [putL, getL]
 | p :: L => by
  have ih := getL_putL x y v L
  simp only [putL]
  by_cases hp : p.1 = x
  ·rw [if_pos hp]
   simp only [getL, hp]
   split <;> rfl
  ·rw [if_neg hp]
   simp only [getL, ih]
   by_cases hy : p.1 = y
   ·rw [if_pos hy, if_pos hy, if_neg (fun e => hp (hy.trans e.symm))]
   ·rw [if_neg hy, if_neg hy]
theorem getL_delL {α β : Type} [DecidableEq α] (x y : α) : ∀ L : List (α × β), getL y (delL x L) = if x = y then none else getL y L
 | [] => by simp [delL, getL]
 | p :: L => by
  have ih := getL_delL x y L
  unfold delL at ih ⊢
  by_cases hp : p.1 = x
  ·simp only [List.filter_cons, hp, ne_eq, not_true_eq_false, decide_false, Bool.false_eq_true, if_false, ih, getL]
   by_cases hy : x = y
   ·rw [if_pos hy, if_pos hy]
   ·rw [if_neg hy, if_neg hy, if_neg hy]
  ·simp only [List.filter_cons, hp, ne_eq, not_false_eq_true, decide_true, if_true, getL, ih]
   by_cases hy : p.1 = y
   ·rw [if_pos hy, if_pos hy, if_neg (fun e => hp (hy.trans e.symm))]
   ·rw [if_neg hy, if_neg hy]
theorem bl_cb : ∀ (x y : List UInt8), Op.bytesLess x y = decide (Lib.compareBytes x y < 0)
 | [], [] => by simp [Op.bytesLess, Lib.compareBytes]
 | _ :: _, [] => by simp [Op.bytesLess, Lib.compareBytes]
 | [], _ :: _ => by simp [Op.bytesLess, Lib.compareBytes]
 | a :: x, b :: y => by
  have ih := bl_cb x y
  simp only [Op.bytesLess, Lib.compareBytes]
  by_cases h : a < b
  ·simp [h]
  ·by_cases h2 : b < a
   ·have h3 : a ≠ b := fun e => by subst e; exact h h2
    simp [h, h2, h3]
   ·have h3 : a = b := UInt8.le_antisymm (UInt8.not_lt.1 h2) (UInt8.not_lt.1 h)
    simp [h3, ih]
def lessB (x y : El) : Bool := decide (cfE x y < 0)
theorem toList_eq {a b : ByteArray} (h : (a.toList == b.toList) = true) : a = b := by
 have h1 : a.toList = b.toList := by simpa using h
 rw [Lib.toList_data, Lib.toList_data] at h1
 exact ba_ext h1
theorem cb_same (a : List UInt8) : Lib.compareBytes a a = 0 := (cb_zero a a).2 rfl
theorem cb_diff {a b : ByteArray} (h : (a.toList == b.toList) = false) : Lib.compareBytes a.data.toList b.data.toList ≠ 0 := fun e => by
 rw [ba_ext ((cb_zero _ _).1 e)] at h
 simp at h
set_option maxHeartbeats 1000000 in
theorem less_any (x y : El) (w : World) : Calls Tryz.prog 63 #[eE x, eE y] w (Gives w (.bool (lessB x y))) := by
 have HB : Hid (∀ o o' : Obj, Below w.heap.size w ((w.alloc o).alloc o')) := hid (fun o o' => ((Below.refl _ _).alloc (Nat.le_refl _) o).alloc (by simp) o')
 obtain ⟨k, a, b, c, d⟩ := x
 obtain ⟨k', a', b', c', d'⟩ := y
 unfold eE elV
 dsimp only
 by_cases h1 : k = k'
 ·subst h1
  cases ha : (a.toList == a'.toList)
  ·have HR := hid (show lessB ⟨k, a, b, c, d⟩ ⟨k, a', b', c', d'⟩ = Op.bytesLess a.toList a'.toList by
    unfold lessB cfE; simp only [orI, (ci_zero k k).2 rfl, if_true, if_neg (cb_diff ha), bl_cb, Lib.toList_data])
   go_enter Tryz.func63, Tryz.ntmps63
   go_wp2
   go_ret
   exact ⟨by rw [HR.out]; rfl, HB.out _ _⟩
  ·have ea := toList_eq ha
   subst ea
   cases hb : (b.toList == b'.toList)
   ·have HR := hid (show lessB ⟨k, a, b, c, d⟩ ⟨k, a, b', c', d'⟩ = Op.bytesLess b.toList b'.toList by
     unfold lessB cfE; simp only [orI, (ci_zero k k).2 rfl, if_true, cb_same, if_neg (cb_diff hb), bl_cb, Lib.toList_data])
    go_enter Tryz.func63, Tryz.ntmps63
    go_wp2
    go_ret
    exact ⟨by rw [HR.out]; rfl, HB.out _ _⟩
   ·have eb := toList_eq hb
    subst eb
    cases hc : (c.toList == c'.toList)
    ·have HR := hid (show lessB ⟨k, a, b, c, d⟩ ⟨k, a, b, c', d'⟩ = Op.bytesLess c.toList c'.toList by
      unfold lessB cfE; simp only [orI, (ci_zero k k).2 rfl, if_true, cb_same, if_neg (cb_diff hc), bl_cb, Lib.toList_data])
     go_enter Tryz.func63, Tryz.ntmps63
     go_wp2
     go_ret
     exact ⟨by rw [HR.out]; rfl, HB.out _ _⟩
    ·have ec := toList_eq hc
     subst ec
     have HR := hid (show lessB ⟨k, a, b, c, d⟩ ⟨k, a, b, c, d'⟩ = Op.bytesLess d.toList d'.toList by
      unfold lessB cfE
      simp only [orI, (ci_zero k k).2 rfl, if_true, cb_same, bl_cb, Lib.toList_data]
      by_cases h : Lib.compareBytes d.data.toList d'.data.toList = 0
      ·simp [h]
      ·rw [if_neg h])
     go_enter Tryz.func63, Tryz.ntmps63
     go_wp2
     go_ret
     exact ⟨by rw [HR.out]; rfl, HB.out _ _⟩
 ·have hd : (k != k') = true := by simpa using h1
  have HR := hid (show lessB ⟨k, a, b, c, d⟩ ⟨k', a', b', c', d'⟩ = decide (k < k') by
   unfold lessB cfE
   have h2 : Lib.compareInt k k' ≠ 0 := fun e => h1 ((ci_zero k k').1 e)
   simp only [orI, if_neg h2]
   rcases ci_cases k k' with ⟨h, e⟩ | ⟨h, e⟩ | ⟨h, e⟩ <;> simp [e] <;> omega)
  clear h1
  go_enter Tryz.func63, Tryz.ntmps63
  go_wp2
  go_ret
  exact ⟨by rw [HR.out]; rfl, HB.out _ _⟩
theorem less_is (x y : El) (q : Bool) (h : lessB x y = q) (w : World) : Calls Tryz.prog 63 #[eE x, eE y] w (Gives w (.bool q)) := by
 subst h; exact less_any x y w
end Go.Proofs.YtdgglhlofnigkaaGreatDoor
