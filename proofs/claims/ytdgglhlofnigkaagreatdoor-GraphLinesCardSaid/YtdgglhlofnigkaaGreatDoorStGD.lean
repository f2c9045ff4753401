/- Slices of structs. -/import Derived.Test.YtdgglhlofnigkaaGreatDoorStGA
import Derived.Shelf.SlSortCmp.NoneTotal
import Derived.Test.YtdgglhlofnigkaaGreatDoorShelf
import Derived.Test.YtdgglhlofnigkaaGreatDoorJValCmp
import Derived.Deep.DeepCutAuto
set_option maxHeartbeats 2000000
set_option maxRecDepth 100000
namespace Go.Proofs.YtdgglhlofnigkaaGreatDoor
open Lib (hid)
open Go.RowKit Go.Sort
section
variable {α : Type} {enc : α → List Value} {k : Nat}
theorem flat_length (hk : ∀ x, (enc x).length = k) : ∀ l : List α, (l.flatMap enc).length = l.length * k
 | [] => by simp
 | x :: l => by
  have ih := flat_length hk l
  simp only [List.flatMap_cons, List.length_append, List.length_cons, hk, ih, Nat.add_mul, Nat.one_mul]
  omega
theorem flat_at (hk : ∀ x, (enc x).length = k) : ∀ (l : List α) (j i : Nat) (x : α), l[j]? = some x → i < k → (l.flatMap enc)[j * k + i]? = (enc x)[i]?
 | [], _, _, _, h, _ => by cases h
 | y :: l, 0, i, x, h, hi => by
  have : y = x := by simpa using h
  subst this
  rw [List.flatMap_cons, Nat.zero_mul, Nat.zero_add, List.getElem?_append_left (by rw [hk]; exact hi)]
 | y :: l, j + 1, i, x, h, hi => by
  rw [List.flatMap_cons, List.getElem?_append_right (by rw [hk, Nat.add_mul]; omega), hk, show (j + 1) * k + i - k = j * k + i from by rw [Nat.add_mul]; omega]
  exact flat_at hk l j i x (by simpa using h) hi
def SlK (enc : α → List Value) (k : Nat) (w : World) (v : Value) (l : List α) : Prop :=
 ∃ A c, v = .slice A l.length c ∧ l.length ≤ c ∧ (l ≠ [] → ∃ b o, A = some ⟨b, o, none⟩ ∧ b < w.heap.size ∧ ∀ (j : Nat) (x : α), l[j]? = some x → w.rangeAt b (o + j * k) (enc x))
def OwnK (enc : α → List Value) (base : Nat) (e : TypeId) (k : Nat) (w : World) (v : Value) (l : List α) : Prop := w.ownsRow base e k v l.length (l.flatMap enc)
variable {w w' : World} {v : Value} {l : List α} {base : Nat} {e : TypeId}
theorem rangeAt_same {b o : Nat} {cs : List Value} (h : w.rangeAt b o cs) (hb : w'.heap[b]? = w.heap[b]?) : w'.rangeAt b o cs := fun j u hu => (World.cell?_of_block hb).trans (h j u hu)
theorem SlK.below (h : SlK enc k w v l) (hb : Below w.heap.size w w') : SlK enc k w' v l := by
 obtain ⟨A, c, rfl, hlc, hx⟩ := h
 refine ⟨A, c, rfl, hlc, fun hn => ?_⟩
 obtain ⟨b, o, hA, hbl, hc⟩ := hx hn
 exact ⟨b, o, hA, Nat.lt_of_lt_of_le hbl hb.size, fun j x hj => rangeAt_same (hc j x hj) (hb.block b hbl)⟩
theorem SlK.nil_ (enc : α → List Value) (k : Nat) (w : World) : SlK enc k w (.slice none 0 0) [] := ⟨none, 0, rfl, Nat.le_refl _, fun h => absurd rfl h⟩
theorem OwnK.read (hk : ∀ x, (enc x).length = k) (h : OwnK enc base e k w v l) : SlK enc k w v l := by
 obtain ⟨hl, hc⟩ := h
 rcases hc with ⟨rfl, h0⟩ | ⟨g, cap, cur, rfl, hb, hg, hn, hm, hs, ht⟩
 ·have : l = [] := List.eq_nil_of_length_eq_zero h0
  subst this; exact SlK.nil_ enc k w
 ·refine ⟨some ⟨g, 0, none⟩, cap, rfl, hn, fun _ => ⟨g, 0, rfl, (Array.getElem?_eq_some_iff.1 hg).1, fun j x hj i u hu => ?_⟩⟩
  have hik : i < k := by
   have := (List.getElem?_eq_some_iff.1 hu).1
   rwa [hk] at this
  have hjl : j < l.length := (List.getElem?_eq_some_iff.1 hj).1
  have h1 := flat_at hk l j i x hj hik
  rw [hu, ← ht, List.getElem?_take] at h1
  split at h1
  ·rw [cell_of_row w g (0 + j * k + i) cur e (0, 0) hg, Nat.zero_add]
   simpa using h1
  ·cases h1
theorem OwnK.nil_ (enc : α → List Value) (base : Nat) (e : TypeId) (k : Nat) (w : World) : OwnK enc base e k w (.slice none 0 0) [] := ⟨by simp, .inl ⟨rfl, rfl⟩⟩
theorem OwnK.block (h : OwnK enc base e k w v l) (hn : l ≠ []) : ∃ g cap cur, v = .slice (some ⟨g, 0, none⟩) l.length cap ∧ base ≤ g ∧ w.heap[g]? = some (.cells cur e (0, 0)) ∧ l.length ≤ cap ∧ cap ≤ maxLen ∧ cur.size = cap * k ∧ cur.toList.take (l.length * k) = l.flatMap enc := by
 rcases h.2 with ⟨_, h0⟩ | h
 ·exact absurd (List.eq_nil_of_length_eq_zero h0) hn
 ·exact h
theorem OwnK.same (h : OwnK enc base e k w v l) (hb : ∀ g, v.ownBlock = some g → w'.heap[g]? = w.heap[g]?) : OwnK enc base e k w' v l := by
 refine ⟨h.1, ?_⟩
 rcases h.2 with h2 | ⟨g, cap, cur, rfl, h3, hg, h4⟩
 ·exact .inl h2
 ·exact .inr ⟨g, cap, cur, rfl, h3, (hb g rfl).trans hg, h4⟩
theorem OwnK.lt (h : OwnK enc base e k w v l) : ∀ g, v.ownBlock = some g → base ≤ g ∧ g < w.heap.size := by
 intro g hg
 rcases h.2 with ⟨rfl, _⟩ | ⟨g', cap, cur, rfl, h3, hb, _⟩
 ·cases hg
 ·have : g' = g := Option.some.inj hg
  subst this
  exact ⟨h3, (Array.getElem?_eq_some_iff.1 hb).1⟩
theorem OwnK.keep (h : OwnK enc base e k w v l) (hb : Below w.heap.size w w') : OwnK enc base e k w' v l := h.same fun g hg => hb.block g (h.lt g hg).2
theorem OwnK.base_ (h : OwnK enc base e k w v l) {b' : Nat} (hb : b' ≤ base) : OwnK enc b' e k w v l := by
 refine ⟨h.1, ?_⟩
 rcases h.2 with h2 | ⟨g, cap, cur, h3, h4, h5⟩
 ·exact .inl h2
 ·exact .inr ⟨g, cap, cur, h3, Nat.le_trans hb h4, h5⟩
end
section
variable {α : Type} [Inhabited α] {enc : α → List Value} {k : Nat} {w w' : World} {v : Value} {l : List α} {base : Nat} {e : TypeId}
theorem flatK_list (hk : ∀ x, (enc x).length = k) (h0 : 0 < k) (l : List α) : (flatK enc k l.toArray).toList = l.flatMap enc := by
 apply List.ext_getElem?
 intro t
 by_cases ht : t < l.length * k
 ·have hj : t / k < l.length := (Nat.div_lt_iff_lt_mul h0).2 ht
  have hi : t % k < k := Nat.mod_lt _ h0
  have h1 := flat_at hk l (t / k) (t % k) l[t / k] (List.getElem?_eq_getElem hj) hi
  rw [show t / k * k + t % k = t from by rw [Nat.mul_comm]; exact Nat.div_add_mod t k] at h1
  rw [h1, Array.getElem?_toList]
  have hsz : t < (flatK enc k l.toArray).size := by simpa using ht
  have h2 := get_flatK enc k l.toArray t (by simpa using ht)
  rw [getElem!_pos (flatK enc k l.toArray) t hsz] at h2
  rw [Array.getElem?_eq_getElem hsz, h2]
  have h3 : (l.toArray)[t / k]! = l[t / k] := by simp [hj]
  have h4 : t % k < (enc l[t / k]).length := by rw [hk]; exact hi
  rw [h3, getElem!_pos (enc l[t / k]) (t % k) h4, List.getElem?_eq_getElem h4]
 ·rw [List.getElem?_eq_none (by simp; omega), List.getElem?_eq_none (by rw [flat_length hk]; omega)]
theorem holdsK_of (hk : ∀ x, (enc x).length = k) (h0 : 0 < k) {g : Nat} {cur : Array Value} {fr : TypeId} (hb : w.heap[g]? = some (.cells cur fr (0, 0))) (ht : cur.toList.take (l.length * k) = l.flatMap enc) : HoldsK enc k w g 0 l.toArray := by
 intro j hj
 have hj' : j < l.length * k := by simpa using hj
 refine ⟨?_, by simp [World.frozen?, hb]⟩
 have h1 : (cur.toList.take (l.length * k))[j]? = (flatK enc k l.toArray).toList[j]? := by rw [ht, flatK_list hk h0]
 rw [List.getElem?_take_of_lt hj'] at h1
 simp only [World.cell?, hb, Nat.zero_add]
 simp only [Option.isSome_none, Bool.false_eq_true, if_false]
 rw [← Array.getElem?_toList, h1, Array.getElem?_toList]
 have hsz : j < (flatK enc k l.toArray).size := by simpa using hj'
 rw [getElem!_pos _ j hsz, Array.getElem?_eq_getElem hsz]
 rfl
theorem heap_sortedK {g n : Nat} {os : Array Obj} {cur : Array Value} {fr : Nat × Nat} (d : Array α) (hb : w.heap[g]? = some (.cells cur e fr)) :
  (sortWorldK enc k w g 0 n d os).heap[g]? = some (.cells (putCells id 0 (flatK enc k d) cur) e fr) := by
 have hg : g < w.heap.size := (Array.getElem?_eq_some_iff.1 hb).1
 unfold sortWorldK putRowK
 rw [heap_grow_old _ _ (by simpa using hg)]
 simp [putRow, mapBlock, Sort.ahead, Array.getElem?_modify, hb, onCells]
theorem but_sortedK {g n : Nat} {os : Array Obj} (d : Array α) : But g w (sortWorldK enc k w g 0 n d os) := by
 refine ⟨rfl, rfl, rfl, by unfold sortWorldK putRowK; simp, fun j hj hne => ?_⟩
 unfold sortWorldK putRowK
 rw [heap_grow_old _ _ (by simpa using hj)]
 have : g ≠ j := fun e => hne (by rw [e])
 simp [putRow, mapBlock, Sort.ahead, Array.getElem?_modify, this]
theorem take_putK (hk : ∀ x, (enc x).length = k) (h0 : 0 < k) (cur : Array Value) (d : Array α) (h : d.size * k ≤ cur.size) : (putCells id 0 (flatK enc k d) cur).toList.take (d.size * k) = d.toList.flatMap enc := by
 have hf := flatK_list hk h0 d.toList
 simp only [Array.toArray_toList] at hf
 rw [← hf]
 apply List.ext_getElem?
 intro j
 by_cases hj : j < d.size * k
 ·rw [List.getElem?_take_of_lt hj, Array.getElem?_toList, Array.getElem?_toList]
  have hc : j < cur.size := by omega
  simp [putCells, hj, hc]
 ·rw [List.getElem?_take_eq_none (by omega), List.getElem?_eq_none (by simp; omega)]
theorem OwnK.sorted (hk : ∀ x, (enc x).length = k) (h0 : 0 < k) {g cap n : Nat} {os : Array Obj} {cur : Array Value} {d : Array α} (hd : d.size = l.length) (hbase : base ≤ g) (hb : w.heap[g]? = some (.cells cur e (0, 0))) (h1 : l.length ≤ cap) (h2 : cap ≤ maxLen) (h3 : cur.size = cap * k) :
  OwnK enc base e k (sortWorldK enc k w g 0 n d os) (.slice (some ⟨g, 0, none⟩) l.length cap) d.toList := by
 have hdl : d.toList.length = l.length := by rw [Array.length_toList, hd]
 refine ⟨by rw [flat_length hk], .inr ⟨g, cap, _, by rw [hdl], hbase, heap_sortedK d hb, by rw [hdl]; exact h1, h2, by simp [putCells, h3], ?_⟩⟩
 rw [Array.length_toList]
 exact take_putK hk h0 cur d (by rw [h3, hd]; exact Nat.mul_le_mul_right k h1)
theorem perm_all {d d' : Array α} (h : PermIn 0 d.size d d') : d'.toList.Perm d.toList := by
 obtain ⟨hsz, _, hperm⟩ := h
 have e1 : d'.extract 0 d.size = d' := by rw [← hsz]; exact Array.extract_size
 rw [e1, Array.extract_size] at hperm
 exact hperm
theorem sorted_all {lt : α → α → Bool} {d d' : Array α} (hs : d'.size = d.size) (h : SortedIn lt 0 d.size d') : d'.toList.Pairwise fun x y => lt y x = false := by
 rw [List.pairwise_iff_getElem]
 intro i j hi hj hij
 have hi' : i < d'.size := by simpa using hi
 have hj' : j < d'.size := by simpa using hj
 have := h i j (Nat.zero_le _) hij (by omega)
 rw [getElem!_pos d' j hj', getElem!_pos d' i hi'] at this
 simpa using this
end
theorem sort_unique {α : Type} {lt : α → α → Bool} (hS : SWO lt) {l l' : List α} (hp : l'.Perm l) (hs : l'.Pairwise fun x y => lt y x = false) (hT : ∀ x ∈ l, ∀ y ∈ l, lt x y = false → lt y x = false → x = y) : l' = l.mergeSort fun x y => !lt y x := by
 refine List.Perm.eq_of_pairwise (le := fun x y => (!lt y x) = true) ?_ ?_ ?_ (hp.trans (List.mergeSort_perm _ _).symm)
 ·intro a b ha hb h1 h2
  simp only [Bool.not_eq_true'] at h1 h2
  exact hT a (hp.mem_iff.1 ha) b ((List.mergeSort_perm _ _).mem_iff.1 hb) h2 h1
 ·exact hs.imp fun h => by simpa using h
 ·refine List.pairwise_mergeSort ?_ ?_ _
  ·intro a b c h1 h2
   simp only [Bool.not_eq_true'] at h1 h2 ⊢
   exact hS.ntrans c b a h2 h1
  ·intro a b
   cases h : lt b a with
   | false => simp
   | true =>
    cases h2 : lt a b with
    | false => simp
    | true => have := hS.trans _ _ _ h h2; rw [hS.irrefl] at this; cases this
open Go.RowKit Go.MapKept
open Go.Sort (grow SWO)
structure Grn (w w' : World) : Prop where
 below : Below w.heap.size w w'
 drawn : w.drawn ≤ w'.drawn
theorem Grn.refl (w : World) : Grn w w := ⟨Below.refl _ _, Nat.le_refl _⟩
theorem Grn.trans {a b c : World} (h : Grn a b) (k : Grn b c) : Grn a c := ⟨h.below.trans (k.below.mono h.below.size), Nat.le_trans h.drawn k.drawn⟩
theorem Grn.alloc {w w' : World} (h : Grn w w') (o : Obj) : Grn w (w'.alloc o) := ⟨h.below.alloc h.below.size o, h.drawn⟩
theorem Grn.drew {w w' : World} (h : Grn w w') : Grn w w'.drew := ⟨h.below.drew, Nat.le_trans h.drawn (Nat.le_succ _)⟩
theorem Grn.grow_ {w w' : World} (h : Grn w w') : ∃ q os, w' = grow (w.drewN q) os := by
 refine ⟨w'.drawn - w.drawn, w'.heap.extract w.heap.size w'.heap.size, ?_⟩
 obtain ⟨⟨e1, e2, e3, hs, hb⟩, hd⟩ := h
 obtain ⟨heap', tape', drawn', os', output'⟩ := w'
 dsimp only at e1 e2 e3 hs hb hd
 subst e1 e2 e3
 have eh : heap' = w.heap ++ heap'.extract w.heap.size heap'.size := by
  apply Array.ext_getElem?
  intro k
  by_cases hk : k < w.heap.size
  ·rw [Array.getElem?_append_left hk]; exact hb k hk
  ·rw [Array.getElem?_append_right (by omega), Array.getElem?_extract]
   by_cases hk2 : k < heap'.size
   ·rw [if_pos (by omega)]; congr 1; omega
   ·rw [if_neg (by omega), Array.getElem?_eq_none (by omega)]
 simp only [grow, World.drewN]
 have ed : drawn' = w.drawn + (drawn' - w.drawn) := by omega
 congr 1
section
variable {P : Program} {ops : Array Oper} {Q : Exit → Act → World → Prop} {md : Region.Mode}
def StepG (w1 : World) (p : Nat → Value → World → Prop) (i : Nat) (a : Act) (o : Oper) (w : World) (a' : Act) (w' : World) : Prop :=
 (∃ v, a' = a.put o.dst v ∧ p i v w') ∧ Grn w w' ∧ Grn w1 w'
theorem wpAny_grn (p : Nat → Value → World → Prop) (a0 : Act) (w1 : World)
  (hap : apartB ops = true) (hah : aheadB md ops = true) (hin : (List.range ops.size).all (fun i => match ops[i]? with | some o => (match o.dst with | some d => decide (d < a0.tmps.size) | none => true) | none => true) = true)
  (hst : ∀ i v w w', Grn w w' → p i v w → p i v w')
  (hop : AllIdx (fun i o => ∀ (a : Act) (w : World), Grn w1 w → (∀ d : Tmp, (ops.all fun o => o.dst != some d) = true → a.eval (.tmp d) = a0.eval (.tmp d)) →
   (∀ e ∈ o.after, Region.binds md e = true → ∀ oj d, ops[e.on]? = some oj → oj.dst = some d → p e.on (a.eval (.tmp d)) w) → ops[i]? = some o → wpOp P ops Q i (StepG w1 p i a o w) a w) 0 ops.toList)
  (hend : ∀ vals w, Grn w1 w → (∀ i, i < ops.size → p i (vals i) w) → Q .normal (layN ops (fun _ => true) vals (List.range ops.size) a0) w) :
  wpAny P md ops Q ops.size (Array.replicate ops.size false) a0 w1.drew := by
 refine wpAny_each (fun w => Grn w1 w) p (fun w w' => Grn w w') a0 w1.drew hap hah hin (Grn.refl _).drew hst ?_ hend
 intro i o hi a w hI _ hun haft
 have h1 := allIdx_get ops.toList 0 i o hop (by simpa using hi)
 rw [Nat.zero_add] at h1
 refine wpOp_mono ?_ (h1 a w hI (fun d hd => hun d fun j oj hj => ?_) haft hi)
 ·rintro a' w' ⟨h, h2, h3⟩
  exact ⟨h, h2, h3⟩
 ·have hjl := (Array.getElem?_eq_some_iff.1 hj)
  obtain ⟨hjl, rfl⟩ := hjl
  rw [Array.all_eq_true] at hd
  simpa using hd j hjl
theorem g_val {i : Nat} {o : Oper} {a : Act} {w w1 : World} {p : Nat → Value → World → Prop} (hi : ops[i]? = some o) (hI : Grn w1 w) (hw : Region.wanted o (yielded ops a.tmps) = true) (v : Value) (w' : World)
  (hr : (execOp a.eval o).run P w = .ok (.value v) w') (hb : Grn w w') (hp : p i v w') : wpOp P ops Q i (StepG w1 p i a o w) a w :=
 wpOp_val hi hw v w' hr ⟨⟨v, rfl, hp⟩, hb, hI.trans hb⟩
theorem g_same {i : Nat} {o : Oper} {a : Act} {w w1 : World} {p : Nat → Value → World → Prop} (hi : ops[i]? = some o) (hI : Grn w1 w) (hw : Region.wanted o (yielded ops a.tmps) = true) (v : Value)
  (hr : (execOp a.eval o).run P w = .ok (.value v) w) (hp : p i v w) : wpOp P ops Q i (StepG w1 p i a o w) a w :=
 g_val hi hI hw v w hr (Grn.refl _) hp
theorem g_call {i : Nat} {o : Oper} {a : Act} {w w1 : World} {p : Nat → Value → World → Prop} (hi : ops[i]? = some o) (hI : Grn w1 w) (hw : Region.wanted o (yielded ops a.tmps) = true) (f : FuncId) (args : Array Value)
  (hr : (execOp a.eval o).run P w = .ok (.enter f args) w) (h : Calls P f args w fun e w'' => ∃ v, e = .returned v ∧ p i v w'' ∧ Grn w w'') : wpOp P ops Q i (StepG w1 p i a o w) a w :=
 wpOp_enter hi hw f args hr (h.mono fun _ _ ⟨v, he, hp, hb⟩ => ⟨v, he, ⟨v, rfl, hp⟩, hb, hI.trans hb⟩)
theorem run_buildSlice_op {o : Oper} {ρ : Operand → Value} {w w' : World} {t : TypeId} {len : Nat} {xs : Array (Nat × Operand)} {vs : Array (Nat × Value)} {v : Value} (ho : o.op = .buildSlice t len xs) (hx : xs.map (fun (i, x) => (i, ρ x)) = vs) (hr : (Instr.buildSlice t len vs).run P w = .ok v w') : (execOp ρ o).run P w = .ok (.value v) w' := by
 unfold execOp
 simp only [ho]
 rw [show (xs.map fun x => match x with | (i, x) => (i, ρ x)) = vs from hx]
 simp [hr]
end
def orI : List Int → Int
 | [] => 0
 | a :: l => if a = 0 then orI l else a
theorem bs2 (a b : Int) (w : World) : (Instr.buildSlice 163 2 #[(0, .int .i64 a), (1, .int .i64 b)]).run Tryz.prog w = .ok (.slice (some ⟨w.heap.size, 0, none⟩) 2 2) (w.alloc (.cells #[.int .i64 a, .int .i64 b] 3)) := by go_simp
theorem bs5 (a b c d e : Int) (w : World) : (Instr.buildSlice 163 5 #[(0, .int .i64 a), (1, .int .i64 b), (2, .int .i64 c), (3, .int .i64 d), (4, .int .i64 e)]).run Tryz.prog w = .ok (.slice (some ⟨w.heap.size, 0, none⟩) 5 5) (w.alloc (.cells #[.int .i64 a, .int .i64 b, .int .i64 c, .int .i64 d, .int .i64 e] 3)) := by go_simp
theorem or_any (zs : List Int) (g : Nat) (w : World) (hB : Blk w g 3 (zs.map fun z => Value.int .i64 z).toArray) (hl : zs.length ≤ 100) : Calls Tryz.prog 78 #[.slice (some ⟨g, 0, none⟩) zs.length zs.length] w fun e w' => e = .returned (.int .i64 (orI zs)) ∧ w' = w := by
 have HB := hid hB
 have HL := hid hl
 obtain ⟨n, hn⟩ : ∃ n, zs.length = n := ⟨_, rfl⟩
 have HN := hid hn
 have hn63 : n ≤ 9223372036854775807 := by omega
 rw [hn]
 clear hB hl hn
 go_enter Tryz.func78, Tryz.ntmps78
 go_wp2
 go_loop [8] (fun i => ∃ k : Nat, k ≤ n ∧ i = .int .i64 k ∧ orI zs = orI (zs.drop k)) (fun i => n - (intOf i).toNat)
 case atStart => exact ⟨0, Nat.zero_le _, rfl, rfl⟩
 case round =>
  obtain ⟨k, hk, rfl, ho⟩ := hrel
  have HO := hid ho
  clear ho
  by_cases hlt : k < n
  ·have hkz : k < zs.length := by rw [HN.out]; exact hlt
   obtain ⟨z, hz⟩ : ∃ z, zs[k] = z := ⟨_, rfl⟩
   have hc : w.cell? ⟨g, k, none⟩ = some (.int .i64 z) := (Blk.cell HB.out k).trans (by simp [hkz, hz])
   have HD := hid (show zs.drop k = z :: zs.drop (k + 1) by rw [List.drop_eq_getElem_cons hkz, hz])
   clear hkz hz
   by_cases hz0 : z = 0
   ·have HO2 := hid (show orI zs = orI (zs.drop (k + 1)) by rw [HO.out, HD.out, hz0]; rfl)
    subst hz0
    clear HO HD
    go_wp2
    go_round
    case rel => exact ⟨k + 1, by omega, by go_num, HO2.out⟩
    case measure => simp [intOf]; omega
   ·have HO2 := hid (show orI zs = z by rw [HO.out, HD.out]; simp [orI, hz0])
    clear HO HD
    go_wp2
    go_ret
    exact ⟨by rw [HO2.out]; rfl, rfl⟩
  ·have hkn : k = n := by omega
   subst hkn
   have HO2 := hid (show orI zs = 0 by rw [HO.out, List.drop_eq_nil_of_le (by rw [HN.out]; exact Nat.le_refl _)]; rfl)
   clear HO
   go_wp2
   go_ret
   exact ⟨by rw [HO2.out]; rfl, rfl⟩
structure CmpOk {α : Type} (c : α → α → Int) : Prop where
 anti : ∀ x y, c y x = - c x y
 trans : ∀ x y z, c x y ≤ 0 → c y z ≤ 0 → c x z ≤ 0
section
variable {α : Type} {c d : α → α → Int}
theorem CmpOk.zero (h : CmpOk c) {x y z : α} (h1 : c x y ≤ 0) (h2 : c y z ≤ 0) (h3 : c x z = 0) : c x y = 0 ∧ c y z = 0 := by
 have a1 := h.anti x y
 have a2 := h.anti y z
 have a3 := h.anti x z
 have t1 := h.trans y z x h2 (by omega)
 have t2 := h.trans z x y (by omega) h1
 omega
theorem CmpOk.lex (hc : CmpOk c) (hd : CmpOk d) : CmpOk fun x y => if c x y = 0 then d x y else c x y where
 anti x y := by
  have a1 := hc.anti x y
  have a2 := hd.anti x y
  by_cases h : c x y = 0
  ·rw [if_pos (by omega), if_pos h, a2]
  ·rw [if_neg (by omega), if_neg h, a1]
 trans x y z h1 h2 := by
  have q1 : c x y ≤ 0 := by
   by_cases h : c x y = 0
   ·omega
   ·rwa [if_neg h] at h1
  have q2 : c y z ≤ 0 := by
   by_cases h : c y z = 0
   ·omega
   ·rwa [if_neg h] at h2
  have q3 := hc.trans x y z q1 q2
  by_cases h : c x z = 0
  ·obtain ⟨z1, z2⟩ := hc.zero q1 q2 h
   rw [if_pos h]
   rw [if_pos z1] at h1
   rw [if_pos z2] at h2
   exact hd.trans x y z h1 h2
  ·rw [if_neg h]; exact q3
theorem CmpOk.map {β : Type} (hc : CmpOk c) (f : β → α) : CmpOk fun x y => c (f x) (f y) := ⟨fun _ _ => hc.anti _ _, fun _ _ _ => hc.trans _ _ _⟩
theorem CmpOk.swo (h : CmpOk c) : SWO (ltOf c) where
 irrefl x := by
  have := h.anti x x
  unfold ltOf; simp; omega
 trans x y z h1 h2 := by
  unfold ltOf at *
  simp only [decide_eq_true_eq] at *
  have a := h.trans x y z (by omega) (by omega)
  by_cases e : c x z = 0
  ·have := (h.zero (x := x) (y := y) (z := z) (by omega) (by omega) e).1
   omega
  ·omega
 ntrans x y z h1 h2 := by
  unfold ltOf at *
  simp only [decide_eq_false_iff_not, Int.not_lt] at *
  have a1 := h.anti x y
  have a2 := h.anti y z
  have a3 := h.anti x z
  have := h.trans z y x (by omega) (by omega)
  omega
end
theorem ciOk : CmpOk Lib.compareInt where
 anti x y := by rcases ci_cases x y with ⟨h, e⟩ | ⟨h, e⟩ | ⟨h, e⟩ <;> rcases ci_cases y x with ⟨h', e'⟩ | ⟨h', e'⟩ | ⟨h', e'⟩ <;> omega
 trans x y z h1 h2 := by rcases ci_cases x y with ⟨h, e⟩ | ⟨h, e⟩ | ⟨h, e⟩ <;> rcases ci_cases y z with ⟨h', e'⟩ | ⟨h', e'⟩ | ⟨h', e'⟩ <;> rcases ci_cases x z with ⟨h'', e''⟩ | ⟨h'', e''⟩ | ⟨h'', e''⟩ <;> omega
theorem cbOk : CmpOk Lib.compareBytes := ⟨cb_anti, cb_trans⟩
theorem ci_zero (x y : Int) : Lib.compareInt x y = 0 ↔ x = y := by rcases ci_cases x y with ⟨h, e⟩ | ⟨h, e⟩ | ⟨h, e⟩ <;> omega
theorem orI_one (a : Int) : orI [a] = a := by
 simp only [orI]
 split
 ·omega
 ·rfl
def cfD (x y : Dt) : Int := orI [Lib.compareInt x.r y.r, Lib.compareInt x.c y.c]
def cfE (x y : El) : Int := orI [Lib.compareInt x.k y.k, Lib.compareBytes x.a.data.toList y.a.data.toList, Lib.compareBytes x.b.data.toList y.b.data.toList, Lib.compareBytes x.c.data.toList y.c.data.toList, Lib.compareBytes x.d.data.toList y.d.data.toList]
theorem ba_ext {a b : ByteArray} (h : a.data.toList = b.data.toList) : a = b := by
 obtain ⟨⟨x⟩⟩ := a
 obtain ⟨⟨y⟩⟩ := b
 simp at h
 subst h
 rfl
theorem cfD_ok : CmpOk cfD := by
 have := (ciOk.map Dt.r).lex (ciOk.map Dt.c)
 have e : cfD = fun x y => if Lib.compareInt x.r y.r = 0 then Lib.compareInt x.c y.c else Lib.compareInt x.r y.r := by
  funext x y
  unfold cfD
  rw [orI, orI_one]
 rw [e]; exact this
theorem cfE_ok : CmpOk cfE := by
 have := (ciOk.map El.k).lex ((cbOk.map fun x : El => x.a.data.toList).lex ((cbOk.map fun x : El => x.b.data.toList).lex ((cbOk.map fun x : El => x.c.data.toList).lex (cbOk.map fun x : El => x.d.data.toList))))
 have e : cfE = fun x y => if Lib.compareInt x.k y.k = 0 then if Lib.compareBytes x.a.data.toList y.a.data.toList = 0 then if Lib.compareBytes x.b.data.toList y.b.data.toList = 0 then if Lib.compareBytes x.c.data.toList y.c.data.toList = 0 then Lib.compareBytes x.d.data.toList y.d.data.toList else Lib.compareBytes x.c.data.toList y.c.data.toList else Lib.compareBytes x.b.data.toList y.b.data.toList else Lib.compareBytes x.a.data.toList y.a.data.toList else Lib.compareInt x.k y.k := by
  funext x y
  unfold cfE
  rw [orI, orI, orI, orI, orI_one]
 rw [e]; exact this
theorem cfE_zero (x y : El) (h : cfE x y = 0) : x = y := by
 unfold cfE at h
 rw [orI, orI, orI, orI, orI_one] at h
 by_cases h1 : Lib.compareInt x.k y.k = 0
 ·rw [if_pos h1] at h
  by_cases h2 : Lib.compareBytes x.a.data.toList y.a.data.toList = 0
  ·rw [if_pos h2] at h
   by_cases h3 : Lib.compareBytes x.b.data.toList y.b.data.toList = 0
   ·rw [if_pos h3] at h
    by_cases h4 : Lib.compareBytes x.c.data.toList y.c.data.toList = 0
    ·rw [if_pos h4] at h
     exact (El.ext_iff' x y).2 ⟨(ci_zero _ _).1 h1, ba_ext ((cb_zero _ _).1 h2), ba_ext ((cb_zero _ _).1 h3), ba_ext ((cb_zero _ _).1 h4), ba_ext ((cb_zero _ _).1 h)⟩
    ·rw [if_neg h4] at h; exact absurd h h4
   ·rw [if_neg h3] at h; exact absurd h h3
  ·rw [if_neg h2] at h; exact absurd h h2
 ·rw [if_neg h1] at h; exact absurd h h1
theorem cmpint (x y : Int) (w : World) : Calls Tryz.prog 97 #[.int .i64 x, .int .i64 y] w fun e w' => e = .returned (.int .i64 (Lib.compareInt x y)) ∧ Grn w w' :=
 (Tryz.cmp_Compare_int x y w).mono fun _ _ ⟨h, hw⟩ => ⟨h, hw ▸ Grn.refl _⟩
theorem cmpstr (x y : ByteArray) (w : World) : Calls Tryz.prog 79 #[.string x, .string y] w fun e w' => e = .returned (.int .i64 (Lib.compareBytes x.data.toList y.data.toList)) ∧ Grn w w' :=
 (Tryz.strings_Compare x y w).mono fun _ _ ⟨h, hw⟩ => ⟨h, hw ▸ Grn.refl _⟩
theorem byDot_any (x y : Dt × Va) (w : World) : Calls Tryz.prog 99 #[enV x.1 x.2, enV y.1 y.2] w fun e w' => e = .returned (.int .i64 (cfD x.1 y.1)) ∧ Grn w w' := by
 obtain ⟨Y, hY⟩ : ∃ Y, Y = (w.alloc (.cells #[.int .i64 x.1.r, .int .i64 x.1.c, .int .i64 x.2.k, .int .i64 x.2.n, .string x.2.t] 94)).alloc (.cells #[.int .i64 y.1.r, .int .i64 y.1.c, .int .i64 y.2.k, .int .i64 y.2.n, .string y.2.t] 94) := ⟨_, rfl⟩
 obtain ⟨q, hq⟩ : ∃ q, w.heap.size = q := ⟨_, rfl⟩
 have HY := hid hY
 have HQ := hid hq
 have KX := hid (show Blk Y q 94 #[.int .i64 x.1.r, .int .i64 x.1.c, .int .i64 x.2.k, .int .i64 x.2.n, .string x.2.t] by rw [hY, ← hq]; exact (Blk.new w _ _).alloc _)
 have KY := hid (show Blk Y (q + 1) 94 #[.int .i64 y.1.r, .int .i64 y.1.c, .int .i64 y.2.k, .int .i64 y.2.n, .string y.2.t] by
  rw [hY, ← hq]
  have := Blk.new (w.alloc (.cells #[.int .i64 x.1.r, .int .i64 x.1.c, .int .i64 x.2.k, .int .i64 x.2.n, .string x.2.t] 94)) 94 #[.int .i64 y.1.r, .int .i64 y.1.c, .int .i64 y.2.k, .int .i64 y.2.n, .string y.2.t]
  simpa using this)
 have BY := hid (show Grn w Y by rw [hY]; exact ((Grn.refl w).alloc _).alloc _)
 clear hY hq
 unfold enV enA
 go_enter Tryz.func99, Tryz.ntmps99
 go_upto_region 1 with fail
 rw [← HY.out, HQ.out]
 refine wp_region_any (by kernel_rfl) ?_
 refine wpAny_grn (fun i uq wq => if i = 14 then ∃ gs, uq = .slice (some ⟨gs, 0, none⟩) 2 2 ∧ Blk wq gs 3 ([Lib.compareInt (x.1.r) (y.1.r), Lib.compareInt (x.1.c) (y.1.c)].map fun z => Value.int .i64 z).toArray else uq = ([.pointer (some ⟨q, 0, none⟩), .pointer (some ⟨q, 0, none⟩), .int .i64 x.1.r, .pointer (some ⟨q + 1, 0, none⟩), .pointer (some ⟨q + 1, 0, none⟩), .int .i64 y.1.r, .int .i64 (Lib.compareInt (x.1.r) (y.1.r)), .pointer (some ⟨q, 0, none⟩), .pointer (some ⟨q, 1, none⟩), .int .i64 x.1.c, .pointer (some ⟨q + 1, 0, none⟩), .pointer (some ⟨q + 1, 1, none⟩), .int .i64 y.1.c, .int .i64 (Lib.compareInt (x.1.c) (y.1.c)), undef, .int .i64 (orI [Lib.compareInt (x.1.r) (y.1.r), Lib.compareInt (x.1.c) (y.1.c)]), .int .i64 (orI [Lib.compareInt (x.1.r) (y.1.r), Lib.compareInt (x.1.c) (y.1.c)])] : List Value).getD i undef) _ Y (by kernel_rfl) (by kernel_rfl) (by kernel_rfl) ?_ ?_ ?_
 ·intro i v w w' hb hp
  by_cases h5 : i = 14
  ·rw [if_pos h5] at hp ⊢
   obtain ⟨n, h1, h2⟩ := hp
   exact ⟨n, h1, Blk.below h2 hb.below (Blk.lt h2)⟩
  ·rw [if_neg h5] at hp ⊢
   exact hp
 ·refine ⟨?_, ?_, ?_, ?_, ?_, ?_, ?_, ?_, ?_, ?_, ?_, ?_, ?_, ?_, ?_, ?_, ?_, trivial⟩
  ·intro a W hI hun haft hi
   have e2 := hun 2 (by kernel_rfl)
   exact g_same hi hI rfl _ (run_fieldAddr_any rfl e2 (at_entry0 _ 0 _)) rfl
  ·intro a W hI hun haft hi
   have f0 := haft ⟨0, .data⟩ (by simp) rfl _ _ rfl rfl
   exact g_same hi hI rfl _ (run_fieldAddr_any rfl f0 (at_dot0' _ 0 _)) rfl
  ·intro a W hI hun haft hi
   have f1 : a.eval (.tmp 6) = .pointer (some ⟨q, 0, none⟩) := haft ⟨1, .data⟩ (by simp) rfl _ _ rfl rfl
   exact g_same hi hI rfl _ (run_loadint_op rfl f1 Tryz.underlying3 ((Blk.cell (Blk.below KX.out hI.below (Blk.lt KX.out)) 0).trans rfl)) rfl
  ·intro a W hI hun haft hi
   have e3 := hun 3 (by kernel_rfl)
   exact g_same hi hI rfl _ (run_fieldAddr_any rfl e3 (at_entry0 _ 0 _)) rfl
  ·intro a W hI hun haft hi
   have f3 := haft ⟨3, .data⟩ (by simp) rfl _ _ rfl rfl
   exact g_same hi hI rfl _ (run_fieldAddr_any rfl f3 (at_dot0' _ 0 _)) rfl
  ·intro a W hI hun haft hi
   have f4 : a.eval (.tmp 9) = .pointer (some ⟨q + 1, 0, none⟩) := haft ⟨4, .data⟩ (by simp) rfl _ _ rfl rfl
   exact g_same hi hI rfl _ (run_loadint_op rfl f4 Tryz.underlying3 ((Blk.cell (Blk.below KY.out hI.below (Blk.lt KY.out)) 0).trans rfl)) rfl
  ·intro a W hI hun haft hi
   have f2 : a.eval (.tmp 7) = .int .i64 x.1.r := haft ⟨2, .data⟩ (by simp) rfl _ _ rfl rfl
   have f5 : a.eval (.tmp 10) = .int .i64 y.1.r := haft ⟨5, .data⟩ (by simp) rfl _ _ rfl rfl
   refine g_call hi hI rfl _ _ (run_call_op (args := #[.int .i64 x.1.r, .int .i64 y.1.r]) rfl (by simp [f2, f5]) (by kernel_rfl)) ?_
   exact (cmpint _ _ W).mono fun e w' H => ⟨_, H.1, rfl, H.2⟩
  ·intro a W hI hun haft hi
   have e2 := hun 2 (by kernel_rfl)
   exact g_same hi hI rfl _ (run_fieldAddr_any rfl e2 (at_entry0 _ 0 _)) rfl
  ·intro a W hI hun haft hi
   have f7 := haft ⟨7, .data⟩ (by simp) rfl _ _ rfl rfl
   exact g_same hi hI rfl _ (run_fieldAddr_any rfl f7 (at_dot1' _ 0 _)) rfl
  ·intro a W hI hun haft hi
   have f8 : a.eval (.tmp 13) = .pointer (some ⟨q, 1, none⟩) := haft ⟨8, .data⟩ (by simp) rfl _ _ rfl rfl
   exact g_same hi hI rfl _ (run_loadint_op rfl f8 Tryz.underlying3 ((Blk.cell (Blk.below KX.out hI.below (Blk.lt KX.out)) 1).trans rfl)) rfl
  ·intro a W hI hun haft hi
   have e3 := hun 3 (by kernel_rfl)
   exact g_same hi hI rfl _ (run_fieldAddr_any rfl e3 (at_entry0 _ 0 _)) rfl
  ·intro a W hI hun haft hi
   have f10 := haft ⟨10, .data⟩ (by simp) rfl _ _ rfl rfl
   exact g_same hi hI rfl _ (run_fieldAddr_any rfl f10 (at_dot1' _ 0 _)) rfl
  ·intro a W hI hun haft hi
   have f11 : a.eval (.tmp 16) = .pointer (some ⟨q + 1, 1, none⟩) := haft ⟨11, .data⟩ (by simp) rfl _ _ rfl rfl
   exact g_same hi hI rfl _ (run_loadint_op rfl f11 Tryz.underlying3 ((Blk.cell (Blk.below KY.out hI.below (Blk.lt KY.out)) 1).trans rfl)) rfl
  ·intro a W hI hun haft hi
   have f9 : a.eval (.tmp 14) = .int .i64 x.1.c := haft ⟨9, .data⟩ (by simp) rfl _ _ rfl rfl
   have f12 : a.eval (.tmp 17) = .int .i64 y.1.c := haft ⟨12, .data⟩ (by simp) rfl _ _ rfl rfl
   refine g_call hi hI rfl _ _ (run_call_op (args := #[.int .i64 x.1.c, .int .i64 y.1.c]) rfl (by simp [f9, f12]) (by kernel_rfl)) ?_
   exact (cmpint _ _ W).mono fun e w' H => ⟨_, H.1, rfl, H.2⟩
  ·intro a W hI hun haft hi
   have f6 : a.eval (.tmp 11) = .int .i64 (Lib.compareInt (x.1.r) (y.1.r)) := haft ⟨6, .data⟩ (by simp) rfl _ _ rfl rfl
   have f13 : a.eval (.tmp 18) = .int .i64 (Lib.compareInt (x.1.c) (y.1.c)) := haft ⟨13, .data⟩ (by simp) rfl _ _ rfl rfl
   exact g_val hi hI rfl _ _ (run_buildSlice_op (vs := #[(0, .int .i64 (Lib.compareInt (x.1.r) (y.1.r))), (1, .int .i64 (Lib.compareInt (x.1.c) (y.1.c)))]) rfl (by simp only [List.map_toArray, List.map_cons, List.map_nil, f6, f13]) (bs2 _ _ _)) ((Grn.refl _).alloc _) ⟨_, rfl, Blk.new _ _ _⟩
  ·intro a W hI hun haft hi
   obtain ⟨gs, fs, hs⟩ : ∃ gs, a.eval (.tmp 19) = .slice (some ⟨gs, 0, none⟩) 2 2 ∧ Blk W gs 3 ([Lib.compareInt (x.1.r) (y.1.r), Lib.compareInt (x.1.c) (y.1.c)].map fun z => Value.int .i64 z).toArray := haft ⟨14, .data⟩ (by simp) rfl _ _ rfl rfl
   refine g_call hi hI rfl _ _ (run_call_op (args := #[.slice (some ⟨gs, 0, none⟩) 2 2]) rfl (by simp [fs]) (by kernel_rfl)) ?_
   exact (or_any [Lib.compareInt (x.1.r) (y.1.r), Lib.compareInt (x.1.c) (y.1.c)] gs W hs (by simp)).mono fun e w' H => ⟨_, H.1, rfl, by rw [H.2]; exact Grn.refl _⟩
  ·intro a W hI hun haft hi
   have f15 := haft ⟨15, .data⟩ (by simp) rfl _ _ rfl rfl
   exact g_same hi hI rfl _ (run_assign_op rfl f15) rfl
 ·intro vals W hI hp
  have hl16 : vals 16 = .int .i64 (orI [Lib.compareInt (x.1.r) (y.1.r), Lib.compareInt (x.1.c) (y.1.c)]) := hp 16 (by decide)
  have HI := hid hI
  clear hp hI
  simp only [layN, layS, List.range, List.range.loop, if_true, Act.put, Nat.zero_add, Nat.reduceAdd, hl16]
  clear hl16
  go_wp2
  go_ret
  exact ⟨rfl, BY.out.trans HI.out⟩
theorem order_any (x y : El) (w : World) : Calls Tryz.prog 72 #[eE x, eE y] w fun e w' => e = .returned (.int .i64 (cfE x y)) ∧ Grn w w' := by
 obtain ⟨Y, hY⟩ : ∃ Y, Y = (w.alloc (.cells #[.int .i64 x.k, .string x.a, .string x.b, .string x.c, .string x.d] 38)).alloc (.cells #[.int .i64 y.k, .string y.a, .string y.b, .string y.c, .string y.d] 38) := ⟨_, rfl⟩
 obtain ⟨q, hq⟩ : ∃ q, w.heap.size = q := ⟨_, rfl⟩
 have HY := hid hY
 have HQ := hid hq
 have KX := hid (show Blk Y q 38 #[.int .i64 x.k, .string x.a, .string x.b, .string x.c, .string x.d] by rw [hY, ← hq]; exact (Blk.new w _ _).alloc _)
 have KY := hid (show Blk Y (q + 1) 38 #[.int .i64 y.k, .string y.a, .string y.b, .string y.c, .string y.d] by
  rw [hY, ← hq]
  have := Blk.new (w.alloc (.cells #[.int .i64 x.k, .string x.a, .string x.b, .string x.c, .string x.d] 38)) 38 #[.int .i64 y.k, .string y.a, .string y.b, .string y.c, .string y.d]
  simpa using this)
 have BY := hid (show Grn w Y by rw [hY]; exact ((Grn.refl w).alloc _).alloc _)
 clear hY hq
 unfold eE elV
 go_enter Tryz.func72, Tryz.ntmps72
 go_upto_region 1 with fail
 rw [← HY.out, HQ.out]
 refine wp_region_any (by kernel_rfl) ?_
 refine wpAny_grn (fun i uq wq => if i = 25 then ∃ gs, uq = .slice (some ⟨gs, 0, none⟩) 5 5 ∧ Blk wq gs 3 ([Lib.compareInt (x.k) (y.k), Lib.compareBytes (x.a).data.toList (y.a).data.toList, Lib.compareBytes (x.b).data.toList (y.b).data.toList, Lib.compareBytes (x.c).data.toList (y.c).data.toList, Lib.compareBytes (x.d).data.toList (y.d).data.toList].map fun z => Value.int .i64 z).toArray else uq = ([.pointer (some ⟨q, 0, none⟩), .int .i64 x.k, .pointer (some ⟨q + 1, 0, none⟩), .int .i64 y.k, .int .i64 (Lib.compareInt (x.k) (y.k)), .pointer (some ⟨q, 1, none⟩), .string x.a, .pointer (some ⟨q + 1, 1, none⟩), .string y.a, .int .i64 (Lib.compareBytes (x.a).data.toList (y.a).data.toList), .pointer (some ⟨q, 2, none⟩), .string x.b, .pointer (some ⟨q + 1, 2, none⟩), .string y.b, .int .i64 (Lib.compareBytes (x.b).data.toList (y.b).data.toList), .pointer (some ⟨q, 3, none⟩), .string x.c, .pointer (some ⟨q + 1, 3, none⟩), .string y.c, .int .i64 (Lib.compareBytes (x.c).data.toList (y.c).data.toList), .pointer (some ⟨q, 4, none⟩), .string x.d, .pointer (some ⟨q + 1, 4, none⟩), .string y.d, .int .i64 (Lib.compareBytes (x.d).data.toList (y.d).data.toList), undef, .int .i64 (orI [Lib.compareInt (x.k) (y.k), Lib.compareBytes (x.a).data.toList (y.a).data.toList, Lib.compareBytes (x.b).data.toList (y.b).data.toList, Lib.compareBytes (x.c).data.toList (y.c).data.toList, Lib.compareBytes (x.d).data.toList (y.d).data.toList]), .int .i64 (orI [Lib.compareInt (x.k) (y.k), Lib.compareBytes (x.a).data.toList (y.a).data.toList, Lib.compareBytes (x.b).data.toList (y.b).data.toList, Lib.compareBytes (x.c).data.toList (y.c).data.toList, Lib.compareBytes (x.d).data.toList (y.d).data.toList])] : List Value).getD i undef) _ Y (by kernel_rfl) (by kernel_rfl) (by kernel_rfl) ?_ ?_ ?_
 ·intro i v w w' hb hp
  by_cases h5 : i = 25
  ·rw [if_pos h5] at hp ⊢
   obtain ⟨n, h1, h2⟩ := hp
   exact ⟨n, h1, Blk.below h2 hb.below (Blk.lt h2)⟩
  ·rw [if_neg h5] at hp ⊢
   exact hp
 ·refine ⟨?_, ?_, ?_, ?_, ?_, ?_, ?_, ?_, ?_, ?_, ?_, ?_, ?_, ?_, ?_, ?_, ?_, ?_, ?_, ?_, ?_, ?_, ?_, ?_, ?_, ?_, ?_, ?_, trivial⟩
  ·intro a W hI hun haft hi
   have e2 := hun 2 (by kernel_rfl)
   exact g_same hi hI rfl _ (run_fieldAddr_any rfl e2 (at_elem0 _ 0 _)) rfl
  ·intro a W hI hun haft hi
   have f0 : a.eval (.tmp 5) = .pointer (some ⟨q, 0, none⟩) := haft ⟨0, .data⟩ (by simp) rfl _ _ rfl rfl
   exact g_same hi hI rfl _ (run_loadint_op rfl f0 Tryz.underlying3 ((Blk.cell (Blk.below KX.out hI.below (Blk.lt KX.out)) 0).trans rfl)) rfl
  ·intro a W hI hun haft hi
   have e3 := hun 3 (by kernel_rfl)
   exact g_same hi hI rfl _ (run_fieldAddr_any rfl e3 (at_elem0 _ 0 _)) rfl
  ·intro a W hI hun haft hi
   have f2 : a.eval (.tmp 7) = .pointer (some ⟨q + 1, 0, none⟩) := haft ⟨2, .data⟩ (by simp) rfl _ _ rfl rfl
   exact g_same hi hI rfl _ (run_loadint_op rfl f2 Tryz.underlying3 ((Blk.cell (Blk.below KY.out hI.below (Blk.lt KY.out)) 0).trans rfl)) rfl
  ·intro a W hI hun haft hi
   have f1 : a.eval (.tmp 6) = .int .i64 x.k := haft ⟨1, .data⟩ (by simp) rfl _ _ rfl rfl
   have f3 : a.eval (.tmp 8) = .int .i64 y.k := haft ⟨3, .data⟩ (by simp) rfl _ _ rfl rfl
   refine g_call hi hI rfl _ _ (run_call_op (args := #[.int .i64 x.k, .int .i64 y.k]) rfl (by simp [f1, f3]) (by kernel_rfl)) ?_
   exact (cmpint _ _ W).mono fun e w' H => ⟨_, H.1, rfl, H.2⟩
  ·intro a W hI hun haft hi
   have e2 := hun 2 (by kernel_rfl)
   exact g_same hi hI rfl _ (run_fieldAddr_any rfl e2 (at_elem1 _ 0 _)) rfl
  ·intro a W hI hun haft hi
   have f5 : a.eval (.tmp 10) = .pointer (some ⟨q, 1, none⟩) := haft ⟨5, .data⟩ (by simp) rfl _ _ rfl rfl
   exact g_same hi hI rfl _ (run_loadstr_op rfl f5 Tryz.underlying9 ((Blk.cell (Blk.below KX.out hI.below (Blk.lt KX.out)) 1).trans rfl)) rfl
  ·intro a W hI hun haft hi
   have e3 := hun 3 (by kernel_rfl)
   exact g_same hi hI rfl _ (run_fieldAddr_any rfl e3 (at_elem1 _ 0 _)) rfl
  ·intro a W hI hun haft hi
   have f7 : a.eval (.tmp 12) = .pointer (some ⟨q + 1, 1, none⟩) := haft ⟨7, .data⟩ (by simp) rfl _ _ rfl rfl
   exact g_same hi hI rfl _ (run_loadstr_op rfl f7 Tryz.underlying9 ((Blk.cell (Blk.below KY.out hI.below (Blk.lt KY.out)) 1).trans rfl)) rfl
  ·intro a W hI hun haft hi
   have f6 : a.eval (.tmp 11) = .string x.a := haft ⟨6, .data⟩ (by simp) rfl _ _ rfl rfl
   have f8 : a.eval (.tmp 13) = .string y.a := haft ⟨8, .data⟩ (by simp) rfl _ _ rfl rfl
   refine g_call hi hI rfl _ _ (run_call_op (args := #[.string x.a, .string y.a]) rfl (by simp [f6, f8]) (by kernel_rfl)) ?_
   exact (cmpstr _ _ W).mono fun e w' H => ⟨_, H.1, rfl, H.2⟩
  ·intro a W hI hun haft hi
   have e2 := hun 2 (by kernel_rfl)
   exact g_same hi hI rfl _ (run_fieldAddr_any rfl e2 (at_elem2 _ 0 _)) rfl
  ·intro a W hI hun haft hi
   have f10 : a.eval (.tmp 15) = .pointer (some ⟨q, 2, none⟩) := haft ⟨10, .data⟩ (by simp) rfl _ _ rfl rfl
   exact g_same hi hI rfl _ (run_loadstr_op rfl f10 Tryz.underlying9 ((Blk.cell (Blk.below KX.out hI.below (Blk.lt KX.out)) 2).trans rfl)) rfl
  ·intro a W hI hun haft hi
   have e3 := hun 3 (by kernel_rfl)
   exact g_same hi hI rfl _ (run_fieldAddr_any rfl e3 (at_elem2 _ 0 _)) rfl
  ·intro a W hI hun haft hi
   have f12 : a.eval (.tmp 17) = .pointer (some ⟨q + 1, 2, none⟩) := haft ⟨12, .data⟩ (by simp) rfl _ _ rfl rfl
   exact g_same hi hI rfl _ (run_loadstr_op rfl f12 Tryz.underlying9 ((Blk.cell (Blk.below KY.out hI.below (Blk.lt KY.out)) 2).trans rfl)) rfl
  ·intro a W hI hun haft hi
   have f11 : a.eval (.tmp 16) = .string x.b := haft ⟨11, .data⟩ (by simp) rfl _ _ rfl rfl
   have f13 : a.eval (.tmp 18) = .string y.b := haft ⟨13, .data⟩ (by simp) rfl _ _ rfl rfl
   refine g_call hi hI rfl _ _ (run_call_op (args := #[.string x.b, .string y.b]) rfl (by simp [f11, f13]) (by kernel_rfl)) ?_
   exact (cmpstr _ _ W).mono fun e w' H => ⟨_, H.1, rfl, H.2⟩
  ·intro a W hI hun haft hi
   have e2 := hun 2 (by kernel_rfl)
   exact g_same hi hI rfl _ (run_fieldAddr_any rfl e2 (at_elem3 _ 0 _)) rfl
  ·intro a W hI hun haft hi
   have f15 : a.eval (.tmp 20) = .pointer (some ⟨q, 3, none⟩) := haft ⟨15, .data⟩ (by simp) rfl _ _ rfl rfl
   exact g_same hi hI rfl _ (run_loadstr_op rfl f15 Tryz.underlying9 ((Blk.cell (Blk.below KX.out hI.below (Blk.lt KX.out)) 3).trans rfl)) rfl
  ·intro a W hI hun haft hi
   have e3 := hun 3 (by kernel_rfl)
   exact g_same hi hI rfl _ (run_fieldAddr_any rfl e3 (at_elem3 _ 0 _)) rfl
  ·intro a W hI hun haft hi
   have f17 : a.eval (.tmp 22) = .pointer (some ⟨q + 1, 3, none⟩) := haft ⟨17, .data⟩ (by simp) rfl _ _ rfl rfl
   exact g_same hi hI rfl _ (run_loadstr_op rfl f17 Tryz.underlying9 ((Blk.cell (Blk.below KY.out hI.below (Blk.lt KY.out)) 3).trans rfl)) rfl
  ·intro a W hI hun haft hi
   have f16 : a.eval (.tmp 21) = .string x.c := haft ⟨16, .data⟩ (by simp) rfl _ _ rfl rfl
   have f18 : a.eval (.tmp 23) = .string y.c := haft ⟨18, .data⟩ (by simp) rfl _ _ rfl rfl
   refine g_call hi hI rfl _ _ (run_call_op (args := #[.string x.c, .string y.c]) rfl (by simp [f16, f18]) (by kernel_rfl)) ?_
   exact (cmpstr _ _ W).mono fun e w' H => ⟨_, H.1, rfl, H.2⟩
  ·intro a W hI hun haft hi
   have e2 := hun 2 (by kernel_rfl)
   exact g_same hi hI rfl _ (run_fieldAddr_any rfl e2 (at_elem4 _ 0 _)) rfl
  ·intro a W hI hun haft hi
   have f20 : a.eval (.tmp 25) = .pointer (some ⟨q, 4, none⟩) := haft ⟨20, .data⟩ (by simp) rfl _ _ rfl rfl
   exact g_same hi hI rfl _ (run_loadstr_op rfl f20 Tryz.underlying9 ((Blk.cell (Blk.below KX.out hI.below (Blk.lt KX.out)) 4).trans rfl)) rfl
  ·intro a W hI hun haft hi
   have e3 := hun 3 (by kernel_rfl)
   exact g_same hi hI rfl _ (run_fieldAddr_any rfl e3 (at_elem4 _ 0 _)) rfl
  ·intro a W hI hun haft hi
   have f22 : a.eval (.tmp 27) = .pointer (some ⟨q + 1, 4, none⟩) := haft ⟨22, .data⟩ (by simp) rfl _ _ rfl rfl
   exact g_same hi hI rfl _ (run_loadstr_op rfl f22 Tryz.underlying9 ((Blk.cell (Blk.below KY.out hI.below (Blk.lt KY.out)) 4).trans rfl)) rfl
  ·intro a W hI hun haft hi
   have f21 : a.eval (.tmp 26) = .string x.d := haft ⟨21, .data⟩ (by simp) rfl _ _ rfl rfl
   have f23 : a.eval (.tmp 28) = .string y.d := haft ⟨23, .data⟩ (by simp) rfl _ _ rfl rfl
   refine g_call hi hI rfl _ _ (run_call_op (args := #[.string x.d, .string y.d]) rfl (by simp [f21, f23]) (by kernel_rfl)) ?_
   exact (cmpstr _ _ W).mono fun e w' H => ⟨_, H.1, rfl, H.2⟩
  ·intro a W hI hun haft hi
   have f4 : a.eval (.tmp 9) = .int .i64 (Lib.compareInt (x.k) (y.k)) := haft ⟨4, .data⟩ (by simp) rfl _ _ rfl rfl
   have f9 : a.eval (.tmp 14) = .int .i64 (Lib.compareBytes (x.a).data.toList (y.a).data.toList) := haft ⟨9, .data⟩ (by simp) rfl _ _ rfl rfl
   have f14 : a.eval (.tmp 19) = .int .i64 (Lib.compareBytes (x.b).data.toList (y.b).data.toList) := haft ⟨14, .data⟩ (by simp) rfl _ _ rfl rfl
   have f19 : a.eval (.tmp 24) = .int .i64 (Lib.compareBytes (x.c).data.toList (y.c).data.toList) := haft ⟨19, .data⟩ (by simp) rfl _ _ rfl rfl
   have f24 : a.eval (.tmp 29) = .int .i64 (Lib.compareBytes (x.d).data.toList (y.d).data.toList) := haft ⟨24, .data⟩ (by simp) rfl _ _ rfl rfl
   exact g_val hi hI rfl _ _ (run_buildSlice_op (vs := #[(0, .int .i64 (Lib.compareInt (x.k) (y.k))), (1, .int .i64 (Lib.compareBytes (x.a).data.toList (y.a).data.toList)), (2, .int .i64 (Lib.compareBytes (x.b).data.toList (y.b).data.toList)), (3, .int .i64 (Lib.compareBytes (x.c).data.toList (y.c).data.toList)), (4, .int .i64 (Lib.compareBytes (x.d).data.toList (y.d).data.toList))]) rfl (by simp only [List.map_toArray, List.map_cons, List.map_nil, f4, f9, f14, f19, f24]) (bs5 _ _ _ _ _ _)) ((Grn.refl _).alloc _) ⟨_, rfl, Blk.new _ _ _⟩
  ·intro a W hI hun haft hi
   obtain ⟨gs, fs, hs⟩ : ∃ gs, a.eval (.tmp 30) = .slice (some ⟨gs, 0, none⟩) 5 5 ∧ Blk W gs 3 ([Lib.compareInt (x.k) (y.k), Lib.compareBytes (x.a).data.toList (y.a).data.toList, Lib.compareBytes (x.b).data.toList (y.b).data.toList, Lib.compareBytes (x.c).data.toList (y.c).data.toList, Lib.compareBytes (x.d).data.toList (y.d).data.toList].map fun z => Value.int .i64 z).toArray := haft ⟨25, .data⟩ (by simp) rfl _ _ rfl rfl
   refine g_call hi hI rfl _ _ (run_call_op (args := #[.slice (some ⟨gs, 0, none⟩) 5 5]) rfl (by simp [fs]) (by kernel_rfl)) ?_
   exact (or_any [Lib.compareInt (x.k) (y.k), Lib.compareBytes (x.a).data.toList (y.a).data.toList, Lib.compareBytes (x.b).data.toList (y.b).data.toList, Lib.compareBytes (x.c).data.toList (y.c).data.toList, Lib.compareBytes (x.d).data.toList (y.d).data.toList] gs W hs (by simp)).mono fun e w' H => ⟨_, H.1, rfl, by rw [H.2]; exact Grn.refl _⟩
  ·intro a W hI hun haft hi
   have f26 := haft ⟨26, .data⟩ (by simp) rfl _ _ rfl rfl
   exact g_same hi hI rfl _ (run_assign_op rfl f26) rfl
 ·intro vals W hI hp
  have hl27 : vals 27 = .int .i64 (orI [Lib.compareInt (x.k) (y.k), Lib.compareBytes (x.a).data.toList (y.a).data.toList, Lib.compareBytes (x.b).data.toList (y.b).data.toList, Lib.compareBytes (x.c).data.toList (y.c).data.toList, Lib.compareBytes (x.d).data.toList (y.d).data.toList]) := hp 27 (by decide)
  have HI := hid hI
  clear hp hI
  simp only [layN, layS, List.range, List.range.loop, if_true, Act.put, Nat.zero_add, Nat.reduceAdd, hl27]
  clear hl27
  go_wp2
  go_ret
  exact ⟨rfl, BY.out.trans HI.out⟩
end Go.Proofs.YtdgglhlofnigkaaGreatDoor
