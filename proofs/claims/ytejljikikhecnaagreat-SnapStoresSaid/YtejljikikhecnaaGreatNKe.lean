/-
  SLICES OF STRUCTS, whatever the struct: what they read; append onto one of the call's own. Slices of events. Conditions: lengths.
-/
import Derived.Test.YtejljikikhecnaaGreatNEv
import Derived.Test.YtejljikikhecnaaGreatNSl
import Derived.Deep.MidRow
namespace Go.Proofs.YtejljikikhecnaaGreat
open Go.RowKit

section
variable {α : Type} {enc : α → List Value} {k : Nat}
theorem flat_length (hk : ∀ x, (enc x).length = k) : ∀ l : List α, (l.flatMap enc).length = l.length * k
  | [] => by simp
  | x :: l => by
    have ih := flat_length hk l
    simp only [List.flatMap_cons, List.length_append, List.length_cons, hk, ih, Nat.add_mul, Nat.one_mul]
    omega
theorem flat_at (hk : ∀ x, (enc x).length = k) : ∀ (l : List α) (j i : Nat) (x : α), l[j]? = some x → i < k → (l.flatMap enc)[j * k + i]? = (enc x)[i]?
  | [], _, _, _, h, _ => by cases h
  | y :: l, 0, i, x, h, hi => by
    have : y = x := by simpa using h
    subst this
    rw [List.flatMap_cons, Nat.zero_mul, Nat.zero_add, List.getElem?_append_left (by rw [hk]; exact hi)]
  | y :: l, j + 1, i, x, h, hi => by
    rw [List.flatMap_cons, List.getElem?_append_right (by rw [hk, Nat.add_mul]; omega), hk, show (j + 1) * k + i - k = j * k + i from by rw [Nat.add_mul]; omega]
    exact flat_at hk l j i x (by simpa using h) hi

/-- v is a slice whose elements are l, each k cells; they lie below the heap's end. -/
def SlK (enc : α → List Value) (k : Nat) (w : World) (v : Value) (l : List α) : Prop :=
  ∃ A c, v = .slice A l.length c ∧ l.length ≤ c ∧ (l ≠ [] → ∃ b o, A = some ⟨b, o, none⟩ ∧ b < w.heap.size ∧ ∀ (j : Nat) (x : α), l[j]? = some x → w.rangeAt b (o + j * k) (enc x))
/-- A slice of the call's own. -/
def OwnK (enc : α → List Value) (base : Nat) (e : TypeId) (k : Nat) (w : World) (v : Value) (l : List α) : Prop := w.ownsRow base e k v l.length (l.flatMap enc)

variable {w w' : World} {v : Value} {l : List α} {base : Nat} {e : TypeId}
theorem rangeAt_same {b o : Nat} {cs : List Value} (h : w.rangeAt b o cs) (hb : w'.heap[b]? = w.heap[b]?) : w'.rangeAt b o cs := fun j u hu => (World.cell?_of_block hb).trans (h j u hu)
theorem SlK.kept (h : SlK enc k w v l) (hs : w.heap.size ≤ w'.heap.size) (hb : ∀ b o n c, v = .slice (some ⟨b, o, none⟩) n c → w'.heap[b]? = w.heap[b]?) : SlK enc k w' v l := by
  obtain ⟨A, c, rfl, hlc, hx⟩ := h
  refine ⟨A, c, rfl, hlc, fun hn => ?_⟩
  obtain ⟨b, o, hA, hbl, hc⟩ := hx hn
  exact ⟨b, o, hA, Nat.lt_of_lt_of_le hbl hs, fun j x hj => rangeAt_same (hc j x hj) (hb b o _ _ (by rw [hA]))⟩
theorem SlK.below (h : SlK enc k w v l) (hb : Below w.heap.size w w') : SlK enc k w' v l := by
  obtain ⟨A, c, rfl, hlc, hx⟩ := h
  refine ⟨A, c, rfl, hlc, fun hn => ?_⟩
  obtain ⟨b, o, hA, hbl, hc⟩ := hx hn
  exact ⟨b, o, hA, Nat.lt_of_lt_of_le hbl hb.size, fun j x hj => rangeAt_same (hc j x hj) (hb.block b hbl)⟩
theorem SlK.nil_ (enc : α → List Value) (k : Nat) (w : World) : SlK enc k w (.slice none 0 0) [] := ⟨none, 0, rfl, Nat.le_refl _, fun h => absurd rfl h⟩
theorem OwnK.read (hk : ∀ x, (enc x).length = k) (h : OwnK enc base e k w v l) : SlK enc k w v l := by
  obtain ⟨hl, hc⟩ := h
  rcases hc with ⟨rfl, h0⟩ | ⟨g, cap, cur, rfl, hb, hg, hn, hm, hs, ht⟩
  · have : l = [] := List.eq_nil_of_length_eq_zero h0
    subst this; exact SlK.nil_ enc k w
  · refine ⟨some ⟨g, 0, none⟩, cap, rfl, hn, fun _ => ⟨g, 0, rfl, (Array.getElem?_eq_some_iff.1 hg).1, fun j x hj i u hu => ?_⟩⟩
    have hik : i < k := by
      have := (List.getElem?_eq_some_iff.1 hu).1
      rwa [hk] at this
    have hjl : j < l.length := (List.getElem?_eq_some_iff.1 hj).1
    have h1 := flat_at hk l j i x hj hik
    rw [hu, ← ht, List.getElem?_take] at h1
    split at h1
    · rw [cell_of_row w g (0 + j * k + i) cur e (0, 0) hg, Nat.zero_add]
      simpa using h1
    · cases h1
theorem OwnK.nil_ (enc : α → List Value) (base : Nat) (e : TypeId) (k : Nat) (w : World) : OwnK enc base e k w (.slice none 0 0) [] := ⟨by simp, .inl ⟨rfl, rfl⟩⟩
theorem OwnK.block (h : OwnK enc base e k w v l) (hn : l ≠ []) : ∃ g cap cur, v = .slice (some ⟨g, 0, none⟩) l.length cap ∧ base ≤ g ∧ w.heap[g]? = some (.cells cur e (0, 0)) ∧ l.length ≤ cap ∧ cap ≤ maxLen ∧ cur.size = cap * k ∧ cur.toList.take (l.length * k) = l.flatMap enc := by
  rcases h.2 with ⟨_, h0⟩ | h
  · exact absurd (List.eq_nil_of_length_eq_zero h0) hn
  · exact h
/-- A world in which its own block is as it was. -/
theorem OwnK.same (h : OwnK enc base e k w v l) (hb : ∀ g, v.ownBlock = some g → w'.heap[g]? = w.heap[g]?) : OwnK enc base e k w' v l := by
  refine ⟨h.1, ?_⟩
  rcases h.2 with h2 | ⟨g, cap, cur, rfl, h3, hg, h4⟩
  · exact .inl h2
  · exact .inr ⟨g, cap, cur, rfl, h3, (hb g rfl).trans hg, h4⟩
theorem OwnK.lt (h : OwnK enc base e k w v l) : ∀ g, v.ownBlock = some g → base ≤ g ∧ g < w.heap.size := by
  intro g hg
  rcases h.2 with ⟨rfl, _⟩ | ⟨g', cap, cur, rfl, h3, hb, _⟩
  · cases hg
  · have : g' = g := Option.some.inj hg
    subst this
    exact ⟨h3, (Array.getElem?_eq_some_iff.1 hb).1⟩
end

section
variable {P : Program} {α : Type} {enc : α → List Value} {k : Nat}
theorem flat_cells (hk : ∀ x, (enc x).length = k) (hk0 : 0 < k) {w : World} {b o : Nat} {l : List α} (hcell : ∀ (j : Nat) (x : α), l[j]? = some x → w.rangeAt b (o + j * k) (enc x)) : ∀ j u, (l.flatMap enc)[j]? = some u → w.cell? ((⟨b, o, none⟩ : Addr).add j) = some u := by
  intro j u hu
  have hj : j < l.length * k := by
    have := (List.getElem?_eq_some_iff.1 hu).1
    rwa [flat_length hk] at this
  have hjk : j / k < l.length := (Nat.div_lt_iff_lt_mul hk0).2 hj
  have hx := List.getElem?_eq_getElem hjk
  have h3 := flat_at hk l (j / k) (j % k) _ hx (Nat.mod_lt _ hk0)
  have e1 : j / k * k + j % k = j := by rw [Nat.mul_comm]; exact Nat.div_add_mod j k
  rw [e1, hu] at h3
  have := hcell (j / k) _ hx (j % k) u h3.symm
  rw [Addr.add_lit]
  rwa [Nat.add_assoc, e1] at this
/-- append onto a slice of the call's own, whatever the source. -/
theorem run_append_K (hk : ∀ x, (enc x).length = k) (hk0 : 0 < k) (w : World) (base : Nat) (t ty e : TypeId) (i : TypeInfo) (z : Value) (bytes : Nat) (ht : P.underlying t = some (.slice e)) (hi : P.info? e = some i) (hz : i.zero = some z)
    (hsize : i.size = k) (hby : i.bytes = bytes) (hzs : z.cells.size = k) (v : Value) (xs : List α) (hown : OwnK enc base e k w v xs)
    (v2 : Value) (l : List α) (hl : SlK enc k w v2 l) (h1 : ∀ a, ∀ u ∈ enc a, u.oneCell' = true)
    (hbytes : (xs.length + l.length) * bytes ≤ 140737488355328) (hnm : xs.length + l.length ≤ 140737488355328) (hbase : base ≤ w.heap.size) :
    ∃ v' w', (Builtin.append_ #[t, t] ty #[v, v2]).run P w = .ok v' w' ∧ OwnK enc base e k w' v' (xs ++ l) ∧ w.grownBy w' v.ownBlock := by
  obtain ⟨A, c, rfl, hlc, hx⟩ := hl
  have h63 : xs.length + l.length ≤ maxLen := by unfold maxLen; omega
  unfold OwnK at hown ⊢
  rw [List.flatMap_append, List.length_append]
  have one : ∀ u ∈ l.flatMap enc, u.oneCell' = true := by intro u hu; obtain ⟨x, _, hu⟩ := List.mem_flatMap.1 hu; exact h1 x u hu
  by_cases hn : l = []
  · subst hn
    rcases A with _ | ad
    · refine ⟨v, w, ?_, by simpa using hown, World.grownBy.refl w _⟩
      rcases hown.2 with ⟨hv, h0⟩ | ⟨g, cap, cur, hv, _, _, hnc, _⟩
      · rw [hv]; simp [Builtin.append_, run_underlying ht, sizeOf, typeInfo, hi, Builtin.lenOf, Builtin.firstCells]
      · rw [hv]; simp [Builtin.append_, run_underlying ht, sizeOf, typeInfo, hi, Builtin.lenOf, Builtin.firstCells, hnc, storeCells]
    · obtain ⟨v', w', hr, h2, h3, _⟩ := run_append_own (P := P) w base t ty e i z k bytes ht hi hz hsize hby hzs hk0 v xs.length (xs.flatMap enc) hown ad 0 c [] (by simp) (by simp) (by simp) (by simpa using h63) (by simpa using hbytes) hbase
      exact ⟨v', w', hr, by simpa using h2, h3⟩
  · obtain ⟨b, o, rfl, hb, hcell⟩ := hx hn
    obtain ⟨v', w', hr, h2, h3, _⟩ := run_append_own (P := P) w base t ty e i z k bytes ht hi hz hsize hby hzs hk0 v xs.length (xs.flatMap enc) hown ⟨b, o, none⟩ l.length c (l.flatMap enc) (flat_length hk l)
      (flat_cells hk hk0 hcell) one h63 hbytes hbase
    exact ⟨v', w', hr, h2, h3⟩

end

end Go.Proofs.YtejljikikhecnaaGreat

namespace Go.Proofs.YtejljikikhecnaaGreat
open Go.RowKit

theorem infoEv : (Tryz.prog.info? 49).map (fun i => (i.zero, i.size, i.bytes)) = some (some (.agg (evC ev0)), 27, 256) := by kernel_rfl
def encE (e : Ev) : List Value := (evC e).toList
theorem encE_len (e : Ev) : (encE e).length = 27 := rfl
theorem encE_one : ∀ e, ∀ v ∈ encE e, v.oneCell' = true := by
  intro e v hv
  simp only [encE, evC, List.mem_cons, List.not_mem_nil, or_false] at hv
  rcases hv with rfl | rfl | rfl | rfl | rfl | rfl | rfl | rfl | rfl | rfl | rfl | rfl | rfl | rfl | rfl | rfl | rfl | rfl | rfl | rfl | rfl | rfl | rfl | rfl | rfl | rfl | rfl <;> rfl
theorem at_Ev (g o c n k : Nat) (h : k < n) (w : World) : (Instr.indexAt 25 (.slice (some ⟨g, o, none⟩) n c) (.int .i64 k)).run Tryz.prog w = .ok (.pointer (some ⟨g, o + k * 27, none⟩)) w := by
  have h2 : (k : Int) < n := by omega
  go_simp
theorem SlK.ev {w : World} {A : Option Addr} {n c j : Nat} {l : List Ev} {e : Ev} (h : SlK encE 27 w (.slice A n c) l) (hj : l[j]? = some e) : ∃ g o, A = some ⟨g, o, none⟩ ∧ g < w.heap.size ∧ w.rangeAt g (o + j * 27) (encE e) := by
  obtain ⟨A', c', hv', _, hcells⟩ := h
  obtain ⟨g, o, rfl, hgl, hcell⟩ := hcells (fun e => by rw [e] at hj; cases hj)
  injection hv' with e1 e2 e3
  exact ⟨g, o, e1, hgl, hcell j e hj⟩
theorem bsEv (e : Ev) (w : World) : (Instr.buildSlice 25 1 #[(0, .agg (evC e))]).run Tryz.prog w = .ok (.slice (some ⟨w.heap.size, 0, none⟩) 1 1) (w.alloc (.cells (evC e) 49)) := by
  unfold evC; go_simp
section
variable {α : Type} {enc : α → List Value} {k : Nat} {w w' : World} {v : Value} {l : List α} {base : Nat} {e : TypeId}
theorem OwnK.keep (h : OwnK enc base e k w v l) (hb : Below w.heap.size w w') : OwnK enc base e k w' v l := h.same fun g hg => hb.block g (h.lt g hg).2
theorem OwnK.base_ (h : OwnK enc base e k w v l) {b' : Nat} (hb : b' ≤ base) : OwnK enc b' e k w v l := by
  refine ⟨h.1, ?_⟩
  rcases h.2 with h2 | ⟨g, cap, cur, h3, h4, h5⟩
  · exact .inl h2
  · exact .inr ⟨g, cap, cur, h3, Nat.le_trans hb h4, h5⟩
theorem own_ne_blk {γ : Type} {enc : γ → List Value} {base k : Nat} {e t : TypeId} {w : World} {v : Value} {l : List γ} {g : Nat} {cs : Array Value} (h : OwnK enc base e k w v l) (hb : Blk w g t cs) (hne : t ≠ e) : v.ownBlock ≠ some g := by
  intro hv
  rcases h.2 with ⟨rfl, _⟩ | ⟨g', cap, cur, rfl, _, hg, _⟩
  · cases hv
  · have : g' = g := Option.some.inj hv
    rw [this, show w.heap[g]? = _ from hb] at hg
    simp only [Option.some.injEq, Obj.cells.injEq] at hg
    exact hne hg.2.1
end
theorem infoEvK : ∃ i, Tryz.prog.info? 49 = some i ∧ i.zero = some (.agg (evC ev0)) ∧ i.size = 27 ∧ i.bytes = 256 := info_parts infoEv
theorem append_ev (R : Nat) (w : World) (v : Value) (xs : List Ev) (hown : OwnK encE R 49 27 w v xs) (v2 : Value) (l : List Ev) (hl : SlK encE 27 w v2 l) (hn : xs.length + l.length ≤ 1000000) (hR : R ≤ w.heap.size) :
    ∃ v' w', (Builtin.append_ #[25, 25] 25 #[v, v2]).run Tryz.prog w = .ok v' w' ∧ OwnK encE R 49 27 w' v' (xs ++ l) ∧ w.grownBy w' v.ownBlock := by
  obtain ⟨i, hi, hz0, hz1, hz2⟩ := infoEvK
  exact run_append_K (P := Tryz.prog) encE_len (by decide) w R 25 25 49 i _ 256 Tryz.underlying25 hi hz0 hz1 hz2 rfl v xs hown v2 l hl (fun e => encE_one e) (by omega) (by omega) hR
theorem bsNil (w : World) : (Instr.buildSlice 25 0 #[]).run Tryz.prog w = .ok (.slice (some ⟨w.heap.size, 0, none⟩) 0 0) (w.alloc (.cells #[] 49)) := by
  go_simp
theorem own_empty (w : World) : OwnK encE w.heap.size 49 27 (w.alloc (.cells #[] 49)) (.slice (some ⟨w.heap.size, 0, none⟩) 0 0) [] :=
  ⟨by simp, .inr ⟨w.heap.size, 0, #[], rfl, Nat.le_refl _, heap_alloc_new w _, Nat.le_refl _, Nat.zero_le _, by simp, by simp⟩⟩
theorem sl_one (e : Ev) (w : World) : SlK encE 27 (w.alloc (.cells (evC e) 49)) (.slice (some ⟨w.heap.size, 0, none⟩) 1 1) [e] := ⟨_, _, rfl, Nat.le_refl _, fun _ => ⟨w.heap.size, 0, rfl, by simp, fun q y hq => by
  have hq0 : q = 0 := by have := (List.getElem?_eq_some_iff.1 hq).1; simp at this; exact this
  subst hq0
  have hy : y = e := by simpa using hq.symm
  subst hy
  intro i u hu
  rw [Blk.cell (Blk.new w _ _)]
  simpa [encE] using hu⟩⟩

end Go.Proofs.YtejljikikhecnaaGreat
