/-
  SLICES OF STRUCTS, whatever the struct: what they read; append onto one of the call's own. Slices of tokens. lex.Tokens: the contract, by a walk. Conditions: lengths.
-/
import Derived.Test.YtdabanocofimmaaGreatDoorJWords
import Derived.Deep.MidRow
import Derived.Test.YtdabanocofimmaaGreatDoorJLxText
import Derived.Lib.AppendZeros
namespace Go.Proofs.YtdabanocofimmaaGreatDoor
open Go.RowKit

section
variable {α : Type} {enc : α → List Value} {k : Nat}
theorem flat_length (hk : ∀ x, (enc x).length = k) : ∀ l : List α, (l.flatMap enc).length = l.length * k
  | [] => by simp
  | x :: l => by
    have ih := flat_length hk l
    simp only [List.flatMap_cons, List.length_append, List.length_cons, hk, ih, Nat.add_mul, Nat.one_mul]
    omega
theorem flat_at (hk : ∀ x, (enc x).length = k) : ∀ (l : List α) (j i : Nat) (x : α), l[j]? = some x → i < k → (l.flatMap enc)[j * k + i]? = (enc x)[i]?
  | [], _, _, _, h, _ => by cases h
  | y :: l, 0, i, x, h, hi => by
    have : y = x := by simpa using h
    subst this
    rw [List.flatMap_cons, Nat.zero_mul, Nat.zero_add, List.getElem?_append_left (by rw [hk]; exact hi)]
  | y :: l, j + 1, i, x, h, hi => by
    rw [List.flatMap_cons, List.getElem?_append_right (by rw [hk, Nat.add_mul]; omega), hk, show (j + 1) * k + i - k = j * k + i from by rw [Nat.add_mul]; omega]
    exact flat_at hk l j i x (by simpa using h) hi

/-- v is a slice whose elements are l, each k cells; they lie below the heap's end. -/
def SlK (enc : α → List Value) (k : Nat) (w : World) (v : Value) (l : List α) : Prop :=
  ∃ A c, v = .slice A l.length c ∧ l.length ≤ c ∧ (l ≠ [] → ∃ b o, A = some ⟨b, o, none⟩ ∧ b < w.heap.size ∧ ∀ (j : Nat) (x : α), l[j]? = some x → w.rangeAt b (o + j * k) (enc x))
/-- A slice of the call's own. -/
def OwnK (enc : α → List Value) (base : Nat) (e : TypeId) (k : Nat) (w : World) (v : Value) (l : List α) : Prop := w.ownsRow base e k v l.length (l.flatMap enc)

variable {w w' : World} {v : Value} {l : List α} {base : Nat} {e : TypeId}
theorem rangeAt_same {b o : Nat} {cs : List Value} (h : w.rangeAt b o cs) (hb : w'.heap[b]? = w.heap[b]?) : w'.rangeAt b o cs := fun j u hu => (World.cell?_of_block hb).trans (h j u hu)
theorem SlK.kept (h : SlK enc k w v l) (hs : w.heap.size ≤ w'.heap.size) (hb : ∀ b o n c, v = .slice (some ⟨b, o, none⟩) n c → w'.heap[b]? = w.heap[b]?) : SlK enc k w' v l := by
  obtain ⟨A, c, rfl, hlc, hx⟩ := h
  refine ⟨A, c, rfl, hlc, fun hn => ?_⟩
  obtain ⟨b, o, hA, hbl, hc⟩ := hx hn
  exact ⟨b, o, hA, Nat.lt_of_lt_of_le hbl hs, fun j x hj => rangeAt_same (hc j x hj) (hb b o _ _ (by rw [hA]))⟩
theorem SlK.below (h : SlK enc k w v l) (hb : Below w.heap.size w w') : SlK enc k w' v l := by
  obtain ⟨A, c, rfl, hlc, hx⟩ := h
  refine ⟨A, c, rfl, hlc, fun hn => ?_⟩
  obtain ⟨b, o, hA, hbl, hc⟩ := hx hn
  exact ⟨b, o, hA, Nat.lt_of_lt_of_le hbl hb.size, fun j x hj => rangeAt_same (hc j x hj) (hb.block b hbl)⟩
theorem SlK.nil_ (enc : α → List Value) (k : Nat) (w : World) : SlK enc k w (.slice none 0 0) [] := ⟨none, 0, rfl, Nat.le_refl _, fun h => absurd rfl h⟩
theorem OwnK.read (hk : ∀ x, (enc x).length = k) (h : OwnK enc base e k w v l) : SlK enc k w v l := by
  obtain ⟨hl, hc⟩ := h
  rcases hc with ⟨rfl, h0⟩ | ⟨g, cap, cur, rfl, hb, hg, hn, hm, hs, ht⟩
  · have : l = [] := List.eq_nil_of_length_eq_zero h0
    subst this; exact SlK.nil_ enc k w
  · refine ⟨some ⟨g, 0, none⟩, cap, rfl, hn, fun _ => ⟨g, 0, rfl, (Array.getElem?_eq_some_iff.1 hg).1, fun j x hj i u hu => ?_⟩⟩
    have hik : i < k := by
      have := (List.getElem?_eq_some_iff.1 hu).1
      rwa [hk] at this
    have hjl : j < l.length := (List.getElem?_eq_some_iff.1 hj).1
    have h1 := flat_at hk l j i x hj hik
    rw [hu, ← ht, List.getElem?_take] at h1
    split at h1
    · rw [cell_of_row w g (0 + j * k + i) cur e (0, 0) hg, Nat.zero_add]
      simpa using h1
    · cases h1
theorem OwnK.nil_ (enc : α → List Value) (base : Nat) (e : TypeId) (k : Nat) (w : World) : OwnK enc base e k w (.slice none 0 0) [] := ⟨by simp, .inl ⟨rfl, rfl⟩⟩
theorem OwnK.block (h : OwnK enc base e k w v l) (hn : l ≠ []) : ∃ g cap cur, v = .slice (some ⟨g, 0, none⟩) l.length cap ∧ base ≤ g ∧ w.heap[g]? = some (.cells cur e (0, 0)) ∧ l.length ≤ cap ∧ cap ≤ maxLen ∧ cur.size = cap * k ∧ cur.toList.take (l.length * k) = l.flatMap enc := by
  rcases h.2 with ⟨_, h0⟩ | h
  · exact absurd (List.eq_nil_of_length_eq_zero h0) hn
  · exact h
/-- A world in which its own block is as it was. -/
theorem OwnK.same (h : OwnK enc base e k w v l) (hb : ∀ g, v.ownBlock = some g → w'.heap[g]? = w.heap[g]?) : OwnK enc base e k w' v l := by
  refine ⟨h.1, ?_⟩
  rcases h.2 with h2 | ⟨g, cap, cur, rfl, h3, hg, h4⟩
  · exact .inl h2
  · exact .inr ⟨g, cap, cur, rfl, h3, (hb g rfl).trans hg, h4⟩
theorem OwnK.lt (h : OwnK enc base e k w v l) : ∀ g, v.ownBlock = some g → base ≤ g ∧ g < w.heap.size := by
  intro g hg
  rcases h.2 with ⟨rfl, _⟩ | ⟨g', cap, cur, rfl, h3, hb, _⟩
  · cases hg
  · have : g' = g := Option.some.inj hg
    subst this
    exact ⟨h3, (Array.getElem?_eq_some_iff.1 hb).1⟩
end

section
variable {P : Program} {α : Type} {enc : α → List Value} {k : Nat}
theorem flat_cells (hk : ∀ x, (enc x).length = k) (hk0 : 0 < k) {w : World} {b o : Nat} {l : List α} (hcell : ∀ (j : Nat) (x : α), l[j]? = some x → w.rangeAt b (o + j * k) (enc x)) : ∀ j u, (l.flatMap enc)[j]? = some u → w.cell? ((⟨b, o, none⟩ : Addr).add j) = some u := by
  intro j u hu
  have hj : j < l.length * k := by
    have := (List.getElem?_eq_some_iff.1 hu).1
    rwa [flat_length hk] at this
  have hjk : j / k < l.length := (Nat.div_lt_iff_lt_mul hk0).2 hj
  have hx := List.getElem?_eq_getElem hjk
  have h3 := flat_at hk l (j / k) (j % k) _ hx (Nat.mod_lt _ hk0)
  have e1 : j / k * k + j % k = j := by rw [Nat.mul_comm]; exact Nat.div_add_mod j k
  rw [e1, hu] at h3
  have := hcell (j / k) _ hx (j % k) u h3.symm
  rw [Addr.add_lit]
  rwa [Nat.add_assoc, e1] at this
/-- append onto a slice of the call's own, whatever the source. -/
theorem run_append_K (hk : ∀ x, (enc x).length = k) (hk0 : 0 < k) (w : World) (base : Nat) (t ty e : TypeId) (i : TypeInfo) (z : Value) (bytes : Nat) (ht : P.underlying t = some (.slice e)) (hi : P.info? e = some i) (hz : i.zero = some z)
    (hsize : i.size = k) (hby : i.bytes = bytes) (hzs : z.cells.size = k) (v : Value) (xs : List α) (hown : OwnK enc base e k w v xs)
    (v2 : Value) (l : List α) (hl : SlK enc k w v2 l) (h1 : ∀ a, ∀ u ∈ enc a, u.oneCell' = true)
    (hbytes : (xs.length + l.length) * bytes ≤ 140737488355328) (hnm : xs.length + l.length ≤ 140737488355328) (hbase : base ≤ w.heap.size) :
    ∃ v' w', (Builtin.append_ #[t, t] ty #[v, v2]).run P w = .ok v' w' ∧ OwnK enc base e k w' v' (xs ++ l) ∧ w.grownBy w' v.ownBlock := by
  obtain ⟨A, c, rfl, hlc, hx⟩ := hl
  have h63 : xs.length + l.length ≤ maxLen := by unfold maxLen; omega
  unfold OwnK at hown ⊢
  rw [List.flatMap_append, List.length_append]
  have one : ∀ u ∈ l.flatMap enc, u.oneCell' = true := by intro u hu; obtain ⟨x, _, hu⟩ := List.mem_flatMap.1 hu; exact h1 x u hu
  by_cases hn : l = []
  · subst hn
    rcases A with _ | ad
    · refine ⟨v, w, ?_, by simpa using hown, World.grownBy.refl w _⟩
      rcases hown.2 with ⟨hv, h0⟩ | ⟨g, cap, cur, hv, _, _, hnc, _⟩
      · rw [hv]; simp [Builtin.append_, run_underlying ht, sizeOf, typeInfo, hi, Builtin.lenOf, Builtin.firstCells]
      · rw [hv]; simp [Builtin.append_, run_underlying ht, sizeOf, typeInfo, hi, Builtin.lenOf, Builtin.firstCells, hnc, storeCells]
    · obtain ⟨v', w', hr, h2, h3, _⟩ := run_append_own (P := P) w base t ty e i z k bytes ht hi hz hsize hby hzs hk0 v xs.length (xs.flatMap enc) hown ad 0 c [] (by simp) (by simp) (by simp) (by simpa using h63) (by simpa using hbytes) hbase
      exact ⟨v', w', hr, by simpa using h2, h3⟩
  · obtain ⟨b, o, rfl, hb, hcell⟩ := hx hn
    obtain ⟨v', w', hr, h2, h3, _⟩ := run_append_own (P := P) w base t ty e i z k bytes ht hi hz hsize hby hzs hk0 v xs.length (xs.flatMap enc) hown ⟨b, o, none⟩ l.length c (l.flatMap enc) (flat_length hk l)
      (flat_cells hk hk0 hcell) one h63 hbytes hbase
    exact ⟨v', w', hr, h2, h3⟩

end

end Go.Proofs.YtdabanocofimmaaGreatDoor

namespace Go.Proofs.YtdabanocofimmaaGreatDoor
open Go.RowKit

def encT (t : Lx.Tk) : List Value := [.int .i64 t.1, .int .i64 t.2.1, .string ⟨t.2.2.toArray⟩]
theorem encT_len (t : Lx.Tk) : (encT t).length = 3 := rfl
theorem encT_one : ∀ t, ∀ v ∈ encT t, v.oneCell' = true := by
  intro t v hv
  simp only [encT, List.mem_cons, List.not_mem_nil, or_false] at hv
  rcases hv with rfl | rfl | rfl <;> rfl
theorem infoTkA : (Tryz.prog.info? 43).map (fun i => (i.zero, i.size, i.bytes)) = some (some (tkV (0, 0, [])), 3, 32) := by kernel_rfl
theorem infoTkK : ∃ i, Tryz.prog.info? 43 = some i ∧ i.zero = some (tkV (0, 0, [])) ∧ i.size = 3 ∧ i.bytes = 32 := info_parts infoTkA
theorem SlK.tk {w : World} {A : Option Addr} {n c j : Nat} {l : List Lx.Tk} {t : Lx.Tk} (h : SlK encT 3 w (.slice A n c) l) (hj : l[j]? = some t) : ∃ g o, A = some ⟨g, o, none⟩ ∧ g < w.heap.size ∧ w.rangeAt g (o + j * 3) (encT t) := by
  obtain ⟨A', c', hv', _, hcells⟩ := h
  obtain ⟨g, o, rfl, hgl, hcell⟩ := hcells (fun e => by rw [e] at hj; cases hj)
  injection hv' with e1 e2 e3
  exact ⟨g, o, e1, hgl, hcell j t hj⟩
section
variable {α : Type} {enc : α → List Value} {k : Nat} {w w' : World} {v : Value} {l : List α} {base : Nat} {e : TypeId}
theorem OwnK.keep (h : OwnK enc base e k w v l) (hb : Below w.heap.size w w') : OwnK enc base e k w' v l := h.same fun g hg => hb.block g (h.lt g hg).2
end
theorem append_tk (R : Nat) (w : World) (v : Value) (xs : List Lx.Tk) (hown : OwnK encT R 43 3 w v xs) (v2 : Value) (l : List Lx.Tk) (hl : SlK encT 3 w v2 l) (hn : xs.length + l.length ≤ 1000000) (hR : R ≤ w.heap.size) :
    ∃ v' w', (Builtin.append_ #[25, 25] 25 #[v, v2]).run Tryz.prog w = .ok v' w' ∧ OwnK encT R 43 3 w' v' (xs ++ l) ∧ w.grownBy w' v.ownBlock := by
  obtain ⟨i, hi, hz0, hz1, hz2⟩ := infoTkK
  exact run_append_K (P := Tryz.prog) encT_len (by decide) w R 25 25 43 i _ 32 Tryz.underlying25 hi hz0 hz1 hz2 rfl v xs hown v2 l hl (fun e => encT_one e) (by omega) (by omega) hR
theorem sl_oneT (t : Lx.Tk) (w : World) : SlK encT 3 (w.alloc (.cells (tkC t) 43)) (.slice (some ⟨w.heap.size, 0, none⟩) 1 1) [t] := ⟨_, _, rfl, Nat.le_refl _, fun _ => ⟨w.heap.size, 0, rfl, by simp, fun q y hq => by
  have hq0 : q = 0 := by have := (List.getElem?_eq_some_iff.1 hq).1; simp at this; exact this
  subst hq0
  have hy : y = t := by simpa using hq.symm
  subst hy
  intro i u hu
  rw [Blk.cell (Blk.new w _ _)]
  simpa [encT, tkC] using hu⟩⟩
/-- Append of one token that lies in a block of its own: what the call keeps. -/
theorem append_one (R : Nat) (w : World) (v : Value) (xs : List Lx.Tk) (t : Lx.Tk) (hown : OwnK encT R 43 3 w v xs) (hn : xs.length + 1 ≤ 1000000) (hR : R ≤ w.heap.size) :
    ∃ v' w', (Builtin.append_ #[25, 25] 25 #[v, .slice (some ⟨w.heap.size, 0, none⟩) 1 1]).run Tryz.prog (w.alloc (.cells (tkC t) 43)) = .ok v' w' ∧ OwnK encT R 43 3 w' v' (xs ++ [t]) ∧ Below R w w' := by
  have hal : Below w.heap.size w (w.alloc (.cells (tkC t) 43)) := alloc_below _ _
  obtain ⟨v', w', h1, h2, h3⟩ := append_tk R _ v xs (hown.keep hal) _ [t] (sl_oneT t w) (by simpa using hn) (Nat.le_trans hR hal.size)
  exact ⟨v', w', h1, h2, (hal.mono hR).grown h3 (by rw [show (w.alloc (.cells (tkC t) 43)).heap.size = w.heap.size + 1 by simp]; omega) (fun g hg => (hown.lt g hg).1)⟩

end Go.Proofs.YtdabanocofimmaaGreatDoor

namespace Go.Proofs.YtdabanocofimmaaGreatDoor
open Go.RowKit

def errT (l : List UInt8) : Int := if 2000 < l.length then 3 else match Lx.toksL l with | none => 10 | some _ => 0
def outT (l : List UInt8) : List Lx.Tk := if 2000 < l.length then [] else match Lx.toksL l with | none => [] | some L => L
/-- What Tokens answers. -/
def ToksIs (l : List UInt8) (w : World) (e : Ending) (w' : World) : Prop := ∃ v, e = .returned (.tuple #[v, .int .i64 (errT l)]) ∧ OwnK encT w.heap.size 43 3 w' v (outT l) ∧ Below w.heap.size w w'
def strLen : Value → Nat
  | .string s => s.size
  | _ => 0
theorem ownk_form {α : Type} {enc : α → List Value} {k : Nat} {w : World} {v : Value} {l : List α} {base : Nat} {e : TypeId} (h : OwnK enc base e k w v l) : ∃ A c, v = .slice A l.length c := by
  rcases h.2 with ⟨h1, h2⟩ | ⟨g, cap, cur, h1, _⟩
  · exact ⟨none, 0, by rw [h1]; congr 1; exact h2.symm⟩
  · exact ⟨_, _, h1⟩
theorem nil_or (r : List UInt8) : r = [] ∨ ∃ c t, r = c :: t := by cases r <;> simp

end Go.Proofs.YtdabanocofimmaaGreatDoor
