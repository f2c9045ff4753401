/-
  Events as cells; a buffer in memory; slices of events. Conditions: none.
-/
import Derived.Test.YtbhckfkjbeocoaaEVAsk
import Derived.Test.YtbhckfkjbeocoaaSlK
import Derived.Test.YtbhckfkjbeocoaaLast
import Derived.Test.YtbhckfkjbeocoaaSlice
import Derived.Deep.MidRow
import Derived.Handy
import Derived.Lib.AppendZeros
namespace Go.Proofs.Ytbhckfkjbeocoaa
open Go.RowKit

/-- An event. -/
structure Ev where
  r : Int
  c : Int
  p : Nat → Int
  op : Int
  ek : Int
  a : ByteArray
  b : ByteArray
  cc : ByteArray
  d : ByteArray
  vk : Int
  vn : Int
  t : ByteArray
def evC (e : Ev) : Array Value := #[.int .i64 e.r, .int .i64 e.c, .int .i64 (e.p 0), .int .i64 (e.p 1), .int .i64 (e.p 2), .int .i64 (e.p 3), .int .i64 (e.p 4), .int .i64 (e.p 5), .int .i64 (e.p 6), .int .i64 (e.p 7), .int .i64 (e.p 8), .int .i64 (e.p 9), .int .i64 (e.p 10), .int .i64 (e.p 11), .int .i64 (e.p 12), .int .i64 (e.p 13), .int .i64 (e.p 14), .int .i64 (e.p 15), .int .i64 e.op, .int .i64 e.ek, .string e.a, .string e.b, .string e.cc, .string e.d, .int .i64 e.vk, .int .i64 e.vn, .string e.t]
def evV (e : Ev) : Value := .agg (evC e)
theorem vA_lit (p : Nat → Int) : vA p = #[.int .i64 (p 0), .int .i64 (p 1), .int .i64 (p 2), .int .i64 (p 3), .int .i64 (p 4), .int .i64 (p 5), .int .i64 (p 6), .int .i64 (p 7), .int .i64 (p 8), .int .i64 (p 9), .int .i64 (p 10), .int .i64 (p 11), .int .i64 (p 12), .int .i64 (p 13), .int .i64 (p 14), .int .i64 (p 15)] := by rfl
theorem eqV_self (f : Nat → Int) : eqV f f = true := (eqV_iff f f).2 fun _ _ => rfl
theorem eq_event (e : Ev) (w : World) : (binOp .eql 35 (evV e) (evV e)).run Try.prog w = .ok (.bool true) w := by
  have hq := run_equalIn_arr Try.prog w 9997 27 3 e.p e.p Try.underlying27 Try.underlying3 sizeI
  rw [vA_lit, eqV_self] at hq
  unfold evV evC
  go_simp
theorem ne_event (e : Ev) (w : World) : (binOp .neq 35 (evV e) (evV e)).run Try.prog w = .ok (.bool false) w := by
  have hq := run_equalIn_arr Try.prog w 9997 27 3 e.p e.p Try.underlying27 Try.underlying3 sizeI
  rw [vA_lit, eqV_self] at hq
  unfold evV evC
  go_simp
def ev0 : Ev := ⟨0, 0, fun _ => 0, 0, 0, ⟨#[]⟩, ⟨#[]⟩, ⟨#[]⟩, ⟨#[]⟩, 0, 0, ⟨#[]⟩⟩
theorem infoEv : (Try.prog.info? 35).map (fun i => (i.zero, i.size, i.bytes)) = some (some (.agg (evC ev0)), 27, 256) := by kernel_rfl
theorem zeroE : (Try.prog.info? 35).map (fun i => (i.zero, i.size)) = some (some (.agg (evC ev0)), 27) := by kernel_rfl
theorem sizeE (e : Ev) : (Try.prog.info? 35).map (·.size) = some (evC e).size := (zero_of_info zeroE).2
theorem evC_one (e : Ev) : (evC e).all (·.oneCell') = true := by simp [evC, Value.oneCell']
/-- An event's block. -/
def EB (w : World) (g : Nat) (e : Ev) : Prop := Blk w g 35 (evC e)
theorem EB.dot {w : World} {g : Nat} {e : Ev} (h : EB w g e) : w.rangeAt g 0 [.int .i64 e.r, .int .i64 e.c] := World.rangeAt_of_block (C := evC e) h 0 2
theorem EB.keep {w w' : World} {g : Nat} {e : Ev} (h : EB w g e) (hb : Below w.heap.size w w') : EB w' g e := Blk.below h hb (Blk.lt h)
theorem EB.new_ (w : World) (e : Ev) : EB (w.alloc (.cells (evC e) 35)) w.heap.size e := Blk.new w _ _
def encE (e : Ev) : List Value := (evC e).toList
theorem encE_len (e : Ev) : (encE e).length = 27 := rfl
theorem encE_one : ∀ e, ∀ v ∈ encE e, v.oneCell' = true := by
  intro e v hv
  simp only [encE, evC, List.mem_cons, List.not_mem_nil, or_false] at hv
  rcases hv with rfl | rfl | rfl | rfl | rfl | rfl | rfl | rfl | rfl | rfl | rfl | rfl | rfl | rfl | rfl | rfl | rfl | rfl | rfl | rfl | rfl | rfl | rfl | rfl | rfl | rfl | rfl <;> rfl
theorem at_Ev (g o c n k : Nat) (h : k < n) (w : World) : (Instr.indexAt 22 (.slice (some ⟨g, o, none⟩) n c) (.int .i64 k)).run Try.prog w = .ok (.pointer (some ⟨g, o + k * 27, none⟩)) w := by
  have h2 : (k : Int) < n := by omega
  go_simp
theorem SlK.ev {w : World} {A : Option Addr} {n c j : Nat} {l : List Ev} {e : Ev} (h : SlK encE 27 w (.slice A n c) l) (hj : l[j]? = some e) : ∃ g o, A = some ⟨g, o, none⟩ ∧ g < w.heap.size ∧ w.rangeAt g (o + j * 27) (encE e) := by
  obtain ⟨A', c', hv', _, hcells⟩ := h
  obtain ⟨g, o, rfl, hgl, hcell⟩ := hcells (fun e => by rw [e] at hj; cases hj)
  injection hv' with e1 e2 e3
  exact ⟨g, o, e1, hgl, hcell j e hj⟩
theorem bsEv (e : Ev) (w : World) : (Instr.buildSlice 22 1 #[(0, .agg (evC e))]).run Try.prog w = .ok (.slice (some ⟨w.heap.size, 0, none⟩) 1 1) (w.alloc (.cells (evC e) 35)) := by
  unfold evC; go_simp
section
variable {α : Type} {enc : α → List Value} {k : Nat} {w w' : World} {v : Value} {l : List α} {base : Nat} {e : TypeId}
theorem OwnK.keep (h : OwnK enc base e k w v l) (hb : Below w.heap.size w w') : OwnK enc base e k w' v l := h.same fun g hg => hb.block g (h.lt g hg).2
theorem OwnK.base_ (h : OwnK enc base e k w v l) {b' : Nat} (hb : b' ≤ base) : OwnK enc b' e k w v l := by
  refine ⟨h.1, ?_⟩
  rcases h.2 with h2 | ⟨g, cap, cur, h3, h4, h5⟩
  · exact .inl h2
  · exact .inr ⟨g, cap, cur, h3, Nat.le_trans hb h4, h5⟩
theorem own_ne_blk {γ : Type} {enc : γ → List Value} {base k : Nat} {e t : TypeId} {w : World} {v : Value} {l : List γ} {g : Nat} {cs : Array Value} (h : OwnK enc base e k w v l) (hb : Blk w g t cs) (hne : t ≠ e) : v.ownBlock ≠ some g := by
  intro hv
  rcases h.2 with ⟨rfl, _⟩ | ⟨g', cap, cur, rfl, _, hg, _⟩
  · cases hv
  · have : g' = g := Option.some.inj hv
    rw [this, show w.heap[g]? = _ from hb] at hg
    simp only [Option.some.injEq, Obj.cells.injEq] at hg
    exact hne hg.2.1
end
theorem infoEvK : ∃ i, Try.prog.info? 35 = some i ∧ i.zero = some (.agg (evC ev0)) ∧ i.size = 27 ∧ i.bytes = 256 := info_parts infoEv
theorem append_ev (R : Nat) (w : World) (v : Value) (xs : List Ev) (hown : OwnK encE R 35 27 w v xs) (v2 : Value) (l : List Ev) (hl : SlK encE 27 w v2 l) (hn : xs.length + l.length ≤ 1000000) (hR : R ≤ w.heap.size) :
    ∃ v' w', (Builtin.append_ #[22, 22] 22 #[v, v2]).run Try.prog w = .ok v' w' ∧ OwnK encE R 35 27 w' v' (xs ++ l) ∧ w.grownBy w' v.ownBlock := by
  obtain ⟨i, hi, hz0, hz1, hz2⟩ := infoEvK
  exact run_append_K (P := Try.prog) encE_len (by decide) w R 22 22 35 i _ 256 Try.underlying22 hi hz0 hz1 hz2 rfl v xs hown v2 l hl (fun e => encE_one e) (by omega) (by omega) hR
theorem bsNil (w : World) : (Instr.buildSlice 22 0 #[]).run Try.prog w = .ok (.slice (some ⟨w.heap.size, 0, none⟩) 0 0) (w.alloc (.cells #[] 35)) := by
  go_simp
theorem own_empty (w : World) : OwnK encE w.heap.size 35 27 (w.alloc (.cells #[] 35)) (.slice (some ⟨w.heap.size, 0, none⟩) 0 0) [] :=
  ⟨by simp, .inr ⟨w.heap.size, 0, #[], rfl, Nat.le_refl _, heap_alloc_new w _, Nat.le_refl _, Nat.zero_le _, by simp, by simp⟩⟩
theorem sl_one (e : Ev) (w : World) : SlK encE 27 (w.alloc (.cells (evC e) 35)) (.slice (some ⟨w.heap.size, 0, none⟩) 1 1) [e] := ⟨_, _, rfl, Nat.le_refl _, fun _ => ⟨w.heap.size, 0, rfl, by simp, fun q y hq => by
  have hq0 : q = 0 := by have := (List.getElem?_eq_some_iff.1 hq).1; simp at this; exact this
  subst hq0
  have hy : y = e := by simpa using hq.symm
  subst hy
  intro i u hu
  rw [Blk.cell (Blk.new w _ _)]
  simpa [encE] using hu⟩⟩

/-! ### A buffer -/
def bufL (f : Nat → Nat → Int) : List Value := (List.range 256).map fun j => .int .i64 (f (j / 16) (j % 16))
def bufA (n s : Int) (f : Nat → Nat → Int) (v : Value) : Array Value := (.int .i64 n :: .int .i64 s :: (bufL f ++ [v])).toArray
theorem bufA_size (n s : Int) (f : Nat → Nat → Int) (v : Value) : (bufA n s f v).size = 259 := by simp [bufA, bufL]
theorem bufA_vec (n s : Int) (f : Nat → Nat → Int) (v : Value) (p i : Nat) (hp : p < 16) (hi : i < 16) : (bufA n s f v)[2 + p * 16 + i]? = some (.int .i64 (f p i)) := by
  have e : 2 + p * 16 + i = (p * 16 + i) + 1 + 1 := by omega
  rw [e]
  simp only [bufA, List.getElem?_toArray, List.getElem?_cons_succ]
  rw [List.getElem?_append_left (by simp [bufL]; omega)]
  simp only [bufL, List.getElem?_map]
  rw [List.getElem?_range (by omega)]
  simp only [Option.map_some]
  rw [show (p * 16 + i) / 16 = p from by omega, show (p * 16 + i) % 16 = i from by omega]
/-- A buffer's cells. -/
structure BC (cs : Array Value) (n s : Int) (f : Nat → Nat → Int) (v : Value) : Prop where
  size : cs.size = 259
  n : cs[0]? = some (.int .i64 n)
  s : cs[1]? = some (.int .i64 s)
  f : ∀ p i, p < 16 → i < 16 → cs[2 + p * 16 + i]? = some (.int .i64 (f p i))
  v : cs[258]? = some v
theorem bufA_bc (n s : Int) (f : Nat → Nat → Int) (v : Value) : BC (bufA n s f v) n s f v :=
  ⟨bufA_size .., rfl, rfl, fun p i hp hi => bufA_vec n s f v p i hp hi, by
    have : (bufA n s f v)[258]? = (bufL f ++ [v])[256]? := by simp [bufA]
    rw [this, List.getElem?_append_right (by simp [bufL])]
    simp [bufL]⟩
/-- A buffer at block P. -/
def Bf (w : World) (P : Nat) (n s : Int) (f : Nat → Nat → Int) (v : Value) : Prop := ∃ cs, Blk w P 49 cs ∧ BC cs n s f v
section
variable {w w' : World} {P : Nat} {n s : Int} {f : Nat → Nat → Int} {v : Value}
theorem Bf.lt (h : Bf w P n s f v) : P < w.heap.size := by obtain ⟨cs, h, _⟩ := h; exact Blk.lt h
theorem Bf.same (h : Bf w P n s f v) (hb : w'.heap[P]? = w.heap[P]?) : Bf w' P n s f v := by obtain ⟨cs, h, hc⟩ := h; exact ⟨cs, hb.trans h, hc⟩
theorem Bf.keep (h : Bf w P n s f v) (hb : Below w.heap.size w w') : Bf w' P n s f v := h.same (hb.block P h.lt)
theorem Bf.cn (h : Bf w P n s f v) : w.cell? ⟨P, 0, none⟩ = some (.int .i64 n) := by obtain ⟨cs, h, hc⟩ := h; exact (Blk.cell h 0).trans hc.n
theorem Bf.cs (h : Bf w P n s f v) : w.cell? ⟨P, 1, none⟩ = some (.int .i64 s) := by obtain ⟨cs, h, hc⟩ := h; exact (Blk.cell h 1).trans hc.s
theorem Bf.cv (h : Bf w P n s f v) : w.cell? ⟨P, 258, none⟩ = some v := by obtain ⟨cs, h, hc⟩ := h; exact (Blk.cell h 258).trans hc.v
theorem Bf.fr (h : Bf w P n s f v) (i : Nat) : w.frozen? ⟨P, i, none⟩ = false := by obtain ⟨cs, h, hc⟩ := h; exact Blk.free h i
theorem Bf.row (h : Bf w P n s f v) (p : Nat) (hp : p < 16) : w.rangeAt P (2 + p * 16) (vA (f p)).toList := by
  obtain ⟨cs, h, hc⟩ := h
  intro j u hu
  have hj : j < 16 := by have := (List.getElem?_eq_some_iff.1 hu).1; simpa [vA] using this
  rw [Blk.cell h, hc.f p j hp hj]
  have := vA_at (f p) j hj
  rw [← Array.getElem?_toList, hu] at this
  simpa [iv] using this.symm
theorem Bf.all (h : Bf w P n s f v) : w.rangeAt P 2 (bufL f) := by
  obtain ⟨cs, h, hc⟩ := h
  intro j u hu
  have hj : j < 256 := by have := (List.getElem?_eq_some_iff.1 hu).1; simpa [bufL] using this
  have e : 2 + j = 2 + j / 16 * 16 + j % 16 := by omega
  rw [Blk.cell h, e, hc.f (j / 16) (j % 16) (by omega) (by omega)]
  simp only [bufL, List.getElem?_map, List.getElem?_range hj, Option.map_some] at hu
  exact hu
theorem Bf.there (h : Bf w P n s f v) (o k : Nat) (hk : o + k ≤ 259) : w.there P o k := by
  obtain ⟨cs, h, hc⟩ := h
  intro j hj
  refine ⟨?_, Blk.free h _⟩
  rw [Blk.cell h, Array.getElem?_eq_getElem (by rw [hc.size]; omega)]; rfl
theorem Bf.put_v (h : Bf w P n s f v) (v' : Value) : Bf (w.setCell ⟨P, 258, none⟩ v') P n s f v' := by
  obtain ⟨cs, h, hc⟩ := h
  refine ⟨_, Blk.set_ h 258 v', by simp [hc.size], ?_, ?_, ?_, ?_⟩
  · rw [Array.getElem?_setIfInBounds_ne (by decide)]; exact hc.n
  · rw [Array.getElem?_setIfInBounds_ne (by decide)]; exact hc.s
  · intro p i hp hi
    rw [Array.getElem?_setIfInBounds_ne (by omega)]; exact hc.f p i hp hi
  · rw [Array.getElem?_setIfInBounds_self_of_lt (by rw [hc.size]; decide)]
theorem blk_setCells {g : Nat} {t : TypeId} : ∀ (vs : List Value) (o : Nat) (w : World) (cs : Array Value), Blk w g t cs → ∃ cs', Blk (w.setCells g o vs) g t cs' ∧ cs'.size = cs.size ∧ ∀ j, cs'[j]? = if o ≤ j ∧ j < o + vs.length ∧ j < cs.size then vs[j - o]? else cs[j]?
  | [], o, w, cs, h => ⟨cs, h, rfl, fun j => by rw [if_neg (by simp only [List.length_nil]; omega)]⟩
  | u :: r, o, w, cs, h => by
    obtain ⟨cs', h1, h2, h3⟩ := blk_setCells r (o + 1) _ _ (Blk.set_ h o u)
    refine ⟨cs', h1, by simpa using h2, fun j => ?_⟩
    rw [h3 j]
    simp only [Array.size_setIfInBounds, List.length_cons]
    by_cases hj : j = o
    · subst hj
      rw [if_neg (by omega)]
      by_cases hl : j < cs.size
      · rw [if_pos (by omega), Array.getElem?_setIfInBounds_self_of_lt hl]; simp
      · rw [if_neg (by omega), Array.setIfInBounds_eq_of_size_le (by omega)]
    · rw [Array.getElem?_setIfInBounds_ne (fun e => hj e.symm)]
      by_cases hc : o + 1 ≤ j ∧ j < o + 1 + r.length ∧ j < cs.size
      · rw [if_pos hc, if_pos (by omega), show j - o = (j - (o + 1)) + 1 from by omega, List.getElem?_cons_succ]
      · rw [if_neg hc, if_neg (by omega)]
theorem Bf.put_row (h : Bf w P n s f v) (p : Nat) (hp : p < 16) (g : Nat → Int) : Bf (w.setCells P (2 + p * 16) (vA g).toList) P n s (fun q => if q = p then g else f q) v := by
  obtain ⟨cs, h, hc⟩ := h
  obtain ⟨cs', h1, h2, h3⟩ := blk_setCells (vA g).toList (2 + p * 16) w cs h
  have hl : (vA g).toList.length = 16 := by simp [vA]
  refine ⟨cs', h1, h2.trans hc.size, ?_, ?_, ?_, ?_⟩
  · rw [h3, if_neg (by omega)]; exact hc.n
  · rw [h3, if_neg (by omega)]; exact hc.s
  · intro q i hq hi
    rw [h3, hl]
    by_cases e : q = p
    · subst e
      rw [if_pos (by rw [hc.size]; omega), if_pos rfl, show 2 + q * 16 + i - (2 + q * 16) = i from by omega, Array.getElem?_toList, vA_at g i hi]; rfl
    · rw [if_neg (by omega), if_neg e]; exact hc.f q i hq hi
  · rw [h3, if_neg (by omega)]; exact hc.v
theorem below_setCells {B : Nat} (w : World) (P o : Nat) (vs : List Value) (h : B ≤ P) : Below B w (w.setCells P o vs) := by
  induction vs generalizing o w with
  | nil => exact Below.refl _ _
  | cons u r ih => exact ((Below.refl B w).setCell (p := ⟨P, o, none⟩) h u).trans (ih _ _)
end
theorem at_buf0 (P : Nat) (w : World) : (Instr.fieldAt 49 (.pointer (some ⟨P, 0, none⟩)) 0).run Try.prog w = .ok (.pointer (some ⟨P, 0, none⟩)) w := by go_simp
theorem at_buf1 (P : Nat) (w : World) : (Instr.fieldAt 49 (.pointer (some ⟨P, 0, none⟩)) 1).run Try.prog w = .ok (.pointer (some ⟨P, 1, none⟩)) w := by go_simp
theorem at_buf2 (P : Nat) (w : World) : (Instr.fieldAt 49 (.pointer (some ⟨P, 0, none⟩)) 2).run Try.prog w = .ok (.pointer (some ⟨P, 2, none⟩)) w := by go_simp
theorem at_buf3 (P : Nat) (w : World) : (Instr.fieldAt 49 (.pointer (some ⟨P, 0, none⟩)) 3).run Try.prog w = .ok (.pointer (some ⟨P, 258, none⟩)) w := by go_simp
theorem at_rows (P p : Nat) (h : p < 16) (w : World) : (Instr.indexAt 47 (.pointer (some ⟨P, 2, none⟩)) (.int .i64 p)).run Try.prog w = .ok (.pointer (some ⟨P, 2 + p * 16, none⟩)) w := by
  have h2 : (p : Int) < 16 := by omega
  go_simp
theorem mk_buf (n s : Int) (w : World) : (Instr.build 49 #[(0, .int .i64 n), (1, .int .i64 s)]).run Try.prog w = .ok (.agg (bufA n s (fun _ _ => 0) (.slice none 0 0))) w := by kernel_rfl
theorem size_bufL (f : Nat → Nat → Int) : (Try.prog.info? 47).map (·.size) = some (bufL f).length := by
  have : (Try.prog.info? 47).map (·.size) = some 256 := by kernel_rfl
  rw [this]; simp [bufL]
theorem bufL_row (f : Nat → Nat → Int) (p : Nat) (hp : p < 16) : (bufL f).toArray.extract (p * 16) (p * 16 + 16) = vA (f p) := by
  apply Array.ext
  · simp [bufL, vA]; omega
  · intro i h1 h2
    have hi : i < 16 := by simpa [vA] using h2
    simp only [vA, iv, bufL, List.getElem_toArray, Array.getElem_extract, List.getElem_map, List.getElem_range]
    rw [show (p * 16 + i) / 16 = p from by omega, show (p * 16 + i) % 16 = i from by omega]
theorem index_bufL (f : Nat → Nat → Int) (p : Nat) (hp : p < 16) (w : World) : (Instr.index 47 (.agg (bufL f).toArray) (.int .i64 p)).run Try.prog w = .ok (.agg (vA (f p))) w := by
  have hr : (List.take 16 (List.drop (p * 16) (bufL f))).toArray = vA (f p) := by
    rw [← bufL_row f p hp]; simp
  have hi := sizeV (f p)
  rw [vA_size] at hi
  cases hq : Try.prog.info? 27 with
  | none => rw [hq] at hi; cases hi
  | some i =>
    have hs : i.size = 16 := by simpa [hq] using hi
    simp [Instr.index, run_underlying Try.underlying47, asIntOf, sizeOf, typeInfo, hq, hs, hp, hr, go_sem]
section
variable {P : Program}
theorem run_nilCheck_op {o : Oper} {ρ : Operand → Value} {w : World} {x : Operand} {ad : Addr} (ho : o.op = .nilCheck x) (hx : ρ x = .pointer (some ad)) : (execOp ρ o).run P w = .ok (.value (.pointer (some ad))) w := by
  unfold execOp
  simp [ho, hx, go_sem]
theorem run_fieldAddr_any {o : Oper} {ρ : Operand → Value} {w : World} {ty : TypeId} {x : Operand} {ad : Addr} {k : Nat} {v : Value} (ho : o.op = .fieldAddr ty x k) (hx : ρ x = .pointer (some ad))
    (hr : (Instr.fieldAt ty (.pointer (some ad)) k).run P w = .ok v w) : (execOp ρ o).run P w = .ok (.value v) w := by
  unfold execOp
  simp [ho, hx, hr]
theorem run_loadsl_op {o : Oper} {ρ : Operand → Value} {w : World} {ty e : TypeId} {x : Operand} {ad : Addr} {A : Option Addr} {n c : Nat} (ho : o.op = .load ty x) (hx : ρ x = .pointer (some ad)) (hu : P.underlying ty = some (.slice e)) (hc : w.cell? ad = some (.slice A n c)) :
    (execOp ρ o).run P w = .ok (.value (.slice A n c)) w := by
  unfold execOp
  have ha : (isAgg ty).run P w = .ok false w := by unfold isAgg; rw [Sem.run_bind, run_underlying hu w]; simp
  simp [ho, hx, Instr.loadAt, Instr.sureAddr, loadVar, ha, hc, go_sem]
theorem run_storemid_op {o : Oper} {ρ : Operand → Value} {w : World} {ty : TypeId} {x y : Operand} {b q : Nat} {cells : Array Value} (ho : o.op = .store ty x y) (hx : ρ x = .pointer (some ⟨b, q, none⟩)) (hy : ρ y = .agg cells)
    (ht : w.there b q cells.size) (hi : (P.info? ty).map (·.size) = some cells.size) (h1 : cells.all (·.oneCell') = true) : (execOp ρ o).run P w = .ok .skip (w.setCells b q cells.toList) := by
  unfold execOp
  simp only [ho, hx, hy, Instr.storeAt, Instr.sureAddr, Sem.run_bind, Sem.run_pure, Result.andThen_ok, run_storeVar_mid w b q ty cells ht hi h1]
/-- An operation whose run is known. -/
theorem wpList_val {ops : Array Oper} {rest : List Oper} {o : Oper} {a : Act} {w : World} {Q : Exit → Act → World → Prop} (hw : Region.wanted o (yielded ops a.tmps) = true) (v : Value) (w' : World)
    (hr : (execOp a.eval o).run P w = .ok (.value v) w') (h : wpList P ops Q rest (a.put o.dst v) w') : wpList P ops Q (o :: rest) a w :=
  wpList_step fun K hK => by
    rw [if_pos hw]
    unfold Oper.wp
    rw [hr]
    exact hK _ _ h
theorem run_index_op {o : Oper} {ρ : Operand → Value} {w w' : World} {t : TypeId} {x y : Operand} {vx vy v : Value} (ho : o.op = .index t x y) (hx : ρ x = vx) (hy : ρ y = vy) (hr : (Instr.index t vx vy).run P w = .ok v w') : (execOp ρ o).run P w = .ok (.value v) w' := by
  unfold execOp
  simp only [ho, hx, hy, Sem.run_bind, hr, Result.andThen_ok, Sem.run_pure]
theorem run_build_op {o : Oper} {ρ : Operand → Value} {w w' : World} {t : TypeId} {xs : Array (Nat × Operand)} {vs : Array (Nat × Value)} {v : Value} (ho : o.op = .build t xs) (hx : xs.map (fun (i, x) => (i, ρ x)) = vs) (hr : (Instr.build t vs).run P w = .ok v w') : (execOp ρ o).run P w = .ok (.value v) w' := by
  unfold execOp
  simp only [ho, hx, Sem.run_bind, hr, Result.andThen_ok, Sem.run_pure]
theorem run_buildSlice_op {o : Oper} {ρ : Operand → Value} {w w' : World} {t : TypeId} {len : Nat} {xs : Array (Nat × Operand)} {vs : Array (Nat × Value)} {v : Value} (ho : o.op = .buildSlice t len xs) (hx : xs.map (fun (i, x) => (i, ρ x)) = vs) (hr : (Instr.buildSlice t len vs).run P w = .ok v w') : (execOp ρ o).run P w = .ok (.value v) w' := by
  unfold execOp
  simp only [ho, hx, Sem.run_bind, hr, Result.andThen_ok, Sem.run_pure]
end

theorem run_bsEv_op {o : Oper} {ρ : Operand → Value} {x : Operand} (e : Ev) (w : World) (ho : o.op = .buildSlice 22 1 #[(0, x)]) (hx : ρ x = .agg (evC e)) : (execOp ρ o).run Try.prog w = .ok (.value (.slice (some ⟨w.heap.size, 0, none⟩) 1 1)) (w.alloc (.cells (evC e) 35)) :=
  run_buildSlice_op (vs := #[(0, .agg (evC e))]) ho (by simp [hx]) (bsEv e w)

end Go.Proofs.Ytbhckfkjbeocoaa
