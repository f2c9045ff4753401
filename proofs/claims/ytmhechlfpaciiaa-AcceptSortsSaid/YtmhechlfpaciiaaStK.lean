/-
  SLICES OF STRUCTS: append, whatever the source; cut, whatever the slice. Conditions: none.
-/
import Derived.Test.YtmhechlfpaciiaaStLiveM
import Derived.Test.YtmhechlfpaciiaaSlice
namespace Go.Proofs.Ytmhechlfpaciiaa
open Go.RowKit Go.MapKept Go.Sort

section
variable {P : Program} {α : Type} {enc : α → List Value} {k : Nat}

theorem flat_cells (hk : ∀ x, (enc x).length = k) (hk0 : 0 < k) {w : World} {b o : Nat} {l : List α} (hcell : ∀ (j : Nat) (x : α), l[j]? = some x → w.rangeAt b (o + j * k) (enc x)) : ∀ j u, (l.flatMap enc)[j]? = some u → w.cell? ((⟨b, o, none⟩ : Addr).add j) = some u := by
  intro j u hu
  have hj : j < l.length * k := by
    have := (List.getElem?_eq_some_iff.1 hu).1
    rwa [flat_length hk] at this
  have hjk : j / k < l.length := (Nat.div_lt_iff_lt_mul hk0).2 hj
  have hx := List.getElem?_eq_getElem hjk
  have h3 := flat_at hk l (j / k) (j % k) _ hx (Nat.mod_lt _ hk0)
  have e1 : j / k * k + j % k = j := by rw [Nat.mul_comm]; exact Nat.div_add_mod j k
  rw [e1, hu] at h3
  have := hcell (j / k) _ hx (j % k) u h3.symm
  rw [Addr.add_lit]
  rwa [Nat.add_assoc, e1] at this
/-- append onto a slice of the call's own, whatever the source. -/
theorem run_append_K (hk : ∀ x, (enc x).length = k) (hk0 : 0 < k) (w : World) (base : Nat) (t ty e : TypeId) (i : TypeInfo) (z : Value) (bytes : Nat) (ht : P.underlying t = some (.slice e)) (hi : P.info? e = some i) (hz : i.zero = some z)
    (hsize : i.size = k) (hby : i.bytes = bytes) (hzs : z.cells.size = k) (v : Value) (xs : List α) (hown : OwnK enc base e k w v xs)
    (v2 : Value) (l : List α) (hl : SlK enc k w v2 l) (h1 : ∀ a, ∀ u ∈ enc a, u.oneCell' = true)
    (hbytes : (xs.length + l.length) * bytes ≤ 140737488355328) (hnm : xs.length + l.length ≤ 140737488355328) (hbase : base ≤ w.heap.size) :
    ∃ v' w', (Builtin.append_ #[t, t] ty #[v, v2]).run P w = .ok v' w' ∧ OwnK enc base e k w' v' (xs ++ l) ∧ w.grownBy w' v.ownBlock := by
  obtain ⟨A, c, rfl, hlc, hx⟩ := hl
  have h63 : xs.length + l.length ≤ maxLen := by unfold maxLen; omega
  unfold OwnK at hown ⊢
  rw [List.flatMap_append, List.length_append]
  have one : ∀ u ∈ l.flatMap enc, u.oneCell' = true := by intro u hu; obtain ⟨x, _, hu⟩ := List.mem_flatMap.1 hu; exact h1 x u hu
  by_cases hn : l = []
  · subst hn
    rcases A with _ | ad
    · refine ⟨v, w, ?_, by simpa using hown, World.grownBy.refl w _⟩
      rcases hown.2 with ⟨hv, h0⟩ | ⟨g, cap, cur, hv, _, _, hnc, _⟩
      · rw [hv]; simp [Builtin.append_, run_underlying ht, sizeOf, typeInfo, hi, Builtin.lenOf, Builtin.firstCells]
      · rw [hv]; simp [Builtin.append_, run_underlying ht, sizeOf, typeInfo, hi, Builtin.lenOf, Builtin.firstCells, hnc, storeCells]
    · obtain ⟨v', w', hr, h2, h3, _⟩ := run_append_own (P := P) w base t ty e i z k bytes ht hi hz hsize hby hzs hk0 v xs.length (xs.flatMap enc) hown ad 0 c [] (by simp) (by simp) (by simp) (by simpa using h63) (by simpa using hbytes) hbase
      exact ⟨v', w', hr, by simpa using h2, h3⟩
  · obtain ⟨b, o, rfl, hb, hcell⟩ := hx hn
    obtain ⟨v', w', hr, h2, h3, _⟩ := run_append_own (P := P) w base t ty e i z k bytes ht hi hz hsize hby hzs hk0 v xs.length (xs.flatMap enc) hown ⟨b, o, none⟩ l.length c (l.flatMap enc) (flat_length hk l)
      (flat_cells hk hk0 hcell) one h63 hbytes hbase
    exact ⟨v', w', hr, h2, h3⟩

/-- Where a part begins. -/
def slK (A : Option Addr) (c lo k : Nat) : Option Addr := if c = lo then A else A.map (·.add (lo * k))
theorem run_sliceK_lo (w : World) (t e : TypeId) (ht : P.underlying t = some (.slice e)) (hi : (P.info? e).map (·.size) = some k) (A : Option Addr) (n c m : Nat) (hm : m ≤ n) :
    (Instr.sliceAt t (.slice A n c) (some (.int .i64 m)) none none).run P w = .ok (.slice (slK A c m k) (n - m) (c - m)) w := by
  cases hq : P.info? e with
  | none => simp [hq] at hi
  | some i =>
    have hs : i.size = k := by simpa [hq] using hi
    simp [Instr.sliceAt, Instr.slice, Instr.sliceBounds, run_underlying ht, bound_ok w m n _ hm, sizeOf, typeInfo, hq, hs, slK]
theorem run_sliceK_hi (w : World) (t e : TypeId) (ht : P.underlying t = some (.slice e)) (hi : (P.info? e).map (·.size) = some k) (A : Option Addr) (n c m : Nat) (hm : m ≤ c) :
    (Instr.sliceAt t (.slice A n c) none (some (.int .i64 m)) none).run P w = .ok (.slice (slK A c 0 k) m c) w := by
  cases hq : P.info? e with
  | none => simp [hq] at hi
  | some i =>
    simp [Instr.sliceAt, Instr.slice, Instr.sliceBounds, run_underlying ht, bound_ok w m c _ hm, sizeOf, typeInfo, hq, slK]
theorem run_slhi_op {o : Oper} {ρ : Operand → Value} {w : World} {t : TypeId} {x y : Operand} {vx vy v : Value} (ho : o.op = .slice t x none (some y) none) (hx : ρ x = vx) (hy : ρ y = vy) (hr : (Instr.sliceAt t vx none (some vy) none).run P w = .ok v w) : (execOp ρ o).run P w = .ok (.value v) w := by
  unfold execOp
  simp only [ho, hx, hy, Option.map_some, Option.map_none, Sem.run_bind, hr, Result.andThen_ok, Sem.run_pure]
theorem run_sllo_op {o : Oper} {ρ : Operand → Value} {w : World} {t : TypeId} {x y : Operand} {vx vy v : Value} (ho : o.op = .slice t x (some y) none none) (hx : ρ x = vx) (hy : ρ y = vy) (hr : (Instr.sliceAt t vx (some vy) none none).run P w = .ok v w) : (execOp ρ o).run P w = .ok (.value v) w := by
  unfold execOp
  simp only [ho, hx, hy, Option.map_some, Option.map_none, Sem.run_bind, hr, Result.andThen_ok, Sem.run_pure]
/-- What a part reads. -/
theorem SlK.part {w : World} {A : Option Addr} {n c : Nat} {l : List α} (h : SlK enc k w (.slice A n c) l) (lo hi : Nat) (hlo : lo ≤ hi) (hhi : hi ≤ n) : SlK enc k w (.slice (slK A c lo k) (hi - lo) (c - lo)) ((l.take hi).drop lo) := by
  obtain ⟨A', c', hv, hlc, hx⟩ := h
  injection hv with h1 h2 h3
  subst h1 h3 h2
  have hl : ((l.take hi).drop lo).length = hi - lo := by rw [List.length_drop, List.length_take]; omega
  refine ⟨slK A c lo k, c - lo, by rw [hl], by rw [hl]; omega, fun hn => ?_⟩
  have hpos : 0 < hi - lo := by rw [← hl]; exact List.length_pos_iff.2 hn
  obtain ⟨b, o, hA, hb, hcell⟩ := hx (by rintro rfl; simp at hn)
  refine ⟨b, o + lo * k, by rw [slK, if_neg (by omega), hA]; simp [Addr.add_lit], hb, fun j u hu => ?_⟩
  rw [List.getElem?_drop, List.getElem?_take] at hu
  split at hu
  · have := hcell (lo + j) u hu
    rwa [Nat.add_mul, ← Nat.add_assoc] at this
  · cases hu
theorem SlK.lo {w : World} {A : Option Addr} {n c : Nat} {l : List α} (h : SlK enc k w (.slice A n c) l) (m : Nat) (hm : m ≤ n) : SlK enc k w (.slice (slK A c m k) (n - m) (c - m)) (l.drop m) := by
  have hl : n = l.length := by obtain ⟨A', c', hv, _⟩ := h; injection hv
  have := h.part m n hm (Nat.le_refl _)
  rwa [hl, List.take_length, ← hl] at this
theorem SlK.hi {w : World} {A : Option Addr} {n c : Nat} {l : List α} (h : SlK enc k w (.slice A n c) l) (m : Nat) (hm : m ≤ n) : SlK enc k w (.slice (slK A c 0 k) m c) (l.take m) := by
  have := h.part 0 m (Nat.zero_le _) hm
  simpa using this
theorem SlK.len_ {w : World} {A : Option Addr} {n c : Nat} {l : List α} (h : SlK enc k w (.slice A n c) l) : n = l.length ∧ l.length ≤ c := by
  obtain ⟨A', c', hv, hlc, _⟩ := h
  injection hv with h1 h2 h3
  subst h3
  exact ⟨h2, hlc⟩
end

/-! ### Events -/
theorem infoEvK : ∃ i, Try.prog.info? 39 = some i ∧ i.zero = some (.agg (evC ev0)) ∧ i.size = 27 ∧ i.bytes = 256 := info_parts infoEv
/-- append of events onto a slice of the call's own: where it lies then. -/
theorem append_ev (R : Nat) (w : World) (v : Value) (xs : List Ev) (hown : OwnK encE R 39 27 w v xs) (v2 : Value) (l : List Ev) (hl : SlK encE 27 w v2 l) (hn : xs.length + l.length ≤ 1000000) (hR : R ≤ w.heap.size) :
    ∃ v' w', (Builtin.append_ #[22, 22] 22 #[v, v2]).run Try.prog w = .ok v' w' ∧ OwnK encE R 39 27 w' v' (xs ++ l) ∧ w.grownBy w' v.ownBlock ∧ (v'.ownBlock = v.ownBlock ∨ (Below w.heap.size w w' ∧ ∀ g, v'.ownBlock = some g → w.heap.size ≤ g)) := by
  obtain ⟨i, hi, hz0, hz1, hz2⟩ := infoEvK
  obtain ⟨v', w', hr, ho, hg⟩ := run_append_K (P := Try.prog) encE_len (by decide) w R 22 22 39 i _ 256 Try.underlying22 hi hz0 hz1 hz2 rfl v xs hown v2 l hl (fun e => encE_one e) (by omega) (by omega) hR
  refine ⟨v', w', hr, ho, hg, ?_⟩
  rcases hown.2 with ⟨hv, h0⟩ | ⟨g, cap, cur, hv, _, hgb, hnc, _, hcs, _⟩
  · obtain ⟨v2', w2', hr2, ho2, hg2⟩ := run_append_K (P := Try.prog) encE_len (by decide) w w.heap.size 22 22 39 i _ 256 Try.underlying22 hi hz0 hz1 hz2 rfl v xs ⟨hown.1, .inl ⟨hv, h0⟩⟩ v2 l hl (fun e => encE_one e) (by omega) (by omega) (Nat.le_refl _)
    obtain ⟨e1, e2⟩ := Result.ok.inj (hr.symm.trans hr2)
    subst e1 e2
    rw [hv] at hg2
    exact .inr ⟨⟨hg2.os, hg2.tape, hg2.output, hg2.size, fun k hk => hg2.block k hk (by simp [Value.ownBlock])⟩, fun g h => (ho2.lt g h).1⟩
  · obtain ⟨A, c, rfl, hlc, hx⟩ := hl
    by_cases hroom : xs.length + l.length ≤ cap
    · left
      by_cases hn0 : l = []
      · subst hn0
        rw [hv] at hr
        rcases A with _ | ad
        · simp [Builtin.append_, run_underlying Try.underlying22, sizeOf, typeInfo, hi, Builtin.lenOf, Builtin.firstCells, hnc, storeCells] at hr
          rw [← hr.1, hv]
        · have := run_append_room (P := Try.prog) w 22 22 39 i Try.underlying22 hi g xs.length cap cur hgb ad 0 c [] (by simp) (by simp) (by simp) (by simpa using hroom) (by rw [hcs, hz1]; simp; exact Nat.mul_le_mul_right _ hnc)
          have e1 := (Result.ok.inj (hr.symm.trans this)).1
          rw [e1, hv]
          rfl
      · obtain ⟨b, o, rfl, hb, hcell⟩ := hx hn0
        rw [hv] at hr
        have := run_append_room (P := Try.prog) w 22 22 39 i Try.underlying22 hi g xs.length cap cur hgb ⟨b, o, none⟩ l.length c (l.flatMap encE) (by rw [hz1]; exact flat_length encE_len l) (flat_cells encE_len (by decide) hcell) (fun u hu => by obtain ⟨x, _, hu⟩ := List.mem_flatMap.1 hu; exact encE_one x u hu) hroom (by rw [flat_length encE_len, hcs, hz1, ← Nat.add_mul]; exact Nat.mul_le_mul_right _ hroom)
        have e1 := (Result.ok.inj (hr.symm.trans this)).1
        rw [e1, hv]
        rfl
    · right
      have hn0 : l ≠ [] := by rintro rfl; simp at hroom; omega
      obtain ⟨b, o, rfl, hb, hcell⟩ := hx hn0
      rw [hv] at hr
      obtain ⟨v2', w2', hr2, ho2, hg2⟩ := run_append_arg_grows (P := Try.prog) w 22 22 39 i _ 27 256 Try.underlying22 hi hz0 hz1 hz2 rfl (by decide) ⟨g, 0, none⟩ xs.length cap (xs.flatMap encE) (flat_length encE_len xs)
        (fun j u hu => hown.cells (by rw [hv]; rfl) j u hu) ⟨b, o, none⟩ l.length c (l.flatMap encE) (flat_length encE_len l) (flat_cells encE_len (by decide) hcell) (by omega) (by unfold maxLen; omega) (by omega)
      obtain ⟨e1, e2⟩ := Result.ok.inj (hr.symm.trans hr2)
      subst e1 e2
      exact ⟨⟨hg2.os, hg2.tape, hg2.output, hg2.size, fun k hk => hg2.block k hk (by simp)⟩, fun g h => (ho2.lt g h).1⟩
theorem bsNil (w : World) : (Instr.buildSlice 22 0 #[]).run Try.prog w = .ok (.slice (some ⟨w.heap.size, 0, none⟩) 0 0) (w.alloc (.cells #[] 39)) := by
  go_simp
theorem own_empty (w : World) : OwnK encE w.heap.size 39 27 (w.alloc (.cells #[] 39)) (.slice (some ⟨w.heap.size, 0, none⟩) 0 0) [] :=
  ⟨by simp, .inr ⟨w.heap.size, 0, #[], rfl, Nat.le_refl _, heap_alloc_new w _, Nat.le_refl _, Nat.zero_le _, by simp, by simp⟩⟩
/-- append onto an empty slice without room: all that was there is as it was. -/
theorem append_new (R : Nat) (w : World) (v2 : Value) (l : List Ev) (hl : SlK encE 27 w v2 l) (hn : l.length ≤ 1000000) (g : Nat) (hg : OwnK encE R 39 27 w (.slice (some ⟨g, 0, none⟩) 0 0) []) (hR : R ≤ w.heap.size) :
    ∃ v' w', (Builtin.append_ #[22, 22] 22 #[.slice (some ⟨g, 0, none⟩) 0 0, v2]).run Try.prog w = .ok v' w' ∧ OwnK encE R 39 27 w' v' l ∧ Below w.heap.size w w' := by
  obtain ⟨i, hi, hz0, hz1, hz2⟩ := infoEvK
  obtain ⟨A, c, rfl, hlc, hx⟩ := hl
  by_cases hn0 : l = []
  · subst hn0
    refine ⟨.slice (some ⟨g, 0, none⟩) 0 0, w, ?_, hg, Below.refl _ _⟩
    rcases A with _ | ad
    · simp [Builtin.append_, run_underlying Try.underlying22, sizeOf, typeInfo, hi, Builtin.lenOf, Builtin.firstCells, storeCells]
    · have hf := run_firstCells_some (P := Try.prog) w i.size 0 ad 0 c [] (by simp) (by simp)
      simp [Builtin.append_, run_underlying Try.underlying22, sizeOf, typeInfo, hi, Builtin.lenOf, hf, storeCells]
  · obtain ⟨b, o, rfl, hb, hcell⟩ := hx hn0
    have hpos := List.length_pos_iff.2 hn0
    obtain ⟨v', w', hr, ho, hg2⟩ := run_append_arg_grows (P := Try.prog) w 22 22 39 i _ 27 256 Try.underlying22 hi hz0 hz1 hz2 rfl (by decide) ⟨g, 0, none⟩ 0 0 [] (by simp)
      (fun j u hu => by simp at hu) ⟨b, o, none⟩ l.length c (l.flatMap encE) (flat_length encE_len l) (flat_cells encE_len (by decide) hcell) (by omega) (by unfold maxLen; omega) (by omega)
    have ho' : OwnK encE w.heap.size 39 27 w' v' l := by
      unfold OwnK; simpa using ho
    exact ⟨v', w', hr, ho'.base_ hR, ⟨hg2.os, hg2.tape, hg2.output, hg2.size, fun k hk => hg2.block k hk (by simp)⟩⟩

end Go.Proofs.Ytmhechlfpaciiaa
