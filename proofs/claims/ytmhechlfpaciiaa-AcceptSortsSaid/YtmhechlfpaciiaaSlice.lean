/-
  RESLICING, whatever the slice (nil, empty, cut at its end): its run, and what the part reads. Conditions: none.
-/
import Derived.Test.YtmhechlfpaciiaaJWords
namespace Go.Proofs.Ytmhechlfpaciiaa
open Go.RowKit

/-- Where a part begins. -/
def slA (A : Option Addr) (c lo : Nat) : Option Addr := if c = lo then A else A.map (·.add lo)

section
variable {P : Program}
theorem bound_ok (w : World) (k y : Nat) (code : BoundsCode) (h : k ≤ y) : (Instr.sliceBound (.int .i64 k) y code).run P w = .ok k w := by
  unfold Instr.sliceBound
  have : (k : Int) ≤ (y : Int) := by omega
  simp [asIntOf, this]

theorem run_slice_lo (w : World) (t e : TypeId) (ht : P.underlying t = some (.slice e)) (hi : (P.info? e).map (·.size) = some 1) (A : Option Addr) (n c k : Nat) (hk : k ≤ n) :
    (Instr.sliceAt t (.slice A n c) (some (.int .i64 k)) none none).run P w = .ok (.slice (slA A c k) (n - k) (c - k)) w := by
  cases hq : P.info? e with
  | none => simp [hq] at hi
  | some i =>
    have hs : i.size = 1 := by simpa [hq] using hi
    simp [Instr.sliceAt, Instr.slice, Instr.sliceBounds, run_underlying ht, bound_ok w k n _ hk, sizeOf, typeInfo, hq, hs, slA]
theorem run_slice_hi (w : World) (t e : TypeId) (ht : P.underlying t = some (.slice e)) (hi : (P.info? e).map (·.size) = some 1) (A : Option Addr) (n c k : Nat) (hk : k ≤ c) :
    (Instr.sliceAt t (.slice A n c) none (some (.int .i64 k)) none).run P w = .ok (.slice (slA A c 0) k c) w := by
  cases hq : P.info? e with
  | none => simp [hq] at hi
  | some i =>
    simp [Instr.sliceAt, Instr.slice, Instr.sliceBounds, run_underlying ht, bound_ok w k c _ hk, sizeOf, typeInfo, hq, slA]
theorem run_slice_both (w : World) (t e : TypeId) (ht : P.underlying t = some (.slice e)) (hi : (P.info? e).map (·.size) = some 1) (A : Option Addr) (n c k m : Nat) (hk : k ≤ m) (hm : m ≤ c) :
    (Instr.sliceAt t (.slice A n c) (some (.int .i64 k)) (some (.int .i64 m)) none).run P w = .ok (.slice (slA A c k) (m - k) (c - k)) w := by
  cases hq : P.info? e with
  | none => simp [hq] at hi
  | some i =>
    have hs : i.size = 1 := by simpa [hq] using hi
    simp [Instr.sliceAt, Instr.slice, Instr.sliceBounds, run_underlying ht, bound_ok w m c _ hm, bound_ok w k m _ hk, sizeOf, typeInfo, hq, hs, slA]

/-- THE OPERATIONS, for the walk: name the slot: '(o := ⟨some 39, _, _, _, _, _⟩)'. -/
theorem wpList_slice_lo {ops : Array Oper} {rest : List Oper} {o : Oper} {a : Act} {w : World} {Q : Exit → Act → World → Prop} (hgd : o.guard = none) (t e : TypeId) (x y : Operand) (ho : o.op = .slice t x (some y) none none)
    (ht : P.underlying t = some (.slice e)) (hi : (P.info? e).map (·.size) = some 1) (A : Option Addr) (n c k : Nat) (hx : a.eval x = .slice A n c) (hy : a.eval y = .int .i64 k) (hk : k ≤ n)
    (h : wpList P ops Q rest (a.put o.dst (.slice (slA A c k) (n - k) (c - k))) w) : wpList P ops Q (o :: rest) a w :=
  wpList_plain hgd fun _ hK => by
    unfold Oper.wp execOp
    simp only [ho, hx, hy, Option.map_some, Option.map_none, Sem.run_bind, run_slice_lo w t e ht hi A n c k hk, Result.andThen_ok, Sem.run_pure]
    exact hK _ _ h
theorem wpList_slice_hi {ops : Array Oper} {rest : List Oper} {o : Oper} {a : Act} {w : World} {Q : Exit → Act → World → Prop} (hgd : o.guard = none) (t e : TypeId) (x y : Operand) (ho : o.op = .slice t x none (some y) none)
    (ht : P.underlying t = some (.slice e)) (hi : (P.info? e).map (·.size) = some 1) (A : Option Addr) (n c k : Nat) (hx : a.eval x = .slice A n c) (hy : a.eval y = .int .i64 k) (hk : k ≤ c)
    (h : wpList P ops Q rest (a.put o.dst (.slice (slA A c 0) k c)) w) : wpList P ops Q (o :: rest) a w :=
  wpList_plain hgd fun _ hK => by
    unfold Oper.wp execOp
    simp only [ho, hx, hy, Option.map_some, Option.map_none, Sem.run_bind, run_slice_hi w t e ht hi A n c k hk, Result.andThen_ok, Sem.run_pure]
    exact hK _ _ h
theorem wpList_slice_both {ops : Array Oper} {rest : List Oper} {o : Oper} {a : Act} {w : World} {Q : Exit → Act → World → Prop} (hgd : o.guard = none) (t e : TypeId) (x y z : Operand) (ho : o.op = .slice t x (some y) (some z) none)
    (ht : P.underlying t = some (.slice e)) (hi : (P.info? e).map (·.size) = some 1) (A : Option Addr) (n c k m : Nat) (hx : a.eval x = .slice A n c) (hy : a.eval y = .int .i64 k) (hz : a.eval z = .int .i64 m) (hk : k ≤ m) (hm : m ≤ c)
    (h : wpList P ops Q rest (a.put o.dst (.slice (slA A c k) (m - k) (c - k))) w) : wpList P ops Q (o :: rest) a w :=
  wpList_plain hgd fun _ hK => by
    unfold Oper.wp execOp
    simp only [ho, hx, hy, hz, Option.map_some, Option.map_none, Sem.run_bind, run_slice_both w t e ht hi A n c k m hk hm, Result.andThen_ok, Sem.run_pure]
    exact hK _ _ h
end

/-- What a part reads. -/
theorem Sl.part {α : Type} {f : α → Value} {w : World} {A : Option Addr} {n c : Nat} {l : List α} (h : Sl f w (.slice A n c) l) (lo hi : Nat) (hlo : lo ≤ hi) (hhi : hi ≤ n) : Sl f w (.slice (slA A c lo) (hi - lo) (c - lo)) ((l.take hi).drop lo) := by
  obtain ⟨A', c', hv, hlc, hx⟩ := h
  injection hv with h1 h2 h3
  subst h1 h3 h2
  have hl : ((l.take hi).drop lo).length = hi - lo := by rw [List.length_drop, List.length_take]; omega
  refine ⟨slA A c lo, c - lo, by rw [hl], by rw [hl]; omega, fun hn => ?_⟩
  have hpos : 0 < hi - lo := by rw [← hl]; exact List.length_pos_iff.2 hn
  obtain ⟨b, o, hA, hb, hcell⟩ := hx (by rintro rfl; simp at hn)
  refine ⟨b, o + lo, by rw [slA, if_neg (by omega), hA]; simp [Addr.add_lit], hb, fun j u hu => ?_⟩
  rw [List.getElem?_drop, List.getElem?_take] at hu
  split at hu
  · rw [Nat.add_assoc]; exact hcell (lo + j) u hu
  · cases hu
theorem Sl.lo {α : Type} {f : α → Value} {w : World} {A : Option Addr} {n c : Nat} {l : List α} (h : Sl f w (.slice A n c) l) (k : Nat) (hk : k ≤ n) : Sl f w (.slice (slA A c k) (n - k) (c - k)) (l.drop k) := by
  have hl : n = l.length := by obtain ⟨A', c', hv, _⟩ := h; injection hv
  have := h.part k n hk (Nat.le_refl _)
  rwa [hl, List.take_length, ← hl] at this
theorem Sl.hi {α : Type} {f : α → Value} {w : World} {A : Option Addr} {n c : Nat} {l : List α} (h : Sl f w (.slice A n c) l) (k : Nat) (hk : k ≤ n) : Sl f w (.slice (slA A c 0) k c) (l.take k) := by
  have := h.part 0 k (Nat.zero_le _) hk
  simpa using this
theorem Sl.len {α : Type} {f : α → Value} {w : World} {A : Option Addr} {n c : Nat} {l : List α} (h : Sl f w (.slice A n c) l) : n = l.length ∧ l.length ≤ c := by
  obtain ⟨A', c', hv, hlc, _⟩ := h
  injection hv with h1 h2 h3
  subst h3
  exact ⟨h2, hlc⟩

end Go.Proofs.Ytmhechlfpaciiaa
