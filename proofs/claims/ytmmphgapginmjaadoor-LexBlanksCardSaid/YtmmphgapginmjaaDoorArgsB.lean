/-
  ARGUMENTS OPENED: a slice of bytes, with its length's bound. Conditions: none.
-/
import Derived.Test.YtmmphgapginmjaaDoorWords
import Derived.Test.YtmmphgapginmjaaDoorRow
namespace Go.Proofs.YtmmphgapginmjaaDoor
open Go.ChangeShapes Go.WideShapes Go.ChangeAt Go.RowKit

theorem u8_bounds {n : Int} (h : (Lit.int .u8 n).wf = true) : 0 ≤ n ∧ n < 256 := by
  have h1 : IntKind.u8.min = 0 := rfl
  have h2 : IntKind.u8.max = 255 := rfl
  simp only [Lit.wf, Bool.and_eq_true, decide_eq_true_eq] at h
  omega

/-- A slice of bytes that came in. -/
theorem sl_bytes {H : Type} {enc : TypeId × Value → H} {P : Program} {t e : TypeId} {W : World} {v : Value} {d : DataW H} {p : List MemPlace} {r : Reach} {b0 : Nat} (ht : P.underlying t = some (.slice e)) (he : P.underlying e = some (.int .u8)) (hc : P.cellsOf e = 1)
    (hv : Value.okWide P W r b0 t v) (h : DataW.Trod enc P W 0 (fun _ => true) true t v d p) (hlt : ∀ x ∈ p, x.block < W.heap.size) :
    ∃ l : List UInt8, Sl bv W v l ∧ (d = .nil ∧ l.length = 0 ∨ ∃ ys zs' : List (DataW H), d = .slice ys zs' ∧ ys.length = l.length) := by
  obtain ⟨a0, len, cap, rfl⟩ := okWide_slice ht hv
  obtain ⟨fuel, hf⟩ := h
  rcases open_ints ht he hc hf with ⟨hcs, hx⟩ | ⟨a, len', cap', zs, hcs, _, hl, hm, hz, hx, hcell, hwz⟩
  · simp [Value.cells] at hcs
    obtain ⟨rfl, rfl, rfl⟩ := hcs
    simp only [Prod.mk.injEq] at hx
    exact ⟨[], Sl.nil_ _ _, .inl ⟨hx.1, rfl⟩⟩
  · simp [Value.cells] at hcs
    obtain ⟨rfl, rfl, rfl⟩ := hcs
    simp only [Prod.mk.injEq] at hx
    obtain ⟨rfl, rfl⟩ := hx
    simp only [if_true] at hz
    have hln : ((zs.take len).map fun n => UInt8.ofNat n.toNat).length = len := by rw [List.length_map, List.length_take]; omega
    refine ⟨(zs.take len).map fun n => UInt8.ofNat n.toNat, ⟨some a, cap, by rw [hln], by omega, fun hn => ?_⟩, .inr ⟨_, _, rfl, by rw [hln]; simp [lits]; omega⟩⟩
    have hl0 : 0 < len := by
      rcases Nat.eq_zero_or_pos len with h0 | h0
      · subst h0; simp at hn
      · exact h0
    obtain ⟨b, off, spot⟩ := a
    have hspot : spot = none := by simpa [Addr.add] using World.cell?_spot (hcell 0 (by omega))
    subst hspot
    have hbW : b < W.heap.size := hlt (.cell b off) (MemPlace.mem_row.2 ⟨0, by omega, by simp⟩)
    refine ⟨b, off, rfl, hbW, fun j u hu => ?_⟩
    have hj : j < len := by have := (List.getElem?_eq_some_iff.1 hu).1; omega
    have := hcell j (by omega)
    rw [add_plain] at this
    rw [this]
    have hjz : j < zs.length := by omega
    rw [List.getElem?_map, List.getElem?_take] at hu
    simp [hj, List.getElem?_eq_getElem hjz] at hu
    have hb := u8_bounds (hwz zs[j] (List.getElem_mem hjz))
    subst hu
    simp only [List.getD, List.getElem?_eq_getElem hjz, Option.getD_some, bv]
    have e : ((UInt8.ofNat zs[j].toNat).toNat : Int) = zs[j] := by
      have : (UInt8.ofNat zs[j].toNat).toNat = zs[j].toNat := by simp; omega
      rw [this]; omega
    rw [e]

theorem cellsU : Tryd.prog.cellsOf 5 = 1 := by kernel_rfl
theorem bytesU : Tryd.prog.bytesOf 5 = 1 := by kernel_rfl
/-- Its length's bound, out of the call's own reach. -/
theorem sl_reach {H : Type} {ts : List TypeId} {ds : List (DataW H)} {j : Nat} {d : DataW H} {l : List UInt8} (hsz : (DataW.weightsEach Tryd.prog ts ds).all (· ≤ reachBytes) = true) (ht : ts[j]? = some 23) (hd : ds[j]? = some d)
    (h : d = .nil ∧ l.length = 0 ∨ ∃ ys zs' : List (DataW H), d = .slice ys zs' ∧ ys.length = l.length) : l.length ≤ 140737488355328 := by
  rcases h with ⟨_, h⟩ | ⟨ys, zs', rfl, h⟩
  · omega
  · have := sized_slice hsz (j := j) (t := 23) (e := 5) ht hd Tryd.underlying23
    rw [bytesU] at this
    simp only [reachBytes] at this
    omega

end Go.Proofs.YtmmphgapginmjaaDoor
