/-
  ARGUMENTS OPENED: a slice of slices of bytes, with its length's bound. Conditions: none.
-/
import Derived.Test.YtoicncmlmhljmaaArgsB
import Derived.Test.YtoicncmlmhljmaaNtRows
import Derived.Deep.Matrix
namespace Go.Proofs.Ytoicncmlmhljmaa
open Go.ChangeShapes Go.WideShapes Go.ChangeAt Go.RowKit Go.Deep

theorem cellsS : Try.prog.cellsOf 27 = 1 := by kernel_rfl
theorem bytesS : Try.prog.bytesOf 27 = 24 := by kernel_rfl

/-- The bytes of a row of numbers that are bytes. -/
theorem sl_of_cells {W : World} {A : Option Addr} {L C : Nat} {Z : List Int} (hLC : L ≤ C) (hZ : Z.length = C) (hwf : ∀ n ∈ Z, (Lit.int .u8 n).wf = true) (hnone : A = none → C = 0)
    (hcell : ∀ a', A = some a' → ∀ c, c < C → W.cell? (a'.add c) = some (.int .u8 (Z.getD c 0))) (hlt : ∀ a', A = some a' → 0 < C → a'.block < W.heap.size) :
    Sl bv W (.slice A L C) ((Z.take L).map fun n => UInt8.ofNat n.toNat) := by
  have hln : ((Z.take L).map fun n => UInt8.ofNat n.toNat).length = L := by rw [List.length_map, List.length_take]; omega
  refine ⟨A, C, by rw [hln], by rw [hln]; exact hLC, fun hn => ?_⟩
  have hL0 : 0 < L := by
    rcases Nat.eq_zero_or_pos L with h0 | h0
    · subst h0; simp at hn
    · exact h0
  cases hA : A with
  | none => have := hnone hA; omega
  | some a =>
    obtain ⟨b, off, spot⟩ := a
    have h0 := hcell _ hA 0 (by omega)
    have hspot : spot = none := by simpa [Addr.add] using World.cell?_spot h0
    subst hspot
    refine ⟨b, off, rfl, hlt _ hA (by omega), fun j u hu => ?_⟩
    have hj : j < L := by have := (List.getElem?_eq_some_iff.1 hu).1; omega
    have := hcell _ hA j (by omega)
    rw [add_plain] at this
    rw [this]
    have hjz : j < Z.length := by omega
    rw [List.getElem?_map, List.getElem?_take] at hu
    simp [hj, List.getElem?_eq_getElem hjz] at hu
    have hb := u8_bounds (hwf Z[j] (List.getElem_mem hjz))
    subst hu
    simp only [List.getD, List.getElem?_eq_getElem hjz, Option.getD_some, bv]
    have e : ((UInt8.ofNat Z[j].toNat).toNat : Int) = Z[j] := by
      have : (UInt8.ofNat Z[j].toNat).toNat = Z[j].toNat := by simp; omega
      rw [this]; omega
    rw [e]

/-- A slice of slices of bytes that came in. -/
theorem sl_rows {H : Type} {enc : TypeId × Value → H} {ts : List TypeId} {ds : List (DataW H)} {j : Nat} {W : World} {v : Value} {d : DataW H} {p : List MemPlace} {r : Reach} {b0 : Nat}
    (hsz : (DataW.weightsEach Try.prog ts ds).all (· ≤ reachBytes) = true) (ht : ts[j]? = some 45) (hd : ds[j]? = some d)
    (hv : Value.okWide Try.prog W r b0 45 v) (h : DataW.Trod enc Try.prog W 0 (fun _ => true) true 45 v d p) (hlt : ∀ x ∈ p, x.block < W.heap.size) :
    ∃ ls : List (List UInt8), RowsAt W v ls ∧ ls.length ≤ 140737488355328 := by
  obtain ⟨a0, len, cap, rfl⟩ := okWide_slice Try.underlying45 hv
  obtain ⟨fuel, hf⟩ := h
  rcases open_int_rows Try.underlying45 Try.underlying27 Try.underlying5 cellsS cellsU hf with ⟨hcs, hx⟩ | ⟨a, len', cap', A, L, C, Z, hcs, _, hl, hm, hx, hall⟩
  · simp [Value.cells] at hcs
    obtain ⟨rfl, rfl, rfl⟩ := hcs
    exact ⟨[], ⟨[], Sl.nil_ _ _, fun r hr => by simp at hr, rfl⟩, by simp⟩
  · simp [Value.cells] at hcs
    obtain ⟨rfl, rfl, rfl⟩ := hcs
    simp only [Prod.mk.injEq] at hx
    obtain ⟨rfl, rfl⟩ := hx
    have hlen : len ≤ 140737488355328 := by
      have := sized_slice hsz (j := j) (t := 45) (e := 27) ht hd Try.underlying45
      rw [bytesS] at this
      simp only [reachBytes, List.length_map, List.length_range] at this
      omega
    refine ⟨(List.range len).map fun r => (Z r |>.take (L r)).map fun n => UInt8.ofNat n.toNat, ⟨(List.range len).map fun r => ((A r, L r, C r), (Z r |>.take (L r)).map fun n => UInt8.ofNat n.toNat), ?_, ?_, ?_⟩, by simpa using hlen⟩
    · refine ⟨some a, cap, by simp, by simpa using hl, fun hn => ?_⟩
      have hl0 : 0 < len := by
        rcases Nat.eq_zero_or_pos len with h0 | h0
        · subst h0; simp at hn
        · exact h0
      obtain ⟨b, off, spot⟩ := a
      have hspot : spot = none := by simpa [Addr.add] using World.cell?_spot (hall 0 (by omega)).1
      subst hspot
      have hbW : b < W.heap.size := hlt (.cell b off) (List.mem_append_left _ (MemPlace.mem_row.2 ⟨0, by omega, by simp⟩))
      refine ⟨b, off, rfl, hbW, fun i u hu => ?_⟩
      have hi : i < len := by have := (List.getElem?_eq_some_iff.1 hu).1; simpa using this
      have h1 := (hall i (by omega)).1
      rw [add_plain] at h1
      rw [h1]
      simp [hi] at hu
      subst hu
      rfl
    · intro x hx
      obtain ⟨i, hi, rfl⟩ := List.mem_map.1 hx
      have hi' : i < len := by simpa using hi
      obtain ⟨h1, h2, h3, h4, h5, h6, h7⟩ := hall i (by omega)
      refine sl_of_cells h2 h4 h5 h6 (fun a' ha' c hc => (h7 a' ha').2 c hc) fun a' ha' hc => ?_
      refine hlt (.cell a'.block a'.off) (List.mem_append_right _ (List.mem_flatMap.2 ⟨i, by simp; omega, ?_⟩))
      have ha2 : A i = some a' := ha'
      have hc2 : 0 < C i := hc
      rw [ha2]
      exact MemPlace.mem_row.2 ⟨0, by omega, by simp⟩
    · simp

end Go.Proofs.Ytoicncmlmhljmaa
