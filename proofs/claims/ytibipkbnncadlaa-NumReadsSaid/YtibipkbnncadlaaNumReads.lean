/-
  hedgerowlaw02.NumReads answers true for all bytes and all rows of acts, and leaves all memory as it was. Conditions: none.
-/
import Derived.Test.YtibipkbnncadlaaNumReadsWalk
import Derived.Test.YtibipkbnncadlaaArgs
import Derived.Deep.SlicePairs
namespace Go.Proofs.Ytibipkbnncadlaa
open Go.ChangeShapes Go.WideShapes Go.ChangeAt Go.RowKit Go.Deep

theorem cellsB : Try.prog.cellsOf 5 = 1 := by kernel_rfl
theorem cellsInt : Try.prog.cellsOf 3 = 1 := by kernel_rfl
theorem cellsAct : Try.prog.cellsOf 37 = 2 := by kernel_rfl

/-- A slice of acts that came in. -/
theorem acts_in {H : Type} {enc : TypeId × Value → H} {W : World} {v : Value} {d : DataW H} {p : List MemPlace} {r : Reach} {b0 : Nat}
    (hv : Value.okWide Try.prog W r b0 32 v) (h : DataW.Trod enc Try.prog W 0 (fun _ => true) true 32 v d p) (hlt : ∀ x ∈ p, x.block < W.heap.size) :
    ∃ (A2 : Option Addr) (c2 : Nat) (zs : List (Nat × Int)), v = .slice A2 zs.length c2 ∧
      ∀ k, k < zs.length → ∃ b o, A2 = some ⟨b, o, none⟩ ∧ b < W.heap.size ∧ ∀ j z, zs[j]? = some z → W.cell? ⟨b, o + j * 2, none⟩ = some (.int .u8 z.1) ∧ W.cell? ⟨b, o + j * 2 + 1, none⟩ = some (.int .i64 z.2) ∧ z.1 < 256 := by
  obtain ⟨a0, len, cap, rfl⟩ := okWide_slice Try.underlying32 hv
  obtain ⟨fuel, hf⟩ := h
  rcases open_slice_pairs Try.underlying32 Try.underlying37 cellsAct rfl rfl cellsB cellsInt hf with ⟨hcs, hx⟩ | ⟨a, len', cap', m, n, V0, V1, D0, D1, P0, P1, hcs, _, hl, hm, hmm, hx, hcell⟩
  · simp [Value.cells] at hcs
    obtain ⟨rfl, rfl, rfl⟩ := hcs
    exact ⟨none, 0, [], rfl, fun k hk => by simp at hk⟩
  · simp [Value.cells] at hcs
    obtain ⟨rfl, rfl, rfl⟩ := hcs
    simp only [if_true] at hmm
    subst hmm
    simp only [Prod.mk.injEq] at hx
    obtain ⟨rfl, rfl⟩ := hx
    have each : ∀ i, ∃ z : Nat × Int, i < len → W.cell? (a.add (i * 2)) = some (.int .u8 z.1) ∧ W.cell? (a.add (i * 2 + 1)) = some (.int .i64 z.2) ∧ z.1 < 256 := by
      intro i
      by_cases hi : i < len
      · obtain ⟨h1, h2, h3, h4⟩ := hcell i (by omega)
        obtain ⟨x, e0, _, wx⟩ := DataW.trod_int Try.underlying5 h3
        obtain ⟨y, e1, _, wy⟩ := DataW.trod_int Try.underlying3 h4
        simp at e0 e1
        have hb := u8_bounds wx
        refine ⟨(x.toNat, y), fun _ => ⟨by rw [h1, e0]; simp only [Int.toNat_of_nonneg hb.1], by rw [h2, e1], by simp only; omega⟩⟩
      · exact ⟨(0, 0), fun h => absurd h hi⟩
    obtain ⟨f, hf⟩ := Classical.axiomOfChoice each
    refine ⟨some a, m, (List.range len).map f, by simp, fun k hk => ?_⟩
    have hl0 : 0 < len := by simp at hk; omega
    obtain ⟨b, off, spot⟩ := a
    have hspot : spot = none := by simpa [Addr.add] using World.cell?_spot (hf 0 hl0).1
    subst hspot
    have hbW : b < W.heap.size := hlt (.cell b off) (List.mem_append_left _ (MemPlace.mem_row.2 ⟨0, by omega, by simp⟩))
    refine ⟨b, off, rfl, hbW, fun j z hz => ?_⟩
    have hj : j < len := by have := (List.getElem?_eq_some_iff.1 hz).1; simpa using this
    have hz' : f j = z := by simpa [hj] using hz
    subst hz'
    obtain ⟨h1, h2, h3⟩ := hf j hj
    rw [add_plain] at h1 h2
    exact ⟨h1, by rw [Nat.add_assoc]; exact h2, h3⟩

set_option maxRecDepth 100000 in
theorem reads_lifted (os : Os) (started : os.Started) (H : Type) (enc : TypeId × Value → H) :
    ReturnsInHanded {} Try.checked os 4 .any (Rows.numReadsSpec.pre6 enc Try.prog Try.f4 Rows.numReadsRow.domain false) (Rows.numReadsSpec.post enc Try.prog Try.f4 false true false false) := by
  refine returnsInHanded_of_change (C := Try.checked) Try.own started (by kernel_rfl) Try.func4
    (ChangeSpec.witness6 (enc := enc) (C := Try.checked) false ⟨#[], #[.slice none 0 0, .slice none 0 0], []⟩ 8 (by kernel_rfl) (by kernel_rfl) (by kernel_rfl) (by kernel_rfl)) ?_
  intro W base args ds gs before hval0 hW _ _
  have hval : ∀ (j : Nat) t v, Try.f4.params[j]? = some t → args[j]? = some v → Value.okWide Try.prog W .any base t v := hval0
  have hW' := hW
  obtain ⟨p, q, hA0, hV, rfl, _, _⟩ := hW
  have hA : DataW.TrodAll enc Try.prog W 0 (fun _ => true) true Try.f4.params.toList args.toList ds p := hA0
  rw [Try.params4] at hA hval
  obtain ⟨v0, v1, d0, d1, p0, p1, rfl, rfl, rfl, h0, h1⟩ := trodAll_two hA
  obtain ⟨rfl, rfl⟩ := trodVars_none hV
  clear hA0 hval0
  have hlt : ∀ x ∈ p0 ++ p1, x.block < W.heap.size := fun x hx => by simpa using hW'.lt x (List.mem_append_left _ hx)
  obtain ⟨l, hs⟩ := sl_bytes Try.underlying22 Try.underlying5 cellsB (hval 0 22 v0 rfl rfl) h0 (fun x hx => hlt x (List.mem_append_left _ hx))
  obtain ⟨A2, c2, zs, rfl, hz⟩ := acts_in (hval 1 32 v1 rfl rfl) h1 (fun x hx => hlt x (List.mem_append_right _ hx))
  refine (reads_walk v0 l A2 c2 zs W hs hz).mono fun e W' ⟨he, hb⟩ => ?_
  subst he
  exact ⟨_, rfl, law_post Try.laidOut hW' rfl (of_decide_eq_true (by kernel_rfl)) (by kernel_rfl) Try.underlying4 rfl rfl rfl hb⟩

theorem reads_holds : Rows.NumReadsSaid :=
  OpenClaim.holds_of_wide 4 Try.f4 rfl rfl rfl rfl rfl rfl rfl ⟨rfl, rfl, rfl, rfl, rfl⟩ rfl rfl rfl rfl rfl (by kernel_rfl) Try.func4 (by kernel_rfl)
    (of_decide_eq_true (by kernel_rfl)) (by unfold Func.isWrapper; first | (rw [if_pos (by decide +kernel)]; kernel_rfl) | (rw [if_neg (by decide +kernel)]; exact ⟨rfl, rfl⟩))
    (fun os started H enc _ => reads_lifted os started H enc)

end Go.Proofs.Ytibipkbnncadlaa
