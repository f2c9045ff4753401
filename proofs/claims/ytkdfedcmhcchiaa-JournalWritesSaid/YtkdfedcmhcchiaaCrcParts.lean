/-
  append onto rows of the call's own. Conditions: bounds on lengths.
-/
import Derived.Test.YtkdfedcmhcchiaaCrcAdd
import Derived.Test.YtkdfedcmhcchiaaRows
import Derived.Test.YtkdfedcmhcchiaaStrs
import Derived.Lib.AppendZeros
namespace Go.Proofs.Ytkdfedcmhcchiaa
open Go.RowKit

theorem infoB : (Try.prog.info? 5).map (fun i => (i.zero, i.size, i.bytes)) = some (some (.int .u8 0), 1, 1) := by kernel_rfl

/-- append onto an empty row just laid, whatever the source. -/
theorem append_fresh (w : World) (v : Value) (l : List UInt8) (hs : Sl bv w v l) (hlen : l.length ≤ 140737488355328) :
    ∃ v' w', (Builtin.append_ #[34, 34] 34 #[.slice (some ⟨w.heap.size, 0, none⟩) 0 0, v]).run Try.prog (w.alloc (.cells #[] 5)) = .ok v' w' ∧ w'.ownsRow w.heap.size 5 1 v' l.length (bs l) ∧ Below w.heap.size w w' := by
  obtain ⟨i0, hi, hz0, hz1, hz2⟩ := info_parts infoB
  have hw1 : (w.alloc (.cells #[] 5)).ownsRow w.heap.size 5 1 (.slice (some ⟨w.heap.size, 0, none⟩) 0 0) 0 [] := World.ownsRow_made w #[] 0 (Nat.le_refl _) (by unfold maxLen; omega) rfl
  have hs1 := hs.alloc (.cells #[] 5)
  obtain ⟨v', w2, hr, ho2, hg2⟩ := run_append_sl (P := Try.prog) (w.alloc (.cells #[] 5)) w.heap.size 34 34 5 i0 (.int .u8 0) 1 Try.underlying34 hi hz0 hz1 hz2 rfl _ _ _ hw1 _ _ hs1 (fun _ => rfl) (by omega) (by omega) (by simp)
  have hb2 : Below w.heap.size w w2 := ((Below.refl _ _).alloc (Nat.le_refl _) _).grown hg2 (by simp) (fun k hk => (hw1.lt k hk).1)
  simp only [Nat.zero_add, List.nil_append] at ho2
  exact ⟨v', w2, hr, ho2, hb2⟩
/-- append onto a row of the call's own. -/
theorem append_more (w0 w : World) (v0 : Value) (l0 : List UInt8) (ho : w.ownsRow w0.heap.size 5 1 v0 l0.length (bs l0)) (hb : Below w0.heap.size w0 w) (v : Value) (l : List UInt8) (hs : Sl bv w v l) (hlen : l0.length + l.length ≤ 140737488355328) :
    ∃ v' w', (Builtin.append_ #[34, 34] 34 #[v0, v]).run Try.prog w = .ok v' w' ∧ w'.ownsRow w0.heap.size 5 1 v' (l0 ++ l).length (bs (l0 ++ l)) ∧ Below w0.heap.size w0 w' := by
  obtain ⟨i0, hi, hz0, hz1, hz2⟩ := info_parts infoB
  obtain ⟨v', w2, hr, ho2, hg2⟩ := run_append_sl (P := Try.prog) w w0.heap.size 34 34 5 i0 (.int .u8 0) 1 Try.underlying34 hi hz0 hz1 hz2 rfl _ _ _ ho _ _ hs (fun _ => rfl) (by omega) (by omega) hb.size
  exact ⟨v', w2, hr, by rw [List.length_append, bs_append]; exact ho2, hb.grown hg2 hb.size (fun k hk => (ho.lt k hk).1)⟩

/-- One element of a slice, as a slice. -/
theorem Sl.one {α : Type} {f : α → Value} {w : World} {b o n c : Nat} {l : List α} (h : Sl f w (.slice (some ⟨b, o, none⟩) n c) l) (k : Nat) (hk : k < l.length) (c2 : Nat) (hc2 : 1 ≤ c2) : Sl f w (.slice (some ⟨b, o + k, none⟩) 1 c2) [l[k]] := by
  obtain ⟨A, c', hv, hlc, hx⟩ := h
  injection hv with h1 h2 h3
  obtain ⟨b', o', hA, hb, hcell⟩ := hx (by rintro rfl; simp at hk)
  rw [← h1] at hA
  injection hA with hA
  injection hA with hA1 hA2
  subst hA1 hA2
  refine ⟨_, _, rfl, by simpa using hc2, fun _ => ⟨b, o + k, rfl, hb, fun j u hu => ?_⟩⟩
  have hj : j = 0 := by have := (List.getElem?_eq_some_iff.1 hu).1; simp at this; exact this
  subst hj
  simp at hu
  subst hu
  exact hcell k l[k] (List.getElem?_eq_getElem hk)

end Go.Proofs.Ytkdfedcmhcchiaa
