/-
  What a walk over two stores leans on. RESLICING, whatever the slice (nil, empty, cut at its end). Conditions: lengths.
-/import Derived.Test.YtdgglhlofnigkaaGreatDoorStCausal
import Derived.Test.YtdgglhlofnigkaaGreatDoorJStGG
import Derived.Test.YtdgglhlofnigkaaGreatDoorJWords
namespace Go.Proofs.YtdgglhlofnigkaaGreatDoor
open Go.RowKit Go.MapKept Go.Sort
theorem causC_mem (l : List Ev) : ∀ e ∈ (causC l).1, e ∈ l := by
 suffices h : ∀ (l : List Ev) (s : List Ev × (Nat → Int)), ∀ e ∈ (l.foldl comeC s).1, e ∈ s.1 ∨ e ∈ l by
  intro e he
  rcases h l ([], fun _ => 0) e he with h | h
  ·cases h
  ·exact h
 intro l
 induction l with
 | nil => intro s e h; exact .inl h
 | cons a l ih =>
  intro s e h
  rcases ih (comeC s a) e h with h | h
  ·unfold comeC at h
   split at h
   ·rcases List.mem_append.1 h with h | h
    ·exact .inl h
    ·exact .inr (by rw [List.mem_singleton.1 h]; exact List.mem_cons_self ..)
   ·exact .inl h
  ·exact .inr (List.mem_cons_of_mem _ h)
theorem at_Ev0 (g c n k : Nat) (h : k < n) (w : World) : (Instr.indexAt 22 (.slice (some ⟨g, 0, none⟩) n c) (.int .i64 k)).run Tryz.prog w = .ok (.pointer (some ⟨g, k * 27, none⟩)) w := by
 have h2 : (k : Int) < n := by omega
 go_simp
open Go.RowKit
section
variable {P : Program}
theorem bound_ok (w : World) (k y : Nat) (code : BoundsCode) (h : k ≤ y) : (Instr.sliceBound (.int .i64 k) y code).run P w = .ok k w := by
 unfold Instr.sliceBound
 have : (k : Int) ≤ (y : Int) := by omega
 simp [asIntOf, this]
end
end Go.Proofs.YtdgglhlofnigkaaGreatDoor
