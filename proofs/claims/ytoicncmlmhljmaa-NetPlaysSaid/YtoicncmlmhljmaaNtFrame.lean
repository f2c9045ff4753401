/-
  A frame of the walk of NetPlays; a part of a function's code; the ways through a statement meet, whatever the frame. Conditions: none.
-/
import Derived.Test.YtoicncmlmhljmaaNtPlayB
namespace Go.Proofs.Ytoicncmlmhljmaa
open Go.RowKit

/-- A part of a code: 0 is what comes first, 1 what follows; a block's body is 0. -/
noncomputable def codeAt : List Nat → Code → Code
  | [], c => c
  | 0 :: p, .seq a _ => codeAt p a
  | _ :: p, .seq _ b => codeAt p b
  | 0 :: p, .cond _ a _ => codeAt p a
  | _ :: p, .cond _ _ b => codeAt p b
  | _ :: p, .block _ c => codeAt p c
  | _ :: p, .loop c => codeAt p c
  | _ :: p, .scope c => codeAt p c
  | _ :: _, c => c
theorem wp_cut_at {P : Program} {s : Code} {K : Act → World → Prop} {Q' : Exit → Act → World → Prop} {a : Act} {w : World} (R : Act → Act → World → Prop)
    (rest : ∀ a' w', R a a' w' → K a' w') (first : ∀ K' : Act → World → Prop, (∀ a' w', R a a' w' → K' a' w') → s.wp P (Exit.then K' Q') a w) : s.wp P (Exit.then K Q') a w :=
  wp_cut (R a) rest fun _ K' hJ hK => first K' fun a' w' h => hK a' w' (Met.intro (hJ a' w' h))
theorem arr_of (l : Array Value) (n : Nat) (h : l.size = n) : l = ((List.range n).map fun i => l.getD i undef).toArray := by
  subst h
  apply Array.ext
  · simp
  · intro i h1 h2
    simp [Array.getD, h1]
set_option maxRecDepth 100000 in
theorem frame243 (a : Act) (hs : a.tmps.size = 243) (hd : a.defers = []) : ∃ t : Nat → Value, a = ⟨#[t 0, t 1, t 2, t 3, t 4, t 5, t 6, t 7, t 8, t 9, t 10, t 11, t 12, t 13, t 14, t 15, t 16, t 17, t 18, t 19, t 20, t 21, t 22, t 23, t 24, t 25, t 26, t 27, t 28, t 29, t 30, t 31, t 32, t 33, t 34, t 35, t 36, t 37, t 38, t 39, t 40, t 41, t 42, t 43, t 44, t 45, t 46, t 47, t 48, t 49, t 50, t 51, t 52, t 53, t 54, t 55, t 56, t 57, t 58, t 59, t 60, t 61, t 62, t 63, t 64, t 65, t 66, t 67, t 68, t 69, t 70, t 71, t 72, t 73, t 74, t 75, t 76, t 77, t 78, t 79, t 80, t 81, t 82, t 83, t 84, t 85, t 86, t 87, t 88, t 89, t 90, t 91, t 92, t 93, t 94, t 95, t 96, t 97, t 98, t 99, t 100, t 101, t 102, t 103, t 104, t 105, t 106, t 107, t 108, t 109, t 110, t 111, t 112, t 113, t 114, t 115, t 116, t 117, t 118, t 119, t 120, t 121, t 122, t 123, t 124, t 125, t 126, t 127, t 128, t 129, t 130, t 131, t 132, t 133, t 134, t 135, t 136, t 137, t 138, t 139, t 140, t 141, t 142, t 143, t 144, t 145, t 146, t 147, t 148, t 149, t 150, t 151, t 152, t 153, t 154, t 155, t 156, t 157, t 158, t 159, t 160, t 161, t 162, t 163, t 164, t 165, t 166, t 167, t 168, t 169, t 170, t 171, t 172, t 173, t 174, t 175, t 176, t 177, t 178, t 179, t 180, t 181, t 182, t 183, t 184, t 185, t 186, t 187, t 188, t 189, t 190, t 191, t 192, t 193, t 194, t 195, t 196, t 197, t 198, t 199, t 200, t 201, t 202, t 203, t 204, t 205, t 206, t 207, t 208, t 209, t 210, t 211, t 212, t 213, t 214, t 215, t 216, t 217, t 218, t 219, t 220, t 221, t 222, t 223, t 224, t 225, t 226, t 227, t 228, t 229, t 230, t 231, t 232, t 233, t 234, t 235, t 236, t 237, t 238, t 239, t 240, t 241, t 242], []⟩ ∧ ∀ i, a.tmps.getD i undef = t i := by
  obtain ⟨tm, df⟩ := a
  simp only at hs hd
  subst hd
  obtain ⟨t, ht⟩ : ∃ t : Nat → Value, t = fun i => tm.getD i undef := ⟨_, rfl⟩
  refine ⟨t, ?_, fun i => by rw [ht]⟩
  have h := arr_of tm 243 hs
  rw [← ht] at h
  rw [h]
  rfl

end Go.Proofs.Ytoicncmlmhljmaa
