/-
  Slices of tokens. Conditions: none.
-/
import Derived.Test.YtmmphgapginmjaaDoorLxFirst
import Derived.Test.YtmmphgapginmjaaDoorSlK
import Derived.Lib.AppendZeros
namespace Go.Proofs.YtmmphgapginmjaaDoor
open Go.RowKit

def encT (t : Lx.Tk) : List Value := [.int .i64 t.1, .int .i64 t.2.1, .string ⟨t.2.2.toArray⟩]
theorem encT_len (t : Lx.Tk) : (encT t).length = 3 := rfl
theorem encT_one : ∀ t, ∀ v ∈ encT t, v.oneCell' = true := by
  intro t v hv
  simp only [encT, List.mem_cons, List.not_mem_nil, or_false] at hv
  rcases hv with rfl | rfl | rfl <;> rfl
theorem infoTkA : (Tryd.prog.info? 30).map (fun i => (i.zero, i.size, i.bytes)) = some (some (tkV (0, 0, [])), 3, 32) := by kernel_rfl
theorem infoTkK : ∃ i, Tryd.prog.info? 30 = some i ∧ i.zero = some (tkV (0, 0, [])) ∧ i.size = 3 ∧ i.bytes = 32 := info_parts infoTkA
theorem SlK.tk {w : World} {A : Option Addr} {n c j : Nat} {l : List Lx.Tk} {t : Lx.Tk} (h : SlK encT 3 w (.slice A n c) l) (hj : l[j]? = some t) : ∃ g o, A = some ⟨g, o, none⟩ ∧ g < w.heap.size ∧ w.rangeAt g (o + j * 3) (encT t) := by
  obtain ⟨A', c', hv', _, hcells⟩ := h
  obtain ⟨g, o, rfl, hgl, hcell⟩ := hcells (fun e => by rw [e] at hj; cases hj)
  injection hv' with e1 e2 e3
  exact ⟨g, o, e1, hgl, hcell j t hj⟩
section
variable {α : Type} {enc : α → List Value} {k : Nat} {w w' : World} {v : Value} {l : List α} {base : Nat} {e : TypeId}
theorem OwnK.keep (h : OwnK enc base e k w v l) (hb : Below w.heap.size w w') : OwnK enc base e k w' v l := h.same fun g hg => hb.block g (h.lt g hg).2
theorem OwnK.base_ (h : OwnK enc base e k w v l) {b' : Nat} (hb : b' ≤ base) : OwnK enc b' e k w v l := by
  refine ⟨h.1, ?_⟩
  rcases h.2 with h2 | ⟨g, cap, cur, h3, h4, h5⟩
  · exact .inl h2
  · exact .inr ⟨g, cap, cur, h3, Nat.le_trans hb h4, h5⟩
end
theorem append_tk (R : Nat) (w : World) (v : Value) (xs : List Lx.Tk) (hown : OwnK encT R 30 3 w v xs) (v2 : Value) (l : List Lx.Tk) (hl : SlK encT 3 w v2 l) (hn : xs.length + l.length ≤ 1000000) (hR : R ≤ w.heap.size) :
    ∃ v' w', (Builtin.append_ #[24, 24] 24 #[v, v2]).run Tryd.prog w = .ok v' w' ∧ OwnK encT R 30 3 w' v' (xs ++ l) ∧ w.grownBy w' v.ownBlock := by
  obtain ⟨i, hi, hz0, hz1, hz2⟩ := infoTkK
  exact run_append_K (P := Tryd.prog) encT_len (by decide) w R 24 24 30 i _ 32 Tryd.underlying24 hi hz0 hz1 hz2 rfl v xs hown v2 l hl (fun e => encT_one e) (by omega) (by omega) hR
theorem sl_oneT (t : Lx.Tk) (w : World) : SlK encT 3 (w.alloc (.cells (tkC t) 30)) (.slice (some ⟨w.heap.size, 0, none⟩) 1 1) [t] := ⟨_, _, rfl, Nat.le_refl _, fun _ => ⟨w.heap.size, 0, rfl, by simp, fun q y hq => by
  have hq0 : q = 0 := by have := (List.getElem?_eq_some_iff.1 hq).1; simp at this; exact this
  subst hq0
  have hy : y = t := by simpa using hq.symm
  subst hy
  intro i u hu
  rw [Blk.cell (Blk.new w _ _)]
  simpa [encT, tkC] using hu⟩⟩
/-- Append of one token that lies in a block of its own: what the call keeps. -/
theorem append_one (R : Nat) (w : World) (v : Value) (xs : List Lx.Tk) (t : Lx.Tk) (hown : OwnK encT R 30 3 w v xs) (hn : xs.length + 1 ≤ 1000000) (hR : R ≤ w.heap.size) :
    ∃ v' w', (Builtin.append_ #[24, 24] 24 #[v, .slice (some ⟨w.heap.size, 0, none⟩) 1 1]).run Tryd.prog (w.alloc (.cells (tkC t) 30)) = .ok v' w' ∧ OwnK encT R 30 3 w' v' (xs ++ [t]) ∧ Below R w w' := by
  have hal : Below w.heap.size w (w.alloc (.cells (tkC t) 30)) := alloc_below _ _
  obtain ⟨v', w', h1, h2, h3⟩ := append_tk R _ v xs (hown.keep hal) _ [t] (sl_oneT t w) (by simpa using hn) (Nat.le_trans hR hal.size)
  exact ⟨v', w', h1, h2, (hal.mono hR).grown h3 (by rw [show (w.alloc (.cells (tkC t) 30)).heap.size = w.heap.size + 1 by simp]; omega) (fun g hg => (hown.lt g hg).1)⟩

end Go.Proofs.YtmmphgapginmjaaDoor
