/-
  What a disk holds, in memory; what a call that turns a disk leaves as it was. Conditions: none.
-/
import Derived.Test.YtcaechfmeiklkaaDkPre
namespace Go.Proofs.Ytcaechfmeiklkaa
open Go.RowKit

theorem beq_str {X Y : ByteArray} {l m : List UInt8} (hX : X.data.toList = l) (hY : Y.data.toList = m) : (X.toList == Y.toList) = decide (l = m) := by
  rw [Lib.toList_data, Lib.toList_data, hX, hY]
  by_cases h : l = m <;> simp [h]

/-- Block g is a disk: its bytes, in the slice v, and how many of them are synced. -/
def Dk (w : World) (g : Nat) (v : Value) (l : List UInt8) (s : Nat) : Prop :=
  Blk w g 41 #[v, .int .i64 s] ∧ w.ownsRow 0 5 1 v l.length (bs l) ∧ s ≤ l.length ∧ l.length ≤ 1048576

/-- The call has turned disk g alone, whose bytes were in v and are in v': these may lie elsewhere now. -/
structure Mv (g : Nat) (v : Value) (w w' : World) (v' : Value) : Prop where
  os : w'.os = w.os
  tape : w'.tape = w.tape
  output : w'.output = w.output
  size : w.heap.size ≤ w'.heap.size
  block : ∀ k, k < w.heap.size → k ≠ g → v.ownBlock ≠ some k → w'.heap[k]? = w.heap[k]?
  fresh : v'.ownBlock = v.ownBlock ∨ ∀ k, v'.ownBlock = some k → w.heap.size ≤ k

theorem own_form {w : World} {B : Nat} {e : TypeId} {v : Value} {n : Nat} {xs : List Value} (h : w.ownsRow B e 1 v n xs) : ∃ A c, v = .slice A n c := by
  rcases h.2 with ⟨rfl, rfl⟩ | ⟨g, cap, cur, rfl, _⟩
  · exact ⟨_, _, rfl⟩
  · exact ⟨_, _, rfl⟩
theorem own_sl {w : World} {B : Nat} {e : TypeId} {v : Value} {l : List UInt8} (h : w.ownsRow B e 1 v l.length (bs l)) : Sl bv w v l := Sl.of_own h
/-- A block of another kind is not this row's. -/
theorem own_ne {w : World} {B : Nat} {e t : TypeId} {v : Value} {n : Nat} {xs : List Value} {g : Nat} {cs : Array Value} (h : w.ownsRow B e 1 v n xs) (hb : Blk w g t cs) (hne : e ≠ t) : v.ownBlock ≠ some g := by
  intro hv
  rcases h.2 with ⟨rfl, _⟩ | ⟨g', cap, cur, rfl, _, hg, _⟩
  · simp [Value.ownBlock] at hv
  · simp [Value.ownBlock] at hv
    subst hv
    unfold Blk at hb
    rw [hb] at hg
    simp only [Option.some.injEq, Obj.cells.injEq] at hg
    exact hne hg.2.1.symm
theorem own_at {w w' : World} {B B' : Nat} {e : TypeId} {v : Value} {n : Nat} {xs : List Value} (h : w.ownsRow B e 1 v n xs) (hk : ∀ k, v.ownBlock = some k → w'.heap[k]? = w.heap[k]?) (hB : ∀ k, v.ownBlock = some k → B' ≤ k) : w'.ownsRow B' e 1 v n xs := by
  refine ⟨h.1, h.2.elim Or.inl fun ⟨g, cap, cur, hv, hg, hx, r⟩ => Or.inr ⟨g, cap, cur, hv, hB g (by rw [hv]; rfl), ?_, r⟩⟩
  rw [hk g (by rw [hv]; rfl)]
  exact hx

theorem Dk.lt {w : World} {g : Nat} {v : Value} {l : List UInt8} {s : Nat} (h : Dk w g v l s) : g < w.heap.size := h.1.lt
theorem Dk.vlt {w : World} {g : Nat} {v : Value} {l : List UInt8} {s : Nat} (h : Dk w g v l s) : ∀ k, v.ownBlock = some k → k < w.heap.size := fun k hk => (h.2.1.lt k hk).2
theorem Dk.ne {w : World} {g : Nat} {v : Value} {l : List UInt8} {s : Nat} (h : Dk w g v l s) : v.ownBlock ≠ some g := own_ne h.2.1 h.1 (by decide)
theorem Dk.sl {w : World} {g : Nat} {v : Value} {l : List UInt8} {s : Nat} (h : Dk w g v l s) : Sl bv w v l := own_sl h.2.1
theorem Dk.form {w : World} {g : Nat} {v : Value} {l : List UInt8} {s : Nat} (h : Dk w g v l s) : ∃ A c, v = .slice A l.length c := own_form h.2.1
theorem Dk.at_ {w w' : World} {g : Nat} {v : Value} {l : List UInt8} {s : Nat} (h : Dk w g v l s) (hg : w'.heap[g]? = w.heap[g]?) (hv : ∀ k, v.ownBlock = some k → w'.heap[k]? = w.heap[k]?) : Dk w' g v l s :=
  ⟨hg.trans h.1, own_at h.2.1 hv (fun _ _ => Nat.zero_le _), h.2.2⟩
theorem Dk.below {w w' : World} {g : Nat} {v : Value} {l : List UInt8} {s : Nat} (h : Dk w g v l s) (hb : Below w.heap.size w w') : Dk w' g v l s :=
  h.at_ (hb.block g h.lt) (fun k hk => hb.block k (h.vlt k hk))

section
variable {g : Nat} {v v' : Value} {w w' : World}
theorem Mv.below {B : Nat} (h : Mv g v w w' v') (hg : B ≤ g) (hv : ∀ k, v.ownBlock = some k → B ≤ k) (hB : B ≤ w.heap.size) : Below B w w' :=
  ⟨h.os, h.tape, h.output, h.size, fun k hk => h.block k (by omega) (by omega) (fun e => by have := hv k e; omega)⟩
theorem Mv.own {B : Nat} (h : Mv g v w w' v') (hv : ∀ k, v.ownBlock = some k → B ≤ k) (hB : B ≤ w.heap.size) : ∀ k, v'.ownBlock = some k → B ≤ k := by
  intro k hk
  rcases h.fresh with e | e
  · exact hv k (e ▸ hk)
  · exact Nat.le_trans hB (e k hk)
/-- Another disk stays. -/
theorem Mv.far {h : Nat} {u : Value} {m : List UInt8} {t : Nat} {l : List UInt8} {s : Nat} (hm : Mv g v w w' v') (hd : Dk w g v l s) (hk : Dk w h u m t) (hne : h ≠ g) (hu : ∀ k, u.ownBlock = some k → v.ownBlock ≠ some k) : Dk w' h u m t :=
  hk.at_ (hm.block h hk.lt hne (own_ne hd.2.1 hk.1 (by decide))) (fun k e => hm.block k (hk.vlt k e) (fun eg => own_ne hk.2.1 hd.1 (by decide) (eg ▸ e)) (hu k e))
/-- So does a row of bytes. -/
theorem Mv.row {B : Nat} {u : Value} {n : Nat} {xs : List Value} {l : List UInt8} {s : Nat} (hm : Mv g v w w' v') (hd : Dk w g v l s) (hk : w.ownsRow B 5 1 u n xs) (hu : ∀ k, u.ownBlock = some k → v.ownBlock ≠ some k) : w'.ownsRow B 5 1 u n xs :=
  own_at hk (fun k e => hm.block k (hk.lt k e).2 (fun eg => own_ne hk hd.1 (by decide) (eg ▸ e)) (hu k e)) (fun k e => (hk.lt k e).1)
/-- What lies apart from the disk's bytes lies apart from where they are then. -/
theorem Mv.apart {u : Value} (hm : Mv g v w w' v') (hl : ∀ k, u.ownBlock = some k → k < w.heap.size) (hu : ∀ k, u.ownBlock = some k → v.ownBlock ≠ some k) : ∀ k, u.ownBlock = some k → v'.ownBlock ≠ some k := by
  intro k e e'
  rcases hm.fresh with h | h
  · exact hu k e (h ▸ e')
  · have := h k e'; have := hl k e; omega
theorem Mv.refl (g : Nat) (v : Value) (w : World) : Mv g v w w v := ⟨rfl, rfl, rfl, Nat.le_refl _, fun _ _ _ _ => rfl, .inl rfl⟩
end

/-- append onto a row of the call's own, whatever the source: its run, what it leaves, and where that lies. -/
theorem append_at (w : World) (v : Value) (n : Nat) (xs : List Value) (hown : w.ownsRow 0 5 1 v n xs) (v2 : Value) (l : List UInt8) (hl : Sl bv w v2 l) (hnm : n + l.length ≤ 140737488355328) :
    ∃ v' w', (Builtin.append_ #[26, 26] 26 #[v, v2]).run Try.prog w = .ok v' w' ∧ w'.ownsRow 0 5 1 v' (n + l.length) (xs ++ bs l) ∧ w.grownBy w' v.ownBlock ∧ (v'.ownBlock = v.ownBlock ∨ ∀ k, v'.ownBlock = some k → w.heap.size ≤ k) := by
  obtain ⟨i0, hi, hz0, hz1, hz2⟩ := info_parts infoB
  obtain ⟨A, c, rfl, hlc, hx⟩ := hl
  have h63 : n + l.length ≤ maxLen := by unfold maxLen; omega
  by_cases hn : l = []
  · subst hn
    rcases A with _ | ad
    · refine ⟨v, w, ?_, by simpa [bs] using hown, World.grownBy.refl w _, .inl rfl⟩
      rcases hown.2 with ⟨rfl, rfl⟩ | ⟨g, cap, cur, rfl, _, _, hnc, _⟩
      · simp [Builtin.append_, run_underlying Try.underlying26, sizeOf, typeInfo, hi, Builtin.lenOf, Builtin.firstCells]
      · simp [Builtin.append_, run_underlying Try.underlying26, sizeOf, typeInfo, hi, Builtin.lenOf, Builtin.firstCells, hnc, storeCells]
    · obtain ⟨v', w', hr, h2, h3, _, h5⟩ := run_append_own_at (P := Try.prog) w 0 26 26 5 i0 (.int .u8 0) 1 1 Try.underlying26 hi hz0 hz1 hz2 rfl (by omega) v n xs hown ad 0 c [] rfl (by simp) (by simp) (by simpa using h63) (by simp at hnm; omega) (Nat.zero_le _)
      exact ⟨v', w', hr, by simpa [bs] using h2, h3, h5.imp id fun e k hk => by rw [e] at hk; cases hk; exact Nat.le_refl _⟩
  · obtain ⟨b, o, rfl, hb, hcell⟩ := hx hn
    obtain ⟨v', w', hr, h2, h3, _, h5⟩ := run_append_own_at (P := Try.prog) w 0 26 26 5 i0 (.int .u8 0) 1 1 Try.underlying26 hi hz0 hz1 hz2 rfl (by omega) v n xs hown ⟨b, o, none⟩ l.length c (bs l) (by simp [bs])
      (fun j u hu => by
        obtain ⟨x, hx1, rfl⟩ : ∃ x, l[j]? = some x ∧ bv x = u := by simpa [bs] using hu
        rw [Addr.add_lit]; exact hcell j x hx1) (bs_one l) h63 (by omega) (Nat.zero_le _)
    exact ⟨v', w', hr, h2, h3, h5.imp id fun e k hk => by rw [e] at hk; cases hk; exact Nat.le_refl _⟩

end Go.Proofs.Ytcaechfmeiklkaa
