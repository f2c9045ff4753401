/-
  expr.ruleOf, leftRule; words and signs of the grammar; what spell tells, as items. Conditions: lengths.
-/
import Derived.Test.YtdabanocofimmaaGreatDoorExVar
namespace Go.Proofs.YtdabanocofimmaaGreatDoor
open Go.RowKit

def ruleI (k : Int) : Int := if k = 1 ∨ k = 2 ∨ k = 3 ∨ k = 4 then 6 else if k = 5 then 2 else if k = 8 then 0 else if k = 9 then 1 else if k = 16 ∨ k = 17 then 4 else if k = 18 then 5 else 3
def leftI (r : Int) : Int := if r = 3 then 4 else r
set_option maxRecDepth 100000 in
set_option maxHeartbeats 2000000 in
theorem ruleOf_any (k : Int) (w : World) : Calls Tryz.prog 26 #[.int .i64 k] w (SameV w (.int .i64 (ruleI k))) := by
  by_cases hk : k = 1 ∨ k = 2 ∨ k = 3 ∨ k = 4 ∨ k = 5 ∨ k = 8 ∨ k = 9 ∨ k = 16 ∨ k = 17 ∨ k = 18
  · rcases hk with rfl | rfl | rfl | rfl | rfl | rfl | rfl | rfl | rfl | rfl
    all_goals
      go_enter Tryz.func26, Tryz.ntmps26
      go_wp2
      go_ret
      exact ⟨rfl, rfl⟩
  · have hr : ruleI k = 3 := by
      unfold ruleI
      rw [if_neg (by omega), if_neg (by omega), if_neg (by omega), if_neg (by omega), if_neg (by omega), if_neg (by omega)]
    rw [hr]
    have h1 : (k == 1) = false := by rw [beq_eq_false_iff_ne]; omega
    have h2 : (k == 2) = false := by rw [beq_eq_false_iff_ne]; omega
    have h3 : (k == 3) = false := by rw [beq_eq_false_iff_ne]; omega
    have h4 : (k == 4) = false := by rw [beq_eq_false_iff_ne]; omega
    have h5 : (k == 5) = false := by rw [beq_eq_false_iff_ne]; omega
    have h8 : (k == 8) = false := by rw [beq_eq_false_iff_ne]; omega
    have h9 : (k == 9) = false := by rw [beq_eq_false_iff_ne]; omega
    have h16 : (k == 16) = false := by rw [beq_eq_false_iff_ne]; omega
    have h17 : (k == 17) = false := by rw [beq_eq_false_iff_ne]; omega
    have h18 : (k == 18) = false := by rw [beq_eq_false_iff_ne]; omega
    clear hk hr
    go_enter Tryz.func26, Tryz.ntmps26
    go_wp2
    go_ret
    exact ⟨rfl, rfl⟩
set_option maxRecDepth 100000 in
set_option maxHeartbeats 1000000 in
theorem leftRule_any (r : Int) (w : World) : Calls Tryz.prog 50 #[.int .i64 r] w (SameV w (.int .i64 (leftI r))) := by
  unfold leftI
  by_cases h : r = 3
  · subst h
    go_enter Tryz.func50, Tryz.ntmps50
    go_wp2
    go_ret
    exact ⟨rfl, rfl⟩
  · rw [if_neg h]
    have h3 : (r == 3) = false := by rw [beq_eq_false_iff_ne]; exact h
    clear h
    go_enter Tryz.func50, Tryz.ntmps50
    go_wp2
    go_ret
    exact ⟨rfl, rfl⟩
theorem mk_at (w : World) : Calls Tryz.prog 28 #[.string ⟨#[64]⟩] w (Gives w (.agg #[.int .i64 5, .int .i64 0, .string ⟨#[64]⟩])) := by
  have := mark_any ⟨#[64]⟩ w (by decide)
  rwa [show (markT (⟨#[64]⟩ : ByteArray).data.toList).1 = 5 by kernel_rfl] at this
theorem mk_dash (w : World) : Calls Tryz.prog 28 #[.string ⟨#[45]⟩] w (Gives w (.agg #[.int .i64 5, .int .i64 0, .string ⟨#[45]⟩])) := by
  have := mark_any ⟨#[45]⟩ w (by decide)
  rwa [show (markT (⟨#[45]⟩ : ByteArray).data.toList).1 = 5 by kernel_rfl] at this
theorem mk_true (w : World) : Calls Tryz.prog 28 #[.string ⟨#[84, 82, 85, 69]⟩] w (Gives w (.agg #[.int .i64 2, .int .i64 0, .string ⟨#[84, 82, 85, 69]⟩])) := by
  have := mark_any ⟨#[84, 82, 85, 69]⟩ w (by decide)
  rwa [show (markT (⟨#[84, 82, 85, 69]⟩ : ByteArray).data.toList).1 = 2 by kernel_rfl] at this
theorem mk_false (w : World) : Calls Tryz.prog 28 #[.string ⟨#[70, 65, 76, 83, 69]⟩] w (Gives w (.agg #[.int .i64 2, .int .i64 0, .string ⟨#[70, 65, 76, 83, 69]⟩])) := by
  have := mark_any ⟨#[70, 65, 76, 83, 69]⟩ w (by decide)
  rwa [show (markT (⟨#[70, 65, 76, 83, 69]⟩ : ByteArray).data.toList).1 = 2 by kernel_rfl] at this
theorem mk_null (w : World) : Calls Tryz.prog 28 #[.string ⟨#[78, 85, 76, 76]⟩] w (Gives w (.agg #[.int .i64 2, .int .i64 0, .string ⟨#[78, 85, 76, 76]⟩])) := by
  have := mark_any ⟨#[78, 85, 76, 76]⟩ w (by decide)
  rwa [show (markT (⟨#[78, 85, 76, 76]⟩ : ByteArray).data.toList).1 = 2 by kernel_rfl] at this
theorem mk_dot (w : World) : Calls Tryz.prog 28 #[.string ⟨#[46]⟩] w (Gives w (.agg #[.int .i64 5, .int .i64 0, .string ⟨#[46]⟩])) := by
  have := mark_any ⟨#[46]⟩ w (by decide)
  rwa [show (markT (⟨#[46]⟩ : ByteArray).data.toList).1 = 5 by kernel_rfl] at this
theorem mk_many (w : World) : Calls Tryz.prog 28 #[.string ⟨#[77, 65, 78, 89]⟩] w (Gives w (.agg #[.int .i64 2, .int .i64 0, .string ⟨#[77, 65, 78, 89]⟩])) := by
  have := mark_any ⟨#[77, 65, 78, 89]⟩ w (by decide)
  rwa [show (markT (⟨#[77, 65, 78, 89]⟩ : ByteArray).data.toList).1 = 2 by kernel_rfl] at this
theorem mk_open (w : World) : Calls Tryz.prog 28 #[.string ⟨#[40]⟩] w (Gives w (.agg #[.int .i64 5, .int .i64 0, .string ⟨#[40]⟩])) := by
  have := mark_any ⟨#[40]⟩ w (by decide)
  rwa [show (markT (⟨#[40]⟩ : ByteArray).data.toList).1 = 5 by kernel_rfl] at this
theorem mk_shut (w : World) : Calls Tryz.prog 28 #[.string ⟨#[41]⟩] w (Gives w (.agg #[.int .i64 5, .int .i64 0, .string ⟨#[41]⟩])) := by
  have := mark_any ⟨#[41]⟩ w (by decide)
  rwa [show (markT (⟨#[41]⟩ : ByteArray).data.toList).1 = 5 by kernel_rfl] at this
theorem mk_not (w : World) : Calls Tryz.prog 28 #[.string ⟨#[78, 79, 84]⟩] w (Gives w (.agg #[.int .i64 2, .int .i64 0, .string ⟨#[78, 79, 84]⟩])) := by
  have := mark_any ⟨#[78, 79, 84]⟩ w (by decide)
  rwa [show (markT (⟨#[78, 79, 84]⟩ : ByteArray).data.toList).1 = 2 by kernel_rfl] at this
theorem mk_is (w : World) : Calls Tryz.prog 28 #[.string ⟨#[73, 83]⟩] w (Gives w (.agg #[.int .i64 2, .int .i64 0, .string ⟨#[73, 83]⟩])) := by
  have := mark_any ⟨#[73, 83]⟩ w (by decide)
  rwa [show (markT (⟨#[73, 83]⟩ : ByteArray).data.toList).1 = 2 by kernel_rfl] at this
/-- What is told: a token, or a side and the rule that it must be of. -/
inductive Itm where
  | t (x : Lx.Tk)
  | s (i r : Int)
def valI (k n : Int) (s : List UInt8) : List Itm :=
  if k = 4 then [.t (Ex.sT [64]), .t (Ex.iT s)] else if k = 3 then [.t (4, 0, s)] else if k = 2 then (if n < 0 then [.t (Ex.sT [45]), .t (3, -n, [])] else [.t (3, n, [])]) else if k = 1 then (if n = 1 then [.t (Ex.wT Ex.kTRUE)] else [.t (Ex.wT Ex.kFALSE)]) else [.t (Ex.wT Ex.kNULL)]
def propI (e : Ex.X) : List Itm := [.t (Ex.iT e.v), .t (Ex.sT [46]), .t (Ex.iT e.p)]
def twoI (e : Ex.X) : List Itm := [.s e.l (leftI (ruleI e.k)), .t (markT (Ex.betw e.k)), .s e.r (ruleI e.k + 1)]
def spellI (e : Ex.X) : List Itm :=
  if e.k = 1 then valI e.vk e.vn e.vt
  else if e.k = 2 then [.t (Ex.iT e.v)]
  else if e.k = 3 then propI e
  else if e.k = 4 then .t (Ex.wT Ex.kMANY) :: .t (Ex.sT [40]) :: (propI e ++ [.t (Ex.sT [41])])
  else if e.k = 5 then [.t (Ex.wT Ex.kNOT), .s e.l 2]
  else if e.k = 6 then [.s e.l 4, .t (Ex.wT Ex.kIS), .t (Ex.wT Ex.kNULL)]
  else if e.k = 7 then [.s e.l 4, .t (Ex.wT Ex.kIS), .t (Ex.wT Ex.kNOT), .t (Ex.wT Ex.kNULL)]
  else twoI e
/-- Blocks that are safe are as they were, and safe. -/
def Fram (Safe : Nat → World → Prop) (w w' : World) : Prop := (w'.os = w.os ∧ w'.tape = w.tape ∧ w'.output = w.output ∧ w.heap.size ≤ w'.heap.size) ∧ ∀ k, k < w.heap.size → Safe k w → w'.heap[k]? = w.heap[k]? ∧ Safe k w'
theorem Fram.trans {Safe : Nat → World → Prop} {a b c : World} (h : Fram Safe a b) (k : Fram Safe b c) : Fram Safe a c :=
  ⟨⟨k.1.1.trans h.1.1, k.1.2.1.trans h.1.2.1, k.1.2.2.1.trans h.1.2.2.1, Nat.le_trans h.1.2.2.2 k.1.2.2.2⟩, fun i hi hs => by
    obtain ⟨h1, h2⟩ := h.2 i hi hs
    obtain ⟨k1, k2⟩ := k.2 i (Nat.lt_of_lt_of_le hi h.1.2.2.2) h2
    exact ⟨k1.trans h1, k2⟩⟩
/-- What the two functions are to be that are told tokens and sides. -/
structure SpellC (Inv : List Itm → World → Prop) (Safe : Nat → World → Prop) (fT fS : FuncId) (cT cS : Array Value) (all : List Itm) : Prop where
  keep : ∀ {l : List Itm} {w w' : World}, Inv l w → Below w.heap.size w w' → Inv l w' ∧ Fram Safe w w' ∧ ∀ k, w.heap.size ≤ k → Safe k w'
  tok : ∀ {l : List Itm} (x : Lx.Tk) {w : World}, Inv l w → (l ++ [.t x]) <+: all → Calls Tryz.prog fT (#[tkV x] ++ cT) w fun r w' => r = .returned (.tuple #[]) ∧ Inv (l ++ [.t x]) w' ∧ Fram Safe w w'
  side : ∀ {l : List Itm} (i q : Int) {w : World}, Inv l w → (l ++ [.s i q]) <+: all → Calls Tryz.prog fS (#[.int .i64 i, .int .i64 q] ++ cS) w fun r w' => r = .returned (.tuple #[]) ∧ Inv (l ++ [.s i q]) w' ∧ Fram Safe w w'
  entT : EntF fT (1 + cT.size)
  entS : EntF fS (2 + cS.size)
  betw : ∀ {l : List Itm} {w : World}, Inv l w → BetwIs w
/-- Between two calls: what is told, what has changed since the beginning, and the own block. -/
structure SpSt (Inv : List Itm → World → Prop) (Safe : Nat → World → Prop) (w0 : World) (p : Nat) (t : TypeId) (cs : Array Value) (l : List Itm) (w : World) : Prop where
  inv : Inv l w
  fr : Fram Safe w0 w
  blk : Blk w p t cs
  safe : Safe p w
section
variable {Inv : List Itm → World → Prop} {Safe : Nat → World → Prop} {fT fS : FuncId} {cT cS : Array Value} {all : List Itm}
theorem SpSt.keep {w0 w w' : World} {p : Nat} {t : TypeId} {cs : Array Value} {l : List Itm} (h : SpSt Inv Safe w0 p t cs l w) (C : SpellC Inv Safe fT fS cT cS all) (hb : Below w.heap.size w w') : SpSt Inv Safe w0 p t cs l w' := by
  obtain ⟨h1, h2, _⟩ := C.keep h.inv hb
  exact ⟨h1, h.fr.trans h2, h.blk.below hb h.blk.lt, (h2.2 p h.blk.lt h.safe).2⟩
theorem SpSt.next {w0 w w' : World} {p : Nat} {t : TypeId} {cs : Array Value} {l l' : List Itm} (h : SpSt Inv Safe w0 p t cs l w) (hi : Inv l' w') (hf : Fram Safe w w') : SpSt Inv Safe w0 p t cs l' w' :=
  ⟨hi, h.fr.trans hf, (hf.2 p h.blk.lt h.safe).1.trans h.blk, (hf.2 p h.blk.lt h.safe).2⟩
theorem SpSt.first {w0 w : World} {p : Nat} {t : TypeId} {cs : Array Value} {l : List Itm} (C : SpellC Inv Safe fT fS cT cS all) (h : Inv l w0) (hb : Below w0.heap.size w0 w) (hk : Blk w p t cs) (hp : w0.heap.size ≤ p) : SpSt Inv Safe w0 p t cs l w := by
  obtain ⟨h1, h2, h3⟩ := C.keep h hb
  exact ⟨h1, h2, hk, h3 p hp⟩
theorem SpSt.as {w0 w : World} {p : Nat} {t : TypeId} {cs : Array Value} {l l' : List Itm} (h : SpSt Inv Safe w0 p t cs l w) (e : l = l') : SpSt Inv Safe w0 p t cs l' w := e ▸ h
theorem pre1 {l r all : List Itm} {a : Itm} (h : (l ++ a :: r) <+: all) : (l ++ [a]) <+: all ∧ ((l ++ [a]) ++ r) <+: all := by
  obtain ⟨t, ht⟩ := h
  exact ⟨⟨r ++ t, by rw [← ht]; simp⟩, ⟨t, by rw [← ht]; simp⟩⟩
end
end Go.Proofs.YtdabanocofimmaaGreatDoor
