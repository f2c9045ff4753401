/-
  hedgerowref01.Split: the contract, by a walk. Conditions: the text's length.
-/
import Derived.Test.YtmmphgapginmjaaDoorWords
import Derived.Test.YtmmphgapginmjaaDoorChecked
import Derived.WalkKit
import Derived.RegionTactic
import Derived.Laws.OwnMore
import Derived.Lib.AppendZeros
import Derived.Deep.DeepCutAuto
namespace Go.Proofs.YtmmphgapginmjaaDoor
open Go.RowKit

def stv (l : List UInt8) : Value := .string ⟨l.toArray⟩
/-- The parts so far, and the one that is being read. -/
def splS (b : UInt8) (p : List (List UInt8) × List UInt8) (x : UInt8) : List (List UInt8) × List UInt8 := if x = b then (p.1 ++ [p.2], []) else (p.1, p.2 ++ [x])
def spl (b : UInt8) (l : List UInt8) : List (List UInt8) × List UInt8 := l.foldl (splS b) ([], [])
theorem spl_snoc (b : UInt8) (l : List UInt8) (k : Nat) (h : k < l.length) : spl b (l.take (k + 1)) = splS b (spl b (l.take k)) l[k] := by
  unfold spl
  rw [List.take_succ_eq_append_getElem h, List.foldl_append]; rfl
theorem spl_len (b : UInt8) (l : List UInt8) : (spl b l).1.length ≤ l.length := by
  have : ∀ (l : List UInt8) (p : List (List UInt8) × List UInt8), (l.foldl (splS b) p).1.length ≤ p.1.length + l.length := by
    intro l
    induction l with
    | nil => intro p; simp
    | cons x l ih =>
      intro p
      rw [List.foldl_cons]
      have := ih (splS b p x)
      have h2 : (splS b p x).1.length ≤ p.1.length + 1 := by unfold splS; split <;> simp
      rw [List.length_cons]; omega
  have h := this l ([], [])
  simpa [spl] using h
theorem spl_cur (b : UInt8) (l : List UInt8) : (spl b l).2.length ≤ l.length := by
  have : ∀ (l : List UInt8) (p : List (List UInt8) × List UInt8), (l.foldl (splS b) p).2.length ≤ p.2.length + l.length := by
    intro l
    induction l with
    | nil => intro p; simp
    | cons x l ih =>
      intro p
      rw [List.foldl_cons]
      have := ih (splS b p x)
      have h2 : (splS b p x).2.length ≤ p.2.length + 1 := by unfold splS; split <;> simp
      rw [List.length_cons]; omega
  have h := this l ([], [])
  simpa [spl] using h
theorem str_eq' {b : ByteArray} {l : List UInt8} (h : b.data.toList = l) : b = ⟨l.toArray⟩ := by
  obtain ⟨⟨k⟩⟩ := b
  simp at h
  subst h
  rfl
theorem ext_one (s : ByteArray) (k : Nat) (h : k < s.size) (c : List UInt8) : (⟨c.toArray⟩ : ByteArray) ++ s.extract k (k + 1) = ⟨(c ++ [s[k]'h]).toArray⟩ := by
  apply str_eq'
  have hl : k < s.data.toList.length := by rw [Array.length_toList]; exact h
  have e : (s.data.extract k (k + 1)).toList = [s[k]'h] := by
    rw [Array.toList_extract, List.extract_eq_take_drop, Nat.add_sub_cancel_left, List.drop_eq_getElem_cons hl]
    rfl
  rw [ByteArray.data_append, ByteArray.data_extract, Array.toList_append, e]

end Go.Proofs.YtmmphgapginmjaaDoor
