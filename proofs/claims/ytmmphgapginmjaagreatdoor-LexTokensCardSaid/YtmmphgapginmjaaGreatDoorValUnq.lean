/-
  value.unquoted of any text: the contract, by a walk. Conditions: the text's length.
-/
import Derived.Test.YtmmphgapginmjaaGreatDoorValQuote
namespace Go.Proofs.YtmmphgapginmjaaGreatDoor
open Go.RowKit

def innS (s : ByteArray) : ByteArray := if s.size < 2 then ⟨#[]⟩ else s.extract 1 (s.size - 1)
/-- What is written from 'pos' on; a: a sign that says 'take the next as it is' came last. -/
def unqFrom (s : ByteArray) : Nat → Nat → Bool → List UInt8
  | 0, _, _ => []
  | f + 1, pos, a => if pos < s.size then (if (Utf8.decode s pos).1 = 92 ∧ a = false then unqFrom s f (pos + (Utf8.decode s pos).2) true
      else Lib.encodeRune (Utf8.decode s pos).1 ++ unqFrom s f (pos + (Utf8.decode s pos).2) false) else []
def unqL (s : ByteArray) : List UInt8 := unqFrom (innS s) (innS s).size 0 false
theorem unqFrom_end (s : ByteArray) (f pos : Nat) (a : Bool) (h : ¬ pos < s.size) : unqFrom s f pos a = [] := by
  cases f with
  | zero => rfl
  | succ f => simp [unqFrom, h]
theorem innS_size (s : ByteArray) : (innS s).size ≤ s.size := by
  unfold innS
  split
  · exact Nat.zero_le _
  · rw [ByteArray.size_extract]; omega
theorem inner_inn (s : ByteArray) (w : World) (hs : s.size ≤ 9223372036854775807) : Calls Tryz.prog 78 #[.string s] w (SameV w (.string (innS s))) := inner_any s w hs
theorem width_pos (s : ByteArray) (pos : Nat) (h : pos < s.size) : 1 ≤ (Utf8.decode s pos).2 := by
  by_cases ha : (s[pos]'h).toNat < 128
  · rw [decode_ascii s pos h ha]; exact Nat.le_refl 1
  · exact (decode_high s pos h (by omega)).2

set_option maxHeartbeats 4000000 in
set_option maxRecDepth 1000000 in
theorem unquoted_any (s : ByteArray) (w : World) (hs : s.size ≤ 35184372088832) : Calls Tryz.prog 77 #[.string s] w (Gives w (.string ⟨(unqL s).toArray⟩)) := by
  have hU : Hid (unqL s = unqFrom (innS s) (innS s).size 0 false) := Lib.hid rfl
  have hsz : (innS s).size ≤ 35184372088832 := Nat.le_trans (innS_size s) hs
  generalize unqL s = U at *
  go_enter Tryz.func77, Tryz.ntmps77
  go_wp2_with fail
  refine (inner_inn s _ (by omega)).mono ?_
  rintro e w1 ⟨rfl, rfl⟩
  generalize innS s = t at *
  go_wp2
  go_loopw [4] (fun x wr => ∃ (pos fuel : Nat) (acc : List UInt8) (a : Bool), x = .bool a ∧ Lib.IsBuilder 57 5 w.heap.size w.heap.size (Lib.byteCells acc) wr ∧ wr.heap[w.heap.size + 1]? = some (.stringIter t pos) ∧ Below w.heap.size w wr ∧ acc ++ unqFrom t fuel pos a = U ∧ t.size ≤ pos + fuel ∧ acc.length ≤ 4 * pos) (fun _ wr => t.size - wr.iterPos (w.heap.size + 1))
  case atStart =>
    refine ⟨0, t.size, [], false, rfl, ?_, ?_, ((Below.refl _ w).alloc (Nat.le_refl _) _).alloc (by simp) _, by rw [hU.out]; rfl, by omega, by simp⟩
    · exact (Lib.fresh_isBuilder 57 5 w).elim (fun h => .inl (Own.alloc h _)) (fun h => .inr (Own.alloc h _))
    · have := World.iter_heap (w.alloc (.cells #[.pointer none, .slice none 0 0] 57)) t 0
      simpa using this
  case round =>
    obtain ⟨pos, fuel, acc, a, rfl, hI, hit, hbw, hacc, hfu, hal⟩ := hrel
    have hwz : w.heap.size + 1 < wr.heap.size := (Array.getElem?_eq_some_iff.1 hit).1
    by_cases hp : pos < t.size
    · have hnx : ∀ ty, (Instr.next (.pointer (some ⟨w.heap.size + 1, 0, none⟩)) true ty).run Tryz.prog wr = _ := fun ty => Lib.run_next_any_at wr (w.heap.size + 1) t pos ty hit hp
      have hwd := width_pos t pos hp
      have hd1 := decode_le t pos
      have hI2 : Lib.IsBuilder 57 5 w.heap.size w.heap.size (Lib.byteCells acc) (wr.iterAt (w.heap.size + 1) t (pos + (Utf8.decode t pos).2)) := hI.elim (fun h => .inl (Own.iterAt h hit _)) (fun h => .inr (Own.iterAt h hit _))
      have hit2 := Lib.iterAt_heap wr (w.heap.size + 1) t pos (pos + (Utf8.decode t pos).2) hit
      have hbw2 := Lib.below_iterAt hbw (k := w.heap.size + 1) (by omega) t (pos + (Utf8.decode t pos).2)
      have hsz2 : w.heap.size ≤ (wr.iterAt (w.heap.size + 1) t (pos + (Utf8.decode t pos).2)).heap.size := by rw [Lib.iterAt_size]; omega
      obtain ⟨f, rfl⟩ : ∃ f, fuel = f + 1 := ⟨fuel - 1, by omega⟩
      have hst : acc ++ (if (Utf8.decode t pos).1 = 92 ∧ a = false then unqFrom t f (pos + (Utf8.decode t pos).2) true else Lib.encodeRune (Utf8.decode t pos).1 ++ unqFrom t f (pos + (Utf8.decode t pos).2) false) = U := by
        rw [← hacc]; simp [unqFrom, hp]
      have hl4 := Lib.runeCells_le ((Utf8.decode t pos).1 : Int)
      rw [Lib.runeCells_length] at hl4
      have hec := Lib.byteCells_encodeRune ((Utf8.decode t pos).1 : Int)
      clear hacc
      generalize hr : (Utf8.decode t pos).1 = r at *
      generalize (Utf8.decode t pos).2 = n at *
      have HST := Lib.hid hst
      have HIT := Lib.hid hit
      have HIT2 := Lib.hid hit2
      have HEC := Lib.hid hec
      clear hst hit hit2 hec hr
      by_cases he : r = 92 ∧ a = false
      · have HU : Hid (acc ++ unqFrom t f (pos + n) true = U) := Lib.hid (by have := HST.out; rwa [if_pos he] at this)
        obtain ⟨rfl, rfl⟩ := he
        go_wp2
        go_roundw
        case rel => exact ⟨pos + n, f, acc, true, rfl, hI2, HIT2.out, hbw2, HU.out, by omega, by omega⟩
        case measure => simp only [World.iterPos, HIT2.out, HIT.out]; omega
      · have HU : Hid ((acc ++ Lib.encodeRune r) ++ unqFrom t f (pos + n) false = U) := Lib.hid (by have := HST.out; rw [if_neg he] at this; rw [List.append_assoc]; exact this)
        have hcase : ((r : Int) == 92) = false ∨ (((r : Int) == 92) = true ∧ a = true) := by
          by_cases h92 : r = 92
          · refine .inr ⟨by simp [h92], ?_⟩
            cases a
            · exact absurd ⟨h92, rfl⟩ he
            · rfl
          · exact .inl (by rw [beq_eq_false_iff_ne]; omega)
        clear he
        rcases hcase with hb | ⟨hb, rfl⟩
        all_goals
          go_wp2_with fail
          refine (rune_any w.heap.size w.heap.size _ r (by omega) (by omega) _ hI2 (by rw [Lib.byteCells_length]; omega) hsz2).mono ?_
          rintro e W1 ⟨⟨v, rfl⟩, h1, b1, k1⟩
          have HI1 := Lib.hid (k1.iter HIT2.out (by omega))
          go_wp2
          go_roundw
          case rel => exact ⟨pos + n, f, acc ++ Lib.encodeRune r, false, rfl, by rw [Lib.byteCells_append, HEC.out]; exact Or.inr h1, HI1.out, hbw2.trans b1, HU.out, by omega, by rw [List.length_append]; omega⟩
          case measure => simp only [World.iterPos, HI1.out, HIT.out]; omega
    · have hnx : ∀ ty, (Instr.next (.pointer (some ⟨w.heap.size + 1, 0, none⟩)) true ty).run Tryz.prog wr = _ := fun ty => Lib.run_next_end_at wr (w.heap.size + 1) t pos ty hit hp
      have hF : Hid (acc = U) := Lib.hid (by rw [unqFrom_end t fuel pos a hp, List.append_nil] at hacc; exact hacc)
      clear hacc hit
      go_wp2_with fail
      refine (Tryz.Builder_String_any w.heap.size w.heap.size acc _ hI (by omega)).mono ?_
      rintro e w3 ⟨rfl, b3⟩
      go_wp2
      go_ret
      exact ⟨by rw [hF.out]; rfl, hbw.trans b3⟩

end Go.Proofs.YtmmphgapginmjaaGreatDoor
