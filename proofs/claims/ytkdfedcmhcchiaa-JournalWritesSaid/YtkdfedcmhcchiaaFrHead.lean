/-
  frame.head, frame.Size, bytes.Equal, bytes.Clone, and the reference's head: the contracts, by walks. Conditions: bounds on lengths.
-/
import Derived.Test.YtkdfedcmhcchiaaFrMath
import Derived.Test.YtkdfedcmhcchiaaStrs
import Derived.Test.YtkdfedcmhcchiaaConcat
import Derived.Laws.OwnMore
namespace Go.Proofs.Ytkdfedcmhcchiaa
open Go.RowKit

theorem u8x (a b : UInt8) : bits .xor .u8 (a.toNat : Int) (b.toNat : Int) = ((a ^^^ b).toNat : Int) := by
  rw [u8_xor_nat _ _ a.toNat_lt b.toNat_lt, UInt8.toNat_xor]
theorem u8m (k : Nat) : ((k : Int) % 256) = ((UInt8.ofNat k).toNat : Int) := by simp
theorem headB_cells (n : Nat) : (bs (headB n)).toArray = #[.int .u8 ((n : Int) % 256), .int .u8 ((n : Int) / 256 % 256), .int .u8 ((n : Int) / 65536 % 256), .int .u8 (bits .xor .u8 (bits .xor .u8 (bits .xor .u8 165 ((n : Int) % 256)) ((n : Int) / 256 % 256)) ((n : Int) / 65536 % 256))] := by
  have e1 : ((n : Int) / 256 % 256) = ((UInt8.ofNat (n / 256)).toNat : Int) := by rw [← u8m]; rfl
  have e2 : ((n : Int) / 65536 % 256) = ((UInt8.ofNat (n / 65536)).toNat : Int) := by rw [← u8m]; rfl
  rw [e1, e2, u8m n, show (165 : Int) = ((165 : UInt8).toNat : Int) from rfl, u8x, u8x, u8x]
  rfl
theorem headB_cells2 (n : Nat) (h : n < 16777216) : (bs (headB n)).toArray = #[.int .u8 ((n : Int) % 256), .int .u8 ((n : Int) / 256 % 256), .int .u8 ((n : Int) / 65536), .int .u8 (bits .xor .u8 (bits .xor .u8 (bits .xor .u8 165 ((n : Int) % 256)) ((n : Int) / 256 % 256)) ((n : Int) / 65536))] := by
  rw [headB_cells, show ((n : Int) / 65536 % 256) = (n : Int) / 65536 by omega]

set_option maxHeartbeats 400000 in
theorem head_any (n : Nat) (w : World) (h : n < 16777216) : Calls Try.prog 37 #[.int .i64 n] w (Reads w (headB n)) := by
  have hb := (Below.refl w.heap.size w).alloc (Nat.le_refl _) (.cells (bs (headB n)).toArray 5)
  have hl := sl_laid w (headB n) _ 5 4 rfl rfl
  rw [headB_cells2 n h] at hl hb
  have HL := Lib.hid hl
  have HB := Lib.hid hb
  clear hl hb
  have hm : min (n : Int) 16777215 = n := by omega
  go_enter Try.func37, Try.ntmps37
  go_wp2
  go_ret
  exact ⟨_, rfl, HL.out, HB.out⟩

/-- A call that hands back a slice of its own that reads l, and turns nothing that was there. -/
def Makes (w : World) (l : List UInt8) (e : Ending) (w' : World) : Prop :=
  ∃ v, e = .returned v ∧ w'.ownsRow w.heap.size 5 1 v l.length (bs l) ∧ Below w.heap.size w w'
theorem Makes.reads {w : World} {l : List UInt8} {e : Ending} {w' : World} (h : Makes w l e w') : Reads w l e w' := by
  obtain ⟨v, he, ho, hb⟩ := h
  exact ⟨v, he, Sl.of_own ho, hb⟩

set_option maxHeartbeats 400000 in
theorem rhead_any (n : Nat) (w : World) (h : n < 16777216) : Calls Try.prog 28 #[.int .i64 n] w (Makes w (headB n)) := by
  have hb := (Below.refl w.heap.size w).alloc (Nat.le_refl _) (.cells (bs (headB n)).toArray 5)
  have hl := World.ownsRow_lit (base := w.heap.size) (e := 5) (size := 1) w (bs (headB n)).toArray 4 (Nat.le_refl _) (by unfold maxLen; omega) rfl
  rw [List.toList_toArray, headB_cells n] at hl
  rw [headB_cells n] at hb
  have HL := Lib.hid hl
  have HB := Lib.hid hb
  clear hl hb
  go_enter Try.func28, Try.ntmps28
  go_wp2
  go_ret
  exact ⟨_, rfl, HL.out, HB.out⟩

/-- Two rows of bytes are the same. -/
def eqB (a b : List UInt8) : Bool := a == b
theorem eqB_true (a b : List UInt8) : eqB a b = true ↔ a = b := by simp [eqB]
theorem eqB_false (a b : List UInt8) : eqB a b = false ↔ a ≠ b := by simp [eqB]

set_option maxHeartbeats 400000 in
theorem equal_any (v1 v2 : Value) (a b : List UInt8) (w : World) (h1 : Sl bv w v1 a) (h2 : Sl bv w v2 b) : Calls Try.prog 41 #[v1, v2] w fun e w' => e = .returned (.bool (eqB a b)) ∧ w = w' := by
  have r1 := run_string_sl (P := Try.prog) w 34 9 5 Try.underlying34 Try.underlying5 Try.underlying9 v1 _ h1
  have r2 := run_string_sl (P := Try.prog) w 34 9 5 Try.underlying34 Try.underlying5 Try.underlying9 v2 _ h2
  obtain ⟨A1, c1, rfl⟩ := h1.form
  obtain ⟨A2, c2, rfl⟩ := h2.form
  clear h1 h2
  go_enter Try.func41, Try.ntmps41
  go_wp2
  go_ret
  exact ⟨rfl, rfl⟩

set_option maxHeartbeats 400000 in
theorem bclone_any (v : Value) (l : List UInt8) (w : World) (h : Sl bv w v l) (hlen : l.length ≤ 140737488355328) : Calls Try.prog 27 #[v] w (Makes w l) := by
  obtain ⟨v', w2, hr, ho2, hb2⟩ := append_fresh w v l h hlen
  have HR := Lib.hid hr
  have HO := Lib.hid ho2
  have HB := Lib.hid hb2
  obtain ⟨A, c, rfl, hlc, hx⟩ := h
  clear hr ho2 hb2
  rcases A with _ | ad
  · have : l = [] := by
      rcases l with _ | ⟨a, t⟩
      · rfl
      · obtain ⟨b, o, hA, _⟩ := hx (by simp); cases hA
    subst this
    clear hx
    have hnil := fun n c => Lib.run_eql_slice_nil (P := Try.prog) w 34 5 none n c 0 0 Try.underlying34
    go_enter Try.func27, Try.ntmps27
    go_wp2
    go_ret
    exact ⟨_, rfl, World.ownsRow_nil _ _ _ _, Below.refl _ _⟩
  · clear hx
    have hnil := fun n c => Lib.run_eql_slice_nil (P := Try.prog) w 34 5 (some ad) n c 0 0 Try.underlying34
    go_enter Try.func27, Try.ntmps27
    go_wp2_with (at_builtin; refine Lib.wpList_append_run _ rfl _ _ _ _ rfl _ _ rfl rfl _ _ HR.out ?_)
    go_ret
    exact ⟨_, rfl, HO.out, HB.out⟩

/-- What Size answers. -/
def sizeF (n : Int) : Int := if n < 0 ∨ 1048576 < n then 0 else n + 8
set_option maxHeartbeats 400000 in
theorem size_any (n : Int) (w : World) : Calls Try.prog 33 #[.int .i64 n] w fun e w' => e = .returned (.int .i64 (sizeF n)) ∧ w = w' := by
  unfold sizeF
  by_cases h1 : n < 0
  · rw [if_pos (.inl h1)]
    go_enter Try.func33, Try.ntmps33
    go_wp2
    go_ret
    exact ⟨rfl, rfl⟩
  · by_cases h2 : 1048576 < n
    · rw [if_pos (.inr h2)]
      go_enter Try.func33, Try.ntmps33
      go_wp2
      go_ret
      exact ⟨rfl, rfl⟩
    · rw [if_neg (by omega)]
      go_enter Try.func33, Try.ntmps33
      go_wp2
      go_ret
      exact ⟨by go_num, rfl⟩

end Go.Proofs.Ytkdfedcmhcchiaa
