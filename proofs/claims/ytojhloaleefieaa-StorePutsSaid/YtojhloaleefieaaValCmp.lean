/-
  value.Elem (of a node), value.Compare, value.Link, value.OfLink, value.inner: the contracts, by walks. Conditions: none.
-/
import Derived.Test.YtojhloaleefieaaValRight
namespace Go.Proofs.Ytojhloaleefieaa
open Go.RowKit

def cmpB (k n : Int) (a : List UInt8) (k' n' : Int) (b : List UInt8) : Int :=
  if Lib.compareInt k k' = 0 then (if Lib.compareInt n n' = 0 then Lib.compareBytes a b else Lib.compareInt n n') else Lib.compareInt k k'

set_option maxHeartbeats 1000000 in
theorem compare_any (k n : Int) (s : ByteArray) (k' n' : Int) (t : ByteArray) (w : World) : Calls Try.prog 37 #[valV k n s, valV k' n' t] w (Gives w (.int .i64 (cmpB k n s.data.toList k' n' t.data.toList))) := by
  have HB : Hid (∀ o o' : Obj, Below w.heap.size w ((w.alloc o).alloc o')) := Lib.hid (fun o o' => ((Below.refl _ _).alloc (Nat.le_refl _) o).alloc (by simp) o')
  unfold valV
  go_enter Try.func37, Try.ntmps37
  go_wp2_with fail
  refine (Try.cmp_Compare_int _ _ _).mono ?_
  rintro e w1 ⟨rfl, rfl⟩
  by_cases h1 : Lib.compareInt k k' = 0
  · have b1 : (Lib.compareInt k k' == 0) = true := by simp [h1]
    have b1' : (Lib.compareInt k k' != 0) = false := by simp [h1]
    have H1 := Lib.hid h1
    clear h1
    go_wp2_with fail
    refine (Try.cmp_Compare_int _ _ _).mono ?_
    rintro e w1 ⟨rfl, rfl⟩
    by_cases h2 : Lib.compareInt n n' = 0
    · have b2 : (Lib.compareInt n n' == 0) = true := by simp [h2]
      have b2' : (Lib.compareInt n n' != 0) = false := by simp [h2]
      have H2 := Lib.hid h2
      clear h2
      go_wp2_with fail
      refine (Try.strings_Compare _ _ _).mono ?_
      rintro e w1 ⟨rfl, rfl⟩
      go_wp2
      go_ret
      exact ⟨by simp [cmpB, H1.out, H2.out], HB.out _ _⟩
    · have b2 : (Lib.compareInt n n' == 0) = false := by simp [h2]
      have b2' : (Lib.compareInt n n' != 0) = true := by simp [h2]
      have H2 := Lib.hid h2
      clear h2
      go_wp2
      go_ret
      exact ⟨by simp [cmpB, H1.out, H2.out], HB.out _ _⟩
  · have b1 : (Lib.compareInt k k' == 0) = false := by simp [h1]
    have b1' : (Lib.compareInt k k' != 0) = true := by simp [h1]
    have H1 := Lib.hid h1
    clear h1
    go_wp2
    go_ret
    exact ⟨by simp [cmpB, H1.out], HB.out _ _⟩

end Go.Proofs.Ytojhloaleefieaa
