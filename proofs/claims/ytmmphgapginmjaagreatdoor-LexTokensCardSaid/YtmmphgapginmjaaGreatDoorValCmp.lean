/-
  The order of values, by numbers. Conditions: none.
-/
import Derived.Test.YtmmphgapginmjaaGreatDoorValRight
namespace Go.Proofs.YtmmphgapginmjaaGreatDoor
open Go.RowKit

def cmpB (k n : Int) (a : List UInt8) (k' n' : Int) (b : List UInt8) : Int :=
  if Lib.compareInt k k' = 0 then (if Lib.compareInt n n' = 0 then Lib.compareBytes a b else Lib.compareInt n n') else Lib.compareInt k k'


set_option maxHeartbeats 1000000 in
theorem inner_any (s : ByteArray) (w : World) (hs : s.size ≤ 9223372036854775807) : Calls Tryz.prog 78 #[.string s] w (SameV w (.string (if s.size < 2 then ⟨#[]⟩ else s.extract 1 (s.size - 1)))) := by
  by_cases h : s.size < 2
  · go_enter Tryz.func78, Tryz.ntmps78
    go_wp2
    go_ret
    exact ⟨rfl, rfl⟩
  · obtain ⟨E, hE⟩ : ∃ E, E = s.size - 1 := ⟨_, rfl⟩
    have hw : wrap64 ((s.size : Int) - 1) = (E : Int) := by rw [IntWalk.wrap64_in _ ⟨by omega, by omega⟩]; omega
    have h1 : (1 : Int) ≤ (E : Int) := by omega
    have h0 : (0 : Int) ≤ (E : Int) := by omega
    have h2 : (E : Int) ≤ (s.size : Int) := by omega
    have HE := Lib.hid hE
    clear hE
    go_enter Tryz.func78, Tryz.ntmps78
    go_wp2
    go_ret
    exact ⟨by rw [← HE.out]; rfl, rfl⟩

end Go.Proofs.YtmmphgapginmjaaGreatDoor
