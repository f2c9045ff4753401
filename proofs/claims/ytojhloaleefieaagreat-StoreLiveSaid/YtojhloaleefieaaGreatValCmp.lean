/-
  The order of values, by numbers. Conditions: none.
-/
import Derived.Test.YtojhloaleefieaaGreatValRight
namespace Go.Proofs.YtojhloaleefieaaGreat
open Go.RowKit

def cmpB (k n : Int) (a : List UInt8) (k' n' : Int) (b : List UInt8) : Int :=
  if Lib.compareInt k k' = 0 then (if Lib.compareInt n n' = 0 then Lib.compareBytes a b else Lib.compareInt n n') else Lib.compareInt k k'

end Go.Proofs.YtojhloaleefieaaGreat
