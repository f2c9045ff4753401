/-
  What the disk's texts stand on, where frames are told, too. Conditions: none.
-/
import Derived.Test.YtkdfedcmhcchiaaFrAllW
import Derived.Test.YtkdfedcmhcchiaaOrder
namespace Go.Proofs.Ytkdfedcmhcchiaa
open Go.RowKit

end Go.Proofs.Ytkdfedcmhcchiaa
