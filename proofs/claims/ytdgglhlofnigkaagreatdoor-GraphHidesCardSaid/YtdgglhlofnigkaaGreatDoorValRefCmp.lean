/-
  hedgerowref01.Compare: the contract, by a walk. Conditions: none but the texts' lengths.
-/
import Derived.Test.YtdgglhlofnigkaaGreatDoorJValCmp
import Derived.Deep.DeepCutAuto
namespace Go.Proofs.YtdgglhlofnigkaaGreatDoor
open Go.RowKit
end Go.Proofs.YtdgglhlofnigkaaGreatDoor
