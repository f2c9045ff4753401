/-
  hedgerowref01.Compare: the contract, by a walk. Conditions: none but the texts' lengths.
-/
import Derived.Test.YtdlmfmfbbclplaaGreatDoorJValCmp
import Derived.Deep.DeepCutAuto
namespace Go.Proofs.YtdlmfmfbbclplaaGreatDoor
open Go.RowKit

end Go.Proofs.YtdlmfmfbbclplaaGreatDoor
