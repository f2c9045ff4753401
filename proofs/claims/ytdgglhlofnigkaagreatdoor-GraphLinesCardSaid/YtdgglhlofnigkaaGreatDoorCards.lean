/-
  DERIVED. GIVEN WITH THE SEED: THE CARDS: each row of YtdgglhlofnigkaaGreatDoorRows.lean that lists a variable, with what it lists TIED to the program's text (the seventh form; the later family's looks); each row that meets fmt, with fmt's text TOLD by the authors' own Lean function (tested against real Go, not proved from fmt's source: count such statements apart). THE CARD IS WHAT COUNTS. Prove the row's statement (the work); the ties are given (YtdgglhlofnigkaaGreatDoorTie.lean); close each card by the builder's one call (the guide's Derived/Test/ToyasCard.lean, 'card_holds'). Laid BY PROGRAM, IN A SANDBOX (cutbox-door.mjs). By AI agents, Wed Nov 11 2026. No macro, syntax, notation, axiom, sorry.
-/
import Derived.Test.YtdgglhlofnigkaaGreatDoorRows
import GoSem.ClaimSeven
namespace Go.Proofs.YtdgglhlofnigkaaGreatDoor
namespace Rows

/-- THE TIED CARD OF 'hedgerowlaw08.GraphLines'. -/
def graphLinesCard : Claim7 := { stood := { row := graphLinesRow, standIns := [], harness := (true, "6bfc4e82f5cb82ca6a2d2ddf5dc4cf467ee63fa76499c59c177724a8743bbad7"), looks := false }, kinds := [], alts := [], laidByText := true, laidKinds := [.data, .data, .data], laidTests := true, laidLooks := .later }
def GraphLinesCardSaid : Prop := Claim7.holds Tryz.pinned (.plain (OpenSpec.ofChange graphLinesSpec)) graphLinesCard

/-- THE TIED CARD OF 'hedgerowlaw08.GraphAsks'. -/
def graphAsksCard : Claim7 := { stood := { row := graphAsksRow, standIns := [], harness := (true, "6bfc4e82f5cb82ca6a2d2ddf5dc4cf467ee63fa76499c59c177724a8743bbad7"), looks := false }, kinds := [], alts := [], laidByText := true, laidKinds := [.data, .data, .data], laidTests := true, laidLooks := .later }
def GraphAsksCardSaid : Prop := Claim7.holds Tryz.pinned (.plain (OpenSpec.ofChange graphAsksSpec)) graphAsksCard

/-- THE TIED CARD OF 'hedgerowlaw08.GraphLinks'. -/
def graphLinksCard : Claim7 := { stood := { row := graphLinksRow, standIns := [], harness := (true, "6bfc4e82f5cb82ca6a2d2ddf5dc4cf467ee63fa76499c59c177724a8743bbad7"), looks := false }, kinds := [], alts := [], laidByText := true, laidKinds := [.data, .data, .data], laidTests := true, laidLooks := .later }
def GraphLinksCardSaid : Prop := Claim7.holds Tryz.pinned (.plain (OpenSpec.ofChange graphLinksSpec)) graphLinksCard

/-- THE TIED CARD OF 'hedgerowlaw08.GraphHides'. -/
def graphHidesCard : Claim7 := { stood := { row := graphHidesRow, standIns := [], harness := (true, "6bfc4e82f5cb82ca6a2d2ddf5dc4cf467ee63fa76499c59c177724a8743bbad7"), looks := false }, kinds := [], alts := [], laidByText := true, laidKinds := [.data, .data, .data], laidTests := true, laidLooks := .later }
def GraphHidesCardSaid : Prop := Claim7.holds Tryz.pinned (.plain (OpenSpec.ofChange graphHidesSpec)) graphHidesCard

/-- THE SECOND FORM's CARD OF 'hedgerowlaw08.GraphLines'. -/
def graphLinesUptoCard : Claim7 := { stood := { row := graphLinesUptoRow, standIns := [], harness := (true, "6bfc4e82f5cb82ca6a2d2ddf5dc4cf467ee63fa76499c59c177724a8743bbad7"), looks := false }, kinds := [], alts := [], laidByText := true, laidKinds := [.data, .data, .data], laidTests := true, laidLooks := .later }
def GraphLinesUptoCardSaid : Prop := Claim7.holds Tryz.pinned (.plain (OpenSpec.upto graphLinesSpec)) graphLinesUptoCard

/-- THE SECOND FORM's CARD OF 'hedgerowlaw08.GraphAsks'. -/
def graphAsksUptoCard : Claim7 := { stood := { row := graphAsksUptoRow, standIns := [], harness := (true, "6bfc4e82f5cb82ca6a2d2ddf5dc4cf467ee63fa76499c59c177724a8743bbad7"), looks := false }, kinds := [], alts := [], laidByText := true, laidKinds := [.data, .data, .data], laidTests := true, laidLooks := .later }
def GraphAsksUptoCardSaid : Prop := Claim7.holds Tryz.pinned (.plain (OpenSpec.upto graphAsksSpec)) graphAsksUptoCard

/-- THE SECOND FORM's CARD OF 'hedgerowlaw08.GraphLinks'. -/
def graphLinksUptoCard : Claim7 := { stood := { row := graphLinksUptoRow, standIns := [], harness := (true, "6bfc4e82f5cb82ca6a2d2ddf5dc4cf467ee63fa76499c59c177724a8743bbad7"), looks := false }, kinds := [], alts := [], laidByText := true, laidKinds := [.data, .data, .data], laidTests := true, laidLooks := .later }
def GraphLinksUptoCardSaid : Prop := Claim7.holds Tryz.pinned (.plain (OpenSpec.upto graphLinksSpec)) graphLinksUptoCard

/-- THE SECOND FORM's CARD OF 'hedgerowlaw08.GraphHides'. -/
def graphHidesUptoCard : Claim7 := { stood := { row := graphHidesUptoRow, standIns := [], harness := (true, "6bfc4e82f5cb82ca6a2d2ddf5dc4cf467ee63fa76499c59c177724a8743bbad7"), looks := false }, kinds := [], alts := [], laidByText := true, laidKinds := [.data, .data, .data], laidTests := true, laidLooks := .later }
def GraphHidesUptoCardSaid : Prop := Claim7.holds Tryz.pinned (.plain (OpenSpec.upto graphHidesSpec)) graphHidesUptoCard
end Rows
end Go.Proofs.YtdgglhlofnigkaaGreatDoor
