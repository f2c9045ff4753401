/-
  DERIVED. GIVEN WITH THE SEED: THE CARDS: each row of YtdabanocofimmaaGreatDoorRows.lean that lists a variable, with what it lists TIED to the program's text (the seventh form; the later family's looks); each row that meets fmt, with fmt's text TOLD by the authors' own Lean function (tested against real Go, not proved from fmt's source: count such statements apart). THE CARD IS WHAT COUNTS. Prove the row's statement (the work); the ties are given (YtdabanocofimmaaGreatDoorTie.lean); close each card by the builder's one call (the guide's Derived/Test/ToyasCard.lean, 'card_holds'). Laid BY PROGRAM, IN A SANDBOX (cutbox-door.mjs). By AI agents, Wed Nov 11 2026. No macro, syntax, notation, axiom, sorry.
-/
import Derived.Test.YtdabanocofimmaaGreatDoorRows
import GoSem.ClaimSeven
namespace Go.Proofs.YtdabanocofimmaaGreatDoor
namespace Rows

/-- THE TIED CARD OF 'hedgerowlaw19.ExprTokens'. -/
def exprTokensCard : Claim7 := { stood := { row := exprTokensRow, standIns := [], harness := (true, "6c648ddca29bd57c83a88404ef19c8615df65d7eec031b838f8345f096917420"), looks := true }, kinds := [], alts := [], laidByText := true, laidKinds := [.data, .data, .data, .data, .sentinel, .sentinel, .data, .pinned], laidTests := true, laidLooks := .later }
def ExprTokensCardSaid : Prop := Claim7.holds Tryz.pinned (.plain (OpenSpec.ofChange exprTokensSpec)) exprTokensCard

/-- THE TIED CARD OF 'hedgerowlaw19.ExprVars'. -/
def exprVarsCard : Claim7 := { stood := { row := exprVarsRow, standIns := [], harness := (true, "6c648ddca29bd57c83a88404ef19c8615df65d7eec031b838f8345f096917420"), looks := true }, kinds := [], alts := [], laidByText := true, laidKinds := [.data, .data, .data, .data, .sentinel, .sentinel, .data, .pinned], laidTests := true, laidLooks := .later }
def ExprVarsCardSaid : Prop := Claim7.holds Tryz.pinned (.plain (OpenSpec.ofChange exprVarsSpec)) exprVarsCard

/-- THE TIED CARD OF 'hedgerowlaw19.ExprDeep'. -/
def exprDeepCard : Claim7 := { stood := { row := exprDeepRow, standIns := [], harness := (true, "6c648ddca29bd57c83a88404ef19c8615df65d7eec031b838f8345f096917420"), looks := true }, kinds := [], alts := [], laidByText := true, laidKinds := [.data, .data, .data, .data, .sentinel, .sentinel, .data, .pinned], laidTests := true, laidLooks := .later }
def ExprDeepCardSaid : Prop := Claim7.holds Tryz.pinned (.plain (OpenSpec.ofChange exprDeepSpec)) exprDeepCard

/-- THE TIED CARD OF 'hedgerowlaw19.ExprAlone'. -/
def exprAloneCard : Claim7 := { stood := { row := exprAloneRow, standIns := [], harness := (true, "6c648ddca29bd57c83a88404ef19c8615df65d7eec031b838f8345f096917420"), looks := true }, kinds := [], alts := [], laidByText := true, laidKinds := [.data, .data, .data, .data, .sentinel, .sentinel, .data, .pinned], laidTests := true, laidLooks := .later }
def ExprAloneCardSaid : Prop := Claim7.holds Tryz.pinned (.plain (OpenSpec.ofChange exprAloneSpec)) exprAloneCard

/-- THE SECOND FORM's CARD OF 'hedgerowlaw19.ExprTokens'. -/
def exprTokensUptoCard : Claim7 := { stood := { row := exprTokensUptoRow, standIns := [], harness := (true, "6c648ddca29bd57c83a88404ef19c8615df65d7eec031b838f8345f096917420"), looks := true }, kinds := [], alts := [], laidByText := true, laidKinds := [.data, .data, .data, .data, .sentinel, .sentinel, .data, .pinned], laidTests := true, laidLooks := .later }
def ExprTokensUptoCardSaid : Prop := Claim7.holds Tryz.pinned (.plain (OpenSpec.upto exprTokensSpec)) exprTokensUptoCard

/-- THE SECOND FORM's CARD OF 'hedgerowlaw19.ExprVars'. -/
def exprVarsUptoCard : Claim7 := { stood := { row := exprVarsUptoRow, standIns := [], harness := (true, "6c648ddca29bd57c83a88404ef19c8615df65d7eec031b838f8345f096917420"), looks := true }, kinds := [], alts := [], laidByText := true, laidKinds := [.data, .data, .data, .data, .sentinel, .sentinel, .data, .pinned], laidTests := true, laidLooks := .later }
def ExprVarsUptoCardSaid : Prop := Claim7.holds Tryz.pinned (.plain (OpenSpec.upto exprVarsSpec)) exprVarsUptoCard

/-- THE SECOND FORM's CARD OF 'hedgerowlaw19.ExprDeep'. -/
def exprDeepUptoCard : Claim7 := { stood := { row := exprDeepUptoRow, standIns := [], harness := (true, "6c648ddca29bd57c83a88404ef19c8615df65d7eec031b838f8345f096917420"), looks := true }, kinds := [], alts := [], laidByText := true, laidKinds := [.data, .data, .data, .data, .sentinel, .sentinel, .data, .pinned], laidTests := true, laidLooks := .later }
def ExprDeepUptoCardSaid : Prop := Claim7.holds Tryz.pinned (.plain (OpenSpec.upto exprDeepSpec)) exprDeepUptoCard

/-- THE SECOND FORM's CARD OF 'hedgerowlaw19.ExprAlone'. -/
def exprAloneUptoCard : Claim7 := { stood := { row := exprAloneUptoRow, standIns := [], harness := (true, "6c648ddca29bd57c83a88404ef19c8615df65d7eec031b838f8345f096917420"), looks := true }, kinds := [], alts := [], laidByText := true, laidKinds := [.data, .data, .data, .data, .sentinel, .sentinel, .data, .pinned], laidTests := true, laidLooks := .later }
def ExprAloneUptoCardSaid : Prop := Claim7.holds Tryz.pinned (.plain (OpenSpec.upto exprAloneSpec)) exprAloneUptoCard
end Rows
end Go.Proofs.YtdabanocofimmaaGreatDoor
