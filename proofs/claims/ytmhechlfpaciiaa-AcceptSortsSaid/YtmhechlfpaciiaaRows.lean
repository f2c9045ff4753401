/-
  No cell of these rows narrows 'for every input' (looked for: loops, veiled, ifaces, maps, wideKeys, modest, calm, conditions, laid).
  DERIVED. THE GIVEN ROWS OF THIS SEAT. 7 by the template 'for every input the law returns true; each argument reads behind the call as it read before'; 0 by the template 'total and deterministic' (their statements: YtmhechlfpaciiaaTotals.lean).
  GIVEN WITH THE SEED: the statements are not yours to turn. If you find one false, say at which input.
  Laid BY PROGRAM, IN A SANDBOX (cutbox-rows.mjs): the forced cells as the released guide's own fill.sh prints them over the translation dfef5bef827e1ebb… (all of the seat's roots in one cut). By AI agents, Wed Nov 11 2026. No macro, syntax, notation, axiom, sorry.
-/
import Derived.Test.YtmhechlfpaciiaaChecked
import GoSem.Claim
import GoSem.ClaimJoined
import GoSem.ClaimMapViews
import Derived.JoinedTies
import Derived.KernelRfl
namespace Go.Proofs.Ytmhechlfpaciiaa
/- THE CELL 'sum', in the pinned program and in every row, IS THE sha256 OF THE DUMP (.gsa) THAT YtmhechlfpaciiaaProg.lean LOADS. Nothing in Lean hashes anything: it is a label: what it is worth is what the hold of that sum in a sandbox is worth. -/
noncomputable def Try.pinned : Pinned := { name := "ytmhechlfpaciiaa", sum := "dfef5bef827e1ebb54780d4796a1d73b9be1ca9c61f44b571884fe6b73d914f7", checked := Try.checked }
namespace Rows
def none {H : Type} : Left H := { results := [], args := [] }

/-- 'hedgerowlaw07.StoreOrder': WHATEVER THE INPUT: true; the input reads as it did. -/
def storeOrderSpec : ChangeSpec := { name := "storeOrder", fn := fun _ => fun
  | [d1, d2] => { results := [.lit (.bool true)], args := [d1, d2] }
  | _ => none }
def storeOrderRow : OpenClaim := { program := "ytmhechlfpaciiaa", sum := "dfef5bef827e1ebb54780d4796a1d73b9be1ca9c61f44b571884fe6b73d914f7", func := "hedgerow/hedgerowlaw07.StoreOrder", spec := "storeOrder", inPlace := ["internal/bytealg.IndexByteString", "internal/bytealg.IndexString", "internal/bytealg.abigen_runtime_cmpstring"], unfollowed := true, recurses := true, named := ["internal/bytealg.MaxLen"], plainKeys := false, apart := false }
def StoreOrderSaid : Prop := storeOrderRow.holds Try.pinned (OpenSpec.ofChange storeOrderSpec)

/-- ITS FALSE NEIGHBOUR: 'it returns false'. Refute it at one input. -/
def storeOrderWrong : ChangeSpec := { name := "storeOrder", fn := fun _ => fun
  | [d1, d2] => { results := [.lit (.bool false)], args := [d1, d2] }
  | _ => none }
def StoreOrderWrongFalsely : Prop := storeOrderRow.holds Try.pinned (OpenSpec.ofChange storeOrderWrong)

/-- 'hedgerowlaw07.StoreValues': WHATEVER THE INPUT: true; the input reads as it did. -/
def storeValuesSpec : ChangeSpec := { name := "storeValues", fn := fun _ => fun
  | [d1, d2] => { results := [.lit (.bool true)], args := [d1, d2] }
  | _ => none }
def storeValuesRow : OpenClaim := { program := "ytmhechlfpaciiaa", sum := "dfef5bef827e1ebb54780d4796a1d73b9be1ca9c61f44b571884fe6b73d914f7", func := "hedgerow/hedgerowlaw07.StoreValues", spec := "storeValues", inPlace := ["internal/bytealg.IndexByteString", "internal/bytealg.IndexString", "internal/bytealg.abigen_runtime_cmpstring"], unfollowed := true, recurses := true, named := ["internal/bytealg.MaxLen"], plainKeys := false, apart := false }
def StoreValuesSaid : Prop := storeValuesRow.holds Try.pinned (OpenSpec.ofChange storeValuesSpec)

/-- ITS FALSE NEIGHBOUR: 'it returns false'. Refute it at one input. -/
def storeValuesWrong : ChangeSpec := { name := "storeValues", fn := fun _ => fun
  | [d1, d2] => { results := [.lit (.bool false)], args := [d1, d2] }
  | _ => none }
def StoreValuesWrongFalsely : Prop := storeValuesRow.holds Try.pinned (OpenSpec.ofChange storeValuesWrong)

/-- 'hedgerowlaw07.StorePuts': WHATEVER THE INPUT: true; the input reads as it did. -/
def storePutsSpec : ChangeSpec := { name := "storePuts", fn := fun _ => fun
  | [d1, d2, d3] => { results := [.lit (.bool true)], args := [d1, d2, d3] }
  | _ => none }
def storePutsRow : OpenClaim := { program := "ytmhechlfpaciiaa", sum := "dfef5bef827e1ebb54780d4796a1d73b9be1ca9c61f44b571884fe6b73d914f7", func := "hedgerow/hedgerowlaw07.StorePuts", spec := "storePuts", inPlace := ["internal/bytealg.IndexByteString", "internal/bytealg.IndexString", "internal/bytealg.abigen_runtime_cmpstring"], unfollowed := true, recurses := true, named := ["internal/bytealg.MaxLen"], plainKeys := false, apart := false }
def StorePutsSaid : Prop := storePutsRow.holds Try.pinned (OpenSpec.ofChange storePutsSpec)

/-- ITS FALSE NEIGHBOUR: 'it returns false'. Refute it at one input. -/
def storePutsWrong : ChangeSpec := { name := "storePuts", fn := fun _ => fun
  | [d1, d2, d3] => { results := [.lit (.bool false)], args := [d1, d2, d3] }
  | _ => none }
def StorePutsWrongFalsely : Prop := storePutsRow.holds Try.pinned (OpenSpec.ofChange storePutsWrong)

/-- 'hedgerowlaw09.AcceptTells': WHATEVER THE INPUT: true; the input reads as it did. -/
def acceptTellsSpec : ChangeSpec := { name := "acceptTells", fn := fun _ => fun
  | [d1, d2] => { results := [.lit (.bool true)], args := [d1, d2] }
  | _ => none }
def acceptTellsRow : OpenClaim := { program := "ytmhechlfpaciiaa", sum := "dfef5bef827e1ebb54780d4796a1d73b9be1ca9c61f44b571884fe6b73d914f7", func := "hedgerow/hedgerowlaw09.AcceptTells", spec := "acceptTells", inPlace := ["internal/bytealg.IndexByteString", "internal/bytealg.IndexString"], unfollowed := true, recurses := true, named := ["internal/bytealg.MaxLen"], plainKeys := false, apart := false }
def AcceptTellsSaid : Prop := acceptTellsRow.holds Try.pinned (OpenSpec.ofChange acceptTellsSpec)

/-- ITS FALSE NEIGHBOUR: 'it returns false'. Refute it at one input. -/
def acceptTellsWrong : ChangeSpec := { name := "acceptTells", fn := fun _ => fun
  | [d1, d2] => { results := [.lit (.bool false)], args := [d1, d2] }
  | _ => none }
def AcceptTellsWrongFalsely : Prop := acceptTellsRow.holds Try.pinned (OpenSpec.ofChange acceptTellsWrong)

/-- 'hedgerowlaw09.AcceptSorts': WHATEVER THE INPUT: true; the input reads as it did. -/
def acceptSortsSpec : ChangeSpec := { name := "acceptSorts", fn := fun _ => fun
  | [d1, d2] => { results := [.lit (.bool true)], args := [d1, d2] }
  | _ => none }
def acceptSortsRow : OpenClaim := { program := "ytmhechlfpaciiaa", sum := "dfef5bef827e1ebb54780d4796a1d73b9be1ca9c61f44b571884fe6b73d914f7", func := "hedgerow/hedgerowlaw09.AcceptSorts", spec := "acceptSorts", inPlace := ["internal/bytealg.IndexByteString", "internal/bytealg.IndexString"], unfollowed := true, recurses := true, named := ["internal/bytealg.MaxLen"], plainKeys := false, apart := false }
def AcceptSortsSaid : Prop := acceptSortsRow.holds Try.pinned (OpenSpec.ofChange acceptSortsSpec)

/-- ITS FALSE NEIGHBOUR: 'it returns false'. Refute it at one input. -/
def acceptSortsWrong : ChangeSpec := { name := "acceptSorts", fn := fun _ => fun
  | [d1, d2] => { results := [.lit (.bool false)], args := [d1, d2] }
  | _ => none }
def AcceptSortsWrongFalsely : Prop := acceptSortsRow.holds Try.pinned (OpenSpec.ofChange acceptSortsWrong)

/-- 'hedgerowlaw09.AcceptOrder': WHATEVER THE INPUT: true; the input reads as it did. -/
def acceptOrderSpec : ChangeSpec := { name := "acceptOrder", fn := fun _ => fun
  | [d] => { results := [.lit (.bool true)], args := [d] }
  | _ => none }
def acceptOrderRow : OpenClaim := { program := "ytmhechlfpaciiaa", sum := "dfef5bef827e1ebb54780d4796a1d73b9be1ca9c61f44b571884fe6b73d914f7", func := "hedgerow/hedgerowlaw09.AcceptOrder", spec := "acceptOrder", inPlace := ["internal/bytealg.IndexByteString", "internal/bytealg.IndexString"], unfollowed := true, recurses := true, named := ["internal/bytealg.MaxLen"], plainKeys := false, apart := false }
def AcceptOrderSaid : Prop := acceptOrderRow.holds Try.pinned (OpenSpec.ofChange acceptOrderSpec)

/-- ITS FALSE NEIGHBOUR: 'it returns false'. Refute it at one input. -/
def acceptOrderWrong : ChangeSpec := { name := "acceptOrder", fn := fun _ => fun
  | [d] => { results := [.lit (.bool false)], args := [d] }
  | _ => none }
def AcceptOrderWrongFalsely : Prop := acceptOrderRow.holds Try.pinned (OpenSpec.ofChange acceptOrderWrong)

/-- 'hedgerowlaw09.AcceptAgain': WHATEVER THE INPUT: true; the input reads as it did. -/
def acceptAgainSpec : ChangeSpec := { name := "acceptAgain", fn := fun _ => fun
  | [d1, d2] => { results := [.lit (.bool true)], args := [d1, d2] }
  | _ => none }
def acceptAgainRow : OpenClaim := { program := "ytmhechlfpaciiaa", sum := "dfef5bef827e1ebb54780d4796a1d73b9be1ca9c61f44b571884fe6b73d914f7", func := "hedgerow/hedgerowlaw09.AcceptAgain", spec := "acceptAgain", inPlace := ["internal/bytealg.IndexByteString", "internal/bytealg.IndexString"], unfollowed := true, recurses := true, named := ["internal/bytealg.MaxLen"], plainKeys := false, apart := false }
def AcceptAgainSaid : Prop := acceptAgainRow.holds Try.pinned (OpenSpec.ofChange acceptAgainSpec)

/-- ITS FALSE NEIGHBOUR: 'it returns false'. Refute it at one input. -/
def acceptAgainWrong : ChangeSpec := { name := "acceptAgain", fn := fun _ => fun
  | [d1, d2] => { results := [.lit (.bool false)], args := [d1, d2] }
  | _ => none }
def AcceptAgainWrongFalsely : Prop := acceptAgainRow.holds Try.pinned (OpenSpec.ofChange acceptAgainWrong)

/- THE SECOND FORM. 'bulk': how many values and letters a reading holds, each counted each time it is reached (what is shared counts as often as it is met; a slice's spare places count too). A statement '..UptoSaid' is the law's where the arguments, and the package variables that the reading takes, are together of bulk at most 1048576: NARROWER than '..Said'. Prove '..Said' where nothing that the law and all that it calls make is longer than what came in: it says more and counts as full. Else prove '..UptoSaid'. A law counts once. -/
mutual
def uptoBulk {H : Type} : DataW H → Nat
  | .lit (.string bytes) => bytes.length + 1
  | .lit _ => 1
  | .nil => 1
  | .ptr d => uptoBulk d + 1
  | .slice elems spare => uptoBulkAll elems + uptoBulkAll spare + 1
  | .agg parts => uptoBulkAll parts + 1
  | .iface _ d => uptoBulk d + 1
  | .map entries => uptoBulkEntries entries + 1
  | .held _ => 1
def uptoBulkAll {H : Type} : List (DataW H) → Nat
  | [] => 0
  | d :: r => uptoBulk d + uptoBulkAll r
def uptoBulkEntries {H : Type} : List (Lit × DataW H) → Nat
  | [] => 0
  | x :: r => uptoBulkEntry x + uptoBulkEntries r
def uptoBulkEntry {H : Type} : Lit × DataW H → Nat
  | (.string bytes, d) => bytes.length + uptoBulk d + 1
  | (_, d) => uptoBulk d + 1
 end
def uptoSmall : (H : Type) → List (DataW H) → Bool := fun _ ds => decide (uptoBulkAll ds ≤ 1048576)
def OpenSpec.upto (s : _root_.Go.ChangeSpec) : _root_.Go.OpenSpec := { _root_.Go.OpenSpec.ofChange s with cond := some uptoSmall }

/-- 'hedgerowlaw07.StoreOrder', WHERE WHAT IT READS IS OF BULK AT MOST 1048576: true; the input reads as it did. -/
def storeOrderUptoRow : OpenClaim := { program := "ytmhechlfpaciiaa", sum := "dfef5bef827e1ebb54780d4796a1d73b9be1ca9c61f44b571884fe6b73d914f7", func := "hedgerow/hedgerowlaw07.StoreOrder", spec := "storeOrder", inPlace := ["internal/bytealg.IndexByteString", "internal/bytealg.IndexString", "internal/bytealg.abigen_runtime_cmpstring"], unfollowed := true, recurses := true, named := ["internal/bytealg.MaxLen"], plainKeys := false, apart := false, narrowed := true }
def StoreOrderUptoSaid : Prop := storeOrderUptoRow.holds Try.pinned (OpenSpec.upto storeOrderSpec)

/-- 'hedgerowlaw07.StoreValues', WHERE WHAT IT READS IS OF BULK AT MOST 1048576: true; the input reads as it did. -/
def storeValuesUptoRow : OpenClaim := { program := "ytmhechlfpaciiaa", sum := "dfef5bef827e1ebb54780d4796a1d73b9be1ca9c61f44b571884fe6b73d914f7", func := "hedgerow/hedgerowlaw07.StoreValues", spec := "storeValues", inPlace := ["internal/bytealg.IndexByteString", "internal/bytealg.IndexString", "internal/bytealg.abigen_runtime_cmpstring"], unfollowed := true, recurses := true, named := ["internal/bytealg.MaxLen"], plainKeys := false, apart := false, narrowed := true }
def StoreValuesUptoSaid : Prop := storeValuesUptoRow.holds Try.pinned (OpenSpec.upto storeValuesSpec)

/-- 'hedgerowlaw07.StorePuts', WHERE WHAT IT READS IS OF BULK AT MOST 1048576: true; the input reads as it did. -/
def storePutsUptoRow : OpenClaim := { program := "ytmhechlfpaciiaa", sum := "dfef5bef827e1ebb54780d4796a1d73b9be1ca9c61f44b571884fe6b73d914f7", func := "hedgerow/hedgerowlaw07.StorePuts", spec := "storePuts", inPlace := ["internal/bytealg.IndexByteString", "internal/bytealg.IndexString", "internal/bytealg.abigen_runtime_cmpstring"], unfollowed := true, recurses := true, named := ["internal/bytealg.MaxLen"], plainKeys := false, apart := false, narrowed := true }
def StorePutsUptoSaid : Prop := storePutsUptoRow.holds Try.pinned (OpenSpec.upto storePutsSpec)

/-- 'hedgerowlaw09.AcceptTells', WHERE WHAT IT READS IS OF BULK AT MOST 1048576: true; the input reads as it did. -/
def acceptTellsUptoRow : OpenClaim := { program := "ytmhechlfpaciiaa", sum := "dfef5bef827e1ebb54780d4796a1d73b9be1ca9c61f44b571884fe6b73d914f7", func := "hedgerow/hedgerowlaw09.AcceptTells", spec := "acceptTells", inPlace := ["internal/bytealg.IndexByteString", "internal/bytealg.IndexString"], unfollowed := true, recurses := true, named := ["internal/bytealg.MaxLen"], plainKeys := false, apart := false, narrowed := true }
def AcceptTellsUptoSaid : Prop := acceptTellsUptoRow.holds Try.pinned (OpenSpec.upto acceptTellsSpec)

/-- 'hedgerowlaw09.AcceptSorts', WHERE WHAT IT READS IS OF BULK AT MOST 1048576: true; the input reads as it did. -/
def acceptSortsUptoRow : OpenClaim := { program := "ytmhechlfpaciiaa", sum := "dfef5bef827e1ebb54780d4796a1d73b9be1ca9c61f44b571884fe6b73d914f7", func := "hedgerow/hedgerowlaw09.AcceptSorts", spec := "acceptSorts", inPlace := ["internal/bytealg.IndexByteString", "internal/bytealg.IndexString"], unfollowed := true, recurses := true, named := ["internal/bytealg.MaxLen"], plainKeys := false, apart := false, narrowed := true }
def AcceptSortsUptoSaid : Prop := acceptSortsUptoRow.holds Try.pinned (OpenSpec.upto acceptSortsSpec)

/-- 'hedgerowlaw09.AcceptOrder', WHERE WHAT IT READS IS OF BULK AT MOST 1048576: true; the input reads as it did. -/
def acceptOrderUptoRow : OpenClaim := { program := "ytmhechlfpaciiaa", sum := "dfef5bef827e1ebb54780d4796a1d73b9be1ca9c61f44b571884fe6b73d914f7", func := "hedgerow/hedgerowlaw09.AcceptOrder", spec := "acceptOrder", inPlace := ["internal/bytealg.IndexByteString", "internal/bytealg.IndexString"], unfollowed := true, recurses := true, named := ["internal/bytealg.MaxLen"], plainKeys := false, apart := false, narrowed := true }
def AcceptOrderUptoSaid : Prop := acceptOrderUptoRow.holds Try.pinned (OpenSpec.upto acceptOrderSpec)

/-- 'hedgerowlaw09.AcceptAgain', WHERE WHAT IT READS IS OF BULK AT MOST 1048576: true; the input reads as it did. -/
def acceptAgainUptoRow : OpenClaim := { program := "ytmhechlfpaciiaa", sum := "dfef5bef827e1ebb54780d4796a1d73b9be1ca9c61f44b571884fe6b73d914f7", func := "hedgerow/hedgerowlaw09.AcceptAgain", spec := "acceptAgain", inPlace := ["internal/bytealg.IndexByteString", "internal/bytealg.IndexString"], unfollowed := true, recurses := true, named := ["internal/bytealg.MaxLen"], plainKeys := false, apart := false, narrowed := true }
def AcceptAgainUptoSaid : Prop := acceptAgainUptoRow.holds Try.pinned (OpenSpec.upto acceptAgainSpec)

end Rows
end Go.Proofs.Ytmhechlfpaciiaa
