/-
  No cell of these rows narrows 'for every input' (looked for: loops, veiled, ifaces, maps, wideKeys, modest, calm, conditions, laid).
  DERIVED. THE GIVEN ROWS OF THIS SEAT. 3 by the template 'for every input the law returns true; each argument reads behind the call as it read before'; 0 by the template 'total and deterministic' (their statements: YtejljikikhecnaaGreatTotals.lean).
  GIVEN WITH THE SEED: the statements are not yours to turn. If you find one false, say at which input.
  Laid BY PROGRAM, IN A SANDBOX (cutbox-rows.mjs): the forced cells as the released guide's own fill.sh prints them over the translation b40d70d38a7f5329… (all of the seat's roots in one cut). By AI agents, Wed Nov 11 2026. No macro, syntax, notation, axiom, sorry.
-/
import Derived.Test.YtejljikikhecnaaGreatChecked
import GoSem.Claim
import GoSem.ClaimJoined
import GoSem.ClaimMapViews
import Derived.JoinedTies
import Derived.KernelRfl
namespace Go.Proofs.YtejljikikhecnaaGreat
/- THE CELL 'sum', in the pinned program and in every row, IS THE sha256 OF THE DUMP (.gsa) THAT YtejljikikhecnaaGreatProg.lean LOADS. Nothing in Lean hashes anything: it is a label: what it is worth is what the hold of that sum in a sandbox is worth. -/
noncomputable def Tryz.pinned : Pinned := { name := "ytejljikikhecnaagreat", sum := "b40d70d38a7f5329b7f3101a6b640a30c88b60b65e5298e9db6ce342dd1d56f7", checked := Tryz.checked }
namespace Rows
def none {H : Type} : Left H := { results := [], args := [] }

/-- 'hedgerowlaw12.SnapBytes': WHATEVER THE INPUT: true; the input reads as it did. -/
def snapBytesSpec : ChangeSpec := { name := "snapBytes", fn := fun _ => fun
  | [d] => { results := [.lit (.bool true)], args := [d] }
  | _ => none }
def snapBytesRow : OpenClaim := { program := "ytejljikikhecnaagreat", sum := "b40d70d38a7f5329b7f3101a6b640a30c88b60b65e5298e9db6ce342dd1d56f7", func := "hedgerow/hedgerowlaw12.SnapBytes", spec := "snapBytes", inPlace := ["internal/bytealg.abigen_runtime_cmpstring", "internal/bytealg.IndexByteString", "internal/bytealg.IndexString"], unfollowed := true, recurses := true, named := ["internal/bytealg.MaxLen"], plainKeys := false, apart := false }
def SnapBytesSaid : Prop := snapBytesRow.holds Tryz.pinned (OpenSpec.ofChange snapBytesSpec)

/-- ITS FALSE NEIGHBOUR: 'it returns false'. Refute it at one input. -/
def snapBytesWrong : ChangeSpec := { name := "snapBytes", fn := fun _ => fun
  | [d] => { results := [.lit (.bool false)], args := [d] }
  | _ => none }
def SnapBytesWrongFalsely : Prop := snapBytesRow.holds Tryz.pinned (OpenSpec.ofChange snapBytesWrong)

/-- 'hedgerowlaw12.SnapParses': WHATEVER THE INPUT: true; the input reads as it did. -/
def snapParsesSpec : ChangeSpec := { name := "snapParses", fn := fun _ => fun
  | [d] => { results := [.lit (.bool true)], args := [d] }
  | _ => none }
def snapParsesRow : OpenClaim := { program := "ytejljikikhecnaagreat", sum := "b40d70d38a7f5329b7f3101a6b640a30c88b60b65e5298e9db6ce342dd1d56f7", func := "hedgerow/hedgerowlaw12.SnapParses", spec := "snapParses", inPlace := ["internal/bytealg.abigen_runtime_cmpstring", "internal/bytealg.IndexByteString", "internal/bytealg.IndexString"], unfollowed := true, recurses := true, named := ["internal/bytealg.MaxLen"], plainKeys := false, apart := false }
def SnapParsesSaid : Prop := snapParsesRow.holds Tryz.pinned (OpenSpec.ofChange snapParsesSpec)

/-- ITS FALSE NEIGHBOUR: 'it returns false'. Refute it at one input. -/
def snapParsesWrong : ChangeSpec := { name := "snapParses", fn := fun _ => fun
  | [d] => { results := [.lit (.bool false)], args := [d] }
  | _ => none }
def SnapParsesWrongFalsely : Prop := snapParsesRow.holds Tryz.pinned (OpenSpec.ofChange snapParsesWrong)

/-- 'hedgerowlaw12.SnapStores': WHATEVER THE INPUT: true; the input reads as it did. -/
def snapStoresSpec : ChangeSpec := { name := "snapStores", fn := fun _ => fun
  | [d] => { results := [.lit (.bool true)], args := [d] }
  | _ => none }
def snapStoresRow : OpenClaim := { program := "ytejljikikhecnaagreat", sum := "b40d70d38a7f5329b7f3101a6b640a30c88b60b65e5298e9db6ce342dd1d56f7", func := "hedgerow/hedgerowlaw12.SnapStores", spec := "snapStores", inPlace := ["internal/bytealg.abigen_runtime_cmpstring", "internal/bytealg.IndexByteString", "internal/bytealg.IndexString"], unfollowed := true, recurses := true, named := ["internal/bytealg.MaxLen"], plainKeys := false, apart := false }
def SnapStoresSaid : Prop := snapStoresRow.holds Tryz.pinned (OpenSpec.ofChange snapStoresSpec)

/-- ITS FALSE NEIGHBOUR: 'it returns false'. Refute it at one input. -/
def snapStoresWrong : ChangeSpec := { name := "snapStores", fn := fun _ => fun
  | [d] => { results := [.lit (.bool false)], args := [d] }
  | _ => none }
def SnapStoresWrongFalsely : Prop := snapStoresRow.holds Tryz.pinned (OpenSpec.ofChange snapStoresWrong)

/- THE SECOND FORM. 'bulk': how many values and letters a reading holds, each counted each time it is reached (what is shared counts as often as it is met; a slice's spare places count too). A statement '..UptoSaid' is the law's where the arguments, and the package variables that the reading takes, are together of bulk at most 1048576: NARROWER than '..Said'. Prove '..Said' where nothing that the law and all that it calls make is longer than what came in: it says more and counts as full. Else prove '..UptoSaid'. A law counts once. -/
mutual
def uptoBulk {H : Type} : DataW H → Nat
  | .lit (.string bytes) => bytes.length + 1
  | .lit _ => 1
  | .nil => 1
  | .ptr d => uptoBulk d + 1
  | .slice elems spare => uptoBulkAll elems + uptoBulkAll spare + 1
  | .agg parts => uptoBulkAll parts + 1
  | .iface _ d => uptoBulk d + 1
  | .map entries => uptoBulkEntries entries + 1
  | .held _ => 1
def uptoBulkAll {H : Type} : List (DataW H) → Nat
  | [] => 0
  | d :: r => uptoBulk d + uptoBulkAll r
def uptoBulkEntries {H : Type} : List (Lit × DataW H) → Nat
  | [] => 0
  | x :: r => uptoBulkEntry x + uptoBulkEntries r
def uptoBulkEntry {H : Type} : Lit × DataW H → Nat
  | (.string bytes, d) => bytes.length + uptoBulk d + 1
  | (_, d) => uptoBulk d + 1
 end
def uptoSmall : (H : Type) → List (DataW H) → Bool := fun _ ds => decide (uptoBulkAll ds ≤ 1048576)
def OpenSpec.upto (s : _root_.Go.ChangeSpec) : _root_.Go.OpenSpec := { _root_.Go.OpenSpec.ofChange s with cond := some uptoSmall }

/-- 'hedgerowlaw12.SnapBytes', WHERE WHAT IT READS IS OF BULK AT MOST 1048576: true; the input reads as it did. -/
def snapBytesUptoRow : OpenClaim := { program := "ytejljikikhecnaagreat", sum := "b40d70d38a7f5329b7f3101a6b640a30c88b60b65e5298e9db6ce342dd1d56f7", func := "hedgerow/hedgerowlaw12.SnapBytes", spec := "snapBytes", inPlace := ["internal/bytealg.abigen_runtime_cmpstring", "internal/bytealg.IndexByteString", "internal/bytealg.IndexString"], unfollowed := true, recurses := true, named := ["internal/bytealg.MaxLen"], plainKeys := false, apart := false, narrowed := true }
def SnapBytesUptoSaid : Prop := snapBytesUptoRow.holds Tryz.pinned (OpenSpec.upto snapBytesSpec)

/-- 'hedgerowlaw12.SnapParses', WHERE WHAT IT READS IS OF BULK AT MOST 1048576: true; the input reads as it did. -/
def snapParsesUptoRow : OpenClaim := { program := "ytejljikikhecnaagreat", sum := "b40d70d38a7f5329b7f3101a6b640a30c88b60b65e5298e9db6ce342dd1d56f7", func := "hedgerow/hedgerowlaw12.SnapParses", spec := "snapParses", inPlace := ["internal/bytealg.abigen_runtime_cmpstring", "internal/bytealg.IndexByteString", "internal/bytealg.IndexString"], unfollowed := true, recurses := true, named := ["internal/bytealg.MaxLen"], plainKeys := false, apart := false, narrowed := true }
def SnapParsesUptoSaid : Prop := snapParsesUptoRow.holds Tryz.pinned (OpenSpec.upto snapParsesSpec)

/-- 'hedgerowlaw12.SnapStores', WHERE WHAT IT READS IS OF BULK AT MOST 1048576: true; the input reads as it did. -/
def snapStoresUptoRow : OpenClaim := { program := "ytejljikikhecnaagreat", sum := "b40d70d38a7f5329b7f3101a6b640a30c88b60b65e5298e9db6ce342dd1d56f7", func := "hedgerow/hedgerowlaw12.SnapStores", spec := "snapStores", inPlace := ["internal/bytealg.abigen_runtime_cmpstring", "internal/bytealg.IndexByteString", "internal/bytealg.IndexString"], unfollowed := true, recurses := true, named := ["internal/bytealg.MaxLen"], plainKeys := false, apart := false, narrowed := true }
def SnapStoresUptoSaid : Prop := snapStoresUptoRow.holds Tryz.pinned (OpenSpec.upto snapStoresSpec)

end Rows
end Go.Proofs.YtejljikikhecnaaGreat
