/-
  FROM A ROW's LISTED VARIABLES TO WHAT THE WALKS ASK OF MEMORY (WOk), and a world in which they are laid. Conditions: none.
-/
import Derived.Test.YtmmphgapginmjaaDoorValString
import Derived.Test.YtmmphgapginmjaaDoorCards
import Derived.Test.YtmmphgapginmjaaDoorTie
import Derived.Test.YtmmphgapginmjaaDoorRow
import Derived.ProofKit
import Derived.OpenShut
import Derived.Deep.DeepHandedRow
import Derived.Lib.LaidTab
import Derived.Stop.LaidErr
import Derived.Lay
namespace Go.Proofs.YtmmphgapginmjaaDoor
open Go.ChangeShapes Go.WideShapes Go.ChangeAt Go.RowKit

def lst : List (String × DataW Unit) := Rows.lexLongRow.laid
theorem gTab : Tryd.prog.globalNamed "internal/strconv.uint64pow10" = some 3 := by kernel_rfl
theorem gTabType : (Tryd.prog.globals[3]?).map (·.type) = some 115 := by kernel_rfl
theorem gSyn : Tryd.prog.globalNamed "strconv.ErrSyntax" = some 4 := by kernel_rfl
theorem gSynType : (Tryd.prog.globals[4]?).map (·.type) = some 52 := by kernel_rfl
theorem gRng : Tryd.prog.globalNamed "strconv.ErrRange" = some 5 := by kernel_rfl
theorem gRngType : (Tryd.prog.globals[5]?).map (·.type) = some 52 := by kernel_rfl
theorem cArr : Tryd.prog.cellsOf 115 = 20 := by kernel_rfl
theorem cU64 : Tryd.prog.cellsOf 102 = 1 := by kernel_rfl
theorem cErr : Tryd.prog.cellsOf 128 = 1 := by kernel_rfl
theorem cStr : Tryd.prog.cellsOf 9 = 1 := by kernel_rfl
theorem star : "*" ++ "errors.errorString" = "*errors.errorString" := by decide
theorem errRow (u : TypeId) (h : Tryd.prog.typeName? 3 u = some "*errors.errorString") : u = 126 :=
  typeName_ptr_named (nm := "errors.errorString") (by rw [star]; kernel_rfl) (by kernel_rfl) (by decide) u (by rw [star]; exact h)

theorem wok_of {W : World} (hL : laidMetH Tryd.prog lst W) (hS : W.ShapedOpen Tryd.prog) : WOk W := by
  have h0 : laidMet Tryd.prog lst W := hL
  have h2 := h0.tail.tail
  have h3 := h2.tail.tail
  have h4 := h3.tail
  have htab : Lib.TabIs Tryd.prog W "internal/strconv.uint64pow10" .u64 Lib.pow10Tab := Lib.tabIs_of_head gTab gTabType Tryd.underlying115 Tryd.underlying102 cU64 cArr h2
  obtain ⟨a3, s3, hv3, -, -, -⟩ := laid_sentinel h3 gRng gRngType Tryd.underlying52 errRow Tryd.underlying126 Tryd.underlying128 rfl rfl Tryd.underlying9 cErr cStr
  obtain ⟨a4, s4, hv4, -, -, -⟩ := laid_sentinel h4 gSyn gSynType Tryd.underlying52 errRow Tryd.underlying126 Tryd.underlying128 rfl rfl Tryd.underlying9 cErr cStr
  obtain ⟨m, hm⟩ := Tryd.laysM145.s1_3 W hS
  exact And.intro ⟨World.block_lt_of_cell? _ ⟨0, 0, none⟩ hm, m, hm⟩ ⟨htab, ⟨_, _, hv4⟩, ⟨_, _, hv3⟩⟩

noncomputable def laidW (os : Os) : World := World.laidAll Tryd.prog os lst
theorem laid_met (os : Os) (args : Array Value) : laidMet Tryd.prog lst ((laidW os).forCall (fun _ _ => 0) ⟨#[], args, []⟩).memory :=
  laidMet_laidAll args (by kernel_rfl) (by kernel_rfl)

end Go.Proofs.YtmmphgapginmjaaDoor
