/-
  hedgerowlaw08.GraphHides answers true for all values, and leaves all memory as it was: the row, and its card. Conditions: none but the row's own listed variables, which the card ties.
-/
import Derived.Test.YtdgglhlofnigkaaGreatDoorJValQuote
import Derived.Test.YtdgglhlofnigkaaGreatDoorCards
import Derived.Test.YtdgglhlofnigkaaGreatDoorTie
import Derived.Test.YtdgglhlofnigkaaGreatDoorJRow
import Derived.ProofKit
import Derived.OpenShut
import Derived.Deep.DeepHandedRow
import Derived.Lib.LaidTab
import Derived.Stop.LaidErr
import Derived.Lay
import Derived.Test.YtdgglhlofnigkaaGreatDoorGrHiW
import Derived.SizedLaws
import Derived.Lib.SmallJoins
namespace Go.Proofs.YtdgglhlofnigkaaGreatDoor
open Go.ChangeShapes Go.WideShapes Go.ChangeAt Go.RowKit
def lst : List (String × DataW Unit) := Rows.graphLinksRow.laid
theorem gTab : Tryz.prog.globalNamed "internal/strconv.uint64pow10" = some 1 := by kernel_rfl
theorem gTabType : (Tryz.prog.globals[1]?).map (·.type) = some 222 := by kernel_rfl
theorem cArr : Tryz.prog.cellsOf 222 = 20 := by kernel_rfl
theorem cU64 : Tryz.prog.cellsOf 162 = 1 := by kernel_rfl
theorem wok_of {W : World} (hL : laidMetH Tryz.prog lst W) (hS : W.ShapedOpen Tryz.prog) : WOk W := by
 have h0 : laidMet Tryz.prog lst W := hL
 have h2 := h0.tail.tail
 have htab : Lib.TabIs Tryz.prog W "internal/strconv.uint64pow10" .u64 Lib.pow10Tab := Lib.tabIs_of_head gTab gTabType Tryz.underlying222 Tryz.underlying162 cU64 cArr h2
 obtain ⟨m, hm⟩ := Tryz.laysM145.s1_3 W hS
 exact And.intro ⟨World.block_lt_of_cell? _ ⟨0, 0, none⟩ hm, m, hm⟩ htab
noncomputable def laidW (os : Os) : World := World.laidAll Tryz.prog os lst
theorem laid_met (os : Os) (args : Array Value) : laidMet Tryz.prog lst ((laidW os).forCall (fun _ _ => 0) ⟨#[], args, []⟩).memory :=
 laidMet_laidAll args (by kernel_rfl) (by kernel_rfl)
end Go.Proofs.YtdgglhlofnigkaaGreatDoor

namespace Go.Proofs.YtdgglhlofnigkaaGreatDoor
open Go.ChangeShapes Go.WideShapes Go.ChangeAt Go.RowKit Go.Joins
open Go.ChangeMaps (open_string)
set_option maxRecDepth 100000 in
theorem ghides_contract (H : Type) (enc : TypeId × Value → H) (W : World) (base : Nat) (args : Array Value) (ds gs : List (DataW H)) (before : List MemPlace)
  (hval0 : ∀ (j : Nat) t v, Tryz.f6.params[j]? = some t → args[j]? = some v → Value.okWide Tryz.prog W .any base t v)
  (hW : DataW.Whole enc Tryz.prog Tryz.f6.params.toList Rows.graphHidesSpec.vars false W args.toList ds gs before)
  (hsz0 : (DataW.weightsEach Tryz.prog (Tryz.f6.params.toList ++ Rows.graphHidesSpec.plain.varTypes Tryz.prog) (ds ++ gs)).all (· ≤ reachBytes) = true) (hw : WOk W) :
  Calls Tryz.prog 6 args W fun e W' => ∃ v, e = .returned v ∧ Rows.graphHidesSpec.post enc Tryz.prog Tryz.f6 false true false false W args v W' := by
 have hval : ∀ (j : Nat) t v, Tryz.f6.params[j]? = some t → args[j]? = some v → Value.okWide Tryz.prog W .any base t v := hval0
 have hW' := hW
 obtain ⟨p, q, hA0, hV, rfl, _, _⟩ := hW
 have hA : DataW.TrodAll enc Tryz.prog W 0 (fun _ => true) true Tryz.f6.params.toList args.toList ds p := hA0
 rw [Tryz.params6] at hA hval hsz0
 obtain ⟨v0, v1, d0, d1, p0, p1, rfl, rfl, rfl, h0, h1⟩ := trodAll_two hA
 obtain ⟨rfl, rfl⟩ := trodVars_none hV
 clear hA0 hval0
 obtain ⟨l0, A0, N0, c0, rfl, hs0, hn0, hb0, hf0⟩ := evs_in hsz0 (j := 0) rfl rfl (hval 0 22 v0 rfl rfl) h0
 obtain ⟨s1, rfl, rfl, rfl, _⟩ := open_string Tryz.underlying9 (hval 1 9 v1 rfl rfl) h1
 refine (ghides_walk s1 l0 A0 N0 c0 W hs0 hn0 hb0 hf0 hw).mono fun e W' ⟨he, hb⟩ => ?_
 subst he
 exact ⟨_, rfl, law_post Tryz.laidOut hW' rfl (of_decide_eq_true (by kernel_rfl)) (by kernel_rfl) Tryz.underlying4 rfl rfl rfl hb⟩
theorem ghides_reads (os : Os) {H : Type} (enc : TypeId × Value → H) : ∃ places, DataW.whole enc Tryz.prog ((laidW os).forCall (fun _ _ => 0) ⟨#[], #[.slice none 0 0, .string ⟨#[]⟩], []⟩).memory Tryz.f6.params.toList Rows.graphHidesSpec.vars false #[.slice none 0 0, .string ⟨#[]⟩].toList 12 = some ([.nil, .lit (.string [])], [], places) :=
 ⟨[], by kernel_rfl⟩
set_option maxRecDepth 100000 in
theorem ghides_lifted (os : Os) (started : os.Started) (H : Type) (enc : TypeId × Value → H) (F : Stop.Interp) :
  ReturnsInHanded {} Tryz.checked os 6 .any ((OpenSpec.ofChange Rows.graphHidesSpec).preRow enc Tryz.prog Tryz.f6 Rows.graphHidesRow.domain false Rows.graphHidesRow.laid) (((OpenSpec.ofChange Rows.graphHidesSpec).at F).post enc Tryz.prog Tryz.f6 false true false false) := by
 obtain ⟨places, hx⟩ := ghides_reads os enc
 refine returnsInHanded_of_row (C := Tryz.checked) (s := OpenSpec.ofChange Rows.graphHidesSpec) Tryz.own started (by kernel_rfl) Tryz.func6
  (witness_row_at (enc := enc) (C := Tryz.checked) false (laidW os) #[.slice none 0 0, .string ⟨#[]⟩] rfl (by kernel_rfl) (by kernel_rfl) (by kernel_rfl)
   (OpenSpec.preRow_of_cond 12 hx (by kernel_rfl) (fun k hk => by cases hk) (by kernel_rfl) (laid_met os _))) ?_
 intro W base args ds gs before hval hW _ _ hsz hL hS _
 exact ghides_contract H enc W base args ds gs before hval hW hsz (wok_of hL hS)
theorem ghides_said : Rows.GraphHidesSaid :=
 OpenClaim.holds_of_cond 6 Tryz.f6 rfl rfl rfl rfl rfl rfl rfl ⟨rfl, rfl, rfl, rfl, rfl⟩ rfl rfl rfl rfl rfl (by kernel_rfl) Tryz.func6 (by kernel_rfl)
  (of_decide_eq_true (by kernel_rfl)) (by unfold Func.isWrapper; first | (rw [if_pos (by decide +kernel)]; kernel_rfl) | (rw [if_neg (by decide +kernel)]; exact ⟨rfl, rfl⟩))
  (fun os started H enc _ F => by rw [OpenClaim.pre_eq_preRow]; exact ghides_lifted os started H enc F)
theorem ghides_plain (f : FuncId) (fn : Func) (hf : Tryz.pinned.checked.prog.funcNamed "hedgerow/hedgerowlaw08.GraphHides" = some f) (hfn : Tryz.pinned.checked.prog.funcs[f]? = some fn) :
  false = Tryz.pinned.checked.prog.looks [] ∧ ∀ (j : Nat) t, fn.params[j]? = some t → Tryz.pinned.checked.prog.wantsStandIn t = false := by
 obtain rfl : f = 6 := Option.some.inj ((show Tryz.prog.funcNamed "hedgerow/hedgerowlaw08.GraphHides" = some 6 by kernel_rfl).symm.trans hf) |>.symm
 obtain rfl : fn = Tryz.f6 := (Option.some.inj (Tryz.func6.symm.trans hfn)).symm
 refine ⟨by kernel_rfl, fun j t ht => ?_⟩
 rw [Tryz.params6] at ht
 rcases (show t = 22 ∨ t = 9 by simpa using Array.mem_of_getElem? ht) with rfl | rfl
 ·exact (show Tryz.prog.wantsStandIn 22 = false by kernel_rfl)
 ·exact (show Tryz.prog.wantsStandIn 9 = false by kernel_rfl)
theorem ghides_card : Rows.GraphHidesCardSaid :=
 Claim7.holds_tied_plain_at .later [] _ _ _ _ ghides_said (fun _ h => by cases h) (by kernel_rfl) (fun _ h => by cases h) graphHides_row_tie rfl ⟨rfl, rfl⟩ (by kernel_rfl) rfl ghides_plain (by kernel_rfl)
end Go.Proofs.YtdgglhlofnigkaaGreatDoor
