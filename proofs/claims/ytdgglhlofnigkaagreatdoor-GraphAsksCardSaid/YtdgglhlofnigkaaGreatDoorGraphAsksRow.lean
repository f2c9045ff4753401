/-
  hedgerowlaw08.GraphAsks answers true for all values, and leaves all memory as it was: the row, and its card. Conditions: none but the row's own listed variables, which the card ties.
-/
import Derived.Test.YtdgglhlofnigkaaGreatDoorJRow
import Derived.Test.YtdgglhlofnigkaaGreatDoorGrRef
import Derived.Test.YtdgglhlofnigkaaGreatDoorJGrLinks
import Derived.Test.YtdgglhlofnigkaaGreatDoorCards
import Derived.Test.YtdgglhlofnigkaaGreatDoorTie
import Derived.ProofKit
import Derived.OpenShut
import Derived.Deep.DeepHandedRow
import Derived.Lib.LaidTab
import Derived.Stop.LaidErr
import Derived.Lay
import Derived.Test.YtdgglhlofnigkaaGreatDoorGrAsW
import Derived.SizedLaws
import Derived.Carry
import Derived.Lib.SmallJoins
namespace Go.Proofs.YtdgglhlofnigkaaGreatDoor
open Go.ChangeShapes Go.WideShapes Go.ChangeAt Go.RowKit Go.MapKept Go.Sort
set_option maxRecDepth 100000 in
set_option maxHeartbeats 1000000 in
theorem open_elem {H : Type} {enc : TypeId × Value → H} {W : World} {v : Value} {d : DataW H} {p : List MemPlace} {r : Reach} {b0 : Nat}
  (hv : Value.okWide Tryz.prog W r b0 38 v) (h : DataW.Trod enc Tryz.prog W 0 (fun _ => true) true 38 v d p) : ∃ x : El, v = eE x := by
 simp only [Value.okWide, Tryz.underlying38] at hv
 obtain ⟨cs, rfl, hsz, _⟩ := hv
 obtain ⟨fuel, hf⟩ := h
 have hcells : (Value.agg cs).cells = cs := rfl
 rw [hcells] at hf
 have h5 : cs.toList.length = 5 := by rw [Array.length_toList, hsz]; exact cElem
 obtain ⟨l, hl⟩ : ∃ l, cs.toList = l := ⟨_, rfl⟩
 rw [hl] at hf h5
 match l, h5 with
 | [c0, c1, c2, c3, c4], _ =>
  obtain ⟨z3, n3, _, hz3, _, hl3, h3⟩ := DataW.trod_struct Tryz.underlying38 hf
  match z3, hl3 with
  | [b0, b1, b2, b3, b4], _ =>
   have k2 : DataW.trod enc Tryz.prog W 0 (fun _ => true) true n3 3 [c0] = some b0 := by simpa [cInt] using h3 0 _ rfl
   have k3 : DataW.trod enc Tryz.prog W 0 (fun _ => true) true n3 9 [c1] = some b1 := by simpa [cStr] using h3 1 _ rfl
   have k4 : DataW.trod enc Tryz.prog W 0 (fun _ => true) true n3 9 [c2] = some b2 := by simpa [cStr] using h3 2 _ rfl
   have k5 : DataW.trod enc Tryz.prog W 0 (fun _ => true) true n3 9 [c3] = some b3 := by simpa [cStr] using h3 3 _ rfl
   have k6 : DataW.trod enc Tryz.prog W 0 (fun _ => true) true n3 9 [c4] = some b4 := by simpa [cStr] using h3 4 _ rfl
   obtain ⟨ek, e3, _, _⟩ := DataW.trod_int Tryz.underlying3 k2
   obtain ⟨sa, e4, d4, _⟩ := DataW.trod_string Tryz.underlying9 k3
   obtain ⟨sb, e5, d5, _⟩ := DataW.trod_string Tryz.underlying9 k4
   obtain ⟨sc, e6, d6, _⟩ := DataW.trod_string Tryz.underlying9 k5
   obtain ⟨sd, e7, d7, _⟩ := DataW.trod_string Tryz.underlying9 k6
   simp only [List.cons.injEq, and_true] at e3 e4 e5 e6 e7
   subst e3 e4 e5 e6 e7
   refine ⟨⟨ek, sa, sb, sc, sd⟩, ?_⟩
   unfold eE elV
   congr 1
   rw [← Array.toList_inj, hl]
theorem sized_str {H : Type} {ts : List TypeId} {ds : List (DataW H)} (h : (DataW.weightsEach Tryz.prog ts ds).all (· ≤ reachBytes) = true) {j : Nat} {t : TypeId} {d : DataW H} {s : ByteArray} (ht : ts[j]? = some t) (hd : ds[j]? = some d) (hm : s.data.toList.length ∈ DataW.weights Tryz.prog t d) : s.size ≤ 140737488355328 := by
 have h1 := List.all_eq_true.1 h _ (DataW.weights_mem_each ht hd s.data.toList.length hm)
 have h2 : s.data.toList.length ≤ reachBytes := by simpa using h1
 have h3 := reachBytes_lt
 have e1 : s.data.toList.length = s.size := by rw [Array.length_toList]; rfl
 have e3 : (2 : Nat) ^ 47 = 140737488355328 := by decide
 omega
theorem cLink : Tryz.prog.cellsOf 36 = 3 := by kernel_rfl
set_option maxRecDepth 100000 in
set_option maxHeartbeats 1000000 in
theorem open_link {H : Type} {enc : TypeId × Value → H} {ts : List TypeId} {ds : List (DataW H)} {j : Nat} {W : World} {v : Value} {d : DataW H} {p : List MemPlace} {r : Reach} {b0 : Nat}
  (hsz0 : (DataW.weightsEach Tryz.prog ts ds).all (· ≤ reachBytes) = true) (ht : ts[j]? = some 36) (hd : ds[j]? = some d)
  (hv : Value.okWide Tryz.prog W r b0 36 v) (h : DataW.Trod enc Tryz.prog W 0 (fun _ => true) true 36 v d p) : ∃ x : Lk, v = eK x ∧ (x.f.size ≤ 140737488355328 ∧ x.t.size ≤ 140737488355328 ∧ x.y.size ≤ 140737488355328) := by
 simp only [Value.okWide, Tryz.underlying36] at hv
 obtain ⟨cs, rfl, hsz, _⟩ := hv
 obtain ⟨fuel, hf⟩ := h
 have hcells : (Value.agg cs).cells = cs := rfl
 rw [hcells] at hf
 have h5 : cs.toList.length = 3 := by rw [Array.length_toList, hsz]; exact cLink
 obtain ⟨l, hl⟩ : ∃ l, cs.toList = l := ⟨_, rfl⟩
 rw [hl] at hf h5
 match l, h5 with
 | [c0, c1, c2], _ =>
  obtain ⟨z3, n3, _, hz3, _, hl3, h3⟩ := DataW.trod_struct Tryz.underlying36 hf
  match z3, hl3 with
  | [b0, b1, b2], _ =>
   simp only [Prod.mk.injEq] at hz3
   have k3 : DataW.trod enc Tryz.prog W 0 (fun _ => true) true n3 9 [c0] = some b0 := by simpa [cStr] using h3 0 _ rfl
   have k4 : DataW.trod enc Tryz.prog W 0 (fun _ => true) true n3 9 [c1] = some b1 := by simpa [cStr] using h3 1 _ rfl
   have k5 : DataW.trod enc Tryz.prog W 0 (fun _ => true) true n3 9 [c2] = some b2 := by simpa [cStr] using h3 2 _ rfl
   obtain ⟨sa, e4, d4, _⟩ := DataW.trod_string Tryz.underlying9 k3
   obtain ⟨sb, e5, d5, _⟩ := DataW.trod_string Tryz.underlying9 k4
   obtain ⟨sc, e6, d6, _⟩ := DataW.trod_string Tryz.underlying9 k5
   simp only [List.cons.injEq, and_true] at e4 e5 e6
   subst e4 e5 e6
   obtain ⟨hd3, _⟩ := hz3
   have key : d = .agg [.lit (.string sa.data.toList), .lit (.string sb.data.toList), .lit (.string sc.data.toList)] := by
    subst d4 d5 d6
    rw [hd3]; rfl
   refine ⟨⟨sa, sb, sc⟩, ?_, ?_⟩
   ·unfold eK lkC
    congr 1
    rw [← Array.toList_inj, hl]
   ·rw [key] at hd
    refine ⟨sized_str hsz0 ht hd ?_, sized_str hsz0 ht hd ?_, sized_str hsz0 ht hd ?_⟩
    all_goals simp [DataW.weights, Tryz.underlying36, DataW.weightsEach]
end Go.Proofs.YtdgglhlofnigkaaGreatDoor

namespace Go.Proofs.YtdgglhlofnigkaaGreatDoor
open Go.ChangeShapes Go.WideShapes Go.ChangeAt Go.RowKit
def lst : List (String × DataW Unit) := Rows.graphLinksRow.laid
theorem gTab : Tryz.prog.globalNamed "internal/strconv.uint64pow10" = some 1 := by kernel_rfl
theorem gTabType : (Tryz.prog.globals[1]?).map (·.type) = some 222 := by kernel_rfl
theorem cArr : Tryz.prog.cellsOf 222 = 20 := by kernel_rfl
theorem cU64 : Tryz.prog.cellsOf 162 = 1 := by kernel_rfl
theorem wok_of {W : World} (hL : laidMetH Tryz.prog lst W) (hS : W.ShapedOpen Tryz.prog) : WOk W := by
 have h0 : laidMet Tryz.prog lst W := hL
 have h2 := h0.tail.tail
 have htab : Lib.TabIs Tryz.prog W "internal/strconv.uint64pow10" .u64 Lib.pow10Tab := Lib.tabIs_of_head gTab gTabType Tryz.underlying222 Tryz.underlying162 cU64 cArr h2
 obtain ⟨m, hm⟩ := Tryz.laysM145.s1_3 W hS
 exact And.intro ⟨World.block_lt_of_cell? _ ⟨0, 0, none⟩ hm, m, hm⟩ htab
noncomputable def laidW (os : Os) : World := World.laidAll Tryz.prog os lst
theorem laid_met (os : Os) (args : Array Value) : laidMet Tryz.prog lst ((laidW os).forCall (fun _ _ => 0) ⟨#[], args, []⟩).memory :=
 laidMet_laidAll args (by kernel_rfl) (by kernel_rfl)
end Go.Proofs.YtdgglhlofnigkaaGreatDoor

namespace Go.Proofs.YtdgglhlofnigkaaGreatDoor
open Go.ChangeShapes Go.WideShapes Go.ChangeAt Go.RowKit Go.Joins
open Go.ChangeMaps (open_string)
set_option maxRecDepth 100000 in
theorem gasks_contract (H : Type) (enc : TypeId × Value → H) (W : World) (base : Nat) (args : Array Value) (ds gs : List (DataW H)) (before : List MemPlace)
  (hval0 : ∀ (j : Nat) t v, Tryz.f4.params[j]? = some t → args[j]? = some v → Value.okWide Tryz.prog W .any base t v)
  (hW : DataW.Whole enc Tryz.prog Tryz.f4.params.toList Rows.graphAsksSpec.vars false W args.toList ds gs before)
  (hsz0 : (DataW.weightsEach Tryz.prog (Tryz.f4.params.toList ++ Rows.graphAsksSpec.plain.varTypes Tryz.prog) (ds ++ gs)).all (· ≤ reachBytes) = true) (hw : WOk W) :
  Calls Tryz.prog 4 args W fun e W' => ∃ v, e = .returned v ∧ Rows.graphAsksSpec.post enc Tryz.prog Tryz.f4 false true false false W args v W' := by
 have hval : ∀ (j : Nat) t v, Tryz.f4.params[j]? = some t → args[j]? = some v → Value.okWide Tryz.prog W .any base t v := hval0
 have hW' := hW
 obtain ⟨p, q, hA0, hV, rfl, _, _⟩ := hW
 have hA : DataW.TrodAll enc Tryz.prog W 0 (fun _ => true) true Tryz.f4.params.toList args.toList ds p := hA0
 rw [Tryz.params4] at hA hval hsz0
 obtain ⟨v0, v1, v2, v3, d0, d1, d2, d3, p0, p1, p2, p3, rfl, rfl, rfl, h0, h1, h2, h3⟩ := trodAll_four hA
 obtain ⟨rfl, rfl⟩ := trodVars_none hV
 clear hA0 hval0
 obtain ⟨l0, A0, N0, c0, rfl, hs0, hn0, hb0, hf0⟩ := evs_in hsz0 (j := 0) rfl rfl (hval 0 22 v0 rfl rfl) h0
 obtain ⟨s1, rfl, rfl, rfl, _⟩ := open_string Tryz.underlying9 (hval 1 9 v1 rfl rfl) h1
 have hz1 := sized_str hsz0 (j := 1) (s := s1) rfl rfl (by simp [DataW.weights])
 obtain ⟨x2, rfl, hz2⟩ := open_link hsz0 (j := 2) rfl rfl (hval 2 36 v2 rfl rfl) h2
 obtain ⟨x3, rfl⟩ := open_elem (hval 3 38 v3 rfl rfl) h3
 refine (gasks_walk s1 x2 x3 l0 A0 N0 c0 W hs0 hn0 hb0 hf0 hw hz1 hz2).mono fun e W' ⟨he, hb⟩ => ?_
 subst he
 exact ⟨_, rfl, law_post Tryz.laidOut hW' rfl (of_decide_eq_true (by kernel_rfl)) (by kernel_rfl) Tryz.underlying4 rfl rfl rfl hb⟩
theorem gasks_reads (os : Os) {H : Type} (enc : TypeId × Value → H) : ∃ places, DataW.whole enc Tryz.prog ((laidW os).forCall (fun _ _ => 0) ⟨#[], #[.slice none 0 0, .string ⟨#[]⟩, .agg #[.string ⟨#[]⟩, .string ⟨#[]⟩, .string ⟨#[]⟩], .agg #[.int .i64 0, .string ⟨#[]⟩, .string ⟨#[]⟩, .string ⟨#[]⟩, .string ⟨#[]⟩]], []⟩).memory Tryz.f4.params.toList Rows.graphAsksSpec.vars false #[.slice none 0 0, .string ⟨#[]⟩, .agg #[.string ⟨#[]⟩, .string ⟨#[]⟩, .string ⟨#[]⟩], .agg #[.int .i64 0, .string ⟨#[]⟩, .string ⟨#[]⟩, .string ⟨#[]⟩, .string ⟨#[]⟩]].toList 12 = some ([.nil, .lit (.string []), .agg [.lit (.string []), .lit (.string []), .lit (.string [])], .agg [.lit (.int .i64 0), .lit (.string []), .lit (.string []), .lit (.string []), .lit (.string [])]], [], places) :=
 ⟨[], by kernel_rfl⟩
set_option maxRecDepth 100000 in
theorem gasks_lifted (os : Os) (started : os.Started) (H : Type) (enc : TypeId × Value → H) (F : Stop.Interp) :
  ReturnsInHanded {} Tryz.checked os 4 .any ((OpenSpec.ofChange Rows.graphAsksSpec).preRow enc Tryz.prog Tryz.f4 Rows.graphAsksRow.domain false Rows.graphAsksRow.laid) (((OpenSpec.ofChange Rows.graphAsksSpec).at F).post enc Tryz.prog Tryz.f4 false true false false) := by
 obtain ⟨places, hx⟩ := gasks_reads os enc
 refine returnsInHanded_of_row (C := Tryz.checked) (s := OpenSpec.ofChange Rows.graphAsksSpec) Tryz.own started (by kernel_rfl) Tryz.func4
  (witness_row_at (enc := enc) (C := Tryz.checked) false (laidW os) #[.slice none 0 0, .string ⟨#[]⟩, .agg #[.string ⟨#[]⟩, .string ⟨#[]⟩, .string ⟨#[]⟩], .agg #[.int .i64 0, .string ⟨#[]⟩, .string ⟨#[]⟩, .string ⟨#[]⟩, .string ⟨#[]⟩]] rfl (by kernel_rfl) (by kernel_rfl) (by kernel_rfl)
   (OpenSpec.preRow_of_cond 12 hx (by kernel_rfl) (fun k hk => by cases hk) (by kernel_rfl) (laid_met os _))) ?_
 intro W base args ds gs before hval hW _ _ hsz hL hS _
 exact gasks_contract H enc W base args ds gs before hval hW hsz (wok_of hL hS)
theorem gasks_said : Rows.GraphAsksSaid :=
 OpenClaim.holds_of_cond 4 Tryz.f4 rfl rfl rfl rfl rfl rfl rfl ⟨rfl, rfl, rfl, rfl, rfl⟩ rfl rfl rfl rfl rfl (by kernel_rfl) Tryz.func4 (by kernel_rfl)
  (of_decide_eq_true (by kernel_rfl)) (by unfold Func.isWrapper; first | (rw [if_pos (by decide +kernel)]; kernel_rfl) | (rw [if_neg (by decide +kernel)]; exact ⟨rfl, rfl⟩))
  (fun os started H enc _ F => by rw [OpenClaim.pre_eq_preRow]; exact gasks_lifted os started H enc F)
theorem gasks_plain (f : FuncId) (fn : Func) (hf : Tryz.pinned.checked.prog.funcNamed "hedgerow/hedgerowlaw08.GraphAsks" = some f) (hfn : Tryz.pinned.checked.prog.funcs[f]? = some fn) :
  false = Tryz.pinned.checked.prog.looks [] ∧ ∀ (j : Nat) t, fn.params[j]? = some t → Tryz.pinned.checked.prog.wantsStandIn t = false := by
 obtain rfl : f = 4 := Option.some.inj ((show Tryz.prog.funcNamed "hedgerow/hedgerowlaw08.GraphAsks" = some 4 by kernel_rfl).symm.trans hf) |>.symm
 obtain rfl : fn = Tryz.f4 := (Option.some.inj (Tryz.func4.symm.trans hfn)).symm
 refine ⟨by kernel_rfl, fun j t ht => ?_⟩
 rw [Tryz.params4] at ht
 rcases (show t = 22 ∨ t = 9 ∨ t = 36 ∨ t = 38 by simpa using Array.mem_of_getElem? ht) with rfl | rfl | rfl | rfl
 ·exact (show Tryz.prog.wantsStandIn 22 = false by kernel_rfl)
 ·exact (show Tryz.prog.wantsStandIn 9 = false by kernel_rfl)
 ·exact (show Tryz.prog.wantsStandIn 36 = false by kernel_rfl)
 ·exact (show Tryz.prog.wantsStandIn 38 = false by kernel_rfl)
theorem gasks_card : Rows.GraphAsksCardSaid :=
 Claim7.holds_tied_plain_at .later [] _ _ _ _ gasks_said (fun _ h => by cases h) (by kernel_rfl) (fun _ h => by cases h) graphAsks_row_tie rfl ⟨rfl, rfl⟩ (by kernel_rfl) rfl gasks_plain (by kernel_rfl)
end Go.Proofs.YtdgglhlofnigkaaGreatDoor
