/-
  hedgerowlaw08.GraphLines answers true for all values, and leaves all memory as it was: the row, and its card. Conditions: none but the row's own listed variables, which the card ties.
-/import Derived.Test.YtdgglhlofnigkaaGreatDoorJStGG
import Derived.Test.YtdgglhlofnigkaaGreatDoorJGrLiW
import Derived.HandedShaped
import Derived.Test.YtdgglhlofnigkaaGreatDoorJValBuild
import Derived.Test.YtdgglhlofnigkaaGreatDoorCards
import Derived.Test.YtdgglhlofnigkaaGreatDoorTie
import Derived.ProofKit
import Derived.OpenShut
import Derived.Deep.DeepHandedRow
import Derived.Lib.LaidTab
import Derived.Stop.LaidErr
import Derived.Lay
import Derived.SizedLaws
import Derived.Lib.SmallJoins
set_option maxHeartbeats 1000000
set_option maxRecDepth 100000
namespace Go.Proofs.YtdgglhlofnigkaaGreatDoor
open Go.ChangeShapes Go.WideShapes Go.ChangeAt Go.RowKit
theorem cEv : Tryz.prog.cellsOf 60 = 27 := by kernel_rfl
theorem cDot : Tryz.prog.cellsOf 58 = 2 := by kernel_rfl
theorem cVec : Tryz.prog.cellsOf 26 = 16 := by kernel_rfl
theorem cElem : Tryz.prog.cellsOf 38 = 5 := by kernel_rfl
theorem cVal : Tryz.prog.cellsOf 43 = 3 := by kernel_rfl
theorem cInt : Tryz.prog.cellsOf 3 = 1 := by kernel_rfl
theorem cStr : Tryz.prog.cellsOf 9 = 1 := by kernel_rfl
theorem ev_cells {H : Type} {enc : TypeId × Value → H} {W : World} {l : List Value} {d : DataW H} {p : List MemPlace} {fuel : Nat} (hsz : l.length = 27)
  (hf : DataW.trod enc Tryz.prog W 0 (fun _ => true) true fuel 60 l = some (d, p)) :
  ∃ (e : Ev), l = encE e ∧ ∃ x0 x1 x2 y0 z0 z1, d = .agg [x0, x1, x2, .agg [y0, .lit (.string e.a.data.toList), .lit (.string e.b.data.toList), .lit (.string e.cc.data.toList), .lit (.string e.d.data.toList)], .agg [z0, z1, .lit (.string e.t.data.toList)]] := by
 match l, hsz with
 | [c0, c1, c2, c3, c4, c5, c6, c7, c8, c9, c10, c11, c12, c13, c14, c15, c16, c17, c18, c19, c20, c21, c22, c23, c24, c25, c26], _ =>
  obtain ⟨xs, n, _, hx, _, hxl, hg⟩ := DataW.trod_struct Tryz.underlying60 hf
  match xs, hxl with
  | [y0, y1, y2, y3, y4], _ =>
   simp only [Prod.mk.injEq] at hx
   obtain ⟨rfl, _⟩ := hx
   have g0 : DataW.trod enc Tryz.prog W 0 (fun _ => true) true n 58 [c0, c1] = some y0 := by simpa [Value.cells, cDot] using hg 0 _ rfl
   have g1 : DataW.trod enc Tryz.prog W 0 (fun _ => true) true n 26 [c2, c3, c4, c5, c6, c7, c8, c9, c10, c11, c12, c13, c14, c15, c16, c17] = some y1 := by simpa [Value.cells, cVec] using hg 1 _ rfl
   have g2 : DataW.trod enc Tryz.prog W 0 (fun _ => true) true n 3 [c18] = some y2 := by simpa [Value.cells, cInt] using hg 2 _ rfl
   have g3 : DataW.trod enc Tryz.prog W 0 (fun _ => true) true n 38 [c19, c20, c21, c22, c23] = some y3 := by simpa [Value.cells, cElem] using hg 3 _ rfl
   have g4 : DataW.trod enc Tryz.prog W 0 (fun _ => true) true n 43 [c24, c25, c26] = some y4 := by simpa [Value.cells, cVal] using hg 4 _ rfl
   clear hg
   obtain ⟨z0, n0, _, hz0, _, hl0, h0⟩ := DataW.trod_struct Tryz.underlying58 g0
   obtain ⟨z1, n1, _, hz1, _, hl1, h1⟩ := DataW.trod_array Tryz.underlying26 g1
   obtain ⟨z3, n3, _, hz3, _, hl3, h3⟩ := DataW.trod_struct Tryz.underlying38 g3
   obtain ⟨z4, n4, _, hz4, _, hl4, h4⟩ := DataW.trod_struct Tryz.underlying43 g4
   match z0, hl0 with
   | [a0, a1], _ =>
    have k0 : DataW.trod enc Tryz.prog W 0 (fun _ => true) true n0 3 [c0] = some a0 := by simpa [cInt] using h0 0 _ rfl
    have k1 : DataW.trod enc Tryz.prog W 0 (fun _ => true) true n0 3 [c1] = some a1 := by simpa [cInt] using h0 1 _ rfl
    obtain ⟨r, e0, _, _⟩ := DataW.trod_int Tryz.underlying3 k0
    obtain ⟨c, e1, _, _⟩ := DataW.trod_int Tryz.underlying3 k1
    obtain ⟨op, e2, _, _⟩ := DataW.trod_int Tryz.underlying3 g2
    have key : ∀ i, i < 16 → ∃ m : Int, [c2, c3, c4, c5, c6, c7, c8, c9, c10, c11, c12, c13, c14, c15, c16, c17][i]? = some (.int .i64 m) := by
     intro i hi
     have hE := h1 i hi
     rw [cInt, Nat.mul_one, List.getElem?_eq_getElem (by omega)] at hE
     obtain ⟨m, e1, _, _⟩ := DataW.trod_int Tryz.underlying3 hE
     refine ⟨m, ?_⟩
     have hq : (([c2, c3, c4, c5, c6, c7, c8, c9, c10, c11, c12, c13, c14, c15, c16, c17].drop i).take 1)[0]? = some (.int .i64 m) := by rw [e1]; rfl
     simpa using hq
    obtain ⟨m0, f0⟩ := key 0 (by decide)
    obtain ⟨m1, f1⟩ := key 1 (by decide)
    obtain ⟨m2, f2⟩ := key 2 (by decide)
    obtain ⟨m3, f3⟩ := key 3 (by decide)
    obtain ⟨m4, f4⟩ := key 4 (by decide)
    obtain ⟨m5, f5⟩ := key 5 (by decide)
    obtain ⟨m6, f6⟩ := key 6 (by decide)
    obtain ⟨m7, f7⟩ := key 7 (by decide)
    obtain ⟨m8, f8⟩ := key 8 (by decide)
    obtain ⟨m9, f9⟩ := key 9 (by decide)
    obtain ⟨m10, f10⟩ := key 10 (by decide)
    obtain ⟨m11, f11⟩ := key 11 (by decide)
    obtain ⟨m12, f12⟩ := key 12 (by decide)
    obtain ⟨m13, f13⟩ := key 13 (by decide)
    obtain ⟨m14, f14⟩ := key 14 (by decide)
    obtain ⟨m15, f15⟩ := key 15 (by decide)
    match z3, hl3 with
    | [b0, b1, b2, b3, b4], _ =>
     match z4, hl4 with
     | [q0, q1, q2], _ =>
      have k2 : DataW.trod enc Tryz.prog W 0 (fun _ => true) true n3 3 [c19] = some b0 := by simpa [cInt] using h3 0 _ rfl
      have k3 : DataW.trod enc Tryz.prog W 0 (fun _ => true) true n3 9 [c20] = some b1 := by simpa [cStr] using h3 1 _ rfl
      have k4 : DataW.trod enc Tryz.prog W 0 (fun _ => true) true n3 9 [c21] = some b2 := by simpa [cStr] using h3 2 _ rfl
      have k5 : DataW.trod enc Tryz.prog W 0 (fun _ => true) true n3 9 [c22] = some b3 := by simpa [cStr] using h3 3 _ rfl
      have k6 : DataW.trod enc Tryz.prog W 0 (fun _ => true) true n3 9 [c23] = some b4 := by simpa [cStr] using h3 4 _ rfl
      have k7 : DataW.trod enc Tryz.prog W 0 (fun _ => true) true n4 3 [c24] = some q0 := by simpa [cInt] using h4 0 _ rfl
      have k8 : DataW.trod enc Tryz.prog W 0 (fun _ => true) true n4 3 [c25] = some q1 := by simpa [cInt] using h4 1 _ rfl
      have k9 : DataW.trod enc Tryz.prog W 0 (fun _ => true) true n4 9 [c26] = some q2 := by simpa [cStr] using h4 2 _ rfl
      obtain ⟨ek, e3, _, _⟩ := DataW.trod_int Tryz.underlying3 k2
      obtain ⟨sa, e4, d4, _⟩ := DataW.trod_string Tryz.underlying9 k3
      obtain ⟨sb, e5, d5, _⟩ := DataW.trod_string Tryz.underlying9 k4
      obtain ⟨sc, e6, d6, _⟩ := DataW.trod_string Tryz.underlying9 k5
      obtain ⟨sd, e7, d7, _⟩ := DataW.trod_string Tryz.underlying9 k6
      obtain ⟨vk, e8, _, _⟩ := DataW.trod_int Tryz.underlying3 k7
      obtain ⟨vn, e9, _, _⟩ := DataW.trod_int Tryz.underlying3 k8
      obtain ⟨st, e10, d10, _⟩ := DataW.trod_string Tryz.underlying9 k9
      simp only [List.cons.injEq, and_true] at e0 e1 e2 e3 e4 e5 e6 e7 e8 e9 e10
      simp at f0 f1 f2 f3 f4 f5 f6 f7 f8 f9 f10 f11 f12 f13 f14 f15
      subst e0 e1 e2 e3 e4 e5 e6 e7 e8 e9 e10 f0 f1 f2 f3 f4 f5 f6 f7 f8 f9 f10 f11 f12 f13 f14 f15
      refine ⟨⟨r, c, fun i => [m0, m1, m2, m3, m4, m5, m6, m7, m8, m9, m10, m11, m12, m13, m14, m15].getD i 0, op, ek, sa, sb, sc, sd, vk, vn, st⟩, rfl, y0.1, y1.1, y2.1, b0.1, q0.1, q1.1, ?_⟩
      subst d4 d5 d6 d7 d10
      simp only [hz3, hz4, List.map_cons, List.map_nil]
theorem mem_weightsAll {H : Type} {P : Program} {e : TypeId} : ∀ {ds : List (DataW H)} {d : DataW H} {x : Nat}, d ∈ ds → x ∈ d.weights P e → x ∈ DataW.weightsAll P e ds
 | a :: ds, d, x, hd, hx => by
  simp only [DataW.weightsAll, List.mem_append]
  rcases List.mem_cons.1 hd with rfl | h
  ·exact .inl hx
  ·exact .inr (mem_weightsAll h hx)
theorem sized_of {H : Type} {ts : List TypeId} {ds : List (DataW H)} (h : (DataW.weightsEach Tryz.prog ts ds).all (· ≤ reachBytes) = true) {j i : Nat} {x0 x1 x2 y0 z0 z1 : DataW H} {a b c d t : ByteArray} {elems rest : List (DataW H)} (ht : ts[j]? = some 22) (hd : ds[j]? = some (.slice elems rest))
  (hi : elems[i]? = some (.agg [x0, x1, x2, .agg [y0, .lit (.string a.data.toList), .lit (.string b.data.toList), .lit (.string c.data.toList), .lit (.string d.data.toList)], .agg [z0, z1, .lit (.string t.data.toList)]])) :
  a.size ≤ 140737488355328 ∧ b.size ≤ 140737488355328 ∧ c.size ≤ 140737488355328 ∧ d.size ≤ 140737488355328 ∧ t.size ≤ 140737488355328 := by
 have key : ∀ s : ByteArray, s.data.toList.length ∈ DataW.weights Tryz.prog 60 (.agg [x0, x1, x2, .agg [y0, .lit (.string a.data.toList), .lit (.string b.data.toList), .lit (.string c.data.toList), .lit (.string d.data.toList)], .agg [z0, z1, .lit (.string t.data.toList)]] : DataW H) → s.size ≤ 140737488355328 := by
  intro s hs
  have hm := mem_weightsAll (P := Tryz.prog) (e := 60) (List.mem_of_getElem? hi) hs
  have h0 : s.data.toList.length ∈ DataW.weights Tryz.prog 22 (.slice elems rest) := by
   simp only [DataW.weights, Tryz.underlying22, List.mem_cons, List.mem_append]
   exact .inr (.inl hm)
  have h1 := List.all_eq_true.1 h _ (DataW.weights_mem_each ht hd s.data.toList.length h0)
  have h2 : s.data.toList.length ≤ reachBytes := by simpa using h1
  have h3 := reachBytes_lt
  have e1 : s.data.toList.length = s.size := by rw [Array.length_toList]; rfl
  have e3 : (2 : Nat) ^ 47 = 140737488355328 := by decide
  omega
 refine ⟨key a ?_, key b ?_, key c ?_, key d ?_, key t ?_⟩
 all_goals simp [DataW.weights, Tryz.underlying60, Tryz.underlying38, Tryz.underlying43, DataW.weightsEach]
theorem list_of {α : Type} {P : Nat → α → Prop} : ∀ n : Nat, (∀ i, i < n → ∃ e, P i e) → ∃ l : List α, l.length = n ∧ ∀ i e, l[i]? = some e → P i e
 | 0, _ => ⟨[], rfl, fun i e h => by cases h⟩
 | n + 1, h => by
  obtain ⟨l, hl, hp⟩ := list_of n fun i hi => h i (by omega)
  obtain ⟨e, he⟩ := h n (by omega)
  refine ⟨l ++ [e], by simp [hl], fun i x hx => ?_⟩
  by_cases hi : i < n
  ·rw [List.getElem?_append_left (by omega)] at hx; exact hp i x hx
  ·rw [List.getElem?_append_right (by omega)] at hx
   have h2 : i - l.length < 1 := by have := (List.getElem?_eq_some_iff.1 hx).1; simpa using this
   have h3 : i = n := by omega
   subst h3
   rw [hl, Nat.sub_self] at hx
   have : e = x := by simpa using hx
   rw [← this]; exact he
theorem bytesEv : Tryz.prog.bytesOf 60 = 256 := by kernel_rfl
theorem evs_in {H : Type} {enc : TypeId × Value → H} {ts : List TypeId} {ds : List (DataW H)} {j : Nat} {W : World} {v : Value} {d : DataW H} {p : List MemPlace} {r : Reach} {b0 : Nat}
  (hsz : (DataW.weightsEach Tryz.prog ts ds).all (· ≤ reachBytes) = true) (ht : ts[j]? = some 22) (hd : ds[j]? = some d)
  (hv : Value.okWide Tryz.prog W r b0 22 v) (h : DataW.Trod enc Tryz.prog W 0 (fun _ => true) true 22 v d p) :
  ∃ (l : List Ev) (A : Option Addr) (N c : Nat), v = .slice A N c ∧ SlK encE 27 W (.slice A N c) l ∧ l.length = N ∧ N ≤ 4611686018427387903 ∧ ∀ e ∈ l, Fit e := by
 obtain ⟨a0, len, cap, rfl⟩ := okWide_slice Tryz.underlying22 hv
 obtain ⟨fuel, hf⟩ := h
 rcases DataW.trod_slice Tryz.underlying22 hf with ⟨hcs, hx⟩ | ⟨a, len', cap', elems, rest, n, _, hcs, hx, _, hl, hm, hle, hel, _⟩
 ·simp [Value.cells] at hcs
  obtain ⟨rfl, rfl, rfl⟩ := hcs
  exact ⟨[], none, 0, 0, rfl, SlK.nil_ _ _ _, rfl, Nat.zero_le _, fun e he => by cases he⟩
 ·simp [Value.cells] at hcs
  obtain ⟨rfl, rfl, rfl⟩ := hcs
  simp only [Prod.mk.injEq] at hx
  obtain ⟨rfl, _⟩ := hx
  obtain ⟨b, off, spot⟩ := a
  have key : ∀ i, i < len → ∃ e : Ev, (∀ q, q < 27 → W.cell? ((Addr.add ⟨b, off, spot⟩ (i * 27)).add q) = (encE e)[q]?) ∧ ∃ x0 x1 x2 y0 z0 z1, (elems.map (·.1))[i]? = some (.agg [x0, x1, x2, .agg [y0, .lit (.string e.a.data.toList), .lit (.string e.b.data.toList), .lit (.string e.cc.data.toList), .lit (.string e.d.data.toList)], .agg [z0, z1, .lit (.string e.t.data.toList)]]) := by
   intro i hi
   have h1 := hel i hi
   rw [cEv, List.getElem?_eq_getElem (by omega)] at h1
   cases hc : W.cells? 0 (Addr.add ⟨b, off, spot⟩ (i * 27)) 27 with
   | none => rw [hc] at h1; cases h1
   | some cs =>
    rw [hc] at h1
    obtain ⟨_, h2, h3⟩ := World.cells?_some hc
    obtain ⟨y, hy⟩ : ∃ y, elems[i]'(by omega) = y := ⟨_, rfl⟩
    rw [hy] at h1
    obtain ⟨yd, yp⟩ := y
    obtain ⟨e, rfl, x0, x1, x2, y0, z0, z1, hE⟩ := ev_cells h2 h1
    refine ⟨e, h3, x0, x1, x2, y0, z0, z1, ?_⟩
    rw [List.getElem?_map, List.getElem?_eq_getElem (by omega), hy, Option.map_some, ← hE]
  obtain ⟨l, hll, hlp⟩ := list_of len key
  have hsl := sized_slice hsz (j := j) (t := 22) (e := 60) ht hd Tryz.underlying22
  rw [bytesEv] at hsl
  simp only [reachBytes, List.length_map] at hsl
  refine ⟨l, _, len, cap, rfl, ⟨_, cap, by rw [hll], by omega, fun hn => ?_⟩, hll, by omega, fun e he => ?_⟩
  ·have hl0 : 0 < len := by
    rw [← hll]; exact List.length_pos_iff.2 hn
   obtain ⟨e0, hc0, _⟩ := key 0 hl0
   have h0 := hc0 0 (by decide)
   have hspot : spot = none := by
    have h1 : W.cell? ((Addr.add ⟨b, off, spot⟩ (0 * 27)).add 0) = some (.int .i64 e0.r) := h0
    simpa [Addr.add] using World.cell?_spot h1
   subst hspot
   have hlt : b < W.heap.size := by
    have h1 : W.cell? ((Addr.add ⟨b, off, none⟩ (0 * 27)).add 0) = some (.int .i64 e0.r) := h0
    simpa [Addr.add] using World.block_lt_of_cell? _ _ h1
   refine ⟨b, off, rfl, hlt, fun i x hx q u hu => ?_⟩
   have hq : q < 27 := (List.getElem?_eq_some_iff.1 hu).1
   have := (hlp i x hx).1 q hq
   rw [hu, Addr.add_lit, Addr.add_lit] at this
   exact this
  ·obtain ⟨i, hi⟩ := List.getElem?_of_mem he
   obtain ⟨_, x0, x1, x2, y0, z0, z1, hE⟩ := hlp i e hi
   exact sized_of hsz ht hd hE
def lst : List (String × DataW Unit) := Rows.graphLinksRow.laid
theorem gTab : Tryz.prog.globalNamed "internal/strconv.uint64pow10" = some 1 := by kernel_rfl
theorem gTabType : (Tryz.prog.globals[1]?).map (·.type) = some 222 := by kernel_rfl
theorem cArr : Tryz.prog.cellsOf 222 = 20 := by kernel_rfl
theorem cU64 : Tryz.prog.cellsOf 162 = 1 := by kernel_rfl
theorem wok_of {W : World} (hL : laidMetH Tryz.prog lst W) (hS : W.ShapedOpen Tryz.prog) : WOk W := by
 have h0 : laidMet Tryz.prog lst W := hL
 have h2 := h0.tail.tail
 have htab : Lib.TabIs Tryz.prog W "internal/strconv.uint64pow10" .u64 Lib.pow10Tab := Lib.tabIs_of_head gTab gTabType Tryz.underlying222 Tryz.underlying162 cU64 cArr h2
 obtain ⟨m, hm⟩ := Tryz.laysM145.s1_3 W hS
 exact And.intro ⟨World.block_lt_of_cell? _ ⟨0, 0, none⟩ hm, m, hm⟩ htab
noncomputable def laidW (os : Os) : World := World.laidAll Tryz.prog os lst
theorem laid_met (os : Os) (args : Array Value) : laidMet Tryz.prog lst ((laidW os).forCall (fun _ _ => 0) ⟨#[], args, []⟩).memory :=
 laidMet_laidAll args (by kernel_rfl) (by kernel_rfl)
open Go.ChangeShapes Go.WideShapes Go.ChangeAt Go.RowKit Go.Joins
open Go.ChangeMaps (open_string)
theorem glines_contract (H : Type) (enc : TypeId × Value → H) (W : World) (base : Nat) (args : Array Value) (ds gs : List (DataW H)) (before : List MemPlace)
  (hval0 : ∀ (j : Nat) t v, Tryz.f3.params[j]? = some t → args[j]? = some v → Value.okWide Tryz.prog W .any base t v)
  (hW : DataW.Whole enc Tryz.prog Tryz.f3.params.toList Rows.graphLinesSpec.vars false W args.toList ds gs before)
  (hsz0 : (DataW.weightsEach Tryz.prog (Tryz.f3.params.toList ++ Rows.graphLinesSpec.plain.varTypes Tryz.prog) (ds ++ gs)).all (· ≤ reachBytes) = true) (hw : WOk W) :
  Calls Tryz.prog 3 args W fun e W' => ∃ v, e = .returned v ∧ Rows.graphLinesSpec.post enc Tryz.prog Tryz.f3 false true false false W args v W' := by
 have hval : ∀ (j : Nat) t v, Tryz.f3.params[j]? = some t → args[j]? = some v → Value.okWide Tryz.prog W .any base t v := hval0
 have hW' := hW
 obtain ⟨p, q, hA0, hV, rfl, _, _⟩ := hW
 have hA : DataW.TrodAll enc Tryz.prog W 0 (fun _ => true) true Tryz.f3.params.toList args.toList ds p := hA0
 rw [Tryz.params3] at hA hval hsz0
 obtain ⟨v0, d0, rfl, rfl, h0⟩ := trodAll_one hA
 obtain ⟨rfl, rfl⟩ := trodVars_none hV
 clear hA0 hval0
 obtain ⟨l0, A0, N0, c0, rfl, hs0, hn0, hb0, hf0⟩ := evs_in hsz0 (j := 0) rfl rfl (hval 0 22 v0 rfl rfl) h0
 refine (glines_walk l0 A0 N0 c0 W hs0 hn0 hb0 hf0 hw).mono fun e W' ⟨he, hb⟩ => ?_
 subst he
 exact ⟨_, rfl, law_post Tryz.laidOut hW' rfl (of_decide_eq_true (by kernel_rfl)) (by kernel_rfl) Tryz.underlying4 rfl rfl rfl hb⟩
theorem glines_reads (os : Os) {H : Type} (enc : TypeId × Value → H) : ∃ places, DataW.whole enc Tryz.prog ((laidW os).forCall (fun _ _ => 0) ⟨#[], #[.slice none 0 0], []⟩).memory Tryz.f3.params.toList Rows.graphLinesSpec.vars false #[.slice none 0 0].toList 12 = some ([.nil], [], places) :=
 ⟨[], by kernel_rfl⟩
theorem glines_lifted (os : Os) (started : os.Started) (H : Type) (enc : TypeId × Value → H) (F : Stop.Interp) :
  ReturnsInHanded {} Tryz.checked os 3 .any ((OpenSpec.ofChange Rows.graphLinesSpec).preRow enc Tryz.prog Tryz.f3 Rows.graphLinesRow.domain false Rows.graphLinesRow.laid) (((OpenSpec.ofChange Rows.graphLinesSpec).at F).post enc Tryz.prog Tryz.f3 false true false false) := by
 obtain ⟨places, hx⟩ := glines_reads os enc
 refine returnsInHanded_of_row (C := Tryz.checked) (s := OpenSpec.ofChange Rows.graphLinesSpec) Tryz.own started (by kernel_rfl) Tryz.func3
  (witness_row_at (enc := enc) (C := Tryz.checked) false (laidW os) #[.slice none 0 0] rfl (by kernel_rfl) (by kernel_rfl) (by kernel_rfl)
   (OpenSpec.preRow_of_cond 12 hx (by kernel_rfl) (fun k hk => by cases hk) (by kernel_rfl) (laid_met os _))) ?_
 intro W base args ds gs before hval hW _ _ hsz hL hS _
 exact glines_contract H enc W base args ds gs before hval hW hsz (wok_of hL hS)
theorem glines_said : Rows.GraphLinesSaid :=
 OpenClaim.holds_of_cond 3 Tryz.f3 rfl rfl rfl rfl rfl rfl rfl ⟨rfl, rfl, rfl, rfl, rfl⟩ rfl rfl rfl rfl rfl (by kernel_rfl) Tryz.func3 (by kernel_rfl)
  (of_decide_eq_true (by kernel_rfl)) (by unfold Func.isWrapper; first | (rw [if_pos (by decide +kernel)]; kernel_rfl) | (rw [if_neg (by decide +kernel)]; exact ⟨rfl, rfl⟩))
  (fun os started H enc _ F => by rw [OpenClaim.pre_eq_preRow]; exact glines_lifted os started H enc F)
theorem glines_plain (f : FuncId) (fn : Func) (hf : Tryz.pinned.checked.prog.funcNamed "hedgerow/hedgerowlaw08.GraphLines" = some f) (hfn : Tryz.pinned.checked.prog.funcs[f]? = some fn) :
  false = Tryz.pinned.checked.prog.looks [] ∧ ∀ (j : Nat) t, fn.params[j]? = some t → Tryz.pinned.checked.prog.wantsStandIn t = false := by
 obtain rfl : f = 3 := Option.some.inj ((show Tryz.prog.funcNamed "hedgerow/hedgerowlaw08.GraphLines" = some 3 by kernel_rfl).symm.trans hf) |>.symm
 obtain rfl : fn = Tryz.f3 := (Option.some.inj (Tryz.func3.symm.trans hfn)).symm
 refine ⟨by kernel_rfl, fun j t ht => ?_⟩
 rw [Tryz.params3] at ht
 obtain rfl : t = 22 := by simpa using Array.mem_of_getElem? ht
 exact (show Tryz.prog.wantsStandIn 22 = false by kernel_rfl)
theorem glines_card : Rows.GraphLinesCardSaid :=
 Claim7.holds_tied_plain_at .later [] _ _ _ _ glines_said (fun _ h => by cases h) (by kernel_rfl) (fun _ h => by cases h) graphLines_row_tie rfl ⟨rfl, rfl⟩ (by kernel_rfl) rfl glines_plain (by kernel_rfl)
end Go.Proofs.YtdgglhlofnigkaaGreatDoor
