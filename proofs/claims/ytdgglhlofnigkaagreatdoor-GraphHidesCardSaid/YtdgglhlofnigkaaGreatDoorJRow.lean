/-
  THE LAST STEP OF A LAW's ROW, for whatever arguments: a call that answers true and turns nothing that was there meets the row. ARGUMENTS OPENED: a slice of events, as the walks' words have it. Conditions: lengths.
-/
import Derived.Test.YtdgglhlofnigkaaGreatDoorRows
import Derived.WalkKit
import Derived.ProofKit
import Derived.SizedLaws
import Derived.OpenShut
import Derived.Test.YtdgglhlofnigkaaGreatDoorJStGG
import Derived.HandedShaped
namespace Go.Proofs.YtdgglhlofnigkaaGreatDoor
open Go.ChangeShapes Go.WideShapes Go.ChangeAt Go.RowKit
theorem Tryz.own : ownKnob Tryz.prog.godebug = none := by kernel_rfl
theorem Tryz.laidOut : laidOutB Tryz.prog = true := by kernel_rfl
section
variable {H : Type} {enc : TypeId × Value → H} {P : Program}
theorem stays_all (hl : laidOutB P = true) {W W' : World} (hb : Below W.heap.size W W') : ∀ (ts : List TypeId) (vs : List Value) (ds : List (DataW H)) (ps : List MemPlace),
  (ts.all fun t => P.readableRec t && decide (t < P.types.size)) = true → DataW.TrodAll enc P W 0 (fun _ => true) true ts vs ds ps → (∀ x ∈ ps, x.block < W.heap.size) →
  DataW.TrodAll enc P W' 0 (fun b => decide (b < W.heap.size)) true ts vs ds ps
 | [], [], [], ps, _, h, _ => h
 | t :: ts, v :: vs, d :: ds, ps, ht, h, hp => by
  obtain ⟨p, q, h1, h2, rfl⟩ := h
  simp only [List.all_cons, Bool.and_eq_true, decide_eq_true_eq] at ht
  exact ⟨p, q, Below.trod hl ht.1.1 ht.1.2 h1 hb (fun x hx => hp x (List.mem_append_left _ hx)), stays_all hl hb ts vs ds q (by simpa [List.all_eq_true] using ht.2) h2 (fun x hx => hp x (List.mem_append_right _ hx)), rfl⟩
 | [], _ :: _, _, _, _, h, _ => by simp [DataW.TrodAll] at h
 | [], [], _ :: _, _, _, h, _ => by simp [DataW.TrodAll] at h
 | _ :: _, [], _, _, _, h, _ => by simp [DataW.TrodAll] at h
 | _ :: _, _ :: _, [], _, _, h, _ => by simp [DataW.TrodAll] at h
theorem law_post {f : Func} {s : ChangeSpec} {W W' : World} {args : Array Value} {ds : List (DataW H)} {before : List MemPlace} {tb : TypeId}
  (hl : laidOutB P = true) (hW : DataW.Whole enc P f.params.toList s.vars false W args.toList ds [] before) (hv : s.vars = [])
  (ht : (f.params.toList.all fun t => P.readableRec t && decide (t < P.types.size)) = true) (hr : f.resultTypes = #[tb]) (htb : P.underlying tb = some .bool)
  (hres : (s.fn H (ds ++ [])).results = [.lit (.bool true)]) (hargs : (s.fn H (ds ++ [])).args = ds) (hvars : (s.fn H (ds ++ [])).vars = []) (hb : Below W.heap.size W W') :
  s.post enc P f false true false false W args (.bool true) W' := by
 have hW0 := hW
 obtain ⟨p, q, hA, hV, rfl, hfz, hnd⟩ := hW
 rw [hv] at hV
 have hq : q = [] := hV
 subst hq
 have hlt : ∀ x ∈ p, x.block < W.heap.size := fun x hx => by simpa using hW0.lt x (List.mem_append_left _ hx)
 refine ⟨ds, [], _, [], p, [], hW0, ?_, ?_, ?_, hb.frame _, fun h => by cases h⟩
 ·rw [hres, hr]
  exact ⟨[], [], shut_bool htb _, rfl, rfl⟩
 ·rw [hargs]
  exact stays_all hl hb _ _ _ _ ht hA hlt
 ·rw [hvars, hv]; rfl
end
end Go.Proofs.YtdgglhlofnigkaaGreatDoor

namespace Go.Proofs.YtdgglhlofnigkaaGreatDoor
open Go.ChangeShapes Go.WideShapes Go.ChangeAt Go.RowKit
theorem cEv : Tryz.prog.cellsOf 60 = 27 := by kernel_rfl
theorem cDot : Tryz.prog.cellsOf 58 = 2 := by kernel_rfl
theorem cVec : Tryz.prog.cellsOf 26 = 16 := by kernel_rfl
theorem cElem : Tryz.prog.cellsOf 38 = 5 := by kernel_rfl
theorem cVal : Tryz.prog.cellsOf 43 = 3 := by kernel_rfl
theorem cInt : Tryz.prog.cellsOf 3 = 1 := by kernel_rfl
theorem cStr : Tryz.prog.cellsOf 9 = 1 := by kernel_rfl
set_option maxRecDepth 100000 in
set_option maxHeartbeats 1000000 in
theorem ev_cells {H : Type} {enc : TypeId × Value → H} {W : World} {l : List Value} {d : DataW H} {p : List MemPlace} {fuel : Nat} (hsz : l.length = 27)
  (hf : DataW.trod enc Tryz.prog W 0 (fun _ => true) true fuel 60 l = some (d, p)) :
  ∃ (e : Ev), l = encE e ∧ ∃ x0 x1 x2 y0 z0 z1, d = .agg [x0, x1, x2, .agg [y0, .lit (.string e.a.data.toList), .lit (.string e.b.data.toList), .lit (.string e.cc.data.toList), .lit (.string e.d.data.toList)], .agg [z0, z1, .lit (.string e.t.data.toList)]] := by
 match l, hsz with
 | [c0, c1, c2, c3, c4, c5, c6, c7, c8, c9, c10, c11, c12, c13, c14, c15, c16, c17, c18, c19, c20, c21, c22, c23, c24, c25, c26], _ =>
  obtain ⟨xs, n, _, hx, _, hxl, hg⟩ := DataW.trod_struct Tryz.underlying60 hf
  match xs, hxl with
  | [y0, y1, y2, y3, y4], _ =>
   simp only [Prod.mk.injEq] at hx
   obtain ⟨rfl, _⟩ := hx
   have g0 : DataW.trod enc Tryz.prog W 0 (fun _ => true) true n 58 [c0, c1] = some y0 := by simpa [Value.cells, cDot] using hg 0 _ rfl
   have g1 : DataW.trod enc Tryz.prog W 0 (fun _ => true) true n 26 [c2, c3, c4, c5, c6, c7, c8, c9, c10, c11, c12, c13, c14, c15, c16, c17] = some y1 := by simpa [Value.cells, cVec] using hg 1 _ rfl
   have g2 : DataW.trod enc Tryz.prog W 0 (fun _ => true) true n 3 [c18] = some y2 := by simpa [Value.cells, cInt] using hg 2 _ rfl
   have g3 : DataW.trod enc Tryz.prog W 0 (fun _ => true) true n 38 [c19, c20, c21, c22, c23] = some y3 := by simpa [Value.cells, cElem] using hg 3 _ rfl
   have g4 : DataW.trod enc Tryz.prog W 0 (fun _ => true) true n 43 [c24, c25, c26] = some y4 := by simpa [Value.cells, cVal] using hg 4 _ rfl
   clear hg
   obtain ⟨z0, n0, _, hz0, _, hl0, h0⟩ := DataW.trod_struct Tryz.underlying58 g0
   obtain ⟨z1, n1, _, hz1, _, hl1, h1⟩ := DataW.trod_array Tryz.underlying26 g1
   obtain ⟨z3, n3, _, hz3, _, hl3, h3⟩ := DataW.trod_struct Tryz.underlying38 g3
   obtain ⟨z4, n4, _, hz4, _, hl4, h4⟩ := DataW.trod_struct Tryz.underlying43 g4
   match z0, hl0 with
   | [a0, a1], _ =>
    have k0 : DataW.trod enc Tryz.prog W 0 (fun _ => true) true n0 3 [c0] = some a0 := by simpa [cInt] using h0 0 _ rfl
    have k1 : DataW.trod enc Tryz.prog W 0 (fun _ => true) true n0 3 [c1] = some a1 := by simpa [cInt] using h0 1 _ rfl
    obtain ⟨r, e0, _, _⟩ := DataW.trod_int Tryz.underlying3 k0
    obtain ⟨c, e1, _, _⟩ := DataW.trod_int Tryz.underlying3 k1
    obtain ⟨op, e2, _, _⟩ := DataW.trod_int Tryz.underlying3 g2
    have key : ∀ i, i < 16 → ∃ m : Int, [c2, c3, c4, c5, c6, c7, c8, c9, c10, c11, c12, c13, c14, c15, c16, c17][i]? = some (.int .i64 m) := by
     intro i hi
     have hE := h1 i hi
     rw [cInt, Nat.mul_one, List.getElem?_eq_getElem (by omega)] at hE
     obtain ⟨m, e1, _, _⟩ := DataW.trod_int Tryz.underlying3 hE
     refine ⟨m, ?_⟩
     have hq : (([c2, c3, c4, c5, c6, c7, c8, c9, c10, c11, c12, c13, c14, c15, c16, c17].drop i).take 1)[0]? = some (.int .i64 m) := by rw [e1]; rfl
     simpa using hq
    obtain ⟨m0, f0⟩ := key 0 (by decide)
    obtain ⟨m1, f1⟩ := key 1 (by decide)
    obtain ⟨m2, f2⟩ := key 2 (by decide)
    obtain ⟨m3, f3⟩ := key 3 (by decide)
    obtain ⟨m4, f4⟩ := key 4 (by decide)
    obtain ⟨m5, f5⟩ := key 5 (by decide)
    obtain ⟨m6, f6⟩ := key 6 (by decide)
    obtain ⟨m7, f7⟩ := key 7 (by decide)
    obtain ⟨m8, f8⟩ := key 8 (by decide)
    obtain ⟨m9, f9⟩ := key 9 (by decide)
    obtain ⟨m10, f10⟩ := key 10 (by decide)
    obtain ⟨m11, f11⟩ := key 11 (by decide)
    obtain ⟨m12, f12⟩ := key 12 (by decide)
    obtain ⟨m13, f13⟩ := key 13 (by decide)
    obtain ⟨m14, f14⟩ := key 14 (by decide)
    obtain ⟨m15, f15⟩ := key 15 (by decide)
    match z3, hl3 with
    | [b0, b1, b2, b3, b4], _ =>
     match z4, hl4 with
     | [q0, q1, q2], _ =>
      have k2 : DataW.trod enc Tryz.prog W 0 (fun _ => true) true n3 3 [c19] = some b0 := by simpa [cInt] using h3 0 _ rfl
      have k3 : DataW.trod enc Tryz.prog W 0 (fun _ => true) true n3 9 [c20] = some b1 := by simpa [cStr] using h3 1 _ rfl
      have k4 : DataW.trod enc Tryz.prog W 0 (fun _ => true) true n3 9 [c21] = some b2 := by simpa [cStr] using h3 2 _ rfl
      have k5 : DataW.trod enc Tryz.prog W 0 (fun _ => true) true n3 9 [c22] = some b3 := by simpa [cStr] using h3 3 _ rfl
      have k6 : DataW.trod enc Tryz.prog W 0 (fun _ => true) true n3 9 [c23] = some b4 := by simpa [cStr] using h3 4 _ rfl
      have k7 : DataW.trod enc Tryz.prog W 0 (fun _ => true) true n4 3 [c24] = some q0 := by simpa [cInt] using h4 0 _ rfl
      have k8 : DataW.trod enc Tryz.prog W 0 (fun _ => true) true n4 3 [c25] = some q1 := by simpa [cInt] using h4 1 _ rfl
      have k9 : DataW.trod enc Tryz.prog W 0 (fun _ => true) true n4 9 [c26] = some q2 := by simpa [cStr] using h4 2 _ rfl
      obtain ⟨ek, e3, _, _⟩ := DataW.trod_int Tryz.underlying3 k2
      obtain ⟨sa, e4, d4, _⟩ := DataW.trod_string Tryz.underlying9 k3
      obtain ⟨sb, e5, d5, _⟩ := DataW.trod_string Tryz.underlying9 k4
      obtain ⟨sc, e6, d6, _⟩ := DataW.trod_string Tryz.underlying9 k5
      obtain ⟨sd, e7, d7, _⟩ := DataW.trod_string Tryz.underlying9 k6
      obtain ⟨vk, e8, _, _⟩ := DataW.trod_int Tryz.underlying3 k7
      obtain ⟨vn, e9, _, _⟩ := DataW.trod_int Tryz.underlying3 k8
      obtain ⟨st, e10, d10, _⟩ := DataW.trod_string Tryz.underlying9 k9
      simp only [List.cons.injEq, and_true] at e0 e1 e2 e3 e4 e5 e6 e7 e8 e9 e10
      simp at f0 f1 f2 f3 f4 f5 f6 f7 f8 f9 f10 f11 f12 f13 f14 f15
      subst e0 e1 e2 e3 e4 e5 e6 e7 e8 e9 e10 f0 f1 f2 f3 f4 f5 f6 f7 f8 f9 f10 f11 f12 f13 f14 f15
      refine ⟨⟨r, c, fun i => [m0, m1, m2, m3, m4, m5, m6, m7, m8, m9, m10, m11, m12, m13, m14, m15].getD i 0, op, ek, sa, sb, sc, sd, vk, vn, st⟩, rfl, y0.1, y1.1, y2.1, b0.1, q0.1, q1.1, ?_⟩
      subst d4 d5 d6 d7 d10
      simp only [hz3, hz4, List.map_cons, List.map_nil]
theorem mem_weightsAll {H : Type} {P : Program} {e : TypeId} : ∀ {ds : List (DataW H)} {d : DataW H} {x : Nat}, d ∈ ds → x ∈ d.weights P e → x ∈ DataW.weightsAll P e ds
 | a :: ds, d, x, hd, hx => by
  simp only [DataW.weightsAll, List.mem_append]
  rcases List.mem_cons.1 hd with rfl | h
  ·exact .inl hx
  ·exact .inr (mem_weightsAll h hx)
theorem sized_of {H : Type} {ts : List TypeId} {ds : List (DataW H)} (h : (DataW.weightsEach Tryz.prog ts ds).all (· ≤ reachBytes) = true) {j i : Nat} {x0 x1 x2 y0 z0 z1 : DataW H} {a b c d t : ByteArray} {elems rest : List (DataW H)} (ht : ts[j]? = some 22) (hd : ds[j]? = some (.slice elems rest))
  (hi : elems[i]? = some (.agg [x0, x1, x2, .agg [y0, .lit (.string a.data.toList), .lit (.string b.data.toList), .lit (.string c.data.toList), .lit (.string d.data.toList)], .agg [z0, z1, .lit (.string t.data.toList)]])) :
  a.size ≤ 140737488355328 ∧ b.size ≤ 140737488355328 ∧ c.size ≤ 140737488355328 ∧ d.size ≤ 140737488355328 ∧ t.size ≤ 140737488355328 := by
 have key : ∀ s : ByteArray, s.data.toList.length ∈ DataW.weights Tryz.prog 60 (.agg [x0, x1, x2, .agg [y0, .lit (.string a.data.toList), .lit (.string b.data.toList), .lit (.string c.data.toList), .lit (.string d.data.toList)], .agg [z0, z1, .lit (.string t.data.toList)]] : DataW H) → s.size ≤ 140737488355328 := by
  intro s hs
  have hm := mem_weightsAll (P := Tryz.prog) (e := 60) (List.mem_of_getElem? hi) hs
  have h0 : s.data.toList.length ∈ DataW.weights Tryz.prog 22 (.slice elems rest) := by
   simp only [DataW.weights, Tryz.underlying22, List.mem_cons, List.mem_append]
   exact .inr (.inl hm)
  have h1 := List.all_eq_true.1 h _ (DataW.weights_mem_each ht hd s.data.toList.length h0)
  have h2 : s.data.toList.length ≤ reachBytes := by simpa using h1
  have h3 := reachBytes_lt
  have e1 : s.data.toList.length = s.size := by rw [Array.length_toList]; rfl
  have e3 : (2 : Nat) ^ 47 = 140737488355328 := by decide
  omega
 refine ⟨key a ?_, key b ?_, key c ?_, key d ?_, key t ?_⟩
 all_goals simp [DataW.weights, Tryz.underlying60, Tryz.underlying38, Tryz.underlying43, DataW.weightsEach]
theorem list_of {α : Type} {P : Nat → α → Prop} : ∀ n : Nat, (∀ i, i < n → ∃ e, P i e) → ∃ l : List α, l.length = n ∧ ∀ i e, l[i]? = some e → P i e
 | 0, _ => ⟨[], rfl, fun i e h => by cases h⟩
 | n + 1, h => by
  obtain ⟨l, hl, hp⟩ := list_of n fun i hi => h i (by omega)
  obtain ⟨e, he⟩ := h n (by omega)
  refine ⟨l ++ [e], by simp [hl], fun i x hx => ?_⟩
  by_cases hi : i < n
  ·rw [List.getElem?_append_left (by omega)] at hx; exact hp i x hx
  ·rw [List.getElem?_append_right (by omega)] at hx
   have h2 : i - l.length < 1 := by have := (List.getElem?_eq_some_iff.1 hx).1; simpa using this
   have h3 : i = n := by omega
   subst h3
   rw [hl, Nat.sub_self] at hx
   have : e = x := by simpa using hx
   rw [← this]; exact he
theorem bytesEv : Tryz.prog.bytesOf 60 = 256 := by kernel_rfl
set_option maxRecDepth 100000 in
theorem evs_in {H : Type} {enc : TypeId × Value → H} {ts : List TypeId} {ds : List (DataW H)} {j : Nat} {W : World} {v : Value} {d : DataW H} {p : List MemPlace} {r : Reach} {b0 : Nat}
  (hsz : (DataW.weightsEach Tryz.prog ts ds).all (· ≤ reachBytes) = true) (ht : ts[j]? = some 22) (hd : ds[j]? = some d)
  (hv : Value.okWide Tryz.prog W r b0 22 v) (h : DataW.Trod enc Tryz.prog W 0 (fun _ => true) true 22 v d p) :
  ∃ (l : List Ev) (A : Option Addr) (N c : Nat), v = .slice A N c ∧ SlK encE 27 W (.slice A N c) l ∧ l.length = N ∧ N ≤ 4611686018427387903 ∧ ∀ e ∈ l, Fit e := by
 obtain ⟨a0, len, cap, rfl⟩ := okWide_slice Tryz.underlying22 hv
 obtain ⟨fuel, hf⟩ := h
 rcases DataW.trod_slice Tryz.underlying22 hf with ⟨hcs, hx⟩ | ⟨a, len', cap', elems, rest, n, _, hcs, hx, _, hl, hm, hle, hel, _⟩
 ·simp [Value.cells] at hcs
  obtain ⟨rfl, rfl, rfl⟩ := hcs
  exact ⟨[], none, 0, 0, rfl, SlK.nil_ _ _ _, rfl, Nat.zero_le _, fun e he => by cases he⟩
 ·simp [Value.cells] at hcs
  obtain ⟨rfl, rfl, rfl⟩ := hcs
  simp only [Prod.mk.injEq] at hx
  obtain ⟨rfl, _⟩ := hx
  obtain ⟨b, off, spot⟩ := a
  have key : ∀ i, i < len → ∃ e : Ev, (∀ q, q < 27 → W.cell? ((Addr.add ⟨b, off, spot⟩ (i * 27)).add q) = (encE e)[q]?) ∧ ∃ x0 x1 x2 y0 z0 z1, (elems.map (·.1))[i]? = some (.agg [x0, x1, x2, .agg [y0, .lit (.string e.a.data.toList), .lit (.string e.b.data.toList), .lit (.string e.cc.data.toList), .lit (.string e.d.data.toList)], .agg [z0, z1, .lit (.string e.t.data.toList)]]) := by
   intro i hi
   have h1 := hel i hi
   rw [cEv, List.getElem?_eq_getElem (by omega)] at h1
   cases hc : W.cells? 0 (Addr.add ⟨b, off, spot⟩ (i * 27)) 27 with
   | none => rw [hc] at h1; cases h1
   | some cs =>
    rw [hc] at h1
    obtain ⟨_, h2, h3⟩ := World.cells?_some hc
    obtain ⟨y, hy⟩ : ∃ y, elems[i]'(by omega) = y := ⟨_, rfl⟩
    rw [hy] at h1
    obtain ⟨yd, yp⟩ := y
    obtain ⟨e, rfl, x0, x1, x2, y0, z0, z1, hE⟩ := ev_cells h2 h1
    refine ⟨e, h3, x0, x1, x2, y0, z0, z1, ?_⟩
    rw [List.getElem?_map, List.getElem?_eq_getElem (by omega), hy, Option.map_some, ← hE]
  obtain ⟨l, hll, hlp⟩ := list_of len key
  have hsl := sized_slice hsz (j := j) (t := 22) (e := 60) ht hd Tryz.underlying22
  rw [bytesEv] at hsl
  simp only [reachBytes, List.length_map] at hsl
  refine ⟨l, _, len, cap, rfl, ⟨_, cap, by rw [hll], by omega, fun hn => ?_⟩, hll, by omega, fun e he => ?_⟩
  ·have hl0 : 0 < len := by
    rw [← hll]; exact List.length_pos_iff.2 hn
   obtain ⟨e0, hc0, _⟩ := key 0 hl0
   have h0 := hc0 0 (by decide)
   have hspot : spot = none := by
    have h1 : W.cell? ((Addr.add ⟨b, off, spot⟩ (0 * 27)).add 0) = some (.int .i64 e0.r) := h0
    simpa [Addr.add] using World.cell?_spot h1
   subst hspot
   have hlt : b < W.heap.size := by
    have h1 : W.cell? ((Addr.add ⟨b, off, none⟩ (0 * 27)).add 0) = some (.int .i64 e0.r) := h0
    simpa [Addr.add] using World.block_lt_of_cell? _ _ h1
   refine ⟨b, off, rfl, hlt, fun i x hx q u hu => ?_⟩
   have hq : q < 27 := (List.getElem?_eq_some_iff.1 hu).1
   have := (hlp i x hx).1 q hq
   rw [hu, Addr.add_lit, Addr.add_lit] at this
   exact this
  ·obtain ⟨i, hi⟩ := List.getElem?_of_mem he
   obtain ⟨_, x0, x1, x2, y0, z0, z1, hE⟩ := hlp i e hi
   exact sized_of hsz ht hd hE
end Go.Proofs.YtdgglhlofnigkaaGreatDoor
