/-
  THE LAST STEP OF A LAW's ROW, for whatever arguments: a call that answers true and turns nothing that was there meets the row. ARGUMENTS OPENED: an event, as the walks' words have it. ARGUMENTS OPENED: a slice of bytes, with its length's bound. Conditions: lengths.
-/
import Derived.Test.YtalaidlnhoonfaaRows
import Derived.WalkKit
import Derived.ProofKit
import Derived.SizedLaws
import Derived.OpenShut
import Derived.Test.YtalaidlnhoonfaaQMk
import Derived.HandedShaped
import Derived.Test.YtalaidlnhoonfaaWords
namespace Go.Proofs.Ytalaidlnhoonfaa
open Go.ChangeShapes Go.WideShapes Go.ChangeAt Go.RowKit

theorem Try.own : ownKnob Try.prog.godebug = none := by kernel_rfl
theorem Try.laidOut : laidOutB Try.prog = true := by kernel_rfl

section
variable {H : Type} {enc : TypeId × Value → H} {P : Program}

theorem stays_all (hl : laidOutB P = true) {W W' : World} (hb : Below W.heap.size W W') : ∀ (ts : List TypeId) (vs : List Value) (ds : List (DataW H)) (ps : List MemPlace),
    (ts.all fun t => P.readableRec t && decide (t < P.types.size)) = true → DataW.TrodAll enc P W 0 (fun _ => true) true ts vs ds ps → (∀ x ∈ ps, x.block < W.heap.size) →
    DataW.TrodAll enc P W' 0 (fun b => decide (b < W.heap.size)) true ts vs ds ps
  | [], [], [], ps, _, h, _ => h
  | t :: ts, v :: vs, d :: ds, ps, ht, h, hp => by
    obtain ⟨p, q, h1, h2, rfl⟩ := h
    simp only [List.all_cons, Bool.and_eq_true, decide_eq_true_eq] at ht
    exact ⟨p, q, Below.trod hl ht.1.1 ht.1.2 h1 hb (fun x hx => hp x (List.mem_append_left _ hx)), stays_all hl hb ts vs ds q (by simpa [List.all_eq_true] using ht.2) h2 (fun x hx => hp x (List.mem_append_right _ hx)), rfl⟩
  | [], _ :: _, _, _, _, h, _ => by simp [DataW.TrodAll] at h
  | [], [], _ :: _, _, _, h, _ => by simp [DataW.TrodAll] at h
  | _ :: _, [], _, _, _, h, _ => by simp [DataW.TrodAll] at h
  | _ :: _, _ :: _, [], _, _, h, _ => by simp [DataW.TrodAll] at h

theorem law_post {f : Func} {s : ChangeSpec} {W W' : World} {args : Array Value} {ds : List (DataW H)} {before : List MemPlace} {tb : TypeId}
    (hl : laidOutB P = true) (hW : DataW.Whole enc P f.params.toList s.vars false W args.toList ds [] before) (hv : s.vars = [])
    (ht : (f.params.toList.all fun t => P.readableRec t && decide (t < P.types.size)) = true) (hr : f.resultTypes = #[tb]) (htb : P.underlying tb = some .bool)
    (hres : (s.fn H (ds ++ [])).results = [.lit (.bool true)]) (hargs : (s.fn H (ds ++ [])).args = ds) (hvars : (s.fn H (ds ++ [])).vars = []) (hb : Below W.heap.size W W') :
    s.post enc P f false true false false W args (.bool true) W' := by
  have hW0 := hW
  obtain ⟨p, q, hA, hV, rfl, hfz, hnd⟩ := hW
  rw [hv] at hV
  have hq : q = [] := hV
  subst hq
  have hlt : ∀ x ∈ p, x.block < W.heap.size := fun x hx => by simpa using hW0.lt x (List.mem_append_left _ hx)
  refine ⟨ds, [], _, [], p, [], hW0, ?_, ?_, ?_, hb.frame _, fun h => by cases h⟩
  · rw [hres, hr]
    exact ⟨[], [], shut_bool htb _, rfl, rfl⟩
  · rw [hargs]
    exact stays_all hl hb _ _ _ _ ht hA hlt
  · rw [hvars, hv]; rfl
end

end Go.Proofs.Ytalaidlnhoonfaa

namespace Go.Proofs.Ytalaidlnhoonfaa
open Go.ChangeShapes Go.WideShapes Go.ChangeAt Go.RowKit

theorem cEv : Try.prog.cellsOf 48 = 27 := by kernel_rfl
theorem cDot : Try.prog.cellsOf 42 = 2 := by kernel_rfl
theorem cVec : Try.prog.cellsOf 23 = 16 := by kernel_rfl
theorem cElem : Try.prog.cellsOf 44 = 5 := by kernel_rfl
theorem cVal : Try.prog.cellsOf 46 = 3 := by kernel_rfl
theorem cInt : Try.prog.cellsOf 3 = 1 := by kernel_rfl
theorem cStr : Try.prog.cellsOf 9 = 1 := by kernel_rfl

set_option maxRecDepth 100000 in
set_option maxHeartbeats 1000000 in
/-- An event that came in. -/
theorem ev_in {H : Type} {enc : TypeId × Value → H} {W : World} {v : Value} {d : DataW H} {p : List MemPlace} {r : Reach} {b0 : Nat}
    (hv : Value.okWide Try.prog W r b0 48 v) (h : DataW.Trod enc Try.prog W 0 (fun _ => true) true 48 v d p) :
    ∃ (e : Ev), v = evV e ∧ ∃ x0 x1 x2 y0 z0 z1, d = .agg [x0, x1, x2, .agg [y0, .lit (.string e.a.data.toList), .lit (.string e.b.data.toList), .lit (.string e.cc.data.toList), .lit (.string e.d.data.toList)], .agg [z0, z1, .lit (.string e.t.data.toList)]] := by
  obtain ⟨cs, rfl, hsz⟩ := okWide_struct Try.underlying48 hv
  have hsz := hsz.trans cEv
  obtain ⟨l⟩ := cs
  obtain ⟨fuel, hf⟩ := h
  match l, hsz with
  | [c0, c1, c2, c3, c4, c5, c6, c7, c8, c9, c10, c11, c12, c13, c14, c15, c16, c17, c18, c19, c20, c21, c22, c23, c24, c25, c26], _ =>
    obtain ⟨xs, n, _, hx, _, hxl, hg⟩ := DataW.trod_struct Try.underlying48 hf
    match xs, hxl with
    | [y0, y1, y2, y3, y4], _ =>
      simp only [Prod.mk.injEq] at hx
      obtain ⟨rfl, _⟩ := hx
      have g0 : DataW.trod enc Try.prog W 0 (fun _ => true) true n 42 [c0, c1] = some y0 := by simpa [Value.cells, cDot] using hg 0 _ rfl
      have g1 : DataW.trod enc Try.prog W 0 (fun _ => true) true n 23 [c2, c3, c4, c5, c6, c7, c8, c9, c10, c11, c12, c13, c14, c15, c16, c17] = some y1 := by simpa [Value.cells, cVec] using hg 1 _ rfl
      have g2 : DataW.trod enc Try.prog W 0 (fun _ => true) true n 3 [c18] = some y2 := by simpa [Value.cells, cInt] using hg 2 _ rfl
      have g3 : DataW.trod enc Try.prog W 0 (fun _ => true) true n 44 [c19, c20, c21, c22, c23] = some y3 := by simpa [Value.cells, cElem] using hg 3 _ rfl
      have g4 : DataW.trod enc Try.prog W 0 (fun _ => true) true n 46 [c24, c25, c26] = some y4 := by simpa [Value.cells, cVal] using hg 4 _ rfl
      clear hg
      obtain ⟨z0, n0, _, hz0, _, hl0, h0⟩ := DataW.trod_struct Try.underlying42 g0
      obtain ⟨z1, n1, _, hz1, _, hl1, h1⟩ := DataW.trod_array Try.underlying23 g1
      obtain ⟨z3, n3, _, hz3, _, hl3, h3⟩ := DataW.trod_struct Try.underlying44 g3
      obtain ⟨z4, n4, _, hz4, _, hl4, h4⟩ := DataW.trod_struct Try.underlying46 g4
      match z0, hl0 with
      | [a0, a1], _ =>
        have k0 : DataW.trod enc Try.prog W 0 (fun _ => true) true n0 3 [c0] = some a0 := by simpa [cInt] using h0 0 _ rfl
        have k1 : DataW.trod enc Try.prog W 0 (fun _ => true) true n0 3 [c1] = some a1 := by simpa [cInt] using h0 1 _ rfl
        obtain ⟨r, e0, _, _⟩ := DataW.trod_int Try.underlying3 k0
        obtain ⟨c, e1, _, _⟩ := DataW.trod_int Try.underlying3 k1
        obtain ⟨op, e2, _, _⟩ := DataW.trod_int Try.underlying3 g2
        have key : ∀ i, i < 16 → ∃ m : Int, [c2, c3, c4, c5, c6, c7, c8, c9, c10, c11, c12, c13, c14, c15, c16, c17][i]? = some (.int .i64 m) := by
          intro i hi
          have hE := h1 i hi
          rw [cInt, Nat.mul_one, List.getElem?_eq_getElem (by omega)] at hE
          obtain ⟨m, e1, _, _⟩ := DataW.trod_int Try.underlying3 hE
          refine ⟨m, ?_⟩
          have hq : (([c2, c3, c4, c5, c6, c7, c8, c9, c10, c11, c12, c13, c14, c15, c16, c17].drop i).take 1)[0]? = some (.int .i64 m) := by rw [e1]; rfl
          simpa using hq
        obtain ⟨m0, f0⟩ := key 0 (by decide)
        obtain ⟨m1, f1⟩ := key 1 (by decide)
        obtain ⟨m2, f2⟩ := key 2 (by decide)
        obtain ⟨m3, f3⟩ := key 3 (by decide)
        obtain ⟨m4, f4⟩ := key 4 (by decide)
        obtain ⟨m5, f5⟩ := key 5 (by decide)
        obtain ⟨m6, f6⟩ := key 6 (by decide)
        obtain ⟨m7, f7⟩ := key 7 (by decide)
        obtain ⟨m8, f8⟩ := key 8 (by decide)
        obtain ⟨m9, f9⟩ := key 9 (by decide)
        obtain ⟨m10, f10⟩ := key 10 (by decide)
        obtain ⟨m11, f11⟩ := key 11 (by decide)
        obtain ⟨m12, f12⟩ := key 12 (by decide)
        obtain ⟨m13, f13⟩ := key 13 (by decide)
        obtain ⟨m14, f14⟩ := key 14 (by decide)
        obtain ⟨m15, f15⟩ := key 15 (by decide)
        match z3, hl3 with
        | [b0, b1, b2, b3, b4], _ =>
          match z4, hl4 with
          | [q0, q1, q2], _ =>
            have k2 : DataW.trod enc Try.prog W 0 (fun _ => true) true n3 3 [c19] = some b0 := by simpa [cInt] using h3 0 _ rfl
            have k3 : DataW.trod enc Try.prog W 0 (fun _ => true) true n3 9 [c20] = some b1 := by simpa [cStr] using h3 1 _ rfl
            have k4 : DataW.trod enc Try.prog W 0 (fun _ => true) true n3 9 [c21] = some b2 := by simpa [cStr] using h3 2 _ rfl
            have k5 : DataW.trod enc Try.prog W 0 (fun _ => true) true n3 9 [c22] = some b3 := by simpa [cStr] using h3 3 _ rfl
            have k6 : DataW.trod enc Try.prog W 0 (fun _ => true) true n3 9 [c23] = some b4 := by simpa [cStr] using h3 4 _ rfl
            have k7 : DataW.trod enc Try.prog W 0 (fun _ => true) true n4 3 [c24] = some q0 := by simpa [cInt] using h4 0 _ rfl
            have k8 : DataW.trod enc Try.prog W 0 (fun _ => true) true n4 3 [c25] = some q1 := by simpa [cInt] using h4 1 _ rfl
            have k9 : DataW.trod enc Try.prog W 0 (fun _ => true) true n4 9 [c26] = some q2 := by simpa [cStr] using h4 2 _ rfl
            obtain ⟨ek, e3, _, _⟩ := DataW.trod_int Try.underlying3 k2
            obtain ⟨sa, e4, d4, _⟩ := DataW.trod_string Try.underlying9 k3
            obtain ⟨sb, e5, d5, _⟩ := DataW.trod_string Try.underlying9 k4
            obtain ⟨sc, e6, d6, _⟩ := DataW.trod_string Try.underlying9 k5
            obtain ⟨sd, e7, d7, _⟩ := DataW.trod_string Try.underlying9 k6
            obtain ⟨vk, e8, _, _⟩ := DataW.trod_int Try.underlying3 k7
            obtain ⟨vn, e9, _, _⟩ := DataW.trod_int Try.underlying3 k8
            obtain ⟨st, e10, d10, _⟩ := DataW.trod_string Try.underlying9 k9
            simp only [List.cons.injEq, and_true] at e0 e1 e2 e3 e4 e5 e6 e7 e8 e9 e10
            simp at f0 f1 f2 f3 f4 f5 f6 f7 f8 f9 f10 f11 f12 f13 f14 f15
            subst e0 e1 e2 e3 e4 e5 e6 e7 e8 e9 e10 f0 f1 f2 f3 f4 f5 f6 f7 f8 f9 f10 f11 f12 f13 f14 f15
            refine ⟨⟨r, c, fun i => [m0, m1, m2, m3, m4, m5, m6, m7, m8, m9, m10, m11, m12, m13, m14, m15].getD i 0, op, ek, sa, sb, sc, sd, vk, vn, st⟩, rfl, y0.1, y1.1, y2.1, b0.1, q0.1, q1.1, ?_⟩
            subst d4 d5 d6 d7 d10
            simp only [hz3, hz4, List.map_cons, List.map_nil]

theorem sized_in {H : Type} {ts : List TypeId} {ds : List (DataW H)} (h : (DataW.weightsEach Try.prog ts ds).all (· ≤ reachBytes) = true) {j : Nat} {x0 x1 x2 y0 z0 z1 : DataW H} {a b c d t : ByteArray} (ht : ts[j]? = some 48)
    (hd : ds[j]? = some (.agg [x0, x1, x2, .agg [y0, .lit (.string a.data.toList), .lit (.string b.data.toList), .lit (.string c.data.toList), .lit (.string d.data.toList)], .agg [z0, z1, .lit (.string t.data.toList)]])) :
    a.size ≤ 140737488355328 ∧ b.size ≤ 140737488355328 ∧ c.size ≤ 140737488355328 ∧ d.size ≤ 140737488355328 ∧ t.size ≤ 140737488355328 := by
  have key : ∀ s : ByteArray, s.data.toList.length ∈ DataW.weights Try.prog 48 (.agg [x0, x1, x2, .agg [y0, .lit (.string a.data.toList), .lit (.string b.data.toList), .lit (.string c.data.toList), .lit (.string d.data.toList)], .agg [z0, z1, .lit (.string t.data.toList)]] : DataW H) → s.size ≤ 140737488355328 := by
    intro s hs
    have h1 := List.all_eq_true.1 h _ (DataW.weights_mem_each ht hd s.data.toList.length hs)
    have h2 : s.data.toList.length ≤ reachBytes := by simpa using h1
    have h3 := reachBytes_lt
    have e1 : s.data.toList.length = s.size := by rw [Array.length_toList]; rfl
    have e3 : (2 : Nat) ^ 47 = 140737488355328 := by decide
    omega
  refine ⟨key a ?_, key b ?_, key c ?_, key d ?_, key t ?_⟩
  all_goals simp [DataW.weights, Try.underlying48, Try.underlying44, Try.underlying46, DataW.weightsEach]
theorem cut_of {W : World} (hS : W.ShapedOpen Try.prog) : CutOk W := by
  obtain ⟨m, hm⟩ := Try.laysM145.s1_3 W hS
  exact ⟨World.block_lt_of_cell? _ ⟨0, 0, none⟩ hm, m, hm⟩

end Go.Proofs.Ytalaidlnhoonfaa

namespace Go.Proofs.Ytalaidlnhoonfaa
open Go.ChangeShapes Go.WideShapes Go.ChangeAt Go.RowKit

theorem u8_bounds {n : Int} (h : (Lit.int .u8 n).wf = true) : 0 ≤ n ∧ n < 256 := by
  have h1 : IntKind.u8.min = 0 := rfl
  have h2 : IntKind.u8.max = 255 := rfl
  simp only [Lit.wf, Bool.and_eq_true, decide_eq_true_eq] at h
  omega

/-- A slice of bytes that came in. -/
theorem sl_bytes {H : Type} {enc : TypeId × Value → H} {P : Program} {t e : TypeId} {W : World} {v : Value} {d : DataW H} {p : List MemPlace} {r : Reach} {b0 : Nat} (ht : P.underlying t = some (.slice e)) (he : P.underlying e = some (.int .u8)) (hc : P.cellsOf e = 1)
    (hv : Value.okWide P W r b0 t v) (h : DataW.Trod enc P W 0 (fun _ => true) true t v d p) (hlt : ∀ x ∈ p, x.block < W.heap.size) :
    ∃ l : List UInt8, Sl bv W v l ∧ (d = .nil ∧ l.length = 0 ∨ ∃ ys zs' : List (DataW H), d = .slice ys zs' ∧ ys.length = l.length) := by
  obtain ⟨a0, len, cap, rfl⟩ := okWide_slice ht hv
  obtain ⟨fuel, hf⟩ := h
  rcases open_ints ht he hc hf with ⟨hcs, hx⟩ | ⟨a, len', cap', zs, hcs, _, hl, hm, hz, hx, hcell, hwz⟩
  · simp [Value.cells] at hcs
    obtain ⟨rfl, rfl, rfl⟩ := hcs
    simp only [Prod.mk.injEq] at hx
    exact ⟨[], Sl.nil_ _ _, .inl ⟨hx.1, rfl⟩⟩
  · simp [Value.cells] at hcs
    obtain ⟨rfl, rfl, rfl⟩ := hcs
    simp only [Prod.mk.injEq] at hx
    obtain ⟨rfl, rfl⟩ := hx
    simp only [if_true] at hz
    have hln : ((zs.take len).map fun n => UInt8.ofNat n.toNat).length = len := by rw [List.length_map, List.length_take]; omega
    refine ⟨(zs.take len).map fun n => UInt8.ofNat n.toNat, ⟨some a, cap, by rw [hln], by omega, fun hn => ?_⟩, .inr ⟨_, _, rfl, by rw [hln]; simp [lits]; omega⟩⟩
    have hl0 : 0 < len := by
      rcases Nat.eq_zero_or_pos len with h0 | h0
      · subst h0; simp at hn
      · exact h0
    obtain ⟨b, off, spot⟩ := a
    have hspot : spot = none := by simpa [Addr.add] using World.cell?_spot (hcell 0 (by omega))
    subst hspot
    have hbW : b < W.heap.size := hlt (.cell b off) (MemPlace.mem_row.2 ⟨0, by omega, by simp⟩)
    refine ⟨b, off, rfl, hbW, fun j u hu => ?_⟩
    have hj : j < len := by have := (List.getElem?_eq_some_iff.1 hu).1; omega
    have := hcell j (by omega)
    rw [add_plain] at this
    rw [this]
    have hjz : j < zs.length := by omega
    rw [List.getElem?_map, List.getElem?_take] at hu
    simp [hj, List.getElem?_eq_getElem hjz] at hu
    have hb := u8_bounds (hwz zs[j] (List.getElem_mem hjz))
    subst hu
    simp only [List.getD, List.getElem?_eq_getElem hjz, Option.getD_some, bv]
    have e : ((UInt8.ofNat zs[j].toNat).toNat : Int) = zs[j] := by
      have : (UInt8.ofNat zs[j].toNat).toNat = zs[j].toNat := by simp; omega
      rw [this]; omega
    rw [e]

theorem cellsU : Try.prog.cellsOf 5 = 1 := by kernel_rfl
theorem bytesU : Try.prog.bytesOf 5 = 1 := by kernel_rfl
/-- Its length's bound, out of the call's own reach. -/
theorem sl_reach {H : Type} {ts : List TypeId} {ds : List (DataW H)} {j : Nat} {d : DataW H} {l : List UInt8} (hsz : (DataW.weightsEach Try.prog ts ds).all (· ≤ reachBytes) = true) (ht : ts[j]? = some 29) (hd : ds[j]? = some d)
    (h : d = .nil ∧ l.length = 0 ∨ ∃ ys zs' : List (DataW H), d = .slice ys zs' ∧ ys.length = l.length) : l.length ≤ 140737488355328 := by
  rcases h with ⟨_, h⟩ | ⟨ys, zs', rfl, h⟩
  · omega
  · have := sized_slice hsz (j := j) (t := 29) (e := 5) ht hd Try.underlying29
    rw [bytesU] at this
    simp only [reachBytes] at this
    omega

end Go.Proofs.Ytalaidlnhoonfaa
