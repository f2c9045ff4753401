/-
  ARGUMENTS OPENED: a slice of items (each with a slice of entries), as the walks' words have it. Conditions: none.
-/
import Derived.Test.YtojhloaleefieaaArgsS
import Derived.Test.YtojhloaleefieaaStAll
namespace Go.Proofs.Ytojhloaleefieaa
open Go.ChangeShapes Go.WideShapes Go.ChangeAt Go.RowKit Go.MapKept Go.Sort

section
variable {H : Type} {enc : TypeId × Value → H} {W : World}
/-- A slice whose elements are opened one by one. -/
theorem slice_in {α : Type} {en : α → List Value} {k : Nat} (hk : ∀ x, (en x).length = k) (hk0 : 0 < k) {t e : TypeId} (ht : Try.prog.underlying t = some (.slice e)) (hce : Try.prog.cellsOf e = k) (Q : α → DataW H → Prop)
    (hone : ∀ n cs x, cs.length = k → DataW.trod enc Try.prog W 0 (fun _ => true) true n e cs = some x → ∃ y : α, cs = en y ∧ Q y x.1)
    {fuel : Nat} {cs : List Value} {d : DataW H} {p : List MemPlace} (hf : DataW.trod enc Try.prog W 0 (fun _ => true) true fuel t cs = some (d, p)) :
    ∃ (l : List α) (A : Option Addr) (N c : Nat), cs = [.slice A N c] ∧ SlK en k W (.slice A N c) l ∧ l.length = N ∧
      ((l = [] ∧ N = 0) ∨ ∃ (elems rest : List (DataW H)), d = .slice elems rest ∧ elems.length = N ∧ ∀ (i : Nat) (y : α), l[i]? = some y → ∃ x, elems[i]? = some x ∧ Q y x) := by
  rcases DataW.trod_slice ht hf with ⟨hcs, hx⟩ | ⟨a, len, cap, elems, rest, n, _, hcs, hx, _, hl, hm, hle, hel, _⟩
  · exact ⟨[], none, 0, 0, hcs, SlK.nil_ _ _ _, rfl, .inl ⟨rfl, rfl⟩⟩
  · simp only [Prod.mk.injEq] at hx
    obtain ⟨rfl, _⟩ := hx
    obtain ⟨b, off, spot⟩ := a
    have key : ∀ i, i < len → ∃ y : α, (∀ q, q < k → W.cell? ((Addr.add ⟨b, off, spot⟩ (i * k)).add q) = (en y)[q]?) ∧ ∃ x, (elems.map (·.1))[i]? = some x ∧ Q y x := by
      intro i hi
      have h1 := hel i hi
      rw [hce, List.getElem?_eq_getElem (by omega)] at h1
      cases hc : W.cells? 0 (Addr.add ⟨b, off, spot⟩ (i * k)) k with
      | none => rw [hc] at h1; cases h1
      | some cs =>
        rw [hc] at h1
        obtain ⟨_, h2, h3⟩ := World.cells?_some hc
        obtain ⟨y, rfl, hQ⟩ := hone _ _ _ h2 h1
        exact ⟨y, h3, _, by rw [List.getElem?_map, List.getElem?_eq_getElem (by omega)]; rfl, hQ⟩
    obtain ⟨l, hll, hlp⟩ := list_of len key
    refine ⟨l, _, len, cap, hcs, ⟨_, cap, by rw [hll], by omega, fun hn => ?_⟩, hll, .inr ⟨_, _, rfl, by simpa using hle, fun i y hy => (hlp i y hy).2⟩⟩
    have hl0 : 0 < len := by
      rw [← hll]; exact List.length_pos_iff.2 hn
    obtain ⟨y0, hc0, _⟩ := key 0 hl0
    have h0 := hc0 0 hk0
    rw [List.getElem?_eq_getElem (by rw [hk]; exact hk0)] at h0
    have hspot : spot = none := by simpa [Addr.add] using World.cell?_spot h0
    subst hspot
    have hlt : b < W.heap.size := by simpa [Addr.add] using World.block_lt_of_cell? _ _ h0
    refine ⟨b, off, rfl, hlt, fun i x hx q u hu => ?_⟩
    have hq : q < k := by have := (List.getElem?_eq_some_iff.1 hu).1; rwa [hk] at this
    have := (hlp i x hx).1 q hq
    rw [hu, Addr.add_lit, Addr.add_lit] at this
    exact this

theorem cEntry : Try.prog.cellsOf 48 = 5 := by kernel_rfl
theorem cItem : Try.prog.cellsOf 46 = 6 := by kernel_rfl
theorem cSlE : Try.prog.cellsOf 44 = 1 := by kernel_rfl
/-- What an entry's data looks like. -/
def EnD (q : Dt × Va) (d : DataW H) : Prop := ∃ y0 z0 z1, d = .agg [y0, .agg [z0, z1, .lit (.string q.2.t.data.toList)]]
set_option maxRecDepth 100000 in
set_option maxHeartbeats 1000000 in
theorem entry_cells (n : Nat) (cs : List Value) (x : DataW H × List MemPlace) (hsz : cs.length = 5) (hf : DataW.trod enc Try.prog W 0 (fun _ => true) true n 48 cs = some x) : ∃ q : Dt × Va, cs = enN q ∧ EnD q x.1 := by
  match cs, hsz with
  | [c0, c1, c2, c3, c4], _ =>
    obtain ⟨xs, n1, _, hx, _, hxl, hg⟩ := DataW.trod_struct Try.underlying48 hf
    match xs, hxl with
    | [y0, y1], _ =>
      have g0 : DataW.trod enc Try.prog W 0 (fun _ => true) true n1 33 [c0, c1] = some y0 := by simpa [Value.cells, cDot] using hg 0 _ rfl
      have g1 : DataW.trod enc Try.prog W 0 (fun _ => true) true n1 37 [c2, c3, c4] = some y1 := by simpa [Value.cells, cVal] using hg 1 _ rfl
      obtain ⟨z0, n0, _, hz0, _, hl0, h0⟩ := DataW.trod_struct Try.underlying33 g0
      obtain ⟨z1, n2, _, hz1, _, hl1, h1⟩ := DataW.trod_struct Try.underlying37 g1
      match z0, hl0 with
      | [a0, a1], _ =>
        match z1, hl1 with
        | [q0, q1, q2], _ =>
          have k0 : DataW.trod enc Try.prog W 0 (fun _ => true) true n0 3 [c0] = some a0 := by simpa [cInt] using h0 0 _ rfl
          have k1 : DataW.trod enc Try.prog W 0 (fun _ => true) true n0 3 [c1] = some a1 := by simpa [cInt] using h0 1 _ rfl
          have k2 : DataW.trod enc Try.prog W 0 (fun _ => true) true n2 3 [c2] = some q0 := by simpa [cInt] using h1 0 _ rfl
          have k3 : DataW.trod enc Try.prog W 0 (fun _ => true) true n2 3 [c3] = some q1 := by simpa [cInt] using h1 1 _ rfl
          have k4 : DataW.trod enc Try.prog W 0 (fun _ => true) true n2 9 [c4] = some q2 := by simpa [cStr] using h1 2 _ rfl
          obtain ⟨r, e0, _, _⟩ := DataW.trod_int Try.underlying3 k0
          obtain ⟨c, e1, _, _⟩ := DataW.trod_int Try.underlying3 k1
          obtain ⟨vk, e2, _, _⟩ := DataW.trod_int Try.underlying3 k2
          obtain ⟨vn, e3, _, _⟩ := DataW.trod_int Try.underlying3 k3
          obtain ⟨st, e4, d4, _⟩ := DataW.trod_string Try.underlying9 k4
          simp only [List.cons.injEq, and_true] at e0 e1 e2 e3 e4
          subst e0 e1 e2 e3 e4
          refine ⟨(⟨r, c⟩, ⟨vk, vn, st⟩), rfl, y0.1, q0.1, q1.1, ?_⟩
          rw [hx]
          simp only [hz0, hz1, d4, List.map_cons, List.map_nil]
/-- What an item's data looks like; its entries. -/
structure ItD (W : World) (y : El × Value) (l : List (Dt × Va)) (A : Option Addr) (N c : Nat) (d : DataW H) : Prop where
  v : y.2 = .slice A N c
  sl : SlK enN 5 W (.slice A N c) l
  len : l.length = N
  data : ∃ y0 de, d = .agg [.agg [y0, .lit (.string y.1.a.data.toList), .lit (.string y.1.b.data.toList), .lit (.string y.1.c.data.toList), .lit (.string y.1.d.data.toList)], de] ∧
    ((l = [] ∧ N = 0) ∨ ∃ (elems rest : List (DataW H)), de = .slice elems rest ∧ elems.length = N ∧ ∀ (i : Nat) (q : Dt × Va), l[i]? = some q → ∃ x, elems[i]? = some x ∧ EnD q x)
set_option maxRecDepth 100000 in
set_option maxHeartbeats 1000000 in
theorem item_cells (n : Nat) (cs : List Value) (x : DataW H × List MemPlace) (hsz : cs.length = 6) (hf : DataW.trod enc Try.prog W 0 (fun _ => true) true n 46 cs = some x) : ∃ y : El × Value, cs = enI y ∧ ∃ l A N c, ItD W y l A N c x.1 := by
  match cs, hsz with
  | [c0, c1, c2, c3, c4, c5], _ =>
    obtain ⟨xs, n1, _, hx, _, hxl, hg⟩ := DataW.trod_struct Try.underlying46 hf
    match xs, hxl with
    | [y0, y1], _ =>
      have g0 : DataW.trod enc Try.prog W 0 (fun _ => true) true n1 35 [c0, c1, c2, c3, c4] = some y0 := by simpa [Value.cells, cElem] using hg 0 _ rfl
      have g1 : DataW.trod enc Try.prog W 0 (fun _ => true) true n1 44 [c5] = some y1 := by simpa [Value.cells, cSlE] using hg 1 _ rfl
      obtain ⟨z3, n3, _, hz3, _, hl3, h3⟩ := DataW.trod_struct Try.underlying35 g0
      obtain ⟨l, A, N, c, hc5, hsl, hlN, hsh⟩ := slice_in enN_len (by decide) Try.underlying44 cEntry EnD (fun n cs x h1 h2 => entry_cells n cs x h1 h2) (d := y1.1) (p := y1.2) g1
      match z3, hl3 with
      | [b0, b1, b2, b3, b4], _ =>
        have k2 : DataW.trod enc Try.prog W 0 (fun _ => true) true n3 3 [c0] = some b0 := by simpa [cInt] using h3 0 _ rfl
        have k3 : DataW.trod enc Try.prog W 0 (fun _ => true) true n3 9 [c1] = some b1 := by simpa [cStr] using h3 1 _ rfl
        have k4 : DataW.trod enc Try.prog W 0 (fun _ => true) true n3 9 [c2] = some b2 := by simpa [cStr] using h3 2 _ rfl
        have k5 : DataW.trod enc Try.prog W 0 (fun _ => true) true n3 9 [c3] = some b3 := by simpa [cStr] using h3 3 _ rfl
        have k6 : DataW.trod enc Try.prog W 0 (fun _ => true) true n3 9 [c4] = some b4 := by simpa [cStr] using h3 4 _ rfl
        obtain ⟨ek, e3, _, _⟩ := DataW.trod_int Try.underlying3 k2
        obtain ⟨sa, e4, d4, _⟩ := DataW.trod_string Try.underlying9 k3
        obtain ⟨sb, e5, d5, _⟩ := DataW.trod_string Try.underlying9 k4
        obtain ⟨sc, e6, d6, _⟩ := DataW.trod_string Try.underlying9 k5
        obtain ⟨sd, e7, d7, _⟩ := DataW.trod_string Try.underlying9 k6
        simp only [List.cons.injEq, and_true] at e3 e4 e5 e6 e7 hc5
        subst e3 e4 e5 e6 e7 hc5
        refine ⟨(⟨ek, sa, sb, sc, sd⟩, .slice A N c), rfl, l, A, N, c, rfl, hsl, hlN, b0.1, y1.1, ?_, hsh⟩
        rw [hx]
        simp only [hz3, d4, d5, d6, d7, List.map_cons, List.map_nil]
theorem bytesIt : 0 < Try.prog.bytesOf 46 := by decide +kernel
theorem bytesEn : 0 < Try.prog.bytesOf 48 := by decide +kernel
/-- What of an item is not too long. -/
def ItFit (y : El × Value) (l : List (Dt × Va)) : Prop := y.1.a.size ≤ 140737488355328 ∧ y.1.b.size ≤ 140737488355328 ∧ y.1.c.size ≤ 140737488355328 ∧ y.1.d.size ≤ 140737488355328 ∧ l.length ≤ 140737488355328 ∧ ∀ q ∈ l, q.2.t.size ≤ 140737488355328
set_option maxRecDepth 100000 in
set_option maxHeartbeats 1000000 in
theorem item_fit {y : El × Value} {l : List (Dt × Va)} {A : Option Addr} {N c : Nat} {d : DataW H} (h : ItD W y l A N c d) (hw : ∀ z ∈ DataW.weights Try.prog 46 d, z ≤ reachBytes) : ItFit y l := by
  obtain ⟨_, _, hlN, y0, de, rfl, hsh⟩ := h
  have h3 := reachBytes_lt
  have e3 : (2 : Nat) ^ 47 = 140737488355328 := by decide
  have key : ∀ s : ByteArray, s.data.toList.length ∈ DataW.weights Try.prog 46 (.agg [.agg [y0, .lit (.string y.1.a.data.toList), .lit (.string y.1.b.data.toList), .lit (.string y.1.c.data.toList), .lit (.string y.1.d.data.toList)], de] : DataW H) → s.size ≤ 140737488355328 := by
    intro s hs
    have h2 := hw _ hs
    have e1 : s.data.toList.length = s.size := by rw [Array.length_toList]; rfl
    omega
  have hin : ∀ z ∈ DataW.weights Try.prog 44 de, z ≤ reachBytes := fun z hz => hw z (by simp [DataW.weights, Try.underlying46, DataW.weightsEach, hz])
  refine ⟨key _ ?_, key _ ?_, key _ ?_, key _ ?_, ?_, fun q hq => ?_⟩
  · simp [DataW.weights, Try.underlying46, Try.underlying35, DataW.weightsEach]
  · simp [DataW.weights, Try.underlying46, Try.underlying35, DataW.weightsEach]
  · simp [DataW.weights, Try.underlying46, Try.underlying35, DataW.weightsEach]
  · simp [DataW.weights, Try.underlying46, Try.underlying35, DataW.weightsEach]
  · rcases hsh with ⟨rfl, _⟩ | ⟨elems, rest, rfl, hel, _⟩
    · simp
    · have := hin ((elems.length + rest.length) * Try.prog.bytesOf 48) (by simp [DataW.weights, Try.underlying44])
      have h5 : elems.length + rest.length ≤ (elems.length + rest.length) * Try.prog.bytesOf 48 := Nat.le_mul_of_pos_right _ bytesEn
      omega
  · obtain ⟨i, hi⟩ := List.getElem?_of_mem hq
    rcases hsh with ⟨rfl, _⟩ | ⟨elems, rest, rfl, hel, hsh⟩
    · cases hq
    · obtain ⟨x, hx, z0, z1, z2, rfl⟩ := hsh i q hi
      have hm := mem_weightsAll (P := Try.prog) (e := 48) (x := q.2.t.data.toList.length) (List.mem_of_getElem? hx) (by simp [DataW.weights, Try.underlying48, Try.underlying37, DataW.weightsEach])
      have h4 := hin q.2.t.data.toList.length (by
        simp only [DataW.weights, Try.underlying44, List.mem_cons, List.mem_append]
        exact .inr (.inl hm))
      have e1 : q.2.t.data.toList.length = q.2.t.size := by rw [Array.length_toList]; rfl
      omega
set_option maxRecDepth 100000 in
/-- A slice of items that came in. -/
theorem items_in {ts : List TypeId} {ds : List (DataW H)} {j : Nat} {v : Value} {d : DataW H} {p : List MemPlace} {r : Reach} {b0 : Nat}
    (hsz : (DataW.weightsEach Try.prog ts ds).all (· ≤ reachBytes) = true) (ht : ts[j]? = some 42) (hd : ds[j]? = some d)
    (hv : Value.okWide Try.prog W r b0 42 v) (h : DataW.Trod enc Try.prog W 0 (fun _ => true) true 42 v d p) :
    ∃ (L : List (El × Value)) (A : Option Addr) (N c : Nat), v = .slice A N c ∧ SlK enI 6 W (.slice A N c) L ∧ L.length = N ∧ N ≤ 140737488355328 ∧
      ∀ y ∈ L, ∃ l A N c, y.2 = .slice A N c ∧ SlK enN 5 W (.slice A N c) l ∧ l.length = N ∧ ItFit y l := by
  obtain ⟨a0, len, cap, rfl⟩ := okWide_slice Try.underlying42 hv
  obtain ⟨fuel, hf⟩ := h
  obtain ⟨L, A, N, c, hcs, hsl, hLN, hsh⟩ := slice_in enI_len (by decide) Try.underlying42 cItem (fun y d => ∃ l A N c, ItD W y l A N c d) (fun n cs x h1 h2 => item_cells n cs x h1 h2) hf
  have hv2 : (Value.slice a0 len cap) = .slice A N c := by simpa [Value.cells] using hcs
  have h3 := reachBytes_lt
  have e3 : (2 : Nat) ^ 47 = 140737488355328 := by decide
  refine ⟨L, A, N, c, hv2, hsl, hLN, ?_, fun y hy => ?_⟩
  · rcases hsh with ⟨_, rfl⟩ | ⟨elems, rest, rfl, hel, _⟩
    · exact Nat.zero_le _
    · have h4 := sized_slice hsz (j := j) (t := 42) (e := 46) ht hd Try.underlying42
      have h5 : elems.length + rest.length ≤ (elems.length + rest.length) * Try.prog.bytesOf 46 := Nat.le_mul_of_pos_right _ bytesIt
      omega
  · obtain ⟨i, hi⟩ := List.getElem?_of_mem hy
    rcases hsh with ⟨rfl, _⟩ | ⟨elems, rest, rfl, hel, hsh⟩
    · cases hy
    · obtain ⟨x, hx, l, A', N', c', hI⟩ := hsh i y hi
      refine ⟨l, A', N', c', hI.v, hI.sl, hI.len, item_fit hI fun z hz => ?_⟩
      have hm := mem_weightsAll (P := Try.prog) (e := 46) (List.mem_of_getElem? hx) hz
      have h1 := List.all_eq_true.1 hsz _ (DataW.weights_mem_each ht hd z (by
        simp only [DataW.weights, Try.underlying42, List.mem_cons, List.mem_append]
        exact .inr (.inl hm)))
      simpa using h1
end

end Go.Proofs.Ytojhloaleefieaa
