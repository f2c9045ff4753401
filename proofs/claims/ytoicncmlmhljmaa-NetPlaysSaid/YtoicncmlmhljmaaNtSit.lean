/-
  Where the walk of NetPlays stands ahead of its switch, and behind it. Conditions: none.
-/
import Derived.Test.YtoicncmlmhljmaaNtFrame
namespace Go.Proofs.Ytoicncmlmhljmaa
open Go.RowKit

theorem at_act (g k : Nat) (hk : k < 6) (w : World) : (Instr.fieldAt 29 (.pointer (some ⟨g, 0, none⟩)) k).run Try.prog w = .ok (.pointer (some ⟨g, k, none⟩)) w := by
  have : k = 0 ∨ k = 1 ∨ k = 2 ∨ k = 3 ∨ k = 4 ∨ k = 5 := by omega
  rcases this with rfl | rfl | rfl | rfl | rfl | rfl <;> go_simp
theorem at_lp (g q k : Nat) (hk : k < 3) (w : World) : (Instr.fieldAt 33 (.pointer (some ⟨g, q, none⟩)) k).run Try.prog w = .ok (.pointer (some ⟨g, q + k, none⟩)) w := by
  have : k = 0 ∨ k = 1 ∨ k = 2 := by omega
  rcases this with rfl | rfl | rfl <;> go_simp
theorem at_lrow (g n c k : Nat) (h : k < n) (w : World) : (Instr.indexAt 26 (.slice (some ⟨g, 0, none⟩) n c) (.int .i64 k)).run Try.prog w = .ok (.pointer (some ⟨g, k * 3, none⟩)) w := by
  have h2 : (k : Int) < n := by omega
  go_simp
theorem ne_int (a : Int) (w : World) : (binOp .neq 3 (.int .i64 a) (.int .i64 a)).run Try.prog w = .ok (.bool false) w := by go_simp
theorem ne_err (w : World) : (binOp .neq 30 (.int .i64 0) (.int .i64 0)).run Try.prog w = .ok (.bool false) w := by go_simp
theorem ne_str (X : ByteArray) (w : World) : (binOp .neq 9 (.string X) (.string X)).run Try.prog w = .ok (.bool false) w := by go_simp
/-- What a part reads. -/
theorem SlK.part {α : Type} {enc : α → List Value} {k : Nat} {w : World} {A : Option Addr} {n c : Nat} {l : List α} (h : SlK enc k w (.slice A n c) l) (lo hi : Nat) (hlo : lo ≤ hi) (hhi : hi ≤ n) : SlK enc k w (.slice (slK A c lo k) (hi - lo) (c - lo)) ((l.take hi).drop lo) := by
  obtain ⟨A', c', hv, hlc, hx⟩ := h
  injection hv with h1 h2 h3
  subst h1 h3 h2
  have hl : ((l.take hi).drop lo).length = hi - lo := by rw [List.length_drop, List.length_take]; omega
  refine ⟨slK A c lo k, c - lo, by rw [hl], by rw [hl]; omega, fun hn => ?_⟩
  have hpos : 0 < hi - lo := by rw [← hl]; exact List.length_pos_iff.2 hn
  obtain ⟨b, o, hA, hb, hcell⟩ := hx (by rintro rfl; simp at hn)
  refine ⟨b, o + lo * k, by rw [slK, if_neg (by omega), hA]; simp [Addr.add_lit], hb, fun j u hu => ?_⟩
  rw [List.getElem?_drop, List.getElem?_take] at hu
  split at hu
  · have := hcell (lo + j) u hu
    rwa [Nat.add_mul, ← Nat.add_assoc] at this
  · cases hu
theorem Tr.mono {R R' : Nat} {w w' : World} (h : Tr R w w') (hR : R' ≤ R) : Tr R' w w' := ⟨h.below.mono hR, h.other⟩
theorem lr_empty (w : World) : Lr w.heap.size (w.alloc (.cells #[] 33)) (.slice (some ⟨w.heap.size, 0, none⟩) 0 0) [] :=
  ⟨by simp, .inr ⟨w.heap.size, 0, #[], rfl, Nat.le_refl _, heap_alloc_new w _, Nat.le_refl _, Nat.zero_le _, by simp, by simp⟩⟩
theorem bs_lp (w : World) : (Instr.buildSlice 26 0 #[]).run Try.prog w = .ok (.slice (some ⟨w.heap.size, 0, none⟩) 0 0) (w.alloc (.cells #[] 33)) := by
  go_simp
/-- append onto an empty slice without room: all that was there is as it was. -/
theorem append_lnew (R : Nat) (w : World) (v2 : Value) (l : List Pc) (hl : SlK encR 3 w v2 l) (hn : l.length ≤ 1000) (g : Nat) (hg : Lr R w (.slice (some ⟨g, 0, none⟩) 0 0) []) (hR : R ≤ w.heap.size) :
    ∃ v' w', (Builtin.append_ #[26, 26] 26 #[.slice (some ⟨g, 0, none⟩) 0 0, v2]).run Try.prog w = .ok v' w' ∧ Lr R w' v' l ∧ Below w.heap.size w w' := by
  obtain ⟨i, hi, hz0, hz1, hz2⟩ := info_parts infoLp
  obtain ⟨A, c, rfl, hlc, hx⟩ := hl
  by_cases hn0 : l = []
  · subst hn0
    refine ⟨.slice (some ⟨g, 0, none⟩) 0 0, w, ?_, hg, Below.refl _ _⟩
    rcases A with _ | ad
    · simp [Builtin.append_, run_underlying Try.underlying26, sizeOf, typeInfo, hi, Builtin.lenOf, Builtin.firstCells, storeCells]
    · have hf := run_firstCells_some (P := Try.prog) w i.size 0 ad 0 c [] (by simp) (by simp)
      simp [Builtin.append_, run_underlying Try.underlying26, sizeOf, typeInfo, hi, Builtin.lenOf, hf, storeCells]
  · obtain ⟨b, o, rfl, hb, hcell⟩ := hx hn0
    have hpos := List.length_pos_iff.2 hn0
    obtain ⟨v', w', hr, ho, hg2⟩ := run_append_arg_grows (P := Try.prog) w 26 26 33 i _ 3 32 Try.underlying26 hi hz0 hz1 hz2 rfl (by decide) ⟨g, 0, none⟩ 0 0 [] (by simp)
      (fun j u hu => by simp at hu) ⟨b, o, none⟩ l.length c (l.flatMap encR) (flat_length encR_len l) (flat_cells encR_len (by decide) hcell) (by omega) (by unfold maxLen; omega) (by omega)
    have ho' : Lr w.heap.size w' v' l := by
      unfold Lr OwnK; simpa using ho
    exact ⟨v', w', hr, own_base ho' hR, ⟨hg2.os, hg2.tape, hg2.output, hg2.size, fun k hk => hg2.block k hk (by simp)⟩⟩
/-- What the operations that cut the row yield. -/
def pC (q i : Nat) (L : List Pc) (k : Nat) (v : Value) (W : World) : Prop := match k with
  | 0 => ∃ g0, v = .slice (some ⟨g0, 0, none⟩) 0 0 ∧ Lr q W v []
  | 5 => Lr q W v (L.take i)
  | _ => True
theorem pC_keep {q i : Nat} {L : List Pc} (k : Nat) (v : Value) (w w' : World) (hb : Below w.heap.size w w') (h : pC q i L k v w) : pC q i L k v w' := by
  unfold pC at *
  split at h
  · obtain ⟨g0, e, h⟩ := h
    exact ⟨g0, e, h.keep hb⟩
  · exact Lr.keep h hb
  · trivial
theorem run_lenstr_op {o : Oper} {ρ : Operand → Value} {w : World} {x : Operand} {t : TypeId} {s : ByteArray} (ho : o.op = .call { callee := .builtin .len, args := #[x], argTypes := #[t] }) (hu : Try.prog.underlying t = some .string) (hx : ρ x = .string s) : (execOp ρ o).run Try.prog w = .ok (.value (.int .i64 (s.size : Nat))) w := by
  unfold execOp
  simp [ho, hx, resolve, invoke, builtin, Builtin.len_, run_underlying hu, go_sem]
theorem lt_nat0 (k : Nat) (w : World) : (binOp .lss 3 (.int .i64 (k : Nat)) (.int .i64 0)).run Try.prog w = .ok (.bool false) w := by
  have h : ¬ ((k : Int) < 0) := by omega
  go_simp
theorem ge_nat (k m : Nat) (q : Bool) (h : decide (m ≤ k) = q) (w : World) : (binOp .geq 3 (.int .i64 (k : Nat)) (.int .i64 (m : Nat))).run Try.prog w = .ok (.bool q) w := by
  subst h
  by_cases h : m ≤ k
  · have h2 : (m : Int) ≤ (k : Int) := by omega
    go_simp
  · have h2 : ¬ ((m : Int) ≤ (k : Int)) := by omega
    go_simp
theorem Lr.two {R r n c : Nat} {w : World} {l : List Pc} (h : Lr R w (.slice (some ⟨r, 0, none⟩) n c) l) (i : Nat) (hi : i < l.length) (b : List UInt8) (v : Value) :
    w.frozen? ⟨r, i * 3 + 1, none⟩ = false ∧ (w.setCell ⟨r, i * 3 + 1, none⟩ (.string ⟨b.toArray⟩)).frozen? ⟨r, i * 3 + 2, none⟩ = false ∧
    (w.setCell ⟨r, i * 3 + 1, none⟩ (.string ⟨b.toArray⟩)).cell? ⟨r, i * 3 + 2, none⟩ = some (.bool l[i].t) ∧
    Lr R ((w.setCell ⟨r, i * 3 + 1, none⟩ (.string ⟨b.toArray⟩)).setCell ⟨r, i * 3 + 2, none⟩ (.bool true)) (.slice (some ⟨r, 0, none⟩) n c) (l.set i ⟨l[i].to, b, v, true⟩) ∧
    (R ≤ w.heap.size → Tr R w (w.setCell ⟨r, i * 3 + 1, none⟩ (.string ⟨b.toArray⟩))) ∧
    (R ≤ w.heap.size → Tr R w ((w.setCell ⟨r, i * 3 + 1, none⟩ (.string ⟨b.toArray⟩)).setCell ⟨r, i * 3 + 2, none⟩ (.bool true))) := by
  have hn : n = l.length := by
    obtain ⟨A, c', hv⟩ := h.form
    injection hv
  subst hn
  obtain ⟨A, c', hv, hlc, hx⟩ := h.at_
  injection hv with h1 _ h3
  obtain ⟨r', hA, hR, ⟨cur, hb⟩, _⟩ := hx i hi
  rw [hA] at h1
  simp only [Option.some.injEq, Addr.mk.injEq, and_true] at h1
  subst h1
  have ho : w.ownsRow R 33 3 (.slice (some ⟨r, 0, none⟩) l.length c) l.length (l.flatMap encR) := h
  obtain ⟨hs1, _⟩ := ho.stored (i * 3 + 1) (.string ⟨b.toArray⟩)
  rw [← flat_set (enc := encR) encR_len 1 (.string ⟨b.toArray⟩) l i hi ⟨l[i].to, b, v, l[i].t⟩ (by decide) rfl] at hs1
  obtain ⟨hs2, _⟩ := hs1.stored (i * 3 + 2) (.bool true)
  have hfl := flat_set (enc := encR) encR_len 2 (.bool true) (l.set i ⟨l[i].to, b, v, l[i].t⟩) i (by simpa using hi) ⟨l[i].to, b, v, true⟩ (by decide) (by simp [encR])
  rw [List.set_set] at hfl
  rw [← hfl] at hs2
  have hl2 : Lr R (w.setCell ⟨r, i * 3 + 1, none⟩ (.string ⟨b.toArray⟩)) (.slice (some ⟨r, 0, none⟩) l.length c) (l.set i ⟨l[i].to, b, v, l[i].t⟩) := by
    unfold Lr OwnK; rw [List.length_set]; exact hs1
  have hb2 : Blk (w.setCell ⟨r, i * 3 + 1, none⟩ (.string ⟨b.toArray⟩)) r 33 (cur.setIfInBounds (i * 3 + 1) (.string ⟨b.toArray⟩)) := hb.set_ _ _
  refine ⟨ho.frozenAt _, hs1.frozenAt _, ?_, ?_, fun hR' => Tr.but (But.setCell w r _ _) hR hR' hb, fun hR' => (Tr.but (But.setCell w r _ _) hR hR' hb).trans (Tr.but (But.setCell _ r _ _) hR (Nat.le_trans hR (Nat.le_of_lt hb2.lt)) hb2)⟩
  · obtain ⟨A2, c2, hv2, _, hx2⟩ := hl2.at_
    obtain ⟨r2, hA2, _, _, hra2⟩ := hx2 i (by simpa using hi)
    injection hv2 with g1
    rw [hA2] at g1
    simp only [Option.some.injEq, Addr.mk.injEq, and_true] at g1
    subst g1
    have := hra2 2 (.bool l[i].t) (by simp [encR])
    exact this
  · unfold Lr OwnK; rw [List.length_set]; exact hs2
theorem at_by (g n c k : Nat) (h : k < n) (w : World) : (Instr.indexAt 27 (.slice (some ⟨g, 0, none⟩) n c) (.int .i64 k)).run Try.prog w = .ok (.pointer (some ⟨g, k, none⟩)) w := by
  have h2 : (k : Int) < n := by omega
  go_simp
theorem xor_by (x y : UInt8) (w : World) : (binOp .xor 5 (bv x) (bv y)).run Try.prog w = .ok (bv (x ^^^ y)) w := by
  have e9 := u8x x y
  unfold bv
  rw [← e9]
  go_simp
/-- A string's bytes, laid anew. -/
theorem to_bytes (w : World) (b : List UInt8) : ∃ c w', (convert 9 27 (.string ⟨b.toArray⟩)).run Try.prog w = .ok (.slice (some ⟨w.heap.size, 0, none⟩) b.length c) w' ∧ Below w.heap.size w w' ∧ w.heap.size < w'.heap.size ∧ b.length ≤ c ∧
    (∀ j (hj : j < b.length), w'.cell? ⟨w.heap.size, j, none⟩ = some (bv b[j])) ∧ (∀ j, j < b.length → w'.frozen? ⟨w.heap.size, j, none⟩ = false) ∧ ∃ cs fr, w'.heap[w.heap.size]? = some (.cells cs 5 fr) := by
  have hsz : (ByteArray.mk b.toArray).size = b.length := by simp [ByteArray.size]
  have hr := Lib.run_convert_string_bytes (P := Try.prog) w 9 27 5 ⟨b.toArray⟩ Try.underlying9 Try.underlying27 Try.underlying5
  rw [hsz] at hr
  have hnew := Lib.bytesWorld_at_new w 5 ⟨b.toArray⟩
  have hs := Lib.bytesWorld_size w 5 ⟨b.toArray⟩
  refine ⟨_, _, hr, ⟨rfl, rfl, rfl, by omega, fun k hk => Lib.bytesWorld_at_old w 5 ⟨b.toArray⟩ k hk⟩, by omega, ?_, fun j hj => ?_, fun j hj => ?_, _, _, hnew⟩
  · exact grownCap_ge w _ 0 _
  · rw [Lib.bytesWorld_cell w 5 ⟨b.toArray⟩ j (by rw [hsz]; exact hj)]
    simp [bv, hj]
  · have : j < (Lib.bytesCells w 5 ⟨b.toArray⟩).size := by
      simp [Lib.bytesCells]
      omega
    simp [World.frozen?, hnew]
    omega
/-- What the walk knows of a net and the law's row: the same parcels, few, each of few bytes. -/
def PlI (w0 w : World) (g : Nat) (v u : Value) (l : List Pc) (j : Nat) : Prop := Nn w0 w g v l ∧ Lr w0.heap.size w u l ∧ l.length ≤ j ∧ ∀ p ∈ l, p.b.length ≤ 200
/-- The switch. -/
noncomputable def swC : Code := codeAt [1, 1, 1, 1, 1, 0, 1, 0, 0, 1, 1, 0, 0, 1, 1, 1, 1, 1, 0, 1] ((Try.f3.body).getD .skip)
/-- Ahead of it. -/
structure Sit (w W : World) (g gk j : Nat) (vf : Value) (A4 : Option Addr) (c4 : Nat) (L : List Pc) (kk : UInt8) (tt : Int) (B : Option Addr) (n c : Nat) (d : List UInt8) (I At : Int) (y : UInt8) (a : Act) (b : Bool) : Prop where
  size : a.tmps.size = 243
  defers : a.defers = []
  s3 : a.tmps.getD 3 undef = .pointer (some ⟨g, 0, none⟩)
  s4 : a.tmps.getD 4 undef = .slice A4 L.length c4
  s6 : a.tmps.getD 6 undef = .pointer (some ⟨gk, 0, none⟩)
  s7 : a.tmps.getD 7 undef = .bool b
  s8 : a.tmps.getD 8 undef = .int .i64 (if b then 0 else 5)
  s45 : a.tmps.getD 45 undef = .int .u8 (((kk.toNat : Nat) : Int) % 4)
  net : Nn w W g vf L
  row : Lr w.heap.size W (.slice A4 L.length c4) L
  few : L.length ≤ 100
  lej : L.length ≤ j
  bytes : ∀ p ∈ L, p.b.length ≤ 200
  act : Blk W gk 29 #[bv kk, .int .i64 tt, .slice B n c, .int .i64 I, .int .i64 At, bv y]
  arg : Sl bv w (.slice B n c) d
  len : n = d.length
  short : d.length ≤ 200
  in_ : b = decide (0 ≤ I ∧ I < (L.length : Int))
/-- Behind it. -/
def SwR (w : World) (g j : Nat) (a a' : Act) (w' : World) : Prop :=
  a'.tmps.size = 243 ∧ a'.defers = [] ∧ a'.tmps.getD 0 undef = a.tmps.getD 0 undef ∧ a'.tmps.getD 1 undef = a.tmps.getD 1 undef ∧ a'.tmps.getD 3 undef = a.tmps.getD 3 undef ∧ a'.tmps.getD 5 undef = a.tmps.getD 5 undef ∧ a'.tmps.getD 15 undef = a.tmps.getD 15 undef ∧ a'.tmps.getD 16 undef = a.tmps.getD 16 undef ∧ a'.tmps.getD 17 undef = a.tmps.getD 17 undef ∧ a'.tmps.getD 18 undef = a.tmps.getD 18 undef ∧ a'.tmps.getD 19 undef = a.tmps.getD 19 undef ∧ a'.tmps.getD 20 undef = a.tmps.getD 20 undef ∧ a'.tmps.getD 21 undef = a.tmps.getD 21 undef ∧ a'.tmps.getD 22 undef = a.tmps.getD 22 undef ∧ a'.tmps.getD 23 undef = a.tmps.getD 23 undef ∧ ∃ (v' : Value) (L' : List Pc), PlI w w' g v' (a'.tmps.getD 4 undef) L' (j + 1)

end Go.Proofs.Ytoicncmlmhljmaa
