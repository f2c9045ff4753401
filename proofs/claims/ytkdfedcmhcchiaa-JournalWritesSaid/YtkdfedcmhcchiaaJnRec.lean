/-
  Records in memory; Append, Size, cmp.Or at error numbers: the contracts, by walks. Conditions: bounds on lengths.
-/
import Derived.Test.YtkdfedcmhcchiaaJnMath
import Derived.Test.YtkdfedcmhcchiaaDkOwn
import Derived.Test.YtkdfedcmhcchiaaSlK
import Derived.Test.YtkdfedcmhcchiaaMid
namespace Go.Proofs.Ytkdfedcmhcchiaa
open Go.RowKit

/-- A record in memory: its kind, where its data lie, and what they are. -/
structure Rj where
  k : UInt8
  A : Option Addr
  n : Nat
  c : Nat
  d : List UInt8
def Rj.cells (r : Rj) : List Value := [bv r.k, .slice r.A r.n r.c]
def Rj.val (r : Rj) : UInt8 × List UInt8 := (r.k, r.d)
def Rj.Ok (w : World) (r : Rj) : Prop := Sl bv w (.slice r.A r.n r.c) r.d
theorem Rj.cells_len (r : Rj) : r.cells.length = 2 := rfl
theorem Rj.cells_one (r : Rj) : ∀ u ∈ r.cells, u.oneCell' = true := by
  intro u hu
  simp only [Rj.cells, List.mem_cons, List.not_mem_nil, or_false] at hu
  rcases hu with rfl | rfl <;> rfl
theorem Rj.Ok.len {w : World} {r : Rj} (h : r.Ok w) : r.n = r.d.length := (Sl.len h).1
theorem Rj.Ok.below {w w' : World} {r : Rj} (h : r.Ok w) (hb : Below w.heap.size w w') : r.Ok w' := Sl.below h hb

/-- Its data lie behind the base. -/
def Rj.From (base : Nat) (r : Rj) : Prop := r.d = [] ∨ ∃ b o, r.A = some ⟨b, o, none⟩ ∧ base ≤ b
/-- A slice of records. -/
def RecsAt (w : World) (v : Value) (l : List (UInt8 × List UInt8)) : Prop := ∃ rs : List Rj, SlK Rj.cells 2 w v rs ∧ (∀ r ∈ rs, r.Ok w) ∧ rs.map Rj.val = l
/-- A slice of records that lie, with their data, behind the base. -/
def RecsFrom (w : World) (base : Nat) (v : Value) (l : List (UInt8 × List UInt8)) : Prop := ∃ rs : List Rj, SlK Rj.cells 2 w v rs ∧ (∀ r ∈ rs, r.Ok w ∧ r.From base) ∧ rs.map Rj.val = l ∧ ∀ k, v.ownBlock = some k → base ≤ k
theorem RecsFrom.at {w : World} {base : Nat} {v : Value} {l : List (UInt8 × List UInt8)} (h : RecsFrom w base v l) : RecsAt w v l := by
  obtain ⟨rs, h1, h2, h3, _⟩ := h
  exact ⟨rs, h1, fun r hr => (h2 r hr).1, h3⟩
theorem Sl.same_at {α : Type} {f : α → Value} {w w' : World} {A : Option Addr} {n c : Nat} {l : List α} (h : Sl f w (.slice A n c) l) (hs : w.heap.size ≤ w'.heap.size) (hb : l ≠ [] → ∀ b o, A = some ⟨b, o, none⟩ → w'.heap[b]? = w.heap[b]?) : Sl f w' (.slice A n c) l := by
  obtain ⟨A', c', hv, hlc, hx⟩ := h
  injection hv with h1 h2 h3
  subst h1 h3
  refine ⟨A, c, by rw [h2], hlc, fun hn => ?_⟩
  obtain ⟨b, o, hA, hbl, hc⟩ := hx hn
  exact ⟨b, o, hA, Nat.lt_of_lt_of_le hbl hs, fun j u hu => (World.cell?_of_block (a := ⟨b, o + j, none⟩) (hb hn b o hA)).trans (hc j u hu)⟩
/-- A disk that lies ahead of them turns: they stay. -/
theorem RecsFrom.moved {w w' : World} {base g : Nat} {u u' v : Value} {l : List (UInt8 × List UInt8)} (h : RecsFrom w base v l) (hm : Mv g u w w' u') (hg : g < base) (hu : ∀ k, u.ownBlock = some k → k < base) : RecsFrom w' base v l := by
  obtain ⟨rs, h1, h2, h3, h4⟩ := h
  have hk : ∀ k, base ≤ k → k < w.heap.size → w'.heap[k]? = w.heap[k]? := fun k hb hl => hm.block k hl (by omega) (fun e => by have := hu k e; omega)
  refine ⟨rs, ?_, fun r hr => ⟨?_, (h2 r hr).2⟩, h3, h4⟩
  · obtain ⟨A, c, rfl, hlc, hx⟩ := h1
    refine ⟨A, c, rfl, hlc, fun hn => ?_⟩
    obtain ⟨b, o, rfl, hbl, hc⟩ := hx hn
    exact ⟨b, o, rfl, Nat.lt_of_lt_of_le hbl hm.size, fun j x hj => rangeAt_same (hc j x hj) (hk b (h4 b rfl) hbl)⟩
  · obtain ⟨hok, hfr⟩ := h2 r hr
    refine Sl.same_at hok hm.size fun hn b o hA => ?_
    rcases hfr with hfr | ⟨b', o', hA', hb'⟩
    · exact absurd hfr hn
    · rw [hA] at hA'
      injection hA' with e
      injection e with e1 _
      subst e1
      obtain ⟨_, _, hv, _, hx⟩ := hok
      obtain ⟨b2, o2, hA2, hbl, _⟩ := hx hn
      injection hv with e1 _ _
      rw [← e1, hA] at hA2
      injection hA2 with e
      injection e with e1 _
      subst e1
      exact hk b hb' hbl
theorem RecsFrom.mono {w : World} {base base' : Nat} {v : Value} {l : List (UInt8 × List UInt8)} (h : RecsFrom w base v l) (hb : base' ≤ base) : RecsFrom w base' v l := by
  obtain ⟨rs, h1, h2, h3, h4⟩ := h
  exact ⟨rs, h1, fun r hr => ⟨(h2 r hr).1, (h2 r hr).2.imp id fun ⟨b, o, e, hl⟩ => ⟨b, o, e, Nat.le_trans hb hl⟩⟩, h3, fun k hk => Nat.le_trans hb (h4 k hk)⟩
theorem RecsFrom.below {w w' : World} {base : Nat} {v : Value} {l : List (UInt8 × List UInt8)} (h : RecsFrom w base v l) (hb : Below w.heap.size w w') : RecsFrom w' base v l := by
  obtain ⟨rs, h1, h2, h3, h4⟩ := h
  exact ⟨rs, h1.below hb, fun r hr => ⟨(h2 r hr).1.below hb, (h2 r hr).2⟩, h3, h4⟩
theorem RecsAt.below {w w' : World} {v : Value} {l : List (UInt8 × List UInt8)} (h : RecsAt w v l) (hb : Below w.heap.size w w') : RecsAt w' v l := by
  obtain ⟨rs, h1, h2, h3⟩ := h
  exact ⟨rs, h1.below hb, fun r hr => (h2 r hr).below hb, h3⟩
theorem RecsAt.form {w : World} {v : Value} {l : List (UInt8 × List UInt8)} (h : RecsAt w v l) : ∃ A c, v = .slice A l.length c := by
  obtain ⟨rs, ⟨A, c, hv, _⟩, _, h3⟩ := h
  exact ⟨A, c, by rw [hv, ← h3, List.length_map]⟩
/-- One of them. -/
theorem RecsAt.at_ {w : World} {v : Value} {l : List (UInt8 × List UInt8)} (h : RecsAt w v l) : ∃ A c, v = .slice A l.length c ∧ l.length ≤ c ∧ ∀ k (hk : k < l.length), ∃ b o, A = some ⟨b, o, none⟩ ∧ b < w.heap.size ∧ ∃ A2 n2 c2,
    w.rangeAt b (o + k * 2) [bv l[k].1, .slice A2 n2 c2] ∧ Sl bv w (.slice A2 n2 c2) l[k].2 ∧ n2 = l[k].2.length := by
  obtain ⟨rs, ⟨A, c, hv, hlc, hx⟩, h2, h3⟩ := h
  subst h3
  refine ⟨A, c, by rw [hv, List.length_map], by rw [List.length_map]; exact hlc, fun k hk => ?_⟩
  rw [List.length_map] at hk
  obtain ⟨b, o, hA, hb, hc⟩ := hx (by rintro rfl; simp at hk)
  have hok := h2 rs[k] (List.getElem_mem hk)
  refine ⟨b, o, hA, hb, rs[k].A, rs[k].n, rs[k].c, ?_, ?_, ?_⟩
  · have := hc k rs[k] (List.getElem?_eq_getElem hk)
    simpa [Rj.cells, Rj.val] using this
  · simpa [Rj.val, Rj.Ok] using hok
  · have := hok.len
    simpa [Rj.val] using this

set_option maxHeartbeats 400000 in
theorem or2_any (e : Nat) (w : World) : Calls Try.prog 32 #[.slice (some ⟨w.heap.size, 0, none⟩) 2 2] (w.alloc (.cells #[.int .i64 e, .int .i64 2] 31)) fun x w' => x = .returned (.int .i64 ((if e = 0 then 2 else e : Nat) : Int)) ∧ Below w.heap.size w w' := by
  have hbw := (Below.refl w.heap.size w).alloc (Nat.le_refl _) (.cells #[.int .i64 e, .int .i64 2] 31)
  have hB := Blk.new w 31 #[.int .i64 e, .int .i64 2]
  generalize w.alloc (.cells #[.int .i64 e, .int .i64 2] 31) = W at *
  have HB := Lib.hid hbw
  clear hbw
  generalize hg : w.heap.size = g at *
  have HG := Lib.hid hg
  clear hg
  have c0 := hB.cell 0
  have c1 := hB.cell 1
  simp at c0 c1
  clear hB
  by_cases he : e = 0
  · subst he
    go_enter Try.func32, Try.ntmps32
    go_wp2
    go_loop [8] (fun i => ∃ k : Nat, k ≤ 1 ∧ i = .int .i64 k) (fun i => 2 - (intOf i).toNat)
    case atStart => exact ⟨0, by omega, rfl⟩
    case round =>
      obtain ⟨k, hk, rfl⟩ := hrel
      rcases Nat.eq_zero_or_pos k with rfl | hk0
      · go_wp2
        go_round
        case rel => exact ⟨1, by omega, rfl⟩
        case measure => simp [intOf]
      · have : k = 1 := by omega
        subst this
        go_wp2
        go_ret
        exact ⟨rfl, HB.out⟩
  · have h1 : ((e : Int) != 0) = true := by rw [bne_iff_ne]; omega
    have HE := Lib.hid he
    clear he
    go_enter Try.func32, Try.ntmps32
    go_wp2
    go_loop [8] (fun i => i = .int .i64 0) (fun i => 2 - (intOf i).toNat)
    case atStart => rfl
    case round =>
      subst hrel
      go_wp2
      go_ret
      exact ⟨rfl, HB.out⟩

theorem Mv.of_below {g : Nat} {v v' : Value} {w w1 w' : World} (hm : Mv g v w1 w' v') (hb : Below w.heap.size w w1) : Mv g v w w' v' :=
  ⟨hm.os.trans hb.os, hm.tape.trans hb.tape, hm.output.trans hb.output, Nat.le_trans hb.size hm.size, fun k hk hg hv => (hm.block k (Nat.lt_of_lt_of_le hk hb.size) hg hv).trans (hb.block k hk), hm.fresh.imp id fun h k hk => Nat.le_trans hb.size (h k hk)⟩

set_option maxHeartbeats 1000000 in
theorem append_any (g : Nat) (v vb : Value) (l b : List UInt8) (s : Nat) (k : UInt8) (w : World) (h : Dk w g v l s) (hb : Sl bv w vb b) (hfit : l.length + (b.length + 9) ≤ 1048576) :
    Calls Try.prog 23 #[.pointer (some ⟨g, 0, none⟩), .agg #[bv k, vb]] w fun e w' => e = .returned (.int .i64 0) ∧ Turns w g v (l ++ frameB (payJ (k, b))) s w' := by
  have hB1 : Below w.heap.size w (w.alloc (.cells #[bv k, vb] 37)) := (Below.refl _ _).alloc (Nat.le_refl _) _
  have hK1 := Blk.new w 37 #[bv k, vb]
  have hl := h.2.2.2
  obtain ⟨A, c, hv⟩ := hb.form
  subst hv
  have HD := Lib.hid h
  have HS := Lib.hid hb
  have hB3 : Below w.heap.size w ((w.alloc (.cells #[bv k, .slice A b.length c] 37)).alloc (.cells #[bv k] 5)) := hB1.alloc hB1.size _
  have hcc := concat_laid ((w.alloc (.cells #[bv k, .slice A b.length c] 37)).alloc (.cells #[bv k] 5)) [(.slice (some ⟨w.heap.size + 1, 0, none⟩) 1 1, [k]), (.slice A b.length c, b)] 2 2 rfl (by omega) (by omega) _ rfl (by
    intro q hq
    simp only [List.mem_cons, List.not_mem_nil, or_false] at hq
    rcases hq with rfl | rfl
    · have := sl_lit (w.alloc (.cells #[bv k, .slice A b.length c] 37)) [k] #[bv k] 5 (0, 0) 1 rfl rfl
      rwa [show (w.alloc (.cells #[bv k, .slice A b.length c] 37)).heap.size = w.heap.size + 1 by simp] at this
    · exact hb.below hB3) (by simp [flat]; omega)
  rw [show ((w.alloc (.cells #[bv k, .slice A b.length c] 37)).alloc (.cells #[bv k] 5)).heap.size = w.heap.size + 1 + 1 by simp] at hcc
  have hfl : flat [((.slice (some ⟨w.heap.size + 1, 0, none⟩) 1 1 : Value), [k]), (.slice A b.length c, b)] = payJ (k, b) := by simp [flat, payJ]
  rw [hfl] at hcc
  have hB4 : Below w.heap.size w (((w.alloc (.cells #[bv k, .slice A b.length c] 37)).alloc (.cells #[bv k] 5)).alloc (.cells (([(.slice (some ⟨w.heap.size + 1, 0, none⟩) 1 1, [k]), (.slice A b.length c, b)] : List (Value × List UInt8)).map (·.1)).toArray 34)) := hB3.alloc hB3.size _
  have HC := Lib.hid hcc
  have HB4 := Lib.hid hB4
  have hpl : (payJ (k, b)).length = b.length + 1 := by simp [payJ]
  clear h hb hB1 hB3 hB4 hcc hfl
  unfold bv at hK1 HC HB4 ⊢
  go_enter Try.func23, Try.ntmps23
  go_wp2_with fail
  refine HC.out.mono ?_
  rintro e w1 H1
  have H2 := H1.behind HB4.out
  obtain ⟨v1, rfl, ho1, hb1⟩ := H2
  have HS1 := Lib.hid (own_sl ho1)
  have HB1 := Lib.hid hb1
  clear H1 ho1 hb1 HC HB4
  obtain ⟨A1, c1, rfl⟩ := HS1.out.form
  go_wp2_with fail
  refine (fput_any _ _ [] (payJ (k, b)) w1 (Sl.nil_ _ _) HS1.out (by rw [hpl]; omega) (by simp)).mono ?_
  rintro e w2 ⟨v2, rfl, ho2, hb2⟩
  rw [List.nil_append] at ho2
  have HS2 := Lib.hid (own_sl ho2)
  have HB2 := Lib.hid (HB1.out.trans (hb2.mono HB1.out.size))
  clear ho2 hb2
  obtain ⟨A2, c2, rfl⟩ := HS2.out.form
  go_wp2_with fail
  refine (dwrite_any g v _ l (frameB (payJ (k, b))) s w2 (HD.out.below HB2.out) HS2.out (by rw [frameB_length, hpl]; omega)).mono ?_
  rintro e w3 ⟨rfl, v3, hd3, hm3⟩
  have H3 : Hid (Turns w g v (l ++ frameB (payJ (k, b))) s w3) := Lib.hid ⟨v3, hd3, hm3.of_below HB2.out⟩
  clear hd3 hm3
  go_wp2
  go_ret
  exact ⟨rfl, H3.out⟩

end Go.Proofs.Ytkdfedcmhcchiaa
