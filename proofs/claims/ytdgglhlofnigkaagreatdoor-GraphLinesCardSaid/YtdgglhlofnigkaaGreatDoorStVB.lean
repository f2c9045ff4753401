/- Own slices turned and cut. -/import Derived.Test.YtdgglhlofnigkaaGreatDoorGrRef
import Derived.Lib.SlicesCompact
import Derived.Test.YtdgglhlofnigkaaGreatDoorStVA
import Derived.Test.YtdgglhlofnigkaaGreatDoorValRefCmp
set_option maxHeartbeats 8000000
set_option maxRecDepth 100000
namespace Go.Proofs.YtdgglhlofnigkaaGreatDoor
open Lib (hid)
open Go.RowKit Go.MapKept Go.Sort
section
variable {P : Program} {α : Type} {enc : α → List Value} {k : Nat} {w : World} {g n cap base : Nat} {e : TypeId} {l : List α}
theorem blk_setCells {t : TypeId} : ∀ (vs : List Value) (o : Nat) (w : World) (cs : Array Value), Blk w g t cs → ∃ cs', Blk (w.setCells g o vs) g t cs' ∧ cs'.size = cs.size ∧ ∀ j, cs'[j]? = if o ≤ j ∧ j < o + vs.length ∧ j < cs.size then vs[j - o]? else cs[j]?
 | [], o, w, cs, h => ⟨cs, h, rfl, fun j => by rw [if_neg (by simp only [List.length_nil]; omega)]⟩
 | u :: r, o, w, cs, h => by
  obtain ⟨cs', h1, h2, h3⟩ := blk_setCells r (o + 1) _ _ (Blk.set_ h o u)
  refine ⟨cs', h1, by simpa using h2, fun j => ?_⟩
  rw [h3 j]
  simp only [Array.size_setIfInBounds, List.length_cons]
  by_cases hj : j = o
  ·subst hj
   rw [if_neg (by omega)]
   by_cases hl : j < cs.size
   ·rw [if_pos (by omega), Array.getElem?_setIfInBounds_self_of_lt hl]; simp
   ·rw [if_neg (by omega), Array.setIfInBounds_eq_of_size_le (by omega)]
  ·rw [Array.getElem?_setIfInBounds_ne (fun e => hj e.symm)]
   by_cases hc : o + 1 ≤ j ∧ j < o + 1 + r.length ∧ j < cs.size
   ·rw [if_pos hc, if_pos (by omega), show j - o = (j - (o + 1)) + 1 from by omega, List.getElem?_cons_succ]
   ·rw [if_neg hc, if_neg (by omega)]
theorem setCells_below {B : Nat} (w : World) (g o : Nat) (vs : List Value) (h : B ≤ g) : Below B w (w.setCells g o vs) := by
 induction vs generalizing o w with
 | nil => exact Below.refl _ _
 | cons u r ih => exact ((Below.refl B w).setCell (p := ⟨g, o, none⟩) h u).trans (ih _ _)
theorem OwnK.blk (h : OwnK enc base e k w (.slice (some ⟨g, 0, none⟩) n cap) l) : ∃ cur, Blk w g e cur ∧ base ≤ g ∧ l.length = n ∧ n ≤ cap ∧ cap ≤ maxLen ∧ cur.size = cap * k ∧ cur.toList.take (l.length * k) = l.flatMap enc := by
 rcases h.2 with ⟨h2, _⟩ | ⟨g', cap', cur, hv, hB, hg, h1, h2, h3, h4⟩
 ·cases h2
 ·injection hv with e1 e2 e3
  injection e1 with e1
  injection e1 with e1
  subst e1 e3
  exact ⟨cur, hg, hB, e2.symm, by omega, h2, h3, h4⟩
theorem OwnK.there_ (h : OwnK enc base e k w (.slice (some ⟨g, 0, none⟩) n cap) l) (o m : Nat) (ho : o + m ≤ n * k) : w.there g o m := by
 obtain ⟨cur, hb, _, hl, hc, _, hs, _⟩ := h.blk
 intro j hj
 refine ⟨?_, Blk.free hb _⟩
 have : n * k ≤ cap * k := Nat.mul_le_mul_right _ hc
 rw [Blk.cell hb, Array.getElem?_eq_getElem (by omega)]; rfl
theorem OwnK.of_take (hk : ∀ x, (enc x).length = k) {cur : Array Value} (hb : Blk w g e cur) (hB : base ≤ g) (h1 : l.length ≤ cap) (h2 : cap ≤ maxLen) (h3 : cur.size = cap * k) (h4 : cur.toList.take (l.length * k) = l.flatMap enc) : OwnK enc base e k w (.slice (some ⟨g, 0, none⟩) l.length cap) l :=
 ⟨flat_length hk l, .inr ⟨g, cap, cur, rfl, hB, hb, h1, h2, h3, h4⟩⟩
theorem flat_take (hk : ∀ x, (enc x).length = k) : ∀ (l : List α) (j : Nat), j ≤ l.length → (l.flatMap enc).take (j * k) = (l.take j).flatMap enc
 | _, 0, _ => by simp
 | [], j + 1, h => by simp at h
 | x :: l, j + 1, h => by
  rw [List.take_succ_cons, List.flatMap_cons, List.flatMap_cons, List.take_append, List.take_of_length_le (by rw [hk, Nat.add_mul]; omega), hk, show (j + 1) * k - k = j * k from by rw [Nat.add_mul]; omega, flat_take hk l j (by simpa using h)]
theorem OwnK.cut (hk : ∀ x, (enc x).length = k) (h : OwnK enc base e k w (.slice (some ⟨g, 0, none⟩) n cap) l) (j : Nat) (hj : j ≤ n) (o : Nat) (vs : List Value) (ho : j * k ≤ o) : OwnK enc base e k (w.setCells g o vs) (.slice (some ⟨g, 0, none⟩) j cap) (l.take j) := by
 obtain ⟨cur, hb, hB, hl, hc, hm, hs, ht⟩ := h.blk
 obtain ⟨cs', h1, h2, h3⟩ := blk_setCells vs o w cur hb
 have hlj : (l.take j).length = j := by rw [List.length_take]; omega
 have := OwnK.of_take (l := l.take j) hk h1 hB (by omega : (l.take j).length ≤ cap) hm (h2.trans hs) (by
  rw [← flat_take hk l j (by omega), ← ht, List.take_take, hlj, Nat.min_eq_left (Nat.mul_le_mul_right _ (by omega))]
  apply List.ext_getElem?
  intro i
  rw [List.getElem?_take, List.getElem?_take]
  by_cases hi : i < j * k
  ·rw [if_pos hi, if_pos hi, Array.getElem?_toList, Array.getElem?_toList, h3, if_neg (by omega)]
  ·rw [if_neg hi, if_neg hi])
 rwa [hlj] at this
theorem OwnK.turn (hk : ∀ x, (enc x).length = k) (h : OwnK enc base e k w (.slice (some ⟨g, 0, none⟩) n cap) l) {j : Nat} (hj : j < n) (x : α) : OwnK enc base e k (w.setCells g (j * k) (enc x)) (.slice (some ⟨g, 0, none⟩) n cap) (l.set j x) := by
 obtain ⟨cur, hb, hB, hl, hc, hm, hs, ht⟩ := h.blk
 obtain ⟨cs', h1, h2, h3⟩ := blk_setCells (enc x) (j * k) w cur hb
 have hjn : (j + 1) * k ≤ n * k := Nat.mul_le_mul_right _ hj
 have hnc : n * k ≤ cap * k := Nat.mul_le_mul_right _ hc
 rw [Nat.add_mul, Nat.one_mul] at hjn
 have := OwnK.of_take (l := l.set j x) hk h1 hB (by simp; omega) hm (h2.trans hs) (by
  apply List.ext_getElem?
  intro t
  rw [List.length_set, hl, List.getElem?_take, Array.getElem?_toList]
  by_cases htn : t < n * k
  ·rw [if_pos htn, h3, hk]
   have hk0 : 0 < k := by
    rcases Nat.eq_zero_or_pos k with h | h
    ·subst h; omega
    ·exact h
   have hq : t / k < n := (Nat.div_lt_iff_lt_mul hk0).2 htn
   have e1 : t / k * k + t % k = t := by rw [Nat.mul_comm]; exact Nat.div_add_mod t k
   have hmod := Nat.mod_lt t hk0
   by_cases hqj : t / k = j
   ·have hx : (l.set j x)[t / k]? = some x := by rw [hqj, List.getElem?_set_self (by omega)]
    have h5 := flat_at hk (l.set j x) (t / k) (t % k) x hx hmod
    rw [e1] at h5
    rw [h5, if_pos (by rw [hqj] at e1; omega), show t - j * k = t % k from by rw [hqj] at e1; omega]
   ·have hlt : t / k < l.length := by omega
    have hx : (l.set j x)[t / k]? = some l[t / k] := by rw [List.getElem?_set_ne (fun e => hqj e.symm), List.getElem?_eq_getElem hlt]
    have h5 := flat_at hk (l.set j x) (t / k) (t % k) _ hx hmod
    have h6 := flat_at hk l (t / k) (t % k) _ (List.getElem?_eq_getElem hlt) hmod
    rw [e1] at h5 h6
    have hno : ¬ (j * k ≤ t ∧ t < j * k + k ∧ t < cur.size) := by
     rintro ⟨a, b, _⟩
     apply hqj
     have h7 : j ≤ t / k := (Nat.le_div_iff_mul_le hk0).2 a
     have h8 : t / k < j + 1 := (Nat.div_lt_iff_lt_mul hk0).2 (by rw [Nat.add_mul, Nat.one_mul]; exact b)
     omega
    rw [h5, ← h6, ← ht, List.getElem?_take, hl, if_pos htn, if_neg hno, Array.getElem?_toList]
  ·rw [if_neg htn, List.getElem?_eq_none]
   rw [flat_length hk, List.length_set, hl]; omega)
 rwa [List.length_set, hl] at this
theorem run_clear_K (w : World) (t e ty : TypeId) (z : Value) (ht : P.underlying t = some (.slice e)) (hv : ∀ w, (zeroValue e).run P w = .ok z w) (h1 : ∀ v ∈ z.cells, v.oneCell' = true) (b o n c : Nat) (hn : 0 < n) (hth : w.there b o (n * z.cells.size)) :
  (Builtin.clear_ #[t] ty #[.slice (some ⟨b, o, none⟩) n c]).run P w = .ok (.tuple #[]) (w.setCells b o (Builtin.zeroCells z.cells n).toList) := by
 have hlen : (Builtin.zeroCells z.cells n).toList.length = n * z.cells.size := by simp [Builtin.zeroCells]
 have hst := run_storeCells_cells (P := P) b o (Builtin.zeroCells z.cells n).toList 0 w (fun j hj => (hth j (by omega)).1) (fun j hj => (hth j (by omega)).2) (by
  intro v hv'
  simp only [Builtin.zeroCells, Array.toList_map, List.mem_map] at hv'
  obtain ⟨i, hi, rfl⟩ := hv'
  have hi' : i < n * z.cells.size := by simpa using hi
  have hz0 : 0 < z.cells.size := by
   rcases Nat.eq_zero_or_pos z.cells.size with h | h
   ·rw [h] at hi'; omega
   ·exact h
  rw [getElem!_pos z.cells _ (Nat.mod_lt _ hz0)]
  exact h1 _ (Array.getElem_mem _))
 simp only [Nat.add_zero] at hst
 obtain ⟨m, rfl⟩ : ∃ m, n = m + 1 := ⟨n - 1, by omega⟩
 simp [Builtin.clear_, run_underlying ht, hv, hst]
end
open Go.RowKit Go.MapKept Go.Sort Go.Lib
theorem at_VaS (g o c n k : Nat) (h : k < n) (w : World) : (Instr.indexAt 39 (.slice (some ⟨g, o, none⟩) n c) (.int .i64 (k : Nat))).run Tryz.prog w = .ok (.pointer (some ⟨g, o + k * 3, none⟩)) w := by
 have h2 : (k : Int) < n := by omega
 go_simp
theorem sub1_V (ia : Nat) (ha : ia < 4000000000000000000) (w : World) : (binOp .sub 3 (.int .i64 ((ia + 1 : Nat) : Int)) (.int .i64 1)).run Tryz.prog w = .ok (.int .i64 (ia : Nat)) w := by
 have h1 : IntKind.i64.wrap (ia : Int) = (ia : Int) := IntWalk.i64_in _ (by omega)
 simp [binOp, Op.intArith, h1, go_sem]
theorem eq_VaS {x y : Va} {q : Bool} (h : decide (x = y) = q) (w : World) : (binOp .eql 43 (eV x) (eV y)).run Tryz.prog w = .ok (.bool q) w := by
 subst h
 have := equal_V w x y
 unfold eV valV at *
 simp [binOp, this, go_sem]
theorem ne_VaS {x y : Va} {q : Bool} (h : (!decide (x = y)) = q) (w : World) : (binOp .neq 43 (eV x) (eV y)).run Tryz.prog w = .ok (.bool q) w := by
 subst h
 have := equal_V w x y
 unfold eV valV at *
 simp [binOp, this, go_sem]
theorem keeps_lt_one' (L : List Va) (h : L.length < 2) (j : Nat) (hj : j < L.length) : keeps L.toArray j = true := keeps_lt_one _ j (by omega)
theorem own_formV {R : Nat} {w : World} {v : Value} {l : List Va} (h : OwnK enW R 43 3 w v l) : ∃ A c, v = .slice A l.length c := by
 obtain ⟨A, c, rfl, _, _⟩ := h.read enW_len
 exact ⟨A, c, rfl⟩
theorem arr_getV {l : List Va} {j : Nat} (h : j < l.length) : l.toArray[j]! = l[j] := by
 rw [getElem!_pos l.toArray j (by simpa using h)]; simp
theorem own_at {R : Nat} {w : World} {g n cap : Nat} {l : List Va} (h : OwnK enW R 43 3 w (.slice (some ⟨g, 0, none⟩) n cap) l) {j : Nat} {x : Va} (hx : l[j]? = some x) : w.rangeAt g (0 + j * 3) (enW x) ∧ g < w.heap.size := by
 obtain ⟨A, c, hv, _, hc⟩ := h.read enW_len
 injection hv with e1 e2 e3
 obtain ⟨b, o, hA, hb, hr⟩ := hc (fun e => by rw [e] at hx; cases hx)
 rw [hA] at e1
 injection e1 with e1
 injection e1 with e1 e4
 subst e1 e4
 exact ⟨hr j x hx, hb⟩
theorem zeroVa : (Tryz.prog.info? 43).map (fun i => (i.zero, i.size)) = some (some (.agg #[.int .i64 0, .int .i64 0, .string ⟨#[]⟩]), 3) := by kernel_rfl
theorem compV_any (L : List Va) (R : Nat) (v : Value) (w : World) (ho : OwnK enW R 43 3 w v L) (hl : L.length ≤ 1000000) :
  Calls Tryz.prog 132 #[v] w fun x w' => ∃ u, x = .returned u ∧ OwnK enW R 43 3 w' u (Lib.compact L) ∧ Below R w w' := by
 obtain ⟨n, hn⟩ : ∃ n, L.length = n := ⟨_, rfl⟩
 by_cases h2 : L.length < 2
 ·have HO := hid (show OwnK enW R 43 3 w v (Lib.compact L) by rw [compact_all L (fun j hj => keeps_lt_one' L h2 j hj)]; exact ho)
  obtain ⟨A, c, rfl⟩ := own_formV ho
  rw [hn] at HO h2 ⊢
  clear ho hl hn
  go_enter Tryz.func132, Tryz.ntmps132
  go_wp2
  go_ret
  exact ⟨_, rfl, HO.out, Below.refl _ _⟩
 ·obtain ⟨g, cap, cur, rfl, hRg, _, hnc, _⟩ := ho.block (by rintro rfl; simp at h2)
  rw [hn] at ho hnc h2 ⊢
  have HO := hid ho
  have HL := hid (show n ≤ 1000000 by omega)
  have HN := hid hn
  have HRg := hid hRg
  have HNc := hid hnc
  have hds : L.toArray.size = n := by simpa using hn
  have HDs := hid hds
  clear ho hl hn hRg hnc hds
  go_enter Tryz.func132, Tryz.ntmps132
  go_wp2_with fail
  go_loopw [3] (fun v3 wr => ∃ ia : Nat, v3 = .int .i64 ((ia + 1 : Nat) : Int) ∧ ia + 1 ≤ n ∧ Below w.heap.size w wr ∧ ∀ j, j < ia + 1 → keeps L.toArray j = true) (fun v3 _ => n - (intOf v3).toNat)
  case atStart => exact ⟨0, rfl, by omega, Below.refl _ _, keeps_lt_one _⟩
  case round =>
   obtain ⟨ia, rfl, ha, hbw, hall⟩ := hrel
   obtain ⟨wo, rfl⟩ : ∃ wo, wo = wr := ⟨_, rfl⟩
   have HAl := hid hall
   have HBw := hid hbw
   clear hall
   by_cases hlt : ia + 1 < n
   ·have hOw := HO.out.keep hbw
    obtain ⟨x, hx⟩ : ∃ x, L[ia + 1]? = some x := ⟨L[ia + 1]'(by rw [HN.out]; exact hlt), List.getElem?_eq_getElem _⟩
    obtain ⟨y, hy⟩ : ∃ y, L[ia]? = some y := ⟨L[ia]'(by rw [HN.out]; omega), List.getElem?_eq_getElem _⟩
    have hrx := own_at hOw hx
    have hry := own_at hOw hy
    have HGx := hid (show ∀ W : World, Below wo.heap.size wo W → W.rangeAt g (0 + (ia + 1) * 3) (enW x) from fun W hI => rangeAt_same hrx.1 (hI.block g hrx.2))
    have HGy := hid (show ∀ W : World, Below wo.heap.size wo W → W.rangeAt g (0 + ia * 3) (enW y) from fun W hI => rangeAt_same hry.1 (hI.block g hry.2))
    have hXY : L.toArray[ia + 1]! = x ∧ L.toArray[ia + 1 - 1]! = y := by
     obtain ⟨h1, rfl⟩ := List.getElem?_eq_some_iff.1 hx
     obtain ⟨h3, rfl⟩ := List.getElem?_eq_some_iff.1 hy
     exact ⟨arr_getV h1, arr_getV h3⟩
    have HXY := hid hXY
    obtain ⟨q, hq⟩ : ∃ q, decide (x = y) = q := ⟨_, rfl⟩
    have HQ := hid hq
    have HOw := hid hOw
    have hw := IntWalk.i64_in ((ia : Int) + 1 + 1) (by have := HL.out; omega)
    have HWi := hid hw
    clear hOw hx hy hrx hry hXY hq hbw hw
    go_upto_region 6 with fail
    refine wp_region_any (by kernel_rfl) ?_
    refine wpAny_below (fun i uq _ => uq = ([.slice (some ⟨g, 0, none⟩) n cap, .int .i64 ((ia + 1 : Nat) : Int), .pointer (some ⟨g, 0 + (ia + 1) * 3, none⟩), eV x, .slice (some ⟨g, 0, none⟩) n cap, .int .i64 ((ia + 1 : Nat) : Int), .int .i64 (ia : Nat), .pointer (some ⟨g, 0 + ia * 3, none⟩), eV y, .bool q] : List Value).getD i undef) _ wo (by kernel_rfl) (by kernel_rfl) (by kernel_rfl) (fun i v w w' _ h => h) ?_ ?_
    ·refine ⟨?_, ?_, ?_, ?_, ?_, ?_, ?_, ?_, ?_, ?_, trivial⟩
     ·intro a W hI hun haft hi
      have e0 := hun 0 (by kernel_rfl)
      exact b_same hi hI rfl _ (run_move_op rfl e0) rfl
     ·intro a W hI hun haft hi
      have e3 := hun 3 (by kernel_rfl)
      exact b_same hi hI rfl _ (run_move_op rfl e3) rfl
     ·intro a W hI hun haft hi
      have f0 := haft ⟨0, .data⟩ (by simp) rfl _ _ rfl rfl
      have f1 := haft ⟨1, .data⟩ (by simp) rfl _ _ rfl rfl
      exact b_same hi hI rfl _ (run_indexAddr_op rfl f0 f1 (at_VaS g 0 cap n (ia + 1) hlt W)) rfl
     ·intro a W hI hun haft hi
      have f2 := haft ⟨2, .data⟩ (by simp) rfl _ _ rfl rfl
      exact b_same hi hI rfl _ (run_loadmid_op rfl f2 (HGx.out W hI) Tryz.underlying43 rfl (by kernel_rfl)) rfl
     ·intro a W hI hun haft hi
      have e0 := hun 0 (by kernel_rfl)
      exact b_same hi hI rfl _ (run_move_op rfl e0) rfl
     ·intro a W hI hun haft hi
      have e3 := hun 3 (by kernel_rfl)
      exact b_same hi hI rfl _ (run_move_op rfl e3) rfl
     ·intro a W hI hun haft hi
      have f5 : a.eval (.tmp 21) = .int .i64 ((ia + 1 : Nat) : Int) := haft ⟨5, .data⟩ (by simp) rfl _ _ rfl rfl
      exact b_same hi hI rfl (.int .i64 (ia : Nat)) (run_bin_op rfl f5 rfl (by kernel_rfl) (sub1_V ia (by have := HL.out; omega) W)) rfl
     ·intro a W hI hun haft hi
      have f4 : a.eval (.tmp 20) = .slice (some ⟨g, 0, none⟩) n cap := haft ⟨4, .data⟩ (by simp) rfl _ _ rfl rfl
      have f6 : a.eval (.tmp 22) = .int .i64 (ia : Nat) := haft ⟨6, .data⟩ (by simp) rfl _ _ rfl rfl
      exact b_same hi hI rfl _ (run_indexAddr_op rfl f4 f6 (at_VaS g 0 cap n ia (by omega) W)) rfl
     ·intro a W hI hun haft hi
      have f7 := haft ⟨7, .data⟩ (by simp) rfl _ _ rfl rfl
      exact b_same hi hI rfl _ (run_loadmid_op rfl f7 (HGy.out W hI) Tryz.underlying43 rfl (by kernel_rfl)) rfl
     ·intro a W hI hun haft hi
      have f3 := haft ⟨3, .data⟩ (by simp) rfl _ _ rfl rfl
      have f8 := haft ⟨8, .data⟩ (by simp) rfl _ _ rfl rfl
      exact b_same hi hI rfl (.bool q) (run_bin_op rfl f3 f8 (by kernel_rfl) (eq_VaS HQ.out W)) rfl
    ·intro vals W hI hp
     have hl9 : vals 9 = .bool q := hp 9 (by decide)
     have HI := hid hI
     clear hp hI
     simp only [layN, layS, List.range, List.range.loop, if_true, Act.put, Nat.zero_add, Nat.reduceAdd, hl9]
     clear hl9
     have HBW := hid (HBw.out.trans (HI.out.mono HBw.out.size))
     obtain ⟨V6, rfl⟩ : ∃ V6, V6 = W := ⟨_, rfl⟩
     cases q
     ·have HK := hid (show keeps L.toArray (ia + 1) = true from keeps_pos (by rw [HXY.out.1, HXY.out.2]; exact of_decide_eq_false HQ.out))
      have hw := HWi.out
      go_wp2
      go_roundw
      case rel => exact ⟨ia + 1, by go_num, by omega, HBW.out, fun j hj => by
       by_cases e : j = ia + 1
       ·subst e; exact HK.out
       ·exact HAl.out j (by omega)⟩
      case measure => simp [intOf] <;> omega
     ·have HK := hid (show keeps L.toArray (ia + 1) = false from keeps_neg (by omega) (by rw [HXY.out.1, HXY.out.2]; exact of_decide_eq_true HQ.out))
      have HOv := hid (HOw.out.keep HI.out)
      have HSl := hid (show (Instr.sliceAt 39 (.slice (some ⟨g, 0, none⟩) n cap) (some (.int .i64 ((ia + 1 : Nat) : Int))) none none).run Tryz.prog V6 = .ok (.slice (some ⟨g, (ia + 1) * 3, none⟩) (n - (ia + 1)) (cap - (ia + 1))) V6 by
       have := run_sliceK_lo (P := Tryz.prog) (k := 3) V6 39 43 Tryz.underlying39 (by kernel_rfl) (some ⟨g, 0, none⟩) n cap (ia + 1) (by omega)
       rw [show slK (some ⟨g, 0, none⟩) cap (ia + 1) 3 = some ⟨g, (ia + 1) * 3, none⟩ by unfold slK; rw [if_neg (by have := HNc.out; omega)]; simp [Addr.add_lit]] at this
       exact this)
      have hst := CompInv.start (d := L.toArray) (k0 := ia + 1) HAl.out HK.out
      have hB0 := HBW.out.mono (show R ≤ w.heap.size by have := HRg.out; have := (own_at HO.out (j := 0) (x := L[0]'(by have := HN.out; omega)) (List.getElem?_eq_getElem _)).2; omega)
      have HSt := hid hst
      have HB0 := hid hB0
      clear hst hB0
      go_wp2_with (first
       | (refine wpList_val (o := ⟨some 28, _, _, _, _, _⟩) rfl (.slice (some ⟨g, (ia + 1) * 3, none⟩) (n - (ia + 1)) (cap - (ia + 1))) V6 (run_sllo_op rfl rfl rfl HSl.out) ?_)
       | fail)
      go_loopw [3, 5] (fun v3 v5 wr => ∃ (kk ib : Nat) (M : List Va), v3 = .int .i64 kk ∧ v5 = .int .i64 ((ib + 1 : Nat) : Int) ∧ ia + 1 + (ib + 1) ≤ n ∧ OwnK enW R 43 3 wr (.slice (some ⟨g, 0, none⟩) n cap) M ∧ CompInv L.toArray (ia + 1 + (ib + 1)) kk M.toArray ∧ Below R w wr) (fun _ v5 _ => n - (ia + 1) - (intOf v5).toNat)
      case atStart => exact ⟨ia + 1, 0, L, by first | rfl | go_num, by first | rfl | go_num, by omega, HOv.out, HSt.out, HB0.out⟩
      case round =>
       obtain ⟨kk, ib, M, rfl, rfl, hib, hOm, hI2, hbm⟩ := hrel
       obtain ⟨wm, rfl⟩ : ∃ wm, wm = wr := ⟨_, rfl⟩
       have hMn : M.length = n := by have := hI2.size; have := HDs.out; simp at *; omega
       have HMn := hid hMn
       have hkk := hI2.lt
       have HKk := hid hkk
       have HIv := hid hI2
       have HOm := hid hOm
       have HBm := hid hbm
       by_cases hlt2 : ib + 1 < n - (ia + 1)
       ·obtain ⟨x2, hx2⟩ : ∃ x2, M[ia + 1 + (ib + 1)]? = some x2 := ⟨M[ia + 1 + (ib + 1)]'(by omega), List.getElem?_eq_getElem _⟩
        obtain ⟨y2, hy2⟩ : ∃ y2, M[ia + 1 + ib]? = some y2 := ⟨M[ia + 1 + ib]'(by omega), List.getElem?_eq_getElem _⟩
        have hrx := own_at hOm hx2
        have hry := own_at hOm hy2
        have HGx := hid (show ∀ W : World, Below wm.heap.size wm W → W.rangeAt g ((ia + 1) * 3 + (ib + 1) * 3) (enW x2) from fun W hI => by
         rw [show (ia + 1) * 3 + (ib + 1) * 3 = 0 + (ia + 1 + (ib + 1)) * 3 from by omega]; exact rangeAt_same hrx.1 (hI.block g hrx.2))
        have HGy := hid (show ∀ W : World, Below wm.heap.size wm W → W.rangeAt g ((ia + 1) * 3 + ib * 3) (enW y2) from fun W hI => by
         rw [show (ia + 1) * 3 + ib * 3 = 0 + (ia + 1 + ib) * 3 from by omega]; exact rangeAt_same hry.1 (hI.block g hry.2))
        have hXY2 : L.toArray[ia + 1 + (ib + 1)]! = x2 ∧ L.toArray[ia + 1 + (ib + 1) - 1]! = y2 := by
         obtain ⟨h1, rfl⟩ := List.getElem?_eq_some_iff.1 hx2
         obtain ⟨h3, rfl⟩ := List.getElem?_eq_some_iff.1 hy2
         rw [← hI2.high _ (by omega), ← hI2.high _ (by omega)]
         exact ⟨arr_getV h1, arr_getV h3⟩
        have HXY2 := hid hXY2
        obtain ⟨q2, hq2⟩ : ∃ q2, (!decide (x2 = y2)) = q2 := ⟨_, rfl⟩
        have HQ2 := hid hq2
        have hw := IntWalk.i64_in ((ib : Int) + 1 + 1) (by have := HL.out; omega)
        have HWi2 := hid hw
        have hw2 := IntWalk.i64_in ((kk : Int) + 1) (by have := HL.out; omega)
        have HWk := hid hw2
        clear hOm hx2 hy2 hrx hry hXY2 hq2 hbm hw hw2 hI2 hkk hMn
        go_upto_region 11 with fail
        refine wp_region_any (by kernel_rfl) ?_
        refine wpAny_below (fun i uq _ => uq = ([.slice (some ⟨g, (ia + 1) * 3, none⟩) (n - (ia + 1)) (cap - (ia + 1)), .int .i64 ((ib + 1 : Nat) : Int), .pointer (some ⟨g, (ia + 1) * 3 + (ib + 1) * 3, none⟩), eV x2, .slice (some ⟨g, (ia + 1) * 3, none⟩) (n - (ia + 1)) (cap - (ia + 1)), .int .i64 ((ib + 1 : Nat) : Int), .int .i64 (ib : Nat), .pointer (some ⟨g, (ia + 1) * 3 + ib * 3, none⟩), eV y2, .bool q2] : List Value).getD i undef) _ wm (by kernel_rfl) (by kernel_rfl) (by kernel_rfl) (fun i v w w' _ h => h) ?_ ?_
        ·refine ⟨?_, ?_, ?_, ?_, ?_, ?_, ?_, ?_, ?_, ?_, trivial⟩
         ·intro a W hI hun haft hi
          have e4 := hun 4 (by kernel_rfl)
          exact b_same hi hI rfl _ (run_move_op rfl e4) rfl
         ·intro a W hI hun haft hi
          have e5 := hun 5 (by kernel_rfl)
          exact b_same hi hI rfl _ (run_move_op rfl e5) rfl
         ·intro a W hI hun haft hi
          have f0 := haft ⟨0, .data⟩ (by simp) rfl _ _ rfl rfl
          have f1 := haft ⟨1, .data⟩ (by simp) rfl _ _ rfl rfl
          exact b_same hi hI rfl _ (run_indexAddr_op rfl f0 f1 (at_VaS g _ _ _ (ib + 1) hlt2 W)) rfl
         ·intro a W hI hun haft hi
          have f2 := haft ⟨2, .data⟩ (by simp) rfl _ _ rfl rfl
          exact b_same hi hI rfl _ (run_loadmid_op rfl f2 (HGx.out W hI) Tryz.underlying43 rfl (by kernel_rfl)) rfl
         ·intro a W hI hun haft hi
          have e4 := hun 4 (by kernel_rfl)
          exact b_same hi hI rfl _ (run_move_op rfl e4) rfl
         ·intro a W hI hun haft hi
          have e5 := hun 5 (by kernel_rfl)
          exact b_same hi hI rfl _ (run_move_op rfl e5) rfl
         ·intro a W hI hun haft hi
          have f5 : a.eval (.tmp 40) = .int .i64 ((ib + 1 : Nat) : Int) := haft ⟨5, .data⟩ (by simp) rfl _ _ rfl rfl
          exact b_same hi hI rfl (.int .i64 (ib : Nat)) (run_bin_op rfl f5 rfl (by kernel_rfl) (sub1_V ib (by have := HL.out; omega) W)) rfl
         ·intro a W hI hun haft hi
          have f4 : a.eval (.tmp 39) = .slice (some ⟨g, (ia + 1) * 3, none⟩) (n - (ia + 1)) (cap - (ia + 1)) := haft ⟨4, .data⟩ (by simp) rfl _ _ rfl rfl
          have f6 : a.eval (.tmp 41) = .int .i64 (ib : Nat) := haft ⟨6, .data⟩ (by simp) rfl _ _ rfl rfl
          exact b_same hi hI rfl _ (run_indexAddr_op rfl f4 f6 (at_VaS g _ _ _ ib (by omega) W)) rfl
         ·intro a W hI hun haft hi
          have f7 := haft ⟨7, .data⟩ (by simp) rfl _ _ rfl rfl
          exact b_same hi hI rfl _ (run_loadmid_op rfl f7 (HGy.out W hI) Tryz.underlying43 rfl (by kernel_rfl)) rfl
         ·intro a W hI hun haft hi
          have f3 := haft ⟨3, .data⟩ (by simp) rfl _ _ rfl rfl
          have f8 := haft ⟨8, .data⟩ (by simp) rfl _ _ rfl rfl
          exact b_same hi hI rfl (.bool q2) (run_bin_op rfl f3 f8 (by kernel_rfl) (ne_VaS HQ2.out W)) rfl
        ·intro vals W hI hp
         have hl9 : vals 9 = .bool q2 := hp 9 (by decide)
         have HI := hid hI
         clear hp hI
         simp only [layN, layS, List.range, List.range.loop, if_true, Act.put, Nat.zero_add, Nat.reduceAdd, hl9]
         clear hl9
         have HOv2 := hid (HOm.out.keep HI.out)
         have HBv2 := hid (HBm.out.trans (HI.out.mono (by have := HBm.out.size; have := HB0.out.size; have h := (own_at HO.out (j := 0) (x := L[0]'(by have := HN.out; omega)) (List.getElem?_eq_getElem _)).2; have := HRg.out; omega)))
         obtain ⟨V11, rfl⟩ : ∃ V11, V11 = W := ⟨_, rfl⟩
         cases q2
         ·have HK2 := hid (show keeps L.toArray (ia + 1 + (ib + 1)) = false from keeps_neg (by omega) (by
           rw [HXY2.out.1, HXY2.out.2]; have := HQ2.out; simpa using this))
          have hw := HWi2.out
          go_wp2
          go_roundw
          case rel => exact ⟨kk, ib + 1, M, rfl, by go_num, by omega, HOv2.out, HIv.out.skip HK2.out, HBv2.out⟩
          case measure => simp [intOf] <;> omega
         ·have HK2 := hid (show keeps L.toArray (ia + 1 + (ib + 1)) = true from keeps_pos (by
           rw [HXY2.out.1, HXY2.out.2]; have := HQ2.out; simpa using this))
          have HA1 := hid (at_VaS g ((ia + 1) * 3) (cap - (ia + 1)) (n - (ia + 1)) (ib + 1) hlt2 V11)
          have HA2 := hid (show (Instr.indexAt 39 (.slice (some ⟨g, 0, none⟩) n cap) (.int .i64 (kk : Nat))).run Tryz.prog V11 = .ok (.pointer (some ⟨g, kk * 3, none⟩)) V11 by
           have := at_VaS g 0 cap n kk (by have := HKk.out; omega) V11
           rwa [Nat.zero_add] at this)
          have HG11 := hid (HGx.out V11 HI.out)
          have HT11 := hid (HOv2.out.there_ (kk * 3) 3 (by have := HKk.out; omega))
          have HOt := hid (HOv2.out.turn enW_len (j := kk) (by have := HKk.out; omega) x2)
          have HBt := hid (HBv2.out.trans (setCells_below V11 g (kk * 3) (enW x2) HRg.out))
          have hci := HIv.out.keep (by have := HDs.out; omega) HK2.out
          rw [HXY2.out.1] at hci
          have HCi := hid (show CompInv L.toArray (ia + 1 + (ib + 1) + 1) (kk + 1) (M.set kk x2).toArray by simpa using hci)
          clear hci
          have hw := HWi2.out
          have hw2 := HWk.out
          go_wp2_with (first
           | (refine wpList_val (o := ⟨some 49, _, _, _, _, _⟩) rfl (.pointer (some ⟨g, (ia + 1) * 3 + (ib + 1) * 3, none⟩)) V11 (run_indexAddr_op rfl rfl rfl HA1.out) ?_)
           | (refine wpList_load_midif rfl 43 (.tmp 49) rfl g ((ia + 1) * 3 + (ib + 1) * 3) rfl (enW x2) _ HG11.out Tryz.underlying43 rfl (by kernel_rfl) ?_)
           | (refine wpList_val (o := ⟨some 51, _, _, _, _, _⟩) rfl (.pointer (some ⟨g, kk * 3, none⟩)) V11 (run_indexAddr_op rfl rfl rfl HA2.out) ?_)
           | (refine wpList_store_mid rfl 43 (.tmp 51) (.tmp 50) rfl g (kk * 3) (enW x2).toArray rfl rfl HT11.out (by kernel_rfl) (by simp [enW, Value.oneCell']) ?_)
           | fail)
          go_roundw
          case rel => exact ⟨kk + 1, ib + 1, M.set kk x2, by go_num, by go_num, by omega, HOt.out, HCi.out, HBt.out⟩
          case measure => simp [intOf] <;> omega
       ·have hend : ia + 1 + (ib + 1) = n := by omega
        have hkn : kk < n := by omega
        have hci := HIv.out
        rw [hend] at hci
        obtain ⟨Z, hZ⟩ : ∃ Z, Z = (Builtin.zeroCells (Value.agg #[.int .i64 0, .int .i64 0, .string ⟨#[]⟩]).cells (n - kk)).toList := ⟨_, rfl⟩
        have hcl : ∀ ty, (Builtin.clear_ #[39] ty #[.slice (some ⟨g, kk * 3, none⟩) (n - kk) (cap - kk)]).run Tryz.prog wm = .ok (.tuple #[]) (wm.setCells g (kk * 3) Z) := fun ty => by
         rw [hZ]
         exact run_clear_K (P := Tryz.prog) wm 39 43 ty _ Tryz.underlying39 (zero_of_info zeroVa).1 (by intro v hv; simp [Value.cells] at hv; rcases hv with rfl | rfl | rfl <;> rfl) g (kk * 3) (n - kk) (cap - kk) (by omega) (HOm.out.there_ (kk * 3) _ (by show kk * 3 + (n - kk) * 3 ≤ n * 3; omega))
        have HS56 := hid (show (Instr.sliceAt 39 (.slice (some ⟨g, 0, none⟩) n cap) (some (.int .i64 (kk : Nat))) none none).run Tryz.prog wm = .ok (.slice (some ⟨g, kk * 3, none⟩) (n - kk) (cap - kk)) wm by
         have := run_sliceK_lo (P := Tryz.prog) (k := 3) wm 39 43 Tryz.underlying39 (by kernel_rfl) (some ⟨g, 0, none⟩) n cap kk (by omega)
         rw [show slK (some ⟨g, 0, none⟩) cap kk 3 = some ⟨g, kk * 3, none⟩ by unfold slK; rw [if_neg (by have := HNc.out; omega)]; simp [Addr.add_lit]] at this
         exact this)
        have HS59 := hid (show ∀ W : World, (Instr.sliceAt 39 (.slice (some ⟨g, 0, none⟩) n cap) none (some (.int .i64 (kk : Nat))) none).run Tryz.prog W = .ok (.slice (some ⟨g, 0, none⟩) kk cap) W from fun W => by
         have := run_sliceK_hi (P := Tryz.prog) (k := 3) W 39 43 Tryz.underlying39 (by kernel_rfl) (some ⟨g, 0, none⟩) n cap kk (by have := HNc.out; omega)
         rw [show slK (some ⟨g, 0, none⟩) cap 0 3 = some ⟨g, 0, none⟩ by unfold slK; rw [if_neg (by have := HNc.out; omega)]; simp [Addr.add_lit]] at this
         exact this)
        have htk : M.take kk = Lib.compact L := by
         have hcl2 : (Lib.compact L).length = kk := by unfold Lib.compact; rw [HN.out]; exact hci.len
         apply List.ext_getElem?
         intro j
         by_cases hj : j < kk
         ·have h1 := hci.low j hj
          unfold Lib.compact
          rw [HN.out, h1, List.getElem?_take, if_pos hj, arr_getV (by omega), List.getElem?_eq_getElem (by omega)]
         ·rw [List.getElem?_take, if_neg hj, List.getElem?_eq_none (by omega)]
        have HOc := hid (show OwnK enW R 43 3 (wm.setCells g (kk * 3) Z) (.slice (some ⟨g, 0, none⟩) kk cap) (Lib.compact L) by
         rw [← htk]; exact HOm.out.cut enW_len kk (by omega) (kk * 3) Z (Nat.le_refl _))
        have HBc := hid (HBm.out.trans (setCells_below wm g (kk * 3) Z HRg.out))
        clear hci hZ htk hkk hMn hI2 hOm hbm
        go_wp2_with (first
         | (refine wpList_val (o := ⟨some 56, _, _, _, _, _⟩) rfl (.slice (some ⟨g, kk * 3, none⟩) (n - kk) (cap - kk)) wm (run_sllo_op rfl rfl rfl HS56.out) ?_)
         | (refine wpList_val (o := ⟨some 59, _, _, _, _, _⟩) rfl (.slice (some ⟨g, 0, none⟩) kk cap) (wm.setCells g (kk * 3) Z) (run_slhi_op rfl rfl rfl (HS59.out _)) ?_)
         | fail)
        go_ret
        exact ⟨_, rfl, HOc.out, HBc.out⟩
   ·have hak : n = ia + 1 := by omega
    have HO2 := hid (show OwnK enW R 43 3 wo (.slice (some ⟨g, 0, none⟩) n cap) (Lib.compact L) by rw [compact_all L (fun j hj => HAl.out j (by have := HN.out; omega))]; exact HO.out.keep hbw)
    have HB2 := hid (show Below R w wo from hbw.mono (by have := HRg.out; have := (own_at HO.out (j := 0) (x := L[0]'(by have := HN.out; omega)) (List.getElem?_eq_getElem _)).2; omega))
    clear hbw
    go_wp2
    go_ret
    exact ⟨_, rfl, HO2.out, HB2.out⟩
theorem HeldIs.hd {w : World} {F : Nat → Prop} {m : Option Nat} {l : List (Dt × Va)} (h : HeldIs w F m l) : HdIs w m l := by
 rcases h with h | ⟨n, h1, _, h3⟩
 ·exact .inl h
 ·exact .inr ⟨n, h1, h3⟩
theorem HdIs.keep {w w' : World} {m : Option Nat} {l : List (Dt × Va)} (h : HdIs w m l) (hb : Below w.heap.size w w') : HdIs w' m l := by
 rcases h with h | ⟨n, h1, h3⟩
 ·exact .inl h
 ·exact .inr ⟨n, h1, h3.same (hb.block n h3.lt)⟩
theorem values_any (x : El) (sb : Nat) (F : Nat → Prop) (σ : List (El × List (Dt × Va))) (w : World) (hS : StoreIs w sb F σ) (hl : (entS x σ).length ≤ 1000000) : Calls Tryz.prog 100 #[.pointer (some ⟨sb, 0, none⟩), eE x] w fun e w' => ∃ (u : Value) (ss : List Va), e = .returned u ∧ ss.Perm (valsL (entS x σ)) ∧ (ss.Pairwise fun a b => ltOf cfV b a = false) ∧ OwnK enW w.heap.size 43 3 w' u (Lib.compact ss) ∧ Below w.heap.size w w' := by
 have HL := hid hl
 obtain ⟨p, hp⟩ : ∃ p, w.heap.size = p := ⟨_, rfl⟩
 obtain ⟨X, hX⟩ : ∃ X, X = w.alloc (.cells #[.int .i64 x.k, .string x.a, .string x.b, .string x.c, .string x.d] 38) := ⟨_, rfl⟩
 have hY : Below w.heap.size w X := by rw [hX]; exact (Below.refl _ _).alloc (Nat.le_refl _) _
 have HE := hid (show Blk X p 38 #[.int .i64 x.k, .string x.a, .string x.b, .string x.c, .string x.d] by rw [hX, ← hp]; exact Blk.new w _ _)
 have HS := hid (hS.below hY)
 have HY := hid hY
 have HX := hid hX
 have HP := hid hp
 clear hl hS hY hX
 unfold eE elV
 go_enter Tryz.func100, Tryz.ntmps100
 go_upto_region 1 with fail
 rw [← HX.out]
 first | rw [hp] | skip
 clear hp
 go_wp2_with (first
  | (refine wpList_load_if rfl 38 (.tmp 3) rfl p rfl _ _ _ _ HE.out Tryz.underlying38 rfl (by kernel_rfl) ?_)
  | fail)
 refine (of_any x sb F σ X HS.out).mono ?_
 rintro e w1 ⟨m, rfl, hm, hb1⟩
 have HM := hid hm.hd
 have HB1 := hid (HY.out.trans (hb1.mono HY.out.size))
 clear hm hb1
 go_wp2_with fail
 refine (vals_any m w1).mono ?_
 rintro e w2 ⟨rfl, hw2⟩
 have hb2 : Below w1.heap.size w1 w2 := by rw [hw2]; exact (Below.refl _ _).alloc (Nat.le_refl _) _
 have HM2 := hid (HM.out.keep hb2)
 have HC2 := hid (show w2.cell? ⟨w1.heap.size, 0, none⟩ = some (.map m) by rw [hw2]; exact (Blk.cell (Blk.new w1 116 #[.map m]) 0).trans rfl)
 have HB2 := hid (HB1.out.trans (hb2.mono HB1.out.size))
 have HL2 := hid (show w1.heap.size < w2.heap.size by rw [hw2]; simp)
 clear hw2 hb2
 go_wp2_with fail
 refine (sortedV_any w1.heap.size m (entS x σ) w2 HL2.out HC2.out HM2.out HL.out).mono ?_
 rintro e w3 ⟨v3, ss, rfl, hpm, hpw, ho3, hb3⟩
 have HPm := hid hpm
 have HPw := hid hpw
 have HO3 := hid ho3
 have HB3 := hid (HB2.out.trans (hb3.mono HB2.out.size))
 have HLs := hid (show ss.length ≤ 1000000 by rw [hpm.length_eq]; simpa [valsL] using HL.out)
 clear hpm hpw ho3 hb3
 go_wp2_with fail
 refine (compV_any ss w2.heap.size v3 w3 HO3.out HLs.out).mono ?_
 rintro e w4 ⟨u, rfl, ho4, hb4⟩
 have HO4 := hid (ho4.base_ HB2.out.size)
 have HB4 := hid (HB3.out.trans (hb4.mono HB2.out.size))
 clear ho4 hb4
 go_wp2
 go_ret
 exact ⟨_, ss, rfl, HPm.out, HPw.out, HO4.out, HB4.out⟩
theorem cfV_zero {x y : Va} (h : cfV x y = 0) : x = y := by
 obtain ⟨h1, h2, h3⟩ := (cmp_zero _ _ _ _ _ _).1 h
 obtain ⟨k, n, ⟨⟨t⟩⟩⟩ := x
 obtain ⟨k', n', ⟨⟨t'⟩⟩⟩ := y
 simp at h1 h2 h3
 subst h1 h2 h3
 rfl
theorem cmp_in {l : List Va} (h : l.Pairwise fun a b => ltOf cfV b a = false) {i j : Nat} (hij : i ≤ j) (hj : j < l.length) : cfV (l.toArray[i]!) (l.toArray[j]!) ≤ 0 := by
 rw [arr_getV (by omega), arr_getV hj]
 rcases Nat.lt_or_ge i j with h1 | h1
 ·have h2 := List.pairwise_iff_getElem.1 h i j (by omega) hj h1
  have h3 := cfV_ok.anti l[j] l[i]
  have h4 : ¬ cfV l[j] l[i] < 0 := by simpa [ltOf] using h2
  omega
 ·have e : i = j := by omega
  subst e
  have := cfV_ok.anti l[i] l[i]
  omega
theorem compact_rise {l : List Va} (h : l.Pairwise fun a b => ltOf cfV b a = false) : (Lib.compact l).Pairwise fun a b => cfV a b < 0 := by
 unfold Lib.compact Lib.compactUpTo
 rw [List.pairwise_map]
 refine ((List.pairwise_lt_range (n := l.length)).filter _).imp_of_mem ?_
 intro i j hi hj hij
 have hj2 := List.mem_filter.1 hj
 have hjn : j < l.length := by simpa using hj2.1
 have hk : l.toArray[j]! ≠ l.toArray[j - 1]! := by
  have := hj2.2
  simp only [Lib.keeps, decide_eq_true_eq] at this
  rcases this with h0 | h0
  ·omega
  ·exact h0
 have h1 := cmp_in h (show i ≤ j - 1 by omega) (by omega)
 have h2 := cmp_in h (show j - 1 ≤ j by omega) hjn
 have h3 := cfV_ok.trans _ _ _ h1 h2
 rcases Int.lt_or_eq_of_le h3 with h4 | h4
 ·exact h4
 ·exact absurd (cfV_zero (cfV_ok.zero h1 h2 h4).2) (fun e => hk e.symm)
theorem compact_mem {l : List Va} {v : Va} : v ∈ Lib.compact l ↔ v ∈ l := by
 unfold Lib.compact Lib.compactUpTo
 constructor
 ·intro h
  obtain ⟨j, hj, rfl⟩ := List.mem_map.1 h
  have hjn : j < l.length := by simpa using (List.mem_filter.1 hj).1
  rw [arr_getV hjn]
  exact List.getElem_mem _
 ·intro h
  obtain ⟨j, hj, rfl⟩ := List.getElem_of_mem h
  have key : ∀ j, j < l.length → l.toArray[j]! ∈ ((List.range l.length).filter (Lib.keeps l.toArray)).map (l.toArray[·]!) := by
   intro j
   induction j with
   | zero => exact fun hj => List.mem_map.2 ⟨0, List.mem_filter.2 ⟨by simpa using hj, by simp [Lib.keeps]⟩, rfl⟩
   | succ j ih =>
    intro hj
    by_cases e : l.toArray[j + 1]! = l.toArray[j]!
    ·rw [e]; exact ih (by omega)
    ·exact List.mem_map.2 ⟨j + 1, List.mem_filter.2 ⟨by simpa using hj, Lib.keeps_pos e⟩, rfl⟩
  have := key j hj
  rwa [arr_getV hj] at this
theorem vals_live {row : List Ev} (hc : CausL row) (hl : ∀ e ∈ row, Lens e) {x : El} {ss : List Va} (hp : ss.Perm (valsL (entS x (runS row)))) {v : Va} : v ∈ Lib.compact ss ↔ ∃ e ∈ liveL row x, vaOf e = v := by
 rw [compact_mem, hp.mem_iff]
 have hok : ∀ e ∈ row, okB e = true := fun e he => (hc.1 e he).1
 unfold valsL liveL
 simp only [List.mem_map, List.mem_filter]
 constructor
 ·rintro ⟨q, hq, rfl⟩
  obtain ⟨e, he, h1, rfl⟩ := (ent_live _ row rfl hc hl x q).1 hq
  exact ⟨e, ⟨he, (live_iff hok he).2 h1⟩, rfl⟩
 ·rintro ⟨e, ⟨he, h1⟩, rfl⟩
  exact ⟨(dtOf e, vaOf e), (ent_live _ row rfl hc hl x _).2 ⟨e, he, (live_iff hok he).1 h1, rfl⟩, rfl⟩
theorem sizeVa (v : Va) : (Tryz.prog.info? 43).map (·.size) = some (enW v).toArray.size := (zero_of_info zeroVa).2
theorem refcmp_is (x y : Va) (z : Int) (h : cfV x y = z) (hs : x.t.size ≤ 9223372036854775806) (w : World) : Calls Tryz.prog 47 #[eV x, eV y] w fun e w' => e = .returned (.int .i64 z) ∧ Below w.heap.size w w' := by
 subst h; exact refcmp_any x.k x.n x.t y.k y.n y.t w hs
end Go.Proofs.YtdgglhlofnigkaaGreatDoor
