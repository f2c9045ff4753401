/-
  Own slices turned and cut; the reference's Live; slices.Compact; (*store.Store).Values; mathematics (merged texts). Conditions: lengths.
-/
import Derived.Test.YteohlbmjbljlmaaStK
import Derived.Lib.SlicesCompact
import Derived.Test.YteohlbmjbljlmaaStCausal
import Derived.Test.YteohlbmjbljlmaaStVA
import Derived.Test.YteohlbmjbljlmaaStCopA
import Derived.Test.YteohlbmjbljlmaaValRefCmp

namespace Go.Proofs.Yteohlbmjbljlmaa
open Go.RowKit Go.MapKept Go.Sort

section
variable {P : Program} {α : Type} {enc : α → List Value} {k : Nat} {w : World} {g n cap base : Nat} {e : TypeId} {l : List α}
theorem blk_setCells {t : TypeId} : ∀ (vs : List Value) (o : Nat) (w : World) (cs : Array Value), Blk w g t cs → ∃ cs', Blk (w.setCells g o vs) g t cs' ∧ cs'.size = cs.size ∧ ∀ j, cs'[j]? = if o ≤ j ∧ j < o + vs.length ∧ j < cs.size then vs[j - o]? else cs[j]?
  | [], o, w, cs, h => ⟨cs, h, rfl, fun j => by rw [if_neg (by simp only [List.length_nil]; omega)]⟩
  | u :: r, o, w, cs, h => by
    obtain ⟨cs', h1, h2, h3⟩ := blk_setCells r (o + 1) _ _ (Blk.set_ h o u)
    refine ⟨cs', h1, by simpa using h2, fun j => ?_⟩
    rw [h3 j]
    simp only [Array.size_setIfInBounds, List.length_cons]
    by_cases hj : j = o
    · subst hj
      rw [if_neg (by omega)]
      by_cases hl : j < cs.size
      · rw [if_pos (by omega), Array.getElem?_setIfInBounds_self_of_lt hl]; simp
      · rw [if_neg (by omega), Array.setIfInBounds_eq_of_size_le (by omega)]
    · rw [Array.getElem?_setIfInBounds_ne (fun e => hj e.symm)]
      by_cases hc : o + 1 ≤ j ∧ j < o + 1 + r.length ∧ j < cs.size
      · rw [if_pos hc, if_pos (by omega), show j - o = (j - (o + 1)) + 1 from by omega, List.getElem?_cons_succ]
      · rw [if_neg hc, if_neg (by omega)]
theorem setCells_ne (w : World) (g o : Nat) (vs : List Value) {i : Nat} (h : i ≠ g) : (w.setCells g o vs).heap[i]? = w.heap[i]? := by
  induction vs generalizing o w with
  | nil => rfl
  | cons u r ih => exact (ih _ _).trans (Below.heap_setCell w ⟨g, o, none⟩ u i h)
theorem setCells_below {B : Nat} (w : World) (g o : Nat) (vs : List Value) (h : B ≤ g) : Below B w (w.setCells g o vs) := by
  induction vs generalizing o w with
  | nil => exact Below.refl _ _
  | cons u r ih => exact ((Below.refl B w).setCell (p := ⟨g, o, none⟩) h u).trans (ih _ _)
/-- What an own slice's block is. -/
theorem OwnK.blk (h : OwnK enc base e k w (.slice (some ⟨g, 0, none⟩) n cap) l) : ∃ cur, Blk w g e cur ∧ base ≤ g ∧ l.length = n ∧ n ≤ cap ∧ cap ≤ maxLen ∧ cur.size = cap * k ∧ cur.toList.take (l.length * k) = l.flatMap enc := by
  rcases h.2 with ⟨h2, _⟩ | ⟨g', cap', cur, hv, hB, hg, h1, h2, h3, h4⟩
  · cases h2
  · injection hv with e1 e2 e3
    injection e1 with e1
    injection e1 with e1
    subst e1 e3
    exact ⟨cur, hg, hB, e2.symm, by omega, h2, h3, h4⟩
theorem OwnK.there_ (h : OwnK enc base e k w (.slice (some ⟨g, 0, none⟩) n cap) l) (o m : Nat) (ho : o + m ≤ n * k) : w.there g o m := by
  obtain ⟨cur, hb, _, hl, hc, _, hs, _⟩ := h.blk
  intro j hj
  refine ⟨?_, Blk.free hb _⟩
  have : n * k ≤ cap * k := Nat.mul_le_mul_right _ hc
  rw [Blk.cell hb, Array.getElem?_eq_getElem (by omega)]; rfl
theorem OwnK.of_take (hk : ∀ x, (enc x).length = k) {cur : Array Value} (hb : Blk w g e cur) (hB : base ≤ g) (h1 : l.length ≤ cap) (h2 : cap ≤ maxLen) (h3 : cur.size = cap * k) (h4 : cur.toList.take (l.length * k) = l.flatMap enc) : OwnK enc base e k w (.slice (some ⟨g, 0, none⟩) l.length cap) l :=
  ⟨flat_length hk l, .inr ⟨g, cap, cur, rfl, hB, hb, h1, h2, h3, h4⟩⟩
theorem flat_take (hk : ∀ x, (enc x).length = k) : ∀ (l : List α) (j : Nat), j ≤ l.length → (l.flatMap enc).take (j * k) = (l.take j).flatMap enc
  | _, 0, _ => by simp
  | [], j + 1, h => by simp at h
  | x :: l, j + 1, h => by
    rw [List.take_succ_cons, List.flatMap_cons, List.flatMap_cons, List.take_append, List.take_of_length_le (by rw [hk, Nat.add_mul]; omega), hk, show (j + 1) * k - k = j * k from by rw [Nat.add_mul]; omega, flat_take hk l j (by simpa using h)]
/-- The first ones, whatever is stored behind them. -/
theorem OwnK.cut (hk : ∀ x, (enc x).length = k) (h : OwnK enc base e k w (.slice (some ⟨g, 0, none⟩) n cap) l) (j : Nat) (hj : j ≤ n) (o : Nat) (vs : List Value) (ho : j * k ≤ o) : OwnK enc base e k (w.setCells g o vs) (.slice (some ⟨g, 0, none⟩) j cap) (l.take j) := by
  obtain ⟨cur, hb, hB, hl, hc, hm, hs, ht⟩ := h.blk
  obtain ⟨cs', h1, h2, h3⟩ := blk_setCells vs o w cur hb
  have hlj : (l.take j).length = j := by rw [List.length_take]; omega
  have := OwnK.of_take (l := l.take j) hk h1 hB (by omega : (l.take j).length ≤ cap) hm (h2.trans hs) (by
    rw [← flat_take hk l j (by omega), ← ht, List.take_take, hlj, Nat.min_eq_left (Nat.mul_le_mul_right _ (by omega))]
    apply List.ext_getElem?
    intro i
    rw [List.getElem?_take, List.getElem?_take]
    by_cases hi : i < j * k
    · rw [if_pos hi, if_pos hi, Array.getElem?_toList, Array.getElem?_toList, h3, if_neg (by omega)]
    · rw [if_neg hi, if_neg hi])
  rwa [hlj] at this
/-- An element turned. -/
theorem OwnK.turn (hk : ∀ x, (enc x).length = k) (h : OwnK enc base e k w (.slice (some ⟨g, 0, none⟩) n cap) l) {j : Nat} (hj : j < n) (x : α) : OwnK enc base e k (w.setCells g (j * k) (enc x)) (.slice (some ⟨g, 0, none⟩) n cap) (l.set j x) := by
  obtain ⟨cur, hb, hB, hl, hc, hm, hs, ht⟩ := h.blk
  obtain ⟨cs', h1, h2, h3⟩ := blk_setCells (enc x) (j * k) w cur hb
  have hjn : (j + 1) * k ≤ n * k := Nat.mul_le_mul_right _ hj
  have hnc : n * k ≤ cap * k := Nat.mul_le_mul_right _ hc
  rw [Nat.add_mul, Nat.one_mul] at hjn
  have := OwnK.of_take (l := l.set j x) hk h1 hB (by simp; omega) hm (h2.trans hs) (by
    apply List.ext_getElem?
    intro t
    rw [List.length_set, hl, List.getElem?_take, Array.getElem?_toList]
    by_cases htn : t < n * k
    · rw [if_pos htn, h3, hk]
      have hk0 : 0 < k := by
        rcases Nat.eq_zero_or_pos k with h | h
        · subst h; omega
        · exact h
      have hq : t / k < n := (Nat.div_lt_iff_lt_mul hk0).2 htn
      have e1 : t / k * k + t % k = t := by rw [Nat.mul_comm]; exact Nat.div_add_mod t k
      have hmod := Nat.mod_lt t hk0
      by_cases hqj : t / k = j
      · have hx : (l.set j x)[t / k]? = some x := by rw [hqj, List.getElem?_set_self (by omega)]
        have h5 := flat_at hk (l.set j x) (t / k) (t % k) x hx hmod
        rw [e1] at h5
        rw [h5, if_pos (by rw [hqj] at e1; omega), show t - j * k = t % k from by rw [hqj] at e1; omega]
      · have hlt : t / k < l.length := by omega
        have hx : (l.set j x)[t / k]? = some l[t / k] := by rw [List.getElem?_set_ne (fun e => hqj e.symm), List.getElem?_eq_getElem hlt]
        have h5 := flat_at hk (l.set j x) (t / k) (t % k) _ hx hmod
        have h6 := flat_at hk l (t / k) (t % k) _ (List.getElem?_eq_getElem hlt) hmod
        rw [e1] at h5 h6
        have hno : ¬ (j * k ≤ t ∧ t < j * k + k ∧ t < cur.size) := by
          rintro ⟨a, b, _⟩
          apply hqj
          have h7 : j ≤ t / k := (Nat.le_div_iff_mul_le hk0).2 a
          have h8 : t / k < j + 1 := (Nat.div_lt_iff_lt_mul hk0).2 (by rw [Nat.add_mul, Nat.one_mul]; exact b)
          omega
        rw [h5, ← h6, ← ht, List.getElem?_take, hl, if_pos htn, if_neg hno, Array.getElem?_toList]
    · rw [if_neg htn, List.getElem?_eq_none]
      rw [flat_length hk, List.length_set, hl]; omega)
  rwa [List.length_set, hl] at this
/-- The rest cleared. -/
theorem run_clear_K (w : World) (t e ty : TypeId) (z : Value) (ht : P.underlying t = some (.slice e)) (hv : ∀ w, (zeroValue e).run P w = .ok z w) (h1 : ∀ v ∈ z.cells, v.oneCell' = true) (b o n c : Nat) (hn : 0 < n) (hth : w.there b o (n * z.cells.size)) :
    (Builtin.clear_ #[t] ty #[.slice (some ⟨b, o, none⟩) n c]).run P w = .ok (.tuple #[]) (w.setCells b o (Builtin.zeroCells z.cells n).toList) := by
  have hlen : (Builtin.zeroCells z.cells n).toList.length = n * z.cells.size := by simp [Builtin.zeroCells]
  have hst := run_storeCells_cells (P := P) b o (Builtin.zeroCells z.cells n).toList 0 w (fun j hj => (hth j (by omega)).1) (fun j hj => (hth j (by omega)).2) (by
    intro v hv'
    simp only [Builtin.zeroCells, Array.toList_map, List.mem_map] at hv'
    obtain ⟨i, hi, rfl⟩ := hv'
    have hi' : i < n * z.cells.size := by simpa using hi
    have hz0 : 0 < z.cells.size := by
      rcases Nat.eq_zero_or_pos z.cells.size with h | h
      · rw [h] at hi'; omega
      · exact h
    rw [getElem!_pos z.cells _ (Nat.mod_lt _ hz0)]
    exact h1 _ (Array.getElem_mem _))
  simp only [Nat.add_zero] at hst
  obtain ⟨m, rfl⟩ : ∃ m, n = m + 1 := ⟨n - 1, by omega⟩
  simp [Builtin.clear_, run_underlying ht, hv, hst]
end

end Go.Proofs.Yteohlbmjbljlmaa

namespace Go.Proofs.Yteohlbmjbljlmaa
open Go.RowKit Go.MapKept Go.Sort

theorem run_geiL {a b : Int} {q : Bool} (h : decide (b ≤ a) = q) (w : World) : (binOp .geq 3 (.int .i64 a) (.int .i64 b)).run Try.prog w = .ok (.bool q) w := by subst h; go_simp
set_option maxRecDepth 100000 in
set_option maxHeartbeats 1000000 in
theorem rknows_any (f : Nat → Int) (n : Nat) (hn : n < 16) (c : Int) (w : World) : Calls Try.prog 38 #[.agg (vA f), dv n c] w (Gives w (.bool (decide (c ≤ f n)))) := by
  obtain ⟨p, hp⟩ : ∃ p, w.heap.size = p := ⟨_, rfl⟩
  obtain ⟨X, hX⟩ : ∃ X, X = (w.alloc (.cells (vA f) 27)).alloc (.cells #[.int .i64 n, .int .i64 c] 33) := ⟨_, rfl⟩
  have HV := Lib.hid (show VB X p f by rw [hX, ← hp]; exact (VB.new_ f rfl).alloc_ _)
  have HD := Lib.hid (show Blk X (p + 1) 33 #[.int .i64 n, .int .i64 c] by
    rw [hX, ← hp]
    have := Blk.new (w.alloc (.cells (vA f) 27)) 33 #[.int .i64 n, .int .i64 c]
    simpa using this)
  have HY := Lib.hid (show Below w.heap.size w X by rw [hX]; exact ((Below.refl _ _).alloc (Nat.le_refl _) _).alloc (by simp) _)
  have HX := Lib.hid hX
  have HP := Lib.hid hp
  have HD0 := Lib.hid (show X.cell? ⟨p + 1, 0, none⟩ = some (.int .i64 n) from (Blk.cell HD.out 0).trans rfl)
  have HD1 := Lib.hid (show X.cell? ⟨p + 1, 0 + 1, none⟩ = some (.int .i64 c) from (Blk.cell HD.out 1).trans rfl)
  have HDb := Lib.hid (Blk.lt HD.out)
  have HVb : Hid (p < X.heap.size) := Lib.hid (Blk.lt (show Blk X p 27 (vA f) from HV.out))
  obtain ⟨q, hq⟩ : ∃ q, decide (c ≤ f n) = q := ⟨_, rfl⟩
  have HQ := Lib.hid hq
  rw [hq]
  clear hX hp hq
  unfold dv
  go_enter Try.func38, Try.ntmps38
  go_upto_region 1 with fail
  rw [← HX.out, HP.out]
  refine wp_region_any (by kernel_rfl) ?_
  refine wpAny_below (fun i v _ => v = ([.pointer (some ⟨p + 1, 0, none⟩), .int .i64 n, .pointer (some ⟨p, n, none⟩), .int .i64 (f n), .pointer (some ⟨p + 1, 0 + 1, none⟩), .int .i64 c, .bool q, .bool q] : List Value).getD i undef) _ X (by kernel_rfl) (by kernel_rfl) (by kernel_rfl) (fun i v w w' _ h => h) ?_ ?_
  · refine ⟨?_, ?_, ?_, ?_, ?_, ?_, ?_, ?_, trivial⟩
    · intro a W hI hun haft hi
      have e3 : a.eval (.tmp 3) = .pointer (some ⟨p + 1, 0, none⟩) := hun 3 (by kernel_rfl)
      exact b_same hi hI rfl _ (run_fieldAddr_op rfl e3 (at_dot0' _ _ _)) rfl
    · intro a W hI hun haft hi
      have f0 : a.eval (.tmp 5) = .pointer (some ⟨p + 1, 0, none⟩) := haft ⟨0, .data⟩ (by simp) rfl _ _ rfl rfl
      exact b_same hi hI rfl _ (run_loadint_op rfl f0 Try.underlying3 ((Below.cell hI HDb.out).trans HD0.out)) rfl
    · intro a W hI hun haft hi
      have e2 : a.eval (.tmp 2) = .pointer (some ⟨p, 0, none⟩) := hun 2 (by kernel_rfl)
      have f1 : a.eval (.tmp 6) = .int .i64 n := haft ⟨1, .data⟩ (by simp) rfl _ _ rfl rfl
      exact b_same hi hI rfl _ (run_indexAddr_op rfl e2 f1 (at_vec p n hn _)) rfl
    · intro a W hI hun haft hi
      have f2 : a.eval (.tmp 7) = .pointer (some ⟨p, n, none⟩) := haft ⟨2, .data⟩ (by simp) rfl _ _ rfl rfl
      exact b_same hi hI rfl _ (run_loadint_op rfl f2 Try.underlying3 ((Below.cell hI HVb.out).trans (VB.cell_ HV.out n hn))) rfl
    · intro a W hI hun haft hi
      have e3 : a.eval (.tmp 3) = .pointer (some ⟨p + 1, 0, none⟩) := hun 3 (by kernel_rfl)
      exact b_same hi hI rfl _ (run_fieldAddr_op rfl e3 (at_dot1' _ _ _)) rfl
    · intro a W hI hun haft hi
      have f4 : a.eval (.tmp 9) = .pointer (some ⟨p + 1, 0 + 1, none⟩) := haft ⟨4, .data⟩ (by simp) rfl _ _ rfl rfl
      exact b_same hi hI rfl _ (run_loadint_op rfl f4 Try.underlying3 ((Below.cell hI HDb.out).trans HD1.out)) rfl
    · intro a W hI hun haft hi
      have f3 : a.eval (.tmp 8) = .int .i64 (f n) := haft ⟨3, .data⟩ (by simp) rfl _ _ rfl rfl
      have f5 : a.eval (.tmp 10) = .int .i64 c := haft ⟨5, .data⟩ (by simp) rfl _ _ rfl rfl
      exact b_same hi hI rfl (.bool q) (run_bin_op rfl f3 f5 (by kernel_rfl) (run_geiL HQ.out _)) rfl
    · intro a W hI hun haft hi
      have f6 : a.eval (.tmp 11) = .bool q := haft ⟨6, .data⟩ (by simp) rfl _ _ rfl rfl
      exact b_same hi hI rfl _ (run_assign_op rfl f6) rfl
  · intro vals W hI hp
    have hl7 : vals 7 = .bool q := hp 7 (by decide)
    have HI := Lib.hid hI
    clear hp hI
    simp only [layN, List.size_toArray, List.length_cons, List.length_nil, List.range, List.range.loop, if_true, List.getElem?_toArray, List.getElem?_cons_zero, List.getElem?_cons_succ, Act.put, List.setIfInBounds_toArray, List.set_cons_zero, List.set_cons_succ, Nat.zero_add, Nat.reduceAdd, hl7]
    clear hl7
    go_wp2
    go_ret
    exact ⟨rfl, HY.out.trans (HI.out.mono HY.out.size)⟩

/-- Another event of the element that undoes and knows it. -/
def undoB (x : El) (e f : Ev) : Bool := decide (elOf f = x) && (!(f.op == 1)) && (!decide (dtOf f = dtOf e)) && decide (e.c ≤ f.p e.r.toNat)
def liveB (L : List Ev) (x : El) (e : Ev) : Bool := decide (elOf e = x) && (e.op == 1 || e.op == 3) && L.all fun f => !undoB x e f
def liveL (L : List Ev) (x : El) : List Ev := L.filter (liveB L x)
theorem live_next {L l : List Ev} {x : El} {j : Nat} {e : Ev} (h : l[j]? = some e) : (l.take (j + 1)).filter (liveB L x) = (l.take j).filter (liveB L x) ++ (if liveB L x e then [e] else []) := by
  rw [List.take_add_one, h, List.filter_append]
  congr 1
  cases hk : liveB L x e <;> simp [hk]
theorem undo_next {l : List Ev} {x : El} {e f : Ev} {j : Nat} (h : l[j]? = some f) : ((l.take (j + 1)).all fun g => !undoB x e g) = (((l.take j).all fun g => !undoB x e g) && !undoB x e f) := by
  rw [List.take_add_one, h, List.all_append]
  simp
theorem eq_inE (w : World) (x y : El) : (Op.equalIn 10000 35 (eE x) (eE y)).run Try.prog w = .ok (decide (x = y)) w := equal_E w x y
theorem eq_inD (w : World) (x y : Dt) : (Op.equalIn 10000 33 (eD x) (eD y)).run Try.prog w = .ok (decide (x = y)) w := equal_D w x y

set_option maxRecDepth 100000 in
set_option maxHeartbeats 4000000 in
theorem live_any (x : El) (l : List Ev) (A : Option Addr) (N c : Nat) (w : World) (hs : SlK encE 27 w (.slice A N c) l) (hN : l.length = N) (hN2 : N ≤ 10000) (hok : ∀ e ∈ l, okB e = true) :
    Calls Try.prog 15 #[.slice A N c, eE x] w fun e w' => ∃ v, e = .returned v ∧ OwnK encE w.heap.size 39 27 w' v (liveL l x) ∧ Below w.heap.size w w' := by
  obtain ⟨p, hp⟩ : ∃ p, w.heap.size = p := ⟨_, rfl⟩
  obtain ⟨X, hX⟩ : ∃ X, X = w.alloc (.cells #[.int .i64 x.k, .string x.a, .string x.b, .string x.c, .string x.d] 35) := ⟨_, rfl⟩
  have HE := Lib.hid (show Blk X p 35 #[.int .i64 x.k, .string x.a, .string x.b, .string x.c, .string x.d] by rw [hX, ← hp]; exact Blk.new w _ _)
  have HY := Lib.hid (show Below w.heap.size w X by rw [hX]; exact (Below.refl _ _).alloc (Nat.le_refl _) _)
  have HX := Lib.hid hX
  have HP := Lib.hid hp
  have HS := Lib.hid hs
  have HN := Lib.hid hN
  have HN2 := Lib.hid hN2
  have HOk := Lib.hid hok
  have HZe := Lib.hid (zero_of_info zeroE).1
  clear hX hp hs hN hN2 hok
  unfold eE elV
  go_enter Try.func15, Try.ntmps15
  go_upto_region 1 with fail
  rw [← HX.out, HP.out]
  go_wp2_with fail
  go_loopw [5, 13] (fun v5 v13 wr => ∃ j : Nat, v13 = .int .i64 j ∧ j ≤ N ∧ OwnK encE p 39 27 wr v5 ((l.take j).filter (liveB l x)) ∧ Below w.heap.size w wr ∧ Blk wr p 35 #[.int .i64 x.k, .string x.a, .string x.b, .string x.c, .string x.d]) (fun _ v13 _ => N - (intOf v13).toNat)
  case atStart => exact ⟨0, rfl, Nat.zero_le _, OwnK.nil_ _ _ _ _ _, HY.out, HE.out⟩
  case round =>
    obtain ⟨j, rfl, hj, ho, hbw, hel⟩ := hrel
    obtain ⟨wo, rfl⟩ : ∃ wo, wo = wr := ⟨_, rfl⟩
    have HBw := Lib.hid hbw
    by_cases hlt : j < N
    · obtain ⟨e, he⟩ : ∃ e, l[j]? = some e := ⟨l[j]'(by rw [HN.out]; exact hlt), List.getElem?_eq_getElem _⟩
      obtain ⟨gs, o, hA, hgl, hce⟩ := (HS.out.below hbw).ev he
      subst hA
      have HCe := Lib.hid hce
      have HAt := Lib.hid (at_Ev gs o c N j hlt wo)
      have HNx := Lib.hid (live_next (L := l) (x := x) he)
      have HOe := Lib.hid (HOk.out e (List.mem_of_getElem? he))
      have HAl := Lib.hid fun c => World.setRow_alloc_new wo (evC ev0) c 39
      have HZz := Lib.hid (show Blk (wo.alloc (.cells (evC ev0) 39)) wo.heap.size 39 (evC ev0) from Blk.new _ _ _)
      obtain ⟨Y, hY⟩ : ∃ Y, Y = wo.alloc (.cells (evC e) 39) := ⟨_, rfl⟩
      have hbY : Below wo.heap.size wo Y := by rw [hY]; exact (Below.refl _ _).alloc (Nat.le_refl _) _
      have HBY := Lib.hid (show EB Y wo.heap.size e by rw [hY]; exact Blk.new _ _ _)
      have HYe := Lib.hid hY
      have HOY := Lib.hid (ho.keep hbY)
      have HEY := Lib.hid (hel.below hbY hel.lt)
      have HbY := Lib.hid (HBw.out.trans (hbY.mono HBw.out.size))
      have HOl := Lib.hid (show ∀ k, u5.ownBlock = some k → k < wo.heap.size from fun k hk => (ho.lt k hk).2)
      have HLl := Lib.hid (show ((l.take j).filter (liveB l x)).length ≤ 10000 from by
        have h1 : ((l.take j).filter (liveB l x)).length ≤ (l.take j).length := List.length_filter_le _ _
        have h2 := List.length_take_le j l
        have h3 := HN2.out
        omega)
      have HW1 := Lib.hid (IntWalk.i64_in ((j : Int) + 1) (by have := HN2.out; omega))
      have HJ1 := Lib.hid (show ¬ 9223372036854775807 < j + 1 by have := HN2.out; omega)
      clear he hgl hce hY hbY ho hel hbw
      have hz := HZe.out
      go_upto_region 5 with (first
        | (refine wpList_val (o := ⟨some 15, _, _, _, _, _⟩) rfl (.pointer (some ⟨gs, o + j * 27, none⟩)) wo (run_indexAddr_op rfl rfl rfl HAt.out) ?_)
        | (refine' wpList_load_midif ?q1 39 (.tmp 15) ?q2 gs (o + j * 27) ?q3 (encE e) _ ?q4 Try.underlying39 ?q5 ?q6 ?_; (case q2 => rfl); (case q1 => rfl); (case q3 => rfl); (case q4 => exact HCe.out); (case q5 => rfl); (case q6 => exact (sizeE e)))
        | (refine wpList_store_row (o := ⟨none, _, _, _, _, _⟩) rfl 39 (.tmp 7) (.tmp 16) rfl wo.heap.size (evC e) rfl rfl _ _ HZz.out (sizeE e) rfl (by kernel_rfl) ?_; rw [HAl.out, ← HYe.out])
        | fail)
      clear hz HZz HAl HYe HAt HCe
      obtain ⟨b7, hb7⟩ : ∃ b7, wo.heap.size = b7 := ⟨_, rfl⟩
      rw [hb7] at HBY HOl ⊢
      clear hb7
      have hqe := fun w => eq_inE w (elOf e) x
      have e18 := HBY.out.opc
      unfold eE elV elOf at hqe
      dsimp only at hqe
      obtain ⟨b1, hb1⟩ : ∃ b1, b1 = decide (elOf e = x) := ⟨_, rfl⟩
      have HB1 := Lib.hid hb1
      unfold elOf at hb1
      rw [← hb1] at hqe
      clear hb1
      have k19 : Y.cell? ⟨b7, 19, none⟩ = some (.int .i64 e.ek) := (Blk.cell HBY.out 19).trans rfl
      have k20 : Y.cell? ⟨b7, 20, none⟩ = some (.string e.a) := (Blk.cell HBY.out 20).trans rfl
      have k21 : Y.cell? ⟨b7, 21, none⟩ = some (.string e.b) := (Blk.cell HBY.out 21).trans rfl
      have k22 : Y.cell? ⟨b7, 22, none⟩ = some (.string e.cc) := (Blk.cell HBY.out 22).trans rfl
      have k23 : Y.cell? ⟨b7, 23, none⟩ = some (.string e.d) := (Blk.cell HBY.out 23).trans rfl
      have d0 : Y.cell? ⟨p, 0, none⟩ = some (.int .i64 x.k) := (Blk.cell HEY.out 0).trans rfl
      have d1 : Y.cell? ⟨p, 1, none⟩ = some (.string x.a) := (Blk.cell HEY.out 1).trans rfl
      have d2 : Y.cell? ⟨p, 2, none⟩ = some (.string x.b) := (Blk.cell HEY.out 2).trans rfl
      have d3 : Y.cell? ⟨p, 3, none⟩ = some (.string x.c) := (Blk.cell HEY.out 3).trans rfl
      have d4 : Y.cell? ⟨p, 4, none⟩ = some (.string x.d) := (Blk.cell HEY.out 4).trans rfl
      simp only [Act.put]
      go_cut [30] (fun t wx => t = .bool (!(decide (elOf e = x) && (e.op == 1 || e.op == 3))) ∧ Y = wx)
      case first =>
        cases b1
        · go_wp2_with fail
          go_meet
          exact ⟨by rw [← HB1.out]; rfl, rfl⟩
        · by_cases h1 : e.op = 1
          · have n1 : (e.op == 1) = true := by rw [beq_iff_eq]; exact h1
            have n2 : (e.op != 1) = false := by rw [bne, n1]; rfl
            have H1 := Lib.hid n1
            clear h1
            go_wp2_with fail
            go_meet
            exact ⟨by rw [← HB1.out, H1.out]; rfl, rfl⟩
          · have n1 : (e.op == 1) = false := by rw [beq_eq_false_iff_ne]; exact h1
            have n2 : (e.op != 1) = true := by rw [bne, n1]; rfl
            by_cases h3 : e.op = 3
            · have n3 : (e.op == 3) = true := by rw [beq_iff_eq]; exact h3
              have n4 : (e.op != 3) = false := by rw [bne, n3]; rfl
              have H1 := Lib.hid n1
              have H3 := Lib.hid n3
              clear h1 h3
              go_wp2_with fail
              go_meet
              exact ⟨by rw [← HB1.out, H1.out, H3.out]; rfl, rfl⟩
            · have n3 : (e.op == 3) = false := by rw [beq_eq_false_iff_ne]; exact h3
              have n4 : (e.op != 3) = true := by rw [bne, n3]; rfl
              have H1 := Lib.hid n1
              have H3 := Lib.hid n3
              clear h1 h3
              go_wp2_with fail
              go_meet
              exact ⟨by rw [← HB1.out, H1.out, H3.out]; rfl, rfl⟩
      case rest =>
        obtain ⟨ht, hw⟩ := hcut
        subst ht hw
        clear k19 k20 k21 k22 k23 d0 d1 d2 d3 d4 e18 hqe
        obtain ⟨bs, hbs⟩ : ∃ bs, (decide (elOf e = x) && (e.op == 1 || e.op == 3)) = bs := ⟨_, rfl⟩
        rw [hbs]
        cases bs
        · have hlv : liveB l x e = false := by unfold liveB; rw [hbs]; rfl
          have HLv := Lib.hid hlv
          have hjm := HJ1.out
          have hw := HW1.out
          clear hlv hbs
          go_wp2
          go_roundw
          case rel => exact ⟨j + 1, by go_num, by omega, by rw [HNx.out, HLv.out, if_neg (by decide), List.append_nil]; exact HOY.out, HbY.out, HEY.out⟩
          case measure => simp [intOf] <;> omega
        · have HBs := Lib.hid hbs
          clear hbs
          go_wp2_with fail
          go_loopw [8, 33] (fun v8 v33 wr => ∃ i : Nat, v33 = .int .i64 i ∧ i ≤ N ∧ v8 = .bool ((l.take i).all fun g => !undoB x e g) ∧ Below Y.heap.size Y wr) (fun _ v33 _ => N - (intOf v33).toNat)
          case atStart => exact ⟨0, rfl, Nat.zero_le _, rfl, Below.refl _ _⟩
          case round =>
            obtain ⟨i, rfl, hi, rfl, hbi⟩ := hrel
            obtain ⟨wi, rfl⟩ : ∃ wi, wi = wr := ⟨_, rfl⟩
            have HBi := Lib.hid hbi
            by_cases hil : i < N
            · obtain ⟨f, hf⟩ : ∃ f, l[i]? = some f := ⟨l[i]'(by rw [HN.out]; exact hil), List.getElem?_eq_getElem _⟩
              obtain ⟨gt, ot, hA2, _, hcf⟩ := (HS.out.below (HbY.out.trans (hbi.mono HbY.out.size))).ev hf
              injection hA2 with hA2
              injection hA2 with e1 e2 _
              subst e1 e2
              have HCf := Lib.hid hcf
              have HAt2 := Lib.hid (at_Ev gs o c N i hil wi)
              have HUn := Lib.hid (undo_next (x := x) (e := e) hf)
              have HAl2 := Lib.hid fun c => World.setRow_alloc_new wi (evC ev0) c 39
              have HZ2 := Lib.hid (show Blk (wi.alloc (.cells (evC ev0) 39)) wi.heap.size 39 (evC ev0) from Blk.new _ _ _)
              obtain ⟨Z, hZ⟩ : ∃ Z, Z = wi.alloc (.cells (evC f) 39) := ⟨_, rfl⟩
              have hbZ : Below wi.heap.size wi Z := by rw [hZ]; exact (Below.refl _ _).alloc (Nat.le_refl _) _
              have HFZ := Lib.hid (show EB Z wi.heap.size f by rw [hZ]; exact Blk.new _ _ _)
              have HZf := Lib.hid hZ
              have HEZ := Lib.hid (EB.keep (EB.keep HBY.out hbi) hbZ)
              have HELZ := Lib.hid ((HEY.out.below hbi HEY.out.lt).below hbZ (HEY.out.below hbi HEY.out.lt).lt)
              have HbZ := Lib.hid (hbi.trans (hbZ.mono hbi.size))
              obtain ⟨n, hrn, hn, _, _⟩ := ok_dot HOe.out
              have HRn := Lib.hid hrn
              have HW2 := Lib.hid (IntWalk.i64_in ((i : Int) + 1) (by have := HN2.out; omega))
              have HJ2 := Lib.hid (show ¬ 9223372036854775807 < i + 1 by have := HN2.out; omega)
              clear hf hcf hZ hbZ hbi
              have hz := HZe.out
              go_upto_region 10 with (first
                | (refine wpList_val (o := ⟨some 35, _, _, _, _, _⟩) rfl (.pointer (some ⟨gs, o + i * 27, none⟩)) wi (run_indexAddr_op rfl rfl rfl HAt2.out) ?_)
                | (refine' wpList_load_midif ?q1 39 (.tmp 35) ?q2 gs (o + i * 27) ?q3 (encE f) _ ?q4 Try.underlying39 ?q5 ?q6 ?_; (case q2 => rfl); (case q1 => rfl); (case q3 => rfl); (case q4 => exact HCf.out); (case q5 => rfl); (case q6 => exact (sizeE f)))
                | (refine wpList_store_row (o := ⟨none, _, _, _, _, _⟩) rfl 39 (.tmp 10) (.tmp 36) rfl wi.heap.size (evC f) rfl rfl _ _ HZ2.out (sizeE f) rfl (by kernel_rfl) ?_; rw [HAl2.out, ← HZf.out])
                | fail)
              clear hz HZ2 HAl2 HZf HAt2 HCf
              obtain ⟨b10, hb10⟩ : ∃ b10, wi.heap.size = b10 := ⟨_, rfl⟩
              rw [hb10] at HFZ ⊢
              clear hb10
              simp only [Act.put]
              have m0 : Z.cell? ⟨b10, 0, none⟩ = some (.int .i64 f.r) := (Blk.cell HFZ.out 0).trans rfl
              have m1 : Z.cell? ⟨b10, 1, none⟩ = some (.int .i64 f.c) := (Blk.cell HFZ.out 1).trans rfl
              have m2 : Z.cell? ⟨b10, 2, none⟩ = some (.int .i64 (f.p 0)) := (Blk.cell HFZ.out 2).trans rfl
              have m3 : Z.cell? ⟨b10, 3, none⟩ = some (.int .i64 (f.p 1)) := (Blk.cell HFZ.out 3).trans rfl
              have m4 : Z.cell? ⟨b10, 4, none⟩ = some (.int .i64 (f.p 2)) := (Blk.cell HFZ.out 4).trans rfl
              have m5 : Z.cell? ⟨b10, 5, none⟩ = some (.int .i64 (f.p 3)) := (Blk.cell HFZ.out 5).trans rfl
              have m6 : Z.cell? ⟨b10, 6, none⟩ = some (.int .i64 (f.p 4)) := (Blk.cell HFZ.out 6).trans rfl
              have m7 : Z.cell? ⟨b10, 7, none⟩ = some (.int .i64 (f.p 5)) := (Blk.cell HFZ.out 7).trans rfl
              have m8 : Z.cell? ⟨b10, 8, none⟩ = some (.int .i64 (f.p 6)) := (Blk.cell HFZ.out 8).trans rfl
              have m9 : Z.cell? ⟨b10, 9, none⟩ = some (.int .i64 (f.p 7)) := (Blk.cell HFZ.out 9).trans rfl
              have m10 : Z.cell? ⟨b10, 10, none⟩ = some (.int .i64 (f.p 8)) := (Blk.cell HFZ.out 10).trans rfl
              have m11 : Z.cell? ⟨b10, 11, none⟩ = some (.int .i64 (f.p 9)) := (Blk.cell HFZ.out 11).trans rfl
              have m12 : Z.cell? ⟨b10, 12, none⟩ = some (.int .i64 (f.p 10)) := (Blk.cell HFZ.out 12).trans rfl
              have m13 : Z.cell? ⟨b10, 13, none⟩ = some (.int .i64 (f.p 11)) := (Blk.cell HFZ.out 13).trans rfl
              have m14 : Z.cell? ⟨b10, 14, none⟩ = some (.int .i64 (f.p 12)) := (Blk.cell HFZ.out 14).trans rfl
              have m15 : Z.cell? ⟨b10, 15, none⟩ = some (.int .i64 (f.p 13)) := (Blk.cell HFZ.out 15).trans rfl
              have m16 : Z.cell? ⟨b10, 16, none⟩ = some (.int .i64 (f.p 14)) := (Blk.cell HFZ.out 16).trans rfl
              have m17 : Z.cell? ⟨b10, 17, none⟩ = some (.int .i64 (f.p 15)) := (Blk.cell HFZ.out 17).trans rfl
              have m18 : Z.cell? ⟨b10, 18, none⟩ = some (.int .i64 f.op) := HFZ.out.opc
              have m19 : Z.cell? ⟨b10, 19, none⟩ = some (.int .i64 f.ek) := (Blk.cell HFZ.out 19).trans rfl
              have m20 : Z.cell? ⟨b10, 20, none⟩ = some (.string f.a) := (Blk.cell HFZ.out 20).trans rfl
              have m21 : Z.cell? ⟨b10, 21, none⟩ = some (.string f.b) := (Blk.cell HFZ.out 21).trans rfl
              have m22 : Z.cell? ⟨b10, 22, none⟩ = some (.string f.cc) := (Blk.cell HFZ.out 22).trans rfl
              have m23 : Z.cell? ⟨b10, 23, none⟩ = some (.string f.d) := (Blk.cell HFZ.out 23).trans rfl
              have r0 : Z.cell? ⟨b7, 0, none⟩ = some (.int .i64 n) := (Blk.cell HEZ.out 0).trans (by rw [show (evC e)[0]? = some (.int .i64 e.r) from rfl, hrn])
              have r1 : Z.cell? ⟨b7, 1, none⟩ = some (.int .i64 e.c) := (Blk.cell HEZ.out 1).trans rfl
              have d0 : Z.cell? ⟨p, 0, none⟩ = some (.int .i64 x.k) := (Blk.cell HELZ.out 0).trans rfl
              have d1 : Z.cell? ⟨p, 1, none⟩ = some (.string x.a) := (Blk.cell HELZ.out 1).trans rfl
              have d2 : Z.cell? ⟨p, 2, none⟩ = some (.string x.b) := (Blk.cell HELZ.out 2).trans rfl
              have d3 : Z.cell? ⟨p, 3, none⟩ = some (.string x.c) := (Blk.cell HELZ.out 3).trans rfl
              have d4 : Z.cell? ⟨p, 4, none⟩ = some (.string x.d) := (Blk.cell HELZ.out 4).trans rfl
              have hqe := fun w => eq_inE w (elOf f) x
              unfold eE elV elOf at hqe
              dsimp only at hqe
              obtain ⟨b1, hb1⟩ : ∃ b1, b1 = decide (elOf f = x) := ⟨_, rfl⟩
              have HB1 := Lib.hid hb1
              unfold elOf at hb1
              rw [← hb1] at hqe
              have hqd := fun w => eq_inD w (dtOf f) (dtOf e)
              unfold eD dv dtOf at hqd
              dsimp only at hqd
              obtain ⟨b2, hb2⟩ : ∃ b2, b2 = decide (dtOf f = dtOf e) := ⟨_, rfl⟩
              have HB2 := Lib.hid hb2
              unfold dtOf at hb2
              rw [← hb2] at hqd
              rw [hrn] at hqd
              have hun0 : undoB x e f = (b1 && (!(f.op == 1)) && (!b2) && decide (e.c ≤ f.p n)) := by unfold undoB; rw [← HB1.out, ← HB2.out, hrn, Int.toNat_natCast]
              have HU0 := Lib.hid hun0
              have hjm := HJ2.out
              have hw := HW2.out
              clear hb1 hb2 hrn hun0
              cases b1
              · have HUN := Lib.hid (show undoB x e f = false by rw [HU0.out]; rfl)
                go_wp2_with fail
                go_roundw
                case rel =>
                                    repeat apply Exists.intro (α := Value)
                                    refine And.intro ?rl ?fr
                                    case fr => repeat' (first | apply And.intro | rfl)
                                    case rl => exact ⟨i + 1, by go_num, by omega, by rw [HUn.out, HUN.out, Bool.not_false, Bool.and_true], HbZ.out⟩
                case measure => simp [intOf] <;> omega
              · by_cases h1 : f.op = 1
                · have n1 : (f.op == 1) = true := by rw [beq_iff_eq]; exact h1
                  have n2 : (f.op != 1) = false := by rw [bne, n1]; rfl
                  have HUN := Lib.hid (show undoB x e f = false by rw [HU0.out, n1]; rfl)
                  clear h1
                  go_wp2_with fail
                  go_roundw
                  case rel =>
                                    repeat apply Exists.intro (α := Value)
                                    refine And.intro ?rl ?fr
                                    case fr => repeat' (first | apply And.intro | rfl)
                                    case rl => exact ⟨i + 1, by go_num, by omega, by rw [HUn.out, HUN.out, Bool.not_false, Bool.and_true], HbZ.out⟩
                  case measure => simp [intOf] <;> omega
                · have n1 : (f.op == 1) = false := by rw [beq_eq_false_iff_ne]; exact h1
                  have n2 : (f.op != 1) = true := by rw [bne, n1]; rfl
                  have H1 := Lib.hid n1
                  clear h1
                  cases b2
                  · go_wp2_with fail
                    refine (rknows_any f.p n hn e.c _).mono ?_
                    rintro _ w5 ⟨rfl, hb5⟩
                    have HbZ := Lib.hid (HbZ.out.trans (hb5.mono HbZ.out.size))
                    cases hk : decide (e.c ≤ f.p n)
                    · have HUN := Lib.hid (show undoB x e f = false by rw [HU0.out, H1.out, hk]; rfl)
                      clear hk hb5
                      go_wp2_with fail
                      go_roundw
                      case rel =>
                                    repeat apply Exists.intro (α := Value)
                                    refine And.intro ?rl ?fr
                                    case fr => repeat' (first | apply And.intro | rfl)
                                    case rl => exact ⟨i + 1, by go_num, by omega, by rw [HUn.out, HUN.out, Bool.not_false, Bool.and_true], HbZ.out⟩
                      case measure => simp [intOf] <;> omega
                    · have HUN := Lib.hid (show undoB x e f = true by rw [HU0.out, H1.out, hk]; rfl)
                      clear hk hb5
                      go_wp2_with fail
                      go_roundw
                      case rel =>
                                    repeat apply Exists.intro (α := Value)
                                    refine And.intro ?rl ?fr
                                    case fr => repeat' (first | apply And.intro | rfl)
                                    case rl => exact ⟨i + 1, by go_num, by omega, by rw [HUn.out, HUN.out, Bool.not_true, Bool.and_false], HbZ.out⟩
                      case measure => simp [intOf] <;> omega
                  · have HUN := Lib.hid (show undoB x e f = false by rw [HU0.out, H1.out]; rfl)
                    go_wp2_with fail
                    go_roundw
                    case rel =>
                                    repeat apply Exists.intro (α := Value)
                                    refine And.intro ?rl ?fr
                                    case fr => repeat' (first | apply And.intro | rfl)
                                    case rl => exact ⟨i + 1, by go_num, by omega, by rw [HUn.out, HUN.out, Bool.not_false, Bool.and_true], HbZ.out⟩
                    case measure => simp [intOf] <;> omega
            · have hiN : i = N := by omega
              rw [hiN, List.take_of_length_le (Nat.le_of_eq HN.out)]
              have hlv : liveB l x e = l.all fun g => !undoB x e g := by unfold liveB; rw [HBs.out, Bool.true_and]
              rw [← hlv]
              have HEi := Lib.hid (EB.keep HBY.out hbi)
              have HOi := Lib.hid (HOY.out.keep hbi)
              have HELi := Lib.hid (HEY.out.below hbi HEY.out.lt)
              have HbI := Lib.hid (HbY.out.trans (hbi.mono HbY.out.size))
              cases hv : liveB l x e
              · have HLv := Lib.hid hv
                have hjm := HJ1.out
                have hw := HW1.out
                clear hlv hv hbi hiN hil hi
                go_wp2
                go_roundw
                case rel => exact ⟨j + 1, by go_num, by omega, by rw [HNx.out, HLv.out, if_neg (by decide), List.append_nil]; exact HOi.out, HbI.out, HELi.out⟩
                case measure => simp [intOf] <;> omega
              · have HLv := Lib.hid hv
                have hpw : p ≤ wi.heap.size := by have := HbI.out.size; have := HP.out; omega
                have hba : Below wi.heap.size wi (wi.alloc (.cells (evC e) 39)) := (Below.refl _ _).alloc (Nat.le_refl _) _
                have hsl : SlK encE 27 (wi.alloc (.cells (evC e) 39)) (.slice (some ⟨wi.heap.size, 0, none⟩) 1 1) [e] := ⟨_, _, rfl, Nat.le_refl _, fun _ => ⟨wi.heap.size, 0, rfl, by simp, fun q y hq => by
                  have hq0 : q = 0 := by have := (List.getElem?_eq_some_iff.1 hq).1; simp at this; exact this
                  subst hq0
                  have hy : y = e := by simpa using hq.symm
                  subst hy
                  intro i u hu
                  rw [Blk.cell (Blk.new wi _ _)]
                  simpa [encE] using hu⟩⟩
                obtain ⟨u', w3, hr3, ho3, hg3, _⟩ := append_ev p (wi.alloc (.cells (evC e) 39)) u5 _ (HOi.out.keep hba) _ [e] hsl (by have := HLl.out; simp; omega) (Nat.le_trans hpw hba.size)
                have HA := Lib.hid hr3
                have HO3 := Lib.hid ho3
                have hel3 := HELi.out.below hba HELi.out.lt
                have hne := own_ne_blk (HOi.out.keep hba) hel3 (by decide)
                have HEL3 := Lib.hid (show Blk w3 p 35 #[.int .i64 x.k, .string x.a, .string x.b, .string x.c, .string x.d] from (hg3.block p hel3.lt (fun h => hne h.symm)).trans hel3)
                have hb3 := ((HbI.out.trans (hba.mono HbI.out.size))).grown hg3 (Nat.le_trans HbI.out.size hba.size) (fun q hq => by rw [HP.out]; exact ((HOi.out.keep hba).lt q hq).1)
                have HB3 := Lib.hid hb3
                have hjm := HJ1.out
                have hw := HW1.out
                clear hlv hv hbi hiN hil hi hpw hba hsl hr3 ho3 hg3 hel3 hne hb3
                go_wp2_with (first
                  | (refine' wpList_load_if ?q1 39 (.tmp 7) ?q2 b7 ?q3 _ _ _ _ ?q4 Try.underlying39 ?q5 ?q6 ?_; (case q2 => rfl); (case q1 => rfl); (case q3 => rfl); (case q4 => exact HEi.out); (case q5 => rfl); (case q6 => exact (sizeE e)))
                  | (refine wpList_val (o := ⟨some 64, _, _, _, _, _⟩) rfl (.slice (some ⟨wi.heap.size, 0, none⟩) 1 1) (wi.alloc (.cells (evC e) 39)) (run_buildSlice_op (vs := #[(0, .agg (evC e))]) rfl (by simp only [List.map_toArray, List.map_cons, List.map_nil]; rfl) (bsEv e wi)) ?_)
                  | (at_builtin; refine Lib.wpList_append_run (o := ⟨some 65, _, _, _, _, _⟩) _ rfl _ _ _ _ rfl _ _ rfl rfl _ _ HA.out ?_)
                  | fail)
                go_roundw
                case rel => exact ⟨j + 1, by go_num, by omega, by rw [HNx.out, HLv.out, if_pos rfl]; exact HO3.out, HB3.out, HEL3.out⟩
                case measure => simp [intOf] <;> omega
    · have hjN : j = N := by omega
      rw [hjN, List.take_of_length_le (Nat.le_of_eq HN.out)] at ho
      rw [hjN]
      have HO := Lib.hid ho
      clear ho hel hbw
      go_wp2
      go_ret
      exact ⟨_, rfl, by rw [HP.out]; exact HO.out, HBw.out⟩

end Go.Proofs.Yteohlbmjbljlmaa

namespace Go.Proofs.Yteohlbmjbljlmaa
open Go.RowKit Go.MapKept Go.Sort Go.Lib

theorem at_VaS (g o c n k : Nat) (h : k < n) (w : World) : (Instr.indexAt 50 (.slice (some ⟨g, o, none⟩) n c) (.int .i64 (k : Nat))).run Try.prog w = .ok (.pointer (some ⟨g, o + k * 3, none⟩)) w := by
  have h2 : (k : Int) < n := by omega
  go_simp
theorem sub1_V (ia : Nat) (ha : ia < 4000000000000000000) (w : World) : (binOp .sub 3 (.int .i64 ((ia + 1 : Nat) : Int)) (.int .i64 1)).run Try.prog w = .ok (.int .i64 (ia : Nat)) w := by
  have h1 : IntKind.i64.wrap (ia : Int) = (ia : Int) := IntWalk.i64_in _ (by omega)
  simp [binOp, Op.intArith, h1, go_sem]
theorem eq_VaS {x y : Va} {q : Bool} (h : decide (x = y) = q) (w : World) : (binOp .eql 37 (eV x) (eV y)).run Try.prog w = .ok (.bool q) w := by
  subst h
  have := equal_V w x y
  unfold eV valV at *
  simp [binOp, this, go_sem]
theorem ne_VaS {x y : Va} {q : Bool} (h : (!decide (x = y)) = q) (w : World) : (binOp .neq 37 (eV x) (eV y)).run Try.prog w = .ok (.bool q) w := by
  subst h
  have := equal_V w x y
  unfold eV valV at *
  simp [binOp, this, go_sem]
instance : Inhabited Va := ⟨⟨0, 0, ⟨#[]⟩⟩⟩
theorem keeps_lt_one' (L : List Va) (h : L.length < 2) (j : Nat) (hj : j < L.length) : keeps L.toArray j = true := keeps_lt_one _ j (by omega)
theorem own_formV {R : Nat} {w : World} {v : Value} {l : List Va} (h : OwnK enW R 37 3 w v l) : ∃ A c, v = .slice A l.length c := by
  obtain ⟨A, c, rfl, _, _⟩ := h.read enW_len
  exact ⟨A, c, rfl⟩
theorem arr_getV {l : List Va} {j : Nat} (h : j < l.length) : l.toArray[j]! = l[j] := by
  rw [getElem!_pos l.toArray j (by simpa using h)]; simp
theorem own_at {R : Nat} {w : World} {g n cap : Nat} {l : List Va} (h : OwnK enW R 37 3 w (.slice (some ⟨g, 0, none⟩) n cap) l) {j : Nat} {x : Va} (hx : l[j]? = some x) : w.rangeAt g (0 + j * 3) (enW x) ∧ g < w.heap.size := by
  obtain ⟨A, c, hv, _, hc⟩ := h.read enW_len
  injection hv with e1 e2 e3
  obtain ⟨b, o, hA, hb, hr⟩ := hc (fun e => by rw [e] at hx; cases hx)
  rw [hA] at e1
  injection e1 with e1
  injection e1 with e1 e4
  subst e1 e4
  exact ⟨hr j x hx, hb⟩
theorem zeroVa : (Try.prog.info? 37).map (fun i => (i.zero, i.size)) = some (some (.agg #[.int .i64 0, .int .i64 0, .string ⟨#[]⟩]), 3) := by kernel_rfl

set_option maxRecDepth 100000 in
set_option maxHeartbeats 8000000 in
theorem compV_any (L : List Va) (R : Nat) (v : Value) (w : World) (ho : OwnK enW R 37 3 w v L) (hl : L.length ≤ 1000000) :
    Calls Try.prog 33 #[v] w fun x w' => ∃ u, x = .returned u ∧ OwnK enW R 37 3 w' u (Lib.compact L) ∧ Below R w w' := by
  obtain ⟨n, hn⟩ : ∃ n, L.length = n := ⟨_, rfl⟩
  by_cases h2 : L.length < 2
  · have HO := Lib.hid (show OwnK enW R 37 3 w v (Lib.compact L) by rw [compact_all L (fun j hj => keeps_lt_one' L h2 j hj)]; exact ho)
    obtain ⟨A, c, rfl⟩ := own_formV ho
    rw [hn] at HO h2 ⊢
    clear ho hl hn
    go_enter Try.func33, Try.ntmps33
    go_wp2
    go_ret
    exact ⟨_, rfl, HO.out, Below.refl _ _⟩
  · obtain ⟨g, cap, cur, rfl, hRg, _, hnc, _⟩ := ho.block (by rintro rfl; simp at h2)
    rw [hn] at ho hnc h2 ⊢
    have HO := Lib.hid ho
    have HL := Lib.hid (show n ≤ 1000000 by omega)
    have HN := Lib.hid hn
    have HRg := Lib.hid hRg
    have HNc := Lib.hid hnc
    have hds : L.toArray.size = n := by simpa using hn
    have HDs := Lib.hid hds
    clear ho hl hn hRg hnc hds
    go_enter Try.func33, Try.ntmps33
    go_wp2_with fail
    go_loopw [3] (fun v3 wr => ∃ ia : Nat, v3 = .int .i64 ((ia + 1 : Nat) : Int) ∧ ia + 1 ≤ n ∧ Below w.heap.size w wr ∧ ∀ j, j < ia + 1 → keeps L.toArray j = true) (fun v3 _ => n - (intOf v3).toNat)
    case atStart => exact ⟨0, rfl, by omega, Below.refl _ _, keeps_lt_one _⟩
    case round =>
      obtain ⟨ia, rfl, ha, hbw, hall⟩ := hrel
      obtain ⟨wo, rfl⟩ : ∃ wo, wo = wr := ⟨_, rfl⟩
      have HAl := Lib.hid hall
      have HBw := Lib.hid hbw
      clear hall
      by_cases hlt : ia + 1 < n
      · have hOw := HO.out.keep hbw
        obtain ⟨x, hx⟩ : ∃ x, L[ia + 1]? = some x := ⟨L[ia + 1]'(by rw [HN.out]; exact hlt), List.getElem?_eq_getElem _⟩
        obtain ⟨y, hy⟩ : ∃ y, L[ia]? = some y := ⟨L[ia]'(by rw [HN.out]; omega), List.getElem?_eq_getElem _⟩
        have hrx := own_at hOw hx
        have hry := own_at hOw hy
        have HGx := Lib.hid (show ∀ W : World, Below wo.heap.size wo W → W.rangeAt g (0 + (ia + 1) * 3) (enW x) from fun W hI => rangeAt_same hrx.1 (hI.block g hrx.2))
        have HGy := Lib.hid (show ∀ W : World, Below wo.heap.size wo W → W.rangeAt g (0 + ia * 3) (enW y) from fun W hI => rangeAt_same hry.1 (hI.block g hry.2))
        have hXY : L.toArray[ia + 1]! = x ∧ L.toArray[ia + 1 - 1]! = y := by
          obtain ⟨h1, rfl⟩ := List.getElem?_eq_some_iff.1 hx
          obtain ⟨h3, rfl⟩ := List.getElem?_eq_some_iff.1 hy
          exact ⟨arr_getV h1, arr_getV h3⟩
        have HXY := Lib.hid hXY
        obtain ⟨q, hq⟩ : ∃ q, decide (x = y) = q := ⟨_, rfl⟩
        have HQ := Lib.hid hq
        have HOw := Lib.hid hOw
        have hw := IntWalk.i64_in ((ia : Int) + 1 + 1) (by have := HL.out; omega)
        have HWi := Lib.hid hw
        clear hOw hx hy hrx hry hXY hq hbw hw
        go_upto_region 6 with fail
        refine wp_region_any (by kernel_rfl) ?_
        refine wpAny_below (fun i uq _ => uq = ([.slice (some ⟨g, 0, none⟩) n cap, .int .i64 ((ia + 1 : Nat) : Int), .pointer (some ⟨g, 0 + (ia + 1) * 3, none⟩), eV x, .slice (some ⟨g, 0, none⟩) n cap, .int .i64 ((ia + 1 : Nat) : Int), .int .i64 (ia : Nat), .pointer (some ⟨g, 0 + ia * 3, none⟩), eV y, .bool q] : List Value).getD i undef) _ wo (by kernel_rfl) (by kernel_rfl) (by kernel_rfl) (fun i v w w' _ h => h) ?_ ?_
        · refine ⟨?_, ?_, ?_, ?_, ?_, ?_, ?_, ?_, ?_, ?_, trivial⟩
          · intro a W hI hun haft hi
            have e0 : a.eval (.tmp 0) = .slice (some ⟨g, 0, none⟩) n cap := hun 0 (by kernel_rfl)
            exact b_same hi hI rfl _ (run_move_op rfl e0) rfl
          · intro a W hI hun haft hi
            have e3 : a.eval (.tmp 3) = .int .i64 ((ia + 1 : Nat) : Int) := hun 3 (by kernel_rfl)
            exact b_same hi hI rfl _ (run_move_op rfl e3) rfl
          · intro a W hI hun haft hi
            have f0 : a.eval (.tmp 16) = .slice (some ⟨g, 0, none⟩) n cap := haft ⟨0, .data⟩ (by simp) rfl _ _ rfl rfl
            have f1 : a.eval (.tmp 17) = .int .i64 ((ia + 1 : Nat) : Int) := haft ⟨1, .data⟩ (by simp) rfl _ _ rfl rfl
            exact b_same hi hI rfl _ (run_indexAddr_op rfl f0 f1 (at_VaS g 0 cap n (ia + 1) hlt W)) rfl
          · intro a W hI hun haft hi
            have f2 : a.eval (.tmp 18) = .pointer (some ⟨g, 0 + (ia + 1) * 3, none⟩) := haft ⟨2, .data⟩ (by simp) rfl _ _ rfl rfl
            exact b_same hi hI rfl _ (run_loadmid_op rfl f2 (HGx.out W hI) Try.underlying37 rfl (by kernel_rfl)) rfl
          · intro a W hI hun haft hi
            have e0 : a.eval (.tmp 0) = .slice (some ⟨g, 0, none⟩) n cap := hun 0 (by kernel_rfl)
            exact b_same hi hI rfl _ (run_move_op rfl e0) rfl
          · intro a W hI hun haft hi
            have e3 : a.eval (.tmp 3) = .int .i64 ((ia + 1 : Nat) : Int) := hun 3 (by kernel_rfl)
            exact b_same hi hI rfl _ (run_move_op rfl e3) rfl
          · intro a W hI hun haft hi
            have f5 : a.eval (.tmp 21) = .int .i64 ((ia + 1 : Nat) : Int) := haft ⟨5, .data⟩ (by simp) rfl _ _ rfl rfl
            exact b_same hi hI rfl (.int .i64 (ia : Nat)) (run_bin_op rfl f5 rfl (by kernel_rfl) (sub1_V ia (by have := HL.out; omega) W)) rfl
          · intro a W hI hun haft hi
            have f4 : a.eval (.tmp 20) = .slice (some ⟨g, 0, none⟩) n cap := haft ⟨4, .data⟩ (by simp) rfl _ _ rfl rfl
            have f6 : a.eval (.tmp 22) = .int .i64 (ia : Nat) := haft ⟨6, .data⟩ (by simp) rfl _ _ rfl rfl
            exact b_same hi hI rfl _ (run_indexAddr_op rfl f4 f6 (at_VaS g 0 cap n ia (by omega) W)) rfl
          · intro a W hI hun haft hi
            have f7 : a.eval (.tmp 23) = .pointer (some ⟨g, 0 + ia * 3, none⟩) := haft ⟨7, .data⟩ (by simp) rfl _ _ rfl rfl
            exact b_same hi hI rfl _ (run_loadmid_op rfl f7 (HGy.out W hI) Try.underlying37 rfl (by kernel_rfl)) rfl
          · intro a W hI hun haft hi
            have f3 : a.eval (.tmp 19) = eV x := haft ⟨3, .data⟩ (by simp) rfl _ _ rfl rfl
            have f8 : a.eval (.tmp 24) = eV y := haft ⟨8, .data⟩ (by simp) rfl _ _ rfl rfl
            exact b_same hi hI rfl (.bool q) (run_bin_op rfl f3 f8 (by kernel_rfl) (eq_VaS HQ.out W)) rfl
        · intro vals W hI hp
          have hl9 : vals 9 = .bool q := hp 9 (by decide)
          have HI := Lib.hid hI
          clear hp hI
          simp only [layN, List.size_toArray, List.length_cons, List.length_nil, List.range, List.range.loop, if_true, List.getElem?_toArray, List.getElem?_cons_zero, List.getElem?_cons_succ, Act.put, List.setIfInBounds_toArray, List.set_cons_zero, List.set_cons_succ, Nat.zero_add, Nat.reduceAdd, hl9]
          clear hl9
          have HBW := Lib.hid (HBw.out.trans (HI.out.mono HBw.out.size))
          obtain ⟨V6, rfl⟩ : ∃ V6, V6 = W := ⟨_, rfl⟩
          cases q
          · have HK := Lib.hid (show keeps L.toArray (ia + 1) = true from keeps_pos (by rw [HXY.out.1, HXY.out.2]; exact of_decide_eq_false HQ.out))
            have hw := HWi.out
            go_wp2
            go_roundw
            case rel => exact ⟨ia + 1, by go_num, by omega, HBW.out, fun j hj => by
              by_cases e : j = ia + 1
              · subst e; exact HK.out
              · exact HAl.out j (by omega)⟩
            case measure => simp [intOf] <;> omega
          · have HK := Lib.hid (show keeps L.toArray (ia + 1) = false from keeps_neg (by omega) (by rw [HXY.out.1, HXY.out.2]; exact of_decide_eq_true HQ.out))
            have HOv := Lib.hid (HOw.out.keep HI.out)
            have HSl := Lib.hid (show (Instr.sliceAt 50 (.slice (some ⟨g, 0, none⟩) n cap) (some (.int .i64 ((ia + 1 : Nat) : Int))) none none).run Try.prog V6 = .ok (.slice (some ⟨g, (ia + 1) * 3, none⟩) (n - (ia + 1)) (cap - (ia + 1))) V6 by
              have := run_sliceK_lo (P := Try.prog) (k := 3) V6 50 37 Try.underlying50 (by kernel_rfl) (some ⟨g, 0, none⟩) n cap (ia + 1) (by omega)
              rw [show slK (some ⟨g, 0, none⟩) cap (ia + 1) 3 = some ⟨g, (ia + 1) * 3, none⟩ by unfold slK; rw [if_neg (by have := HNc.out; omega)]; simp [Addr.add_lit]] at this
              exact this)
            have hst := CompInv.start (d := L.toArray) (k0 := ia + 1) HAl.out HK.out
            have hB0 := HBW.out.mono (show R ≤ w.heap.size by have := HRg.out; have := (own_at HO.out (j := 0) (x := L[0]'(by have := HN.out; omega)) (List.getElem?_eq_getElem _)).2; omega)
            have HSt := Lib.hid hst
            have HB0 := Lib.hid hB0
            clear hst hB0
            go_wp2_with (first
              | (refine wpList_val (o := ⟨some 28, _, _, _, _, _⟩) rfl (.slice (some ⟨g, (ia + 1) * 3, none⟩) (n - (ia + 1)) (cap - (ia + 1))) V6 (run_sllo_op rfl rfl rfl HSl.out) ?_)
              | fail)
            go_loopw [3, 5] (fun v3 v5 wr => ∃ (kk ib : Nat) (M : List Va), v3 = .int .i64 kk ∧ v5 = .int .i64 ((ib + 1 : Nat) : Int) ∧ ia + 1 + (ib + 1) ≤ n ∧ OwnK enW R 37 3 wr (.slice (some ⟨g, 0, none⟩) n cap) M ∧ CompInv L.toArray (ia + 1 + (ib + 1)) kk M.toArray ∧ Below R w wr) (fun _ v5 _ => n - (ia + 1) - (intOf v5).toNat)
            case atStart => exact ⟨ia + 1, 0, L, by first | rfl | go_num, by first | rfl | go_num, by omega, HOv.out, HSt.out, HB0.out⟩
            case round =>
              obtain ⟨kk, ib, M, rfl, rfl, hib, hOm, hI2, hbm⟩ := hrel
              obtain ⟨wm, rfl⟩ : ∃ wm, wm = wr := ⟨_, rfl⟩
              have hMn : M.length = n := by have := hI2.size; have := HDs.out; simp at *; omega
              have HMn := Lib.hid hMn
              have hkk := hI2.lt
              have HKk := Lib.hid hkk
              have HIv := Lib.hid hI2
              have HOm := Lib.hid hOm
              have HBm := Lib.hid hbm
              by_cases hlt2 : ib + 1 < n - (ia + 1)
              · obtain ⟨x2, hx2⟩ : ∃ x2, M[ia + 1 + (ib + 1)]? = some x2 := ⟨M[ia + 1 + (ib + 1)]'(by omega), List.getElem?_eq_getElem _⟩
                obtain ⟨y2, hy2⟩ : ∃ y2, M[ia + 1 + ib]? = some y2 := ⟨M[ia + 1 + ib]'(by omega), List.getElem?_eq_getElem _⟩
                have hrx := own_at hOm hx2
                have hry := own_at hOm hy2
                have HGx := Lib.hid (show ∀ W : World, Below wm.heap.size wm W → W.rangeAt g ((ia + 1) * 3 + (ib + 1) * 3) (enW x2) from fun W hI => by
                  rw [show (ia + 1) * 3 + (ib + 1) * 3 = 0 + (ia + 1 + (ib + 1)) * 3 from by omega]; exact rangeAt_same hrx.1 (hI.block g hrx.2))
                have HGy := Lib.hid (show ∀ W : World, Below wm.heap.size wm W → W.rangeAt g ((ia + 1) * 3 + ib * 3) (enW y2) from fun W hI => by
                  rw [show (ia + 1) * 3 + ib * 3 = 0 + (ia + 1 + ib) * 3 from by omega]; exact rangeAt_same hry.1 (hI.block g hry.2))
                have hXY2 : L.toArray[ia + 1 + (ib + 1)]! = x2 ∧ L.toArray[ia + 1 + (ib + 1) - 1]! = y2 := by
                  obtain ⟨h1, rfl⟩ := List.getElem?_eq_some_iff.1 hx2
                  obtain ⟨h3, rfl⟩ := List.getElem?_eq_some_iff.1 hy2
                  rw [← hI2.high _ (by omega), ← hI2.high _ (by omega)]
                  exact ⟨arr_getV h1, arr_getV h3⟩
                have HXY2 := Lib.hid hXY2
                obtain ⟨q2, hq2⟩ : ∃ q2, (!decide (x2 = y2)) = q2 := ⟨_, rfl⟩
                have HQ2 := Lib.hid hq2
                have hw := IntWalk.i64_in ((ib : Int) + 1 + 1) (by have := HL.out; omega)
                have HWi2 := Lib.hid hw
                have hw2 := IntWalk.i64_in ((kk : Int) + 1) (by have := HL.out; omega)
                have HWk := Lib.hid hw2
                clear hOm hx2 hy2 hrx hry hXY2 hq2 hbm hw hw2 hI2 hkk hMn
                go_upto_region 11 with fail
                refine wp_region_any (by kernel_rfl) ?_
                refine wpAny_below (fun i uq _ => uq = ([.slice (some ⟨g, (ia + 1) * 3, none⟩) (n - (ia + 1)) (cap - (ia + 1)), .int .i64 ((ib + 1 : Nat) : Int), .pointer (some ⟨g, (ia + 1) * 3 + (ib + 1) * 3, none⟩), eV x2, .slice (some ⟨g, (ia + 1) * 3, none⟩) (n - (ia + 1)) (cap - (ia + 1)), .int .i64 ((ib + 1 : Nat) : Int), .int .i64 (ib : Nat), .pointer (some ⟨g, (ia + 1) * 3 + ib * 3, none⟩), eV y2, .bool q2] : List Value).getD i undef) _ wm (by kernel_rfl) (by kernel_rfl) (by kernel_rfl) (fun i v w w' _ h => h) ?_ ?_
                · refine ⟨?_, ?_, ?_, ?_, ?_, ?_, ?_, ?_, ?_, ?_, trivial⟩
                  · intro a W hI hun haft hi
                    have e4 : a.eval (.tmp 4) = .slice (some ⟨g, (ia + 1) * 3, none⟩) (n - (ia + 1)) (cap - (ia + 1)) := hun 4 (by kernel_rfl)
                    exact b_same hi hI rfl _ (run_move_op rfl e4) rfl
                  · intro a W hI hun haft hi
                    have e5 : a.eval (.tmp 5) = .int .i64 ((ib + 1 : Nat) : Int) := hun 5 (by kernel_rfl)
                    exact b_same hi hI rfl _ (run_move_op rfl e5) rfl
                  · intro a W hI hun haft hi
                    have f0 : a.eval (.tmp 35) = .slice (some ⟨g, (ia + 1) * 3, none⟩) (n - (ia + 1)) (cap - (ia + 1)) := haft ⟨0, .data⟩ (by simp) rfl _ _ rfl rfl
                    have f1 : a.eval (.tmp 36) = .int .i64 ((ib + 1 : Nat) : Int) := haft ⟨1, .data⟩ (by simp) rfl _ _ rfl rfl
                    exact b_same hi hI rfl _ (run_indexAddr_op rfl f0 f1 (at_VaS g _ _ _ (ib + 1) hlt2 W)) rfl
                  · intro a W hI hun haft hi
                    have f2 : a.eval (.tmp 37) = .pointer (some ⟨g, (ia + 1) * 3 + (ib + 1) * 3, none⟩) := haft ⟨2, .data⟩ (by simp) rfl _ _ rfl rfl
                    exact b_same hi hI rfl _ (run_loadmid_op rfl f2 (HGx.out W hI) Try.underlying37 rfl (by kernel_rfl)) rfl
                  · intro a W hI hun haft hi
                    have e4 : a.eval (.tmp 4) = .slice (some ⟨g, (ia + 1) * 3, none⟩) (n - (ia + 1)) (cap - (ia + 1)) := hun 4 (by kernel_rfl)
                    exact b_same hi hI rfl _ (run_move_op rfl e4) rfl
                  · intro a W hI hun haft hi
                    have e5 : a.eval (.tmp 5) = .int .i64 ((ib + 1 : Nat) : Int) := hun 5 (by kernel_rfl)
                    exact b_same hi hI rfl _ (run_move_op rfl e5) rfl
                  · intro a W hI hun haft hi
                    have f5 : a.eval (.tmp 40) = .int .i64 ((ib + 1 : Nat) : Int) := haft ⟨5, .data⟩ (by simp) rfl _ _ rfl rfl
                    exact b_same hi hI rfl (.int .i64 (ib : Nat)) (run_bin_op rfl f5 rfl (by kernel_rfl) (sub1_V ib (by have := HL.out; omega) W)) rfl
                  · intro a W hI hun haft hi
                    have f4 : a.eval (.tmp 39) = .slice (some ⟨g, (ia + 1) * 3, none⟩) (n - (ia + 1)) (cap - (ia + 1)) := haft ⟨4, .data⟩ (by simp) rfl _ _ rfl rfl
                    have f6 : a.eval (.tmp 41) = .int .i64 (ib : Nat) := haft ⟨6, .data⟩ (by simp) rfl _ _ rfl rfl
                    exact b_same hi hI rfl _ (run_indexAddr_op rfl f4 f6 (at_VaS g _ _ _ ib (by omega) W)) rfl
                  · intro a W hI hun haft hi
                    have f7 : a.eval (.tmp 42) = .pointer (some ⟨g, (ia + 1) * 3 + ib * 3, none⟩) := haft ⟨7, .data⟩ (by simp) rfl _ _ rfl rfl
                    exact b_same hi hI rfl _ (run_loadmid_op rfl f7 (HGy.out W hI) Try.underlying37 rfl (by kernel_rfl)) rfl
                  · intro a W hI hun haft hi
                    have f3 : a.eval (.tmp 38) = eV x2 := haft ⟨3, .data⟩ (by simp) rfl _ _ rfl rfl
                    have f8 : a.eval (.tmp 43) = eV y2 := haft ⟨8, .data⟩ (by simp) rfl _ _ rfl rfl
                    exact b_same hi hI rfl (.bool q2) (run_bin_op rfl f3 f8 (by kernel_rfl) (ne_VaS HQ2.out W)) rfl
                · intro vals W hI hp
                  have hl9 : vals 9 = .bool q2 := hp 9 (by decide)
                  have HI := Lib.hid hI
                  clear hp hI
                  simp only [layN, List.size_toArray, List.length_cons, List.length_nil, List.range, List.range.loop, if_true, List.getElem?_toArray, List.getElem?_cons_zero, List.getElem?_cons_succ, Act.put, List.setIfInBounds_toArray, List.set_cons_zero, List.set_cons_succ, Nat.zero_add, Nat.reduceAdd, hl9]
                  clear hl9
                  have HOv2 := Lib.hid (HOm.out.keep HI.out)
                  have HBv2 := Lib.hid (HBm.out.trans (HI.out.mono (by have := HBm.out.size; have := HB0.out.size; have h := (own_at HO.out (j := 0) (x := L[0]'(by have := HN.out; omega)) (List.getElem?_eq_getElem _)).2; have := HRg.out; omega)))
                  obtain ⟨V11, rfl⟩ : ∃ V11, V11 = W := ⟨_, rfl⟩
                  cases q2
                  · have HK2 := Lib.hid (show keeps L.toArray (ia + 1 + (ib + 1)) = false from keeps_neg (by omega) (by
                      rw [HXY2.out.1, HXY2.out.2]; have := HQ2.out; simpa using this))
                    have hw := HWi2.out
                    go_wp2
                    go_roundw
                    case rel => exact ⟨kk, ib + 1, M, rfl, by go_num, by omega, HOv2.out, HIv.out.skip HK2.out, HBv2.out⟩
                    case measure => simp [intOf] <;> omega
                  · have HK2 := Lib.hid (show keeps L.toArray (ia + 1 + (ib + 1)) = true from keeps_pos (by
                      rw [HXY2.out.1, HXY2.out.2]; have := HQ2.out; simpa using this))
                    have HA1 := Lib.hid (at_VaS g ((ia + 1) * 3) (cap - (ia + 1)) (n - (ia + 1)) (ib + 1) hlt2 V11)
                    have HA2 := Lib.hid (show (Instr.indexAt 50 (.slice (some ⟨g, 0, none⟩) n cap) (.int .i64 (kk : Nat))).run Try.prog V11 = .ok (.pointer (some ⟨g, kk * 3, none⟩)) V11 by
                      have := at_VaS g 0 cap n kk (by have := HKk.out; omega) V11
                      rwa [Nat.zero_add] at this)
                    have HG11 := Lib.hid (HGx.out V11 HI.out)
                    have HT11 := Lib.hid (HOv2.out.there_ (kk * 3) 3 (by have := HKk.out; omega))
                    have HOt := Lib.hid (HOv2.out.turn enW_len (j := kk) (by have := HKk.out; omega) x2)
                    have HBt := Lib.hid (HBv2.out.trans (setCells_below V11 g (kk * 3) (enW x2) HRg.out))
                    have hci := HIv.out.keep (by have := HDs.out; omega) HK2.out
                    rw [HXY2.out.1] at hci
                    have HCi := Lib.hid (show CompInv L.toArray (ia + 1 + (ib + 1) + 1) (kk + 1) (M.set kk x2).toArray by simpa using hci)
                    clear hci
                    have hw := HWi2.out
                    have hw2 := HWk.out
                    go_wp2_with (first
                      | (refine wpList_val (o := ⟨some 49, _, _, _, _, _⟩) rfl (.pointer (some ⟨g, (ia + 1) * 3 + (ib + 1) * 3, none⟩)) V11 (run_indexAddr_op rfl rfl rfl HA1.out) ?_)
                      | (refine wpList_load_midif rfl 37 (.tmp 49) rfl g ((ia + 1) * 3 + (ib + 1) * 3) rfl (enW x2) _ HG11.out Try.underlying37 rfl (by kernel_rfl) ?_)
                      | (refine wpList_val (o := ⟨some 51, _, _, _, _, _⟩) rfl (.pointer (some ⟨g, kk * 3, none⟩)) V11 (run_indexAddr_op rfl rfl rfl HA2.out) ?_)
                      | (refine wpList_store_mid rfl 37 (.tmp 51) (.tmp 50) rfl g (kk * 3) (enW x2).toArray rfl rfl HT11.out (by kernel_rfl) (by simp [enW, Value.oneCell']) ?_)
                      | fail)
                    go_roundw
                    case rel => exact ⟨kk + 1, ib + 1, M.set kk x2, by go_num, by go_num, by omega, HOt.out, HCi.out, HBt.out⟩
                    case measure => simp [intOf] <;> omega
              · have hend : ia + 1 + (ib + 1) = n := by omega
                have hkn : kk < n := by omega
                have hci := HIv.out
                rw [hend] at hci
                obtain ⟨Z, hZ⟩ : ∃ Z, Z = (Builtin.zeroCells (Value.agg #[.int .i64 0, .int .i64 0, .string ⟨#[]⟩]).cells (n - kk)).toList := ⟨_, rfl⟩
                have hcl : ∀ ty, (Builtin.clear_ #[50] ty #[.slice (some ⟨g, kk * 3, none⟩) (n - kk) (cap - kk)]).run Try.prog wm = .ok (.tuple #[]) (wm.setCells g (kk * 3) Z) := fun ty => by
                  rw [hZ]
                  exact run_clear_K (P := Try.prog) wm 50 37 ty _ Try.underlying50 (zero_of_info zeroVa).1 (by intro v hv; simp [Value.cells] at hv; rcases hv with rfl | rfl | rfl <;> rfl) g (kk * 3) (n - kk) (cap - kk) (by omega) (HOm.out.there_ (kk * 3) _ (by show kk * 3 + (n - kk) * 3 ≤ n * 3; omega))
                have HS56 := Lib.hid (show (Instr.sliceAt 50 (.slice (some ⟨g, 0, none⟩) n cap) (some (.int .i64 (kk : Nat))) none none).run Try.prog wm = .ok (.slice (some ⟨g, kk * 3, none⟩) (n - kk) (cap - kk)) wm by
                  have := run_sliceK_lo (P := Try.prog) (k := 3) wm 50 37 Try.underlying50 (by kernel_rfl) (some ⟨g, 0, none⟩) n cap kk (by omega)
                  rw [show slK (some ⟨g, 0, none⟩) cap kk 3 = some ⟨g, kk * 3, none⟩ by unfold slK; rw [if_neg (by have := HNc.out; omega)]; simp [Addr.add_lit]] at this
                  exact this)
                have HS59 := Lib.hid (show ∀ W : World, (Instr.sliceAt 50 (.slice (some ⟨g, 0, none⟩) n cap) none (some (.int .i64 (kk : Nat))) none).run Try.prog W = .ok (.slice (some ⟨g, 0, none⟩) kk cap) W from fun W => by
                  have := run_sliceK_hi (P := Try.prog) (k := 3) W 50 37 Try.underlying50 (by kernel_rfl) (some ⟨g, 0, none⟩) n cap kk (by have := HNc.out; omega)
                  rw [show slK (some ⟨g, 0, none⟩) cap 0 3 = some ⟨g, 0, none⟩ by unfold slK; rw [if_neg (by have := HNc.out; omega)]; simp [Addr.add_lit]] at this
                  exact this)
                have htk : M.take kk = Lib.compact L := by
                  have hcl2 : (Lib.compact L).length = kk := by unfold Lib.compact; rw [HN.out]; exact hci.len
                  apply List.ext_getElem?
                  intro j
                  by_cases hj : j < kk
                  · have h1 := hci.low j hj
                    unfold Lib.compact
                    rw [HN.out, h1, List.getElem?_take, if_pos hj, arr_getV (by omega), List.getElem?_eq_getElem (by omega)]
                  · rw [List.getElem?_take, if_neg hj, List.getElem?_eq_none (by omega)]
                have HOc := Lib.hid (show OwnK enW R 37 3 (wm.setCells g (kk * 3) Z) (.slice (some ⟨g, 0, none⟩) kk cap) (Lib.compact L) by
                  rw [← htk]; exact HOm.out.cut enW_len kk (by omega) (kk * 3) Z (Nat.le_refl _))
                have HBc := Lib.hid (HBm.out.trans (setCells_below wm g (kk * 3) Z HRg.out))
                clear hci hZ htk hkk hMn hI2 hOm hbm
                go_wp2_with (first
                  | (refine wpList_val (o := ⟨some 56, _, _, _, _, _⟩) rfl (.slice (some ⟨g, kk * 3, none⟩) (n - kk) (cap - kk)) wm (run_sllo_op rfl rfl rfl HS56.out) ?_)
                  | (refine wpList_val (o := ⟨some 59, _, _, _, _, _⟩) rfl (.slice (some ⟨g, 0, none⟩) kk cap) (wm.setCells g (kk * 3) Z) (run_slhi_op rfl rfl rfl (HS59.out _)) ?_)
                  | fail)
                go_ret
                exact ⟨_, rfl, HOc.out, HBc.out⟩
      · have hak : n = ia + 1 := by omega
        have HO2 := Lib.hid (show OwnK enW R 37 3 wo (.slice (some ⟨g, 0, none⟩) n cap) (Lib.compact L) by rw [compact_all L (fun j hj => HAl.out j (by have := HN.out; omega))]; exact HO.out.keep hbw)
        have HB2 := Lib.hid (show Below R w wo from hbw.mono (by have := HRg.out; have := (own_at HO.out (j := 0) (x := L[0]'(by have := HN.out; omega)) (List.getElem?_eq_getElem _)).2; omega))
        clear hbw
        go_wp2
        go_ret
        exact ⟨_, rfl, HO2.out, HB2.out⟩

end Go.Proofs.Yteohlbmjbljlmaa

namespace Go.Proofs.Yteohlbmjbljlmaa
open Go.RowKit Go.MapKept Go.Sort

theorem HeldIs.hd {w : World} {F : Nat → Prop} {m : Option Nat} {l : List (Dt × Va)} (h : HeldIs w F m l) : HdIs w m l := by
  rcases h with h | ⟨n, h1, _, h3⟩
  · exact .inl h
  · exact .inr ⟨n, h1, h3⟩
theorem HdIs.keep {w w' : World} {m : Option Nat} {l : List (Dt × Va)} (h : HdIs w m l) (hb : Below w.heap.size w w') : HdIs w' m l := by
  rcases h with h | ⟨n, h1, h3⟩
  · exact .inl h
  · exact .inr ⟨n, h1, h3.same (hb.block n h3.lt)⟩

set_option maxRecDepth 100000 in
set_option maxHeartbeats 2000000 in
theorem values_any (x : El) (sb : Nat) (F : Nat → Prop) (σ : List (El × List (Dt × Va))) (w : World) (hS : StoreIs w sb F σ) (hl : (entS x σ).length ≤ 1000000) : Calls Try.prog 13 #[.pointer (some ⟨sb, 0, none⟩), eE x] w fun e w' => ∃ (u : Value) (ss : List Va), e = .returned u ∧ ss.Perm (valsL (entS x σ)) ∧ (ss.Pairwise fun a b => ltOf cfV b a = false) ∧ OwnK enW w.heap.size 37 3 w' u (Lib.compact ss) ∧ Below w.heap.size w w' := by
  have HL := Lib.hid hl
  obtain ⟨p, hp⟩ : ∃ p, w.heap.size = p := ⟨_, rfl⟩
  obtain ⟨X, hX⟩ : ∃ X, X = w.alloc (.cells #[.int .i64 x.k, .string x.a, .string x.b, .string x.c, .string x.d] 35) := ⟨_, rfl⟩
  have hY : Below w.heap.size w X := by rw [hX]; exact (Below.refl _ _).alloc (Nat.le_refl _) _
  have HE := Lib.hid (show Blk X p 35 #[.int .i64 x.k, .string x.a, .string x.b, .string x.c, .string x.d] by rw [hX, ← hp]; exact Blk.new w _ _)
  have HS := Lib.hid (hS.below hY)
  have HY := Lib.hid hY
  have HX := Lib.hid hX
  have HP := Lib.hid hp
  clear hl hS hY hX
  unfold eE elV
  go_enter Try.func13, Try.ntmps13
  go_upto_region 1 with fail
  rw [← HX.out]
  first | rw [hp] | skip
  clear hp
  go_wp2_with (first
    | (refine wpList_load_if rfl 35 (.tmp 3) rfl p rfl _ _ _ _ HE.out Try.underlying35 rfl (by kernel_rfl) ?_)
    | fail)
  refine (of_any x sb F σ X HS.out).mono ?_
  rintro e w1 ⟨m, rfl, hm, hb1⟩
  have HM := Lib.hid hm.hd
  have HB1 := Lib.hid (HY.out.trans (hb1.mono HY.out.size))
  clear hm hb1
  go_wp2_with fail
  refine (vals_any m w1).mono ?_
  rintro e w2 ⟨rfl, hw2⟩
  have hb2 : Below w1.heap.size w1 w2 := by rw [hw2]; exact (Below.refl _ _).alloc (Nat.le_refl _) _
  have HM2 := Lib.hid (HM.out.keep hb2)
  have HC2 := Lib.hid (show w2.cell? ⟨w1.heap.size, 0, none⟩ = some (.map m) by rw [hw2]; exact (Blk.cell (Blk.new w1 80 #[.map m]) 0).trans rfl)
  have HB2 := Lib.hid (HB1.out.trans (hb2.mono HB1.out.size))
  have HL2 := Lib.hid (show w1.heap.size < w2.heap.size by rw [hw2]; simp)
  clear hw2 hb2
  go_wp2_with fail
  refine (sortedV_any w1.heap.size m (entS x σ) w2 HL2.out HC2.out HM2.out HL.out).mono ?_
  rintro e w3 ⟨v3, ss, rfl, hpm, hpw, ho3, hb3⟩
  have HPm := Lib.hid hpm
  have HPw := Lib.hid hpw
  have HO3 := Lib.hid ho3
  have HB3 := Lib.hid (HB2.out.trans (hb3.mono HB2.out.size))
  have HLs := Lib.hid (show ss.length ≤ 1000000 by rw [hpm.length_eq]; simpa [valsL] using HL.out)
  clear hpm hpw ho3 hb3
  go_wp2_with fail
  refine (compV_any ss w2.heap.size v3 w3 HO3.out HLs.out).mono ?_
  rintro e w4 ⟨u, rfl, ho4, hb4⟩
  have HO4 := Lib.hid (ho4.base_ HB2.out.size)
  have HB4 := Lib.hid (HB3.out.trans (hb4.mono HB2.out.size))
  clear ho4 hb4
  go_wp2
  go_ret
  exact ⟨_, ss, rfl, HPm.out, HPw.out, HO4.out, HB4.out⟩

/-! ### What its answer is -/
theorem cfV_zero {x y : Va} (h : cfV x y = 0) : x = y := by
  obtain ⟨h1, h2, h3⟩ := (cmp_zero _ _ _ _ _ _).1 h
  obtain ⟨k, n, ⟨⟨t⟩⟩⟩ := x
  obtain ⟨k', n', ⟨⟨t'⟩⟩⟩ := y
  simp at h1 h2 h3
  subst h1 h2 h3
  rfl
theorem cmp_in {l : List Va} (h : l.Pairwise fun a b => ltOf cfV b a = false) {i j : Nat} (hij : i ≤ j) (hj : j < l.length) : cfV (l.toArray[i]!) (l.toArray[j]!) ≤ 0 := by
  rw [arr_getV (by omega), arr_getV hj]
  rcases Nat.lt_or_ge i j with h1 | h1
  · have h2 := List.pairwise_iff_getElem.1 h i j (by omega) hj h1
    have h3 := cfV_ok.anti l[j] l[i]
    have h4 : ¬ cfV l[j] l[i] < 0 := by simpa [ltOf] using h2
    omega
  · have e : i = j := by omega
    subst e
    have := cfV_ok.anti l[i] l[i]
    omega
/-- A row in order, each once: it rises. -/
theorem compact_rise {l : List Va} (h : l.Pairwise fun a b => ltOf cfV b a = false) : (Lib.compact l).Pairwise fun a b => cfV a b < 0 := by
  unfold Lib.compact Lib.compactUpTo
  rw [List.pairwise_map]
  refine ((List.pairwise_lt_range (n := l.length)).filter _).imp_of_mem ?_
  intro i j hi hj hij
  have hj2 := List.mem_filter.1 hj
  have hjn : j < l.length := by simpa using hj2.1
  have hk : l.toArray[j]! ≠ l.toArray[j - 1]! := by
    have := hj2.2
    simp only [Lib.keeps, decide_eq_true_eq] at this
    rcases this with h0 | h0
    · omega
    · exact h0
  have h1 := cmp_in h (show i ≤ j - 1 by omega) (by omega)
  have h2 := cmp_in h (show j - 1 ≤ j by omega) hjn
  have h3 := cfV_ok.trans _ _ _ h1 h2
  rcases Int.lt_or_eq_of_le h3 with h4 | h4
  · exact h4
  · exact absurd (cfV_zero (cfV_ok.zero h1 h2 h4).2) (fun e => hk e.symm)
theorem compact_mem {l : List Va} {v : Va} : v ∈ Lib.compact l ↔ v ∈ l := by
  unfold Lib.compact Lib.compactUpTo
  constructor
  · intro h
    obtain ⟨j, hj, rfl⟩ := List.mem_map.1 h
    have hjn : j < l.length := by simpa using (List.mem_filter.1 hj).1
    rw [arr_getV hjn]
    exact List.getElem_mem _
  · intro h
    obtain ⟨j, hj, rfl⟩ := List.getElem_of_mem h
    have key : ∀ j, j < l.length → l.toArray[j]! ∈ ((List.range l.length).filter (Lib.keeps l.toArray)).map (l.toArray[·]!) := by
      intro j
      induction j with
      | zero => exact fun hj => List.mem_map.2 ⟨0, List.mem_filter.2 ⟨by simpa using hj, by simp [Lib.keeps]⟩, rfl⟩
      | succ j ih =>
        intro hj
        by_cases e : l.toArray[j + 1]! = l.toArray[j]!
        · rw [e]; exact ih (by omega)
        · exact List.mem_map.2 ⟨j + 1, List.mem_filter.2 ⟨by simpa using hj, Lib.keeps_pos e⟩, rfl⟩
    have := key j hj
    rwa [arr_getV hj] at this

end Go.Proofs.Yteohlbmjbljlmaa

namespace Go.Proofs.Yteohlbmjbljlmaa
open Go.RowKit Go.MapKept Go.Sort

theorem live_iff {L : List Ev} (hL : ∀ e ∈ L, okB e = true) {x : El} {e : Ev} (he : e ∈ L) : liveB L x e = true ↔ liveP L x e := by
  obtain ⟨n, hn, h16, h1, h2⟩ := ok_dot (hL e he)
  have hd : dotB e.r e.c = true := (dotB_iff _ _).2 ⟨n, hn, h16, h1, h2⟩
  unfold liveB liveP
  simp only [Bool.and_eq_true, decide_eq_true_eq, Bool.or_eq_true, beq_iff_eq, List.all_eq_true]
  constructor
  · rintro ⟨⟨a, b⟩, c⟩
    refine ⟨a, b, fun f hf h1 h2 h3 => ?_⟩
    have := c f hf
    simp [undoB, h1, h2, h3] at this
    unfold knD knowsB dtOf
    simp only [hd, Bool.true_and]
    exact decide_eq_false (by omega)
  · rintro ⟨a, b, c⟩
    refine ⟨⟨a, b⟩, fun f hf => ?_⟩
    by_cases h1 : elOf f = x
    · by_cases h2 : f.op = 1
      · simp [undoB, h2]
      · by_cases h3 : dtOf f = dtOf e
        · simp [undoB, h3]
        · have := c f hf h1 h2 h3
          unfold knD knowsB dtOf at this
          simp only [hd, Bool.true_and] at this
          have h4 := of_decide_eq_false this
          simp [undoB, h4]
    · simp [undoB, h1]
/-- What a store of a row has as an element's values. -/
theorem vals_live {row : List Ev} (hc : CausL row) (hl : ∀ e ∈ row, Lens e) {x : El} {ss : List Va} (hp : ss.Perm (valsL (entS x (runS row)))) {v : Va} : v ∈ Lib.compact ss ↔ ∃ e ∈ liveL row x, vaOf e = v := by
  rw [compact_mem, hp.mem_iff]
  have hok : ∀ e ∈ row, okB e = true := fun e he => (hc.1 e he).1
  unfold valsL liveL
  simp only [List.mem_map, List.mem_filter]
  constructor
  · rintro ⟨q, hq, rfl⟩
    obtain ⟨e, he, h1, rfl⟩ := (ent_live _ row rfl hc hl x q).1 hq
    exact ⟨e, ⟨he, (live_iff hok he).2 h1⟩, rfl⟩
  · rintro ⟨e, ⟨he, h1⟩, rfl⟩
    exact ⟨(dtOf e, vaOf e), (ent_live _ row rfl hc hl x _).2 ⟨e, he, (live_iff hok he).1 h1, rfl⟩, rfl⟩
theorem live_sub {row : List Ev} {x : El} {e : Ev} (h : e ∈ liveL row x) : e ∈ row := (List.mem_filter.1 h).1
theorem compact_len (ss : List Va) : (Lib.compact ss).length ≤ ss.length := by
  unfold Lib.compact Lib.compactUpTo
  rw [List.length_map]
  exact Nat.le_trans (List.length_filter_le _ _) (by simp)
theorem SlK.va {w : World} {A : Option Addr} {n c j : Nat} {l : List Va} {v : Va} (h : SlK enW 3 w (.slice A n c) l) (hj : l[j]? = some v) : ∃ g o, A = some ⟨g, o, none⟩ ∧ g < w.heap.size ∧ w.rangeAt g (o + j * 3) (enW v) := by
  obtain ⟨A', c', hv', _, hcells⟩ := h
  obtain ⟨g, o, rfl, hgl, hcell⟩ := hcells (fun e => by rw [e] at hj; cases hj)
  injection hv' with e1 e2 e3
  exact ⟨g, o, e1, hgl, hcell j v hj⟩
theorem sizeVa (v : Va) : (Try.prog.info? 37).map (·.size) = some (enW v).toArray.size := (zero_of_info zeroVa).2
theorem zeroVr : (enW ⟨0, 0, ⟨#[]⟩⟩).toArray = #[.int .i64 0, .int .i64 0, .string ⟨#[]⟩] := rfl
theorem any_next {α : Type} {l : List α} {p : α → Bool} {j : Nat} {e : α} (h : l[j]? = some e) : (l.take (j + 1)).any p = ((l.take j).any p || p e) := by
  rw [List.take_add_one, h, List.any_append]; simp
theorem run_loadV_op {o : Oper} {a : Act} {w : World} {x : Operand} {b q : Nat} {v : Va} (ho : o.op = .load 37 x) (hx : a.eval x = .pointer (some ⟨b, q, none⟩)) (hr : w.rangeAt b q (enW v)) : (execOp a.eval o).run Try.prog w = .ok (.value (eV v)) w :=
  run_loadmid_op ho hx hr Try.underlying37 rfl (by kernel_rfl)
theorem refcmp_is (x y : Va) (z : Int) (h : cfV x y = z) (hs : x.t.size ≤ 9223372036854775806) (w : World) : Calls Try.prog 14 #[eV x, eV y] w fun e w' => e = .returned (.int .i64 z) ∧ Below w.heap.size w w' := by
  subst h; exact refcmp_any x.k x.n x.t y.k y.n y.t w hs
theorem run_geV {a b : Int} {q : Bool} (h : decide (b ≤ a) = q) (w : World) : (binOp .geq 3 (.int .i64 a) (.int .i64 b)).run Try.prog w = .ok (.bool q) w := by subst h; go_simp
theorem run_gtV {a b : Int} {q : Bool} (h : decide (b < a) = q) (w : World) : (binOp .gtr 3 (.int .i64 a) (.int .i64 b)).run Try.prog w = .ok (.bool q) w := by subst h; go_simp

end Go.Proofs.Yteohlbmjbljlmaa
