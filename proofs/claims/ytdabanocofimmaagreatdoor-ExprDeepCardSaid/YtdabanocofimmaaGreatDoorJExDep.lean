/-
  expr.Depth: the contract, by walks. slices.Sort and slices.Compact at rows of texts of the call's own: the contracts, out of the library's. Conditions: lengths.
-/
import Derived.Test.YtdabanocofimmaaGreatDoorJExHas
namespace Go.Proofs.YtdabanocofimmaaGreatDoor
open Go.RowKit

theorem run_max_op {P : Program} {o : Oper} {ρ : Operand → Value} {w : World} {x y : Operand} {ts : Array TypeId} {a b : Int} (ho : o.op = .call { callee := .builtin .max, args := #[x, y], argTypes := ts }) (hx : ρ x = .int .i64 a) (hy : ρ y = .int .i64 b) : (execOp ρ o).run P w = .ok (.value (.int .i64 (max a b))) w := by
  unfold execOp
  simp [ho, hx, hy, resolve, invoke, builtin, Builtin.max_, Builtin.max2, go_sem]
  rw [Int.max_def]
  split <;> split <;> omega
theorem reckL_le (one : Ex.X → List Int → Int) (M : Int) (l : List Ex.X) : ∀ x ∈ reckL one M l, x ≤ M := by
  obtain ⟨n, hn⟩ : ∃ n, l.length = n := ⟨_, rfl⟩
  induction n generalizing l with
  | zero => rw [List.length_eq_zero_iff.1 hn]; intro x hx; cases hx
  | succ n ih =>
    have hne : l ≠ [] := by rintro rfl; cases hn
    rw [← List.dropLast_concat_getLast hne, reckL_snoc]
    intro x hx
    rcases List.mem_append.1 hx with h | h
    · exact ih _ (by rw [List.length_dropLast, hn]; rfl) x h
    · rw [List.mem_singleton.1 h]
      exact Int.min_le_right _ _
theorem EntF.two {f : FuncId} (h : ∀ (a b : Value) (W : World), (callFunc f #[a, b]).run Tryz.prog W = .ok (.enter f #[a, b]) W) : EntF f 2 := fun args W hs => by
  obtain ⟨l⟩ := args
  match l, hs with
  | [a, b], _ => exact h a b W
theorem EntF.three {f : FuncId} (h : ∀ (a b c : Value) (W : World), (callFunc f #[a, b, c]).run Tryz.prog W = .ok (.enter f #[a, b, c]) W) : EntF f 3 := fun args W hs => by
  obtain ⟨l⟩ := args
  match l, hs with
  | [a, b, c], _ => exact h a b c W
def deepL (ah : List Int) (L : List Int) : Int := L.foldl (fun m s => max m (ah.getD s.toNat 0)) 0
/-- How deep an expression is, by those ahead. -/
def depthOne (e : Ex.X) (ah : List Int) : Int := deepL ah (sidesL e) + 1
theorem deepL_bd (ah : List Int) (M : Int) (h : ∀ x ∈ ah, x ≤ M) (hM : 0 ≤ M) : ∀ L : List Int, 0 ≤ deepL ah L ∧ deepL ah L ≤ M := by
  intro L
  obtain ⟨n, hn⟩ : ∃ n, L.length = n := ⟨_, rfl⟩
  induction n generalizing L with
  | zero => rw [List.length_eq_zero_iff.1 hn]; exact ⟨Int.le_refl _, hM⟩
  | succ n ih =>
    have hne : L ≠ [] := by rintro rfl; cases hn
    have := ih L.dropLast (by rw [List.length_dropLast, hn]; rfl)
    rw [← List.dropLast_concat_getLast hne]
    unfold deepL at this ⊢
    rw [List.foldl_append]
    show 0 ≤ max _ _ ∧ max _ _ ≤ M
    have hg : ah.getD (L.getLast hne).toNat 0 ≤ M := by
      rw [List.getD_eq_getElem?_getD]
      cases hq : ah[(L.getLast hne).toNat]? with
      | none => exact hM
      | some x => exact h x (List.mem_of_getElem? hq)
    omega

set_option maxRecDepth 100000 in
set_option maxHeartbeats 2000000 in
theorem deepone_any (e : Ex.X) (ah : List Int) (v : Value) (w : World) (hv : SlK encZ 1 w v ah) (hs : (sidesL e).all (sideOk ah.length) = true) (hM : ∀ x ∈ ah, x ≤ 4096) (hn : ah.length ≤ 1000000) : Calls Tryz.prog 35 #[exV e, v] w (Gives w (.int .i64 (depthOne e ah))) := by
  obtain ⟨A, c, rfl, _, _⟩ := id hv
  obtain ⟨p, hp⟩ : ∃ p, w.heap.size = p := ⟨_, rfl⟩
  obtain ⟨X, hX⟩ : ∃ X, X = w.alloc (.cells (exC e) 49) := ⟨_, rfl⟩
  have hbX : Below w.heap.size w X := by rw [hX]; exact (Below.refl _ _).alloc (Nat.le_refl _) _
  have HE := Lib.hid (show Blk X p 49 (exC e) by rw [hX, ← hp]; exact Blk.new w _ _)
  have HSd := Lib.hid (sides_any e X)
  have HB := Lib.hid hbX
  have HV := Lib.hid hv
  obtain ⟨L, hL⟩ : ∃ L, sidesL e = L := ⟨_, rfl⟩
  have HL := Lib.hid hL
  obtain ⟨N, hN⟩ : ∃ N, ah.length = N := ⟨_, rfl⟩
  have HA2 := Lib.hid (show ∀ s ∈ L, 0 ≤ s ∧ s < N by
    intro s h
    rw [← hL] at h
    have := List.all_eq_true.1 hs s h
    unfold sideOk at this
    rw [hN] at this
    simpa using this)
  have HD := Lib.hid (show depthOne e ah = deepL ah L + 1 by unfold depthOne; rw [hL])
  have HBd := Lib.hid (fun j => deepL_bd ah 4096 hM (by decide) (L.take j))
  have HNN := Lib.hid hN
  rw [HD.out, hN]
  have HX := Lib.hid hX
  have HP := Lib.hid hp
  have HNb := Lib.hid (show N ≤ 1000000 by omega)
  have HL2 := Lib.hid (show L.length ≤ 2 by
    rw [← hL]
    unfold sidesL
    split
    · exact Nat.le_succ _
    · split
      · exact Nat.le_refl _
      · exact Nat.zero_le _)
  rw [hN] at HV
  clear hbX hv hs hM hn hp hX hL hN HD
  obtain ⟨k, vk, vn, vt, vv, pp, l, r⟩ := e
  unfold exC at HX HE
  unfold exV exC at HSd ⊢
  dsimp only at HX HE HSd ⊢
  go_enter Tryz.func35, Tryz.ntmps35
  go_upto_region 1 with fail
  rw [← HX.out, HP.out]
  go_wp2_with (first
    | (refine wpList_load_row (o := ⟨some 8, _, _, _, _, _⟩) rfl 49 (.tmp 2) rfl p rfl _ #[.int .i64 k, .int .i64 vk, .int .i64 vn, .string ⟨vt.toArray⟩, .string ⟨vv.toArray⟩, .string ⟨pp.toArray⟩, .int .i64 l, .int .i64 r] _ _ HE.out Tryz.underlying49 rfl (by kernel_rfl) ?_)
    | fail)
  refine HSd.out.mono ?_
  rintro _ w1 ⟨v9, rfl, hsl, hb1, _⟩
  rw [HL.out] at hsl
  obtain ⟨A9, c9, rfl, _, _⟩ := id hsl
  have HSl := Lib.hid hsl
  have HB1 := Lib.hid (HB.out.trans (hb1.mono HB.out.size))
  obtain ⟨n, hn⟩ : ∃ n, L.length = n := ⟨_, rfl⟩
  have HN := Lib.hid hn
  have HV1 := Lib.hid (HV.out.below (HB.out.trans (hb1.mono HB.out.size)))
  rw [hn] at HSl HL2 ⊢
  clear hsl hb1 hn HSd HE
  go_wp2_with fail
  go_loopw [5, 11] (fun v5 v11 wr => ∃ j : Nat, v11 = .int .i64 j ∧ j ≤ n ∧ wr = w1 ∧ v5 = .int .i64 (deepL ah (L.take j))) (fun _ v11 _ => n - (intOf v11).toNat)
  case atStart => exact ⟨0, rfl, Nat.zero_le _, rfl, rfl⟩
  case round =>
    obtain ⟨j, rfl, hj, rfl, rfl⟩ := hrel
    have hl2 := HL2.out
    by_cases hlt : j < n
    · have hlt2 : (j : Int) < n := by omega
      obtain ⟨z, hz⟩ : ∃ z, L[j]? = some z := ⟨_, List.getElem?_eq_getElem (by rw [HN.out]; exact hlt)⟩
      obtain ⟨g, o, hA, hg, hc⟩ := HSl.out.int_at hz
      have HAt := Lib.hid (at_Z A9 g o c9 n j hA hlt wr)
      obtain ⟨hz0, hz1⟩ := HA2.out z (List.mem_of_getElem? hz)
      obtain ⟨q, rfl⟩ := Int.eq_ofNat_of_zero_le hz0
      have hqN : q < N := by omega
      obtain ⟨y, hy⟩ : ∃ y, ah[q]? = some y := ⟨_, List.getElem?_eq_getElem (by rw [HNN.out]; exact hqN)⟩
      obtain ⟨g2, o2, hA2, hg2, hc2⟩ := HV1.out.int_at hy
      have HAt2 := Lib.hid (at_Z A g2 o2 c N q hA2 hqN wr)
      have HNx := Lib.hid (show deepL ah (L.take (j + 1)) = max (deepL ah (L.take j)) y by
        rw [List.take_add_one, hz]
        unfold deepL
        rw [List.foldl_append]
        show max _ (ah.getD (Int.toNat (q : Int)) 0) = _
        rw [Int.toNat_natCast, List.getD_eq_getElem?_getD, hy]
        rfl)
      obtain ⟨D, hD⟩ : ∃ D, deepL ah (L.take j) = D := ⟨_, rfl⟩
      rw [hD] at HNx ⊢
      clear hz hA hg hz0 hz1 hqN hy hA2 hg2 hD
      go_wp2_with (first
        | (refine wpList_val (o := ⟨some 13, _, _, _, _, _⟩) rfl (.pointer (some ⟨g, o + j, none⟩)) wr (run_indexAddr_op rfl rfl rfl HAt.out) ?_)
        | (refine wpList_val (o := ⟨some 18, _, _, _, _, _⟩) rfl (.pointer (some ⟨g2, o2 + q, none⟩)) wr (run_indexAddr_op rfl rfl rfl HAt2.out) ?_)
        | (refine wpList_val (o := ⟨some 20, _, _, _, _, _⟩) rfl (.int .i64 (max D y)) wr (run_max_op rfl rfl rfl) ?_)
        | fail)
      go_roundw
      case rel =>
        refine ⟨j + 1, by go_num, by omega, ?_, by rw [HNx.out]⟩
        first | trivial | rfl
      case measure => simp [intOf] <;> omega
    · have hjn : j = n := by omega
      have hbd := HBd.out j
      have HE2 := Lib.hid (show deepL ah (L.take j) = deepL ah L by rw [hjn, ← HN.out, List.take_length])
      rw [HE2.out] at hbd ⊢
      obtain ⟨D, hD⟩ : ∃ D, deepL ah L = D := ⟨_, rfl⟩
      rw [hD] at hbd ⊢
      have hs := IntWalk.i64_in (D + 1) (by omega)
      have HD2 := Lib.hid hD
      clear HE2 hD hjn HL
      go_wp2_with fail
      go_ret
      exact ⟨by rw [HD2.out]; rfl, HB1.out⟩

/-- How deep an expression of a row is. -/
def depthL (row : List Ex.X) (i : Int) : Int := if hasB row i = true then (reckL depthOne 4096 (row.take (i.toNat + 1))).getD i.toNat 0 else 0
set_option maxRecDepth 100000 in
set_option maxHeartbeats 2000000 in
theorem depth_any (row : List Ex.X) (i : Int) (v : Value) (w : World) (hw : WOk w) (hs : SlK encX 8 w v row) (hsm : ∀ e ∈ row, XSm e) (hn : row.length ≤ 100000) : Calls Tryz.prog 13 #[v, .int .i64 i] w (Gives w (.int .i64 (depthL row i))) := by
  have HH := Lib.hid (xhas_any row i v w hw hs hsm (by omega))
  cases hq : hasB row i
  · have hd : depthL row i = 0 := if_neg (by rw [hq]; decide)
    rw [hd]
    rw [hq] at HH
    clear hw hs hsm hn hq hd
    go_enter Tryz.func13, Tryz.ntmps13
    go_wp2_with fail
    refine HH.out.mono ?_
    rintro _ w1 ⟨rfl, hb1⟩
    have HB1 := Lib.hid hb1
    clear hb1
    go_wp2_with fail
    go_ret
    exact ⟨rfl, HB1.out⟩
  · have hd : depthL row i = (reckL depthOne 4096 (row.take (i.toNat + 1))).getD i.toNat 0 := if_pos hq
    rw [hd]
    rw [hq] at HH
    unfold hasB at hq
    simp only [Bool.and_eq_true, decide_eq_true_eq] at hq
    obtain ⟨⟨h0, h1⟩, h2⟩ := hq
    obtain ⟨m, rfl⟩ := Int.eq_ofNat_of_zero_le h0
    rw [Int.toNat_natCast]
    have HR := Lib.hid (fun W (hb : Below w.heap.size w W) => reckon_any 35 #[] depthOne 4096 row m v W (EntF.two fun a b W => by go_simp) (fun j e v2 W2 hj hv hb2 => by
      have hlt := (List.getElem?_eq_some_iff.1 hj).1
      have hr := (rowB_iff row 0).1 h2 j e hj
      rw [Nat.zero_add] at hr
      have hl : (reckL depthOne 4096 (row.take j)).length = j := by rw [reckL_len, List.length_take]; omega
      refine deepone_any e _ v2 W2 hv ?_ (reckL_le _ _ _) (by rw [hl]; omega)
      rw [hl]
      unfold rightX at hr
      exact (Bool.and_eq_true_iff.1 hr).1) (hs.below hb) (by omega) hn)
    obtain ⟨Z, hZ⟩ : ∃ z, (reckL depthOne 4096 (row.take (m + 1))).getD m 0 = z := ⟨_, rfl⟩
    rw [hZ] at HR ⊢
    clear hw hs hsm hn hd h0 h1 h2 hZ
    go_enter Tryz.func13, Tryz.ntmps13
    go_wp2_with fail
    refine HH.out.mono ?_
    rintro _ w1 ⟨rfl, hb1⟩
    have HB1 := Lib.hid hb1
    clear hb1
    go_wp2_with fail
    refine (HR.out w1 HB1.out).mono ?_
    rintro _ w2 ⟨rfl, hb2⟩
    have HB2 := Lib.hid (HB1.out.trans (hb2.mono HB1.out.size))
    clear hb2
    go_wp2_with fail
    go_ret
    exact ⟨rfl, HB2.out⟩

end Go.Proofs.YtdabanocofimmaaGreatDoor

namespace Go.Proofs.YtdabanocofimmaaGreatDoor
open Go.RowKit Go.Sort

def encY (s : List UInt8) : List Value := [.string ⟨s.toArray⟩]
theorem encY_len (s : List UInt8) : (encY s).length = 1 := rfl
theorem infoYA : (Tryz.prog.info? 9).map (fun i => (i.zero, i.size, i.bytes)) = some (some (.string ⟨#[]⟩), 1, 16) := by kernel_rfl
theorem append_y (R : Nat) (w : World) (v : Value) (xs : List (List UInt8)) (hown : OwnK encY R 9 1 w v xs) (v2 : Value) (l : List (List UInt8)) (hl : SlK encY 1 w v2 l) (hn : xs.length + l.length ≤ 1000000) (hR : R ≤ w.heap.size) :
    ∃ v' w', (Builtin.append_ #[30, 30] 30 #[v, v2]).run Tryz.prog w = .ok v' w' ∧ OwnK encY R 9 1 w' v' (xs ++ l) ∧ w.grownBy w' v.ownBlock ∧ (v'.ownBlock = v.ownBlock ∨ (Below w.heap.size w w' ∧ ∀ g, v'.ownBlock = some g → w.heap.size ≤ g)) := by
  obtain ⟨i, hi, hz0, hz1, hz2⟩ := info_parts infoYA
  exact run_append_at (P := Tryz.prog) encY_len (by decide) R w 30 30 9 i _ 16 Tryz.underlying30 hi hz0 hz1 hz2 rfl v xs hown v2 l hl (fun e u hu => by simp [encY] at hu; rw [hu]; rfl) (by omega) (by omega) hR
theorem flatY (l : List (List UInt8)) : l.flatMap encY = l.map encStr := by
  induction l with
  | nil => rfl
  | cons x l ih => rw [List.flatMap_cons, ih]; rfl
theorem putc_take (d : List (List UInt8)) (cur : Array Value) (m : Nat) (hd : d.length ≤ cur.size) : (putCells encStr 0 d.toArray cur).toList.take (d.take m).length = (d.take m).flatMap encY := by
  rw [flatY]
  apply List.ext_getElem?
  intro i
  rw [List.getElem?_take, List.getElem?_map]
  by_cases hi : i < (d.take m).length
  · rw [if_pos hi]
    have him : i < m ∧ i < d.length := by rw [List.length_take] at hi; omega
    have hic : i < cur.size := by omega
    unfold putCells
    rw [Array.getElem?_toList, Array.getElem?_mapIdx, Array.getElem?_eq_getElem hic]
    simp only [Option.map_some]
    rw [if_pos ⟨Nat.zero_le _, by simpa using him.2⟩]
    rw [List.getElem?_take, if_pos him.1, List.getElem?_eq_getElem him.2]
    simp [him.2]
  · rw [if_neg hi, List.getElem?_eq_none (by omega)]
    rfl
theorem own_row {w' : World} {R g cap : Nat} {cur : Array Value} (d : List (List UInt8)) (m : Nat) (hR : R ≤ g) (hc : cur.size = cap * 1) (hcm : cap ≤ maxLen) (hd : d.length ≤ cap) (hw' : w'.heap[g]? = some (.cells (putCells encStr 0 d.toArray cur) 9 (0, 0))) :
    OwnK encY R 9 1 w' (.slice (some ⟨g, 0, none⟩) (d.take m).length cap) (d.take m) := by
  refine ⟨by rw [flatY, List.length_map, Nat.mul_one], .inr ⟨g, cap, _, rfl, hR, hw', by rw [List.length_take]; omega, hcm, ?_, ?_⟩⟩
  · unfold putCells; rw [Array.size_mapIdx]; exact hc
  · rw [Nat.mul_one]; exact putc_take d cur m (by omega)
/-- A row of the call's own, as the library's contracts hold it. -/
theorem OwnK.holds {R : Nat} {w : World} {v : Value} {l : List (List UInt8)} (h : OwnK encY R 9 1 w v l) (hn : l ≠ []) : ∃ g cap cur, v = .slice (some ⟨g, 0, none⟩) l.length cap ∧ R ≤ g ∧ w.heap[g]? = some (.cells cur 9 (0, 0)) ∧ l.length ≤ cap ∧ cap ≤ maxLen ∧ cur.size = cap * 1 ∧ Holds encStr w g 0 l.toArray := by
  obtain ⟨g, cap, cur, e1, e2, e3, e4, e5, e6, e7⟩ := h.block hn
  refine ⟨g, cap, cur, e1, e2, e3, e4, e5, e6, fun j hj => ?_⟩
  have hb : Blk w g 9 cur := e3
  rw [Nat.zero_add]
  refine ⟨?_, Blk.free hb j⟩
  rw [Blk.cell hb, ← Array.getElem?_toList]
  have hj' : j < l.length := by simpa using hj
  have : cur.toList[j]? = (l.flatMap encY)[j]? := by
    rw [← e7, List.getElem?_take, Nat.mul_one, if_pos hj']
  rw [this, flatY, List.getElem?_map, List.getElem?_eq_getElem hj']
  simp [hj']
theorem put_grow_heap (w : World) (n g : Nat) (os : Array Obj) (d : Array (List UInt8)) (cur : Array Value) (t : TypeId) (hb : w.heap[g]? = some (.cells cur t (0, 0))) : (grow (putRow encStr (Sort.ahead w n) g 0 d) os).heap[g]? = some (.cells (putCells encStr 0 d cur) t (0, 0)) := by
  have hlt : g < w.heap.size := (Array.getElem?_eq_some_iff.1 hb).1
  unfold grow putRow mapBlock Sort.ahead
  dsimp only
  rw [Array.getElem?_append_left (by simpa using hlt), Array.getElem?_modify, if_pos rfl, hb]
  rfl
theorem put_grow_below (w : World) (n g R : Nat) (os : Array Obj) (d : Array (List UInt8)) (hR : R ≤ g) (hRw : R ≤ w.heap.size) : Below R w (grow (putRow encStr (Sort.ahead w n) g 0 d) os) := by
  refine ⟨rfl, rfl, rfl, ?_, fun k hk => ?_⟩
  · unfold grow; simp
  · have hkw : k < w.heap.size := by omega
    unfold grow putRow mapBlock Sort.ahead
    dsimp only
    rw [Array.getElem?_append_left (by simpa using hkw), Array.getElem?_modify, if_neg (by omega)]
def sortY (l : List (List UInt8)) : List (List UInt8) := l.mergeSort fun x y => decide (x ≤ y)
theorem sortY_len (l : List (List UInt8)) : (sortY l).length = l.length := List.length_mergeSort _
theorem sortY_any {R : Nat} {w : World} {v : Value} {l : List (List UInt8)} (h : OwnK encY R 9 1 w v l) (hR : R ≤ w.heap.size) (hn : l.length ≤ 1000000) :
    Calls Tryz.prog 32 #[v] w fun e w' => e = .returned (.tuple #[]) ∧ OwnK encY R 9 1 w' v (sortY l) ∧ Below R w w' := by
  by_cases hl : l = []
  · subst hl
    obtain ⟨A, c, rfl, _, _⟩ := h.read encY_len
    refine (Tryz.slices_Sort_string_none A c w).mono fun e w' ⟨he, hw⟩ => ⟨he, ?_, ?_⟩
    · rw [hw, show sortY [] = [] by unfold sortY; simp]; exact h
    · rw [hw]; exact Below.refl _ _
  · obtain ⟨g, cap, cur, rfl, e2, e3, e4, e5, e6, e7⟩ := h.holds hl
    refine (Tryz.slices_Sort_string g 0 cap l w e7 (Array.getElem?_eq_some_iff.1 e3).1 (by omega)).mono fun e w' ⟨he, n, os, hw⟩ => ⟨he, ?_, ?_⟩
    · have hh := put_grow_heap w n g os (sortY l).toArray cur 9 e3
      have := own_row (w' := w') (R := R) (cap := cap) (sortY l) (sortY l).length e2 e6 e5 (by rw [sortY_len]; exact e4) (by rw [hw]; exact hh)
      rw [List.take_length, sortY_len] at this
      exact this
    · rw [hw]; exact put_grow_below w n g R os _ e2 hR
theorem compact_len (l : List (List UInt8)) : (Lib.compact l).length ≤ l.length := by
  unfold Lib.compact Lib.compactUpTo
  rw [List.length_map]
  exact Nat.le_trans (List.length_filter_le _ _) (by rw [List.length_range]; exact Nat.le_refl _)
theorem compactY_any {R : Nat} {w : World} {v : Value} {l : List (List UInt8)} (h : OwnK encY R 9 1 w v l) (hR : R ≤ w.heap.size) (hn : l.length ≤ 1000000) :
    Calls Tryz.prog 33 #[v] w fun e w' => ∃ u, e = .returned u ∧ OwnK encY R 9 1 w' u (Lib.compact l) ∧ Below R w w' := by
  by_cases hl : l = []
  · subst hl
    obtain ⟨A, c, rfl, _, _⟩ := h.read encY_len
    refine (Tryz.slices_Compact_string_empty A c w).mono fun e w' ⟨he, hw⟩ => ⟨_, he, ?_, ?_⟩
    · rw [hw]; exact h
    · rw [hw]; exact Below.refl _ _
  · obtain ⟨g, cap, cur, rfl, e2, e3, e4, e5, e6, e7⟩ := h.holds hl
    have hcl := compact_len l
    refine (Tryz.slices_Compact_string g 0 cap l w e7 (by omega) e4).mono fun e w' ⟨he, q, hw⟩ => ⟨_, he, ?_, ?_⟩
    · have hh := put_grow_heap w q g #[] (Lib.compact l ++ List.replicate (l.length - (Lib.compact l).length) []).toArray cur 9 e3
      rw [grow_empty] at hh
      have := own_row (w' := w') (R := R) (cap := cap) (Lib.compact l ++ List.replicate (l.length - (Lib.compact l).length) []) (Lib.compact l).length e2 e6 e5 (by rw [List.length_append, List.length_replicate]; omega) (by rw [hw]; exact hh)
      rw [List.take_left'] at this
      · exact this
      · rfl
    · have := put_grow_below w q g R #[] (Lib.compact l ++ List.replicate (l.length - (Lib.compact l).length) []).toArray e2 hR
      rw [grow_empty] at this
      rw [hw]; exact this

end Go.Proofs.YtdabanocofimmaaGreatDoor
