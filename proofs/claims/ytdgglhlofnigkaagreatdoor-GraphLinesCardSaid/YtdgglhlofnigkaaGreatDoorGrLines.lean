/- (*graph.View).Lines. -/import Derived.Test.YtdgglhlofnigkaaGreatDoorGrLine
namespace Go.Proofs.YtdgglhlofnigkaaGreatDoor
open Lib (hid)
open Go.RowKit Go.MapKept Go.Sort
theorem bs_S4 (a b c d : ByteArray) (w : World) : (Instr.buildSlice 32 4 #[(0, .string a), (1, .string b), (2, .string c), (3, .string d)]).run Tryz.prog w = .ok (.slice (some ⟨w.heap.size, 0, none⟩) 4 4) (w.alloc (.cells #[.string a, .string b, .string c, .string d] 9)) := by go_simp
theorem at_Ss (g c n k : Nat) (h : k < n) (w : World) : (Instr.indexAt 32 (.slice (some ⟨g, 0, none⟩) n c) (.int .i64 k)).run Tryz.prog w = .ok (.pointer (some ⟨g, k, none⟩)) w := by
 have h2 : (k : Int) < n := by omega
 go_simp
theorem own_blkS {α : Type} {enc : α → List Value} {base k : Nat} {e : TypeId} {w : World} {v : Value} {l : List α} (h : OwnK enc base e k w v l) {g : Nat} (hg : v.ownBlock = some g) : base ≤ g ∧ ∃ cs, Blk w g e cs := by
 rcases h.2 with ⟨rfl, _⟩ | ⟨g', cap, cur, rfl, hb, hgb, _⟩
 ·simp [Value.ownBlock] at hg
 ·have : g' = g := by simpa [Value.ownBlock] using hg
  subst this
  exact ⟨hb, cur, hgb⟩
theorem ne_KS : (36 : TypeId) ≠ 9 := by decide
theorem flat_le {α β : Type} (f : α → List β) (B : Nat) : ∀ l : List α, (∀ x ∈ l, (f x).length ≤ B) → (l.flatMap f).length ≤ l.length * B
 | [], _ => by simp
 | x :: l, h => by
  have ih := flat_le f B l fun y hy => h y (List.mem_cons_of_mem _ hy)
  have h1 := h x List.mem_cons_self
  simp only [List.flatMap_cons, List.length_append, List.length_cons, Nat.add_mul, Nat.one_mul]
  omega
theorem partLines_len {V : Vw} (hT : TextV V) (x : El) (f : List ByteArray) : (partLinesV V x f).length ≤ 1000 := by
 unfold partLinesV
 rw [List.length_map]
 exact (hT.part x).1
theorem flat_next {α β : Type} (f : α → List β) {l : List α} {j : Nat} {x : α} (h : l[j]? = some x) : (l.take (j + 1)).flatMap f = (l.take j).flatMap f ++ f x := by
 rw [List.take_add_one, h, List.flatMap_append]
 simp
set_option maxRecDepth 100000 in
set_option maxHeartbeats 8000000 in
theorem lines_any {own : Nat → Option Tg} {R vb b1 b2 b3 b4 b5 : Nat} {V : Vw} {nv lv : Value} (w : World) (hV : VIs own R w vb V nv lv b1 b2 b3 b4 b5) (hT : TextV V) (hw0 : WOk w) :
  Calls Tryz.prog 12 #[.pointer (some ⟨vb, 0, none⟩)] w fun e w' => ∃ u, e = .returned u ∧ OwnK enS w.heap.size 9 1 w' u (linesV V) ∧ Below w.heap.size w w' := by
 have HNo := hid (nodesP_any w hV (by have := hT.nodes.1; omega))
 have HLi := hid (fun W (h : Below w.heap.size w W) => linksP_any W (hV.keep h) (by have := hT.links.1; omega))
 have HWw := hid (fun W (h : Below w.heap.size w W) => hw0.below h)
 have HVw := hid (fun W (h : Below w.heap.size w W) => hV.keep h)
 have HTx := hid hT
 obtain ⟨q, hq⟩ : ∃ q, w.heap.size = q := ⟨_, rfl⟩
 rw [hq] at HNo HLi HWw HVw
 have HQ := hid hq
 clear hV hT hw0 hq
 unfold linesV
 go_enter Tryz.func12, Tryz.ntmps12
 go_wp2_with fail
 refine HNo.out.mono ?_
 rintro e W1 ⟨u, rfl, huo, hub⟩
 obtain ⟨A, c, rfl, _, _⟩ := huo.read enS_len
 obtain ⟨n, hn⟩ : ∃ n, V.nodes.length = n := ⟨_, rfl⟩
 rw [hn] at huo ⊢
 have HNn := hid hn
 have HNl := hid (show n ≤ 1000 by rw [← hn]; exact HTx.out.nodes.1)
 obtain ⟨q1, hq1⟩ : ∃ q1, W1.heap.size = q1 := ⟨_, rfl⟩
 have HQ1 := hid hq1
 have HNw := hid (show ∀ wr, Below q1 W1 wr → OwnK enS q 9 1 wr (.slice A n c) V.nodes from fun wr h => huo.keep (by rw [hq1]; exact h))
 have HB1 := hid hub
 have Hqq := hid (show q ≤ q1 by have := hub.size; have := HQ.out; omega)
 clear huo hub hn hq1 HNo
 go_wp2_with fail
 go_loopw [3, 12] (fun v3 v12 wr => ∃ j : Nat, v12 = .int .i64 j ∧ j ≤ n ∧ OwnK enS q1 9 1 wr v3 ((V.nodes.take j).flatMap (nodeLines V)) ∧ Below q1 W1 wr) (fun _ v12 _ => n - (intOf v12).toNat)
 case atStart => exact ⟨0, rfl, Nat.zero_le _, OwnK.nil_ _ _ _ _ _, Below.refl _ _⟩
 case round =>
  obtain ⟨j, rfl, hj, ho, hbw⟩ := hrel
  obtain ⟨wp, rfl⟩ : ∃ wp, wp = wr := ⟨_, rfl⟩
  by_cases hlt : j < n
  ·obtain ⟨key, hy⟩ : ∃ y, V.nodes[j]? = some y := ⟨V.nodes[j]'(by rw [HNn.out]; exact hlt), List.getElem?_eq_getElem _⟩
   obtain ⟨g, rfl, _, _, hce⟩ := (HNw.out wp hbw).at_ enS_len hy
   have HAt := hid (at_Ss g c n j hlt wp)
   have cK : wp.cell? ⟨g, j, none⟩ = some (.string key) := by
    have := hce 0 (.string key) rfl
    simpa using this
   have hks := HTx.out.nodes.2 key (List.mem_of_getElem? hy)
   have hll := HTx.out.lab key
   have hlen : ((V.nodes.take j).flatMap (nodeLines V)).length ≤ 1001000 := by
    have h1 := flat_le (nodeLines V) 1001 (V.nodes.take j) fun x _ => by have := partLines_len HTx.out (nodeE x) [wProp, x]; unfold nodeLines; simp only [List.length_cons]; omega
    have h2 := List.length_take_le j V.nodes
    have h3 := HNl.out
    have h4 : (V.nodes.take j).length * 1001 ≤ 1000 * 1001 := Nat.mul_le_mul_right _ (by omega)
    omega
   have HFn := hid (flat_next (nodeLines V) hy)
   obtain ⟨ls, hls⟩ : ∃ ls, (V.nodes.take j).flatMap (nodeLines V) = ls := ⟨_, rfl⟩
   rw [hls] at ho hlen HFn
   have hq1w : q1 ≤ wp.heap.size := by have h1 := hbw.size; have h2 := HQ1.out; omega
   obtain ⟨i, hi⟩ : ∃ i, wp.heap.size = i := ⟨_, rfl⟩
   obtain ⟨Y, hY⟩ : ∃ Y, Y = wp.alloc (.cells #[.string wNode, .string key] 9) := ⟨_, rfl⟩
   have hbY : Below wp.heap.size wp Y := by rw [hY]; exact (Below.refl _ _).alloc (Nat.le_refl _) _
   have HWo := hid (show OwnK enS i 9 1 Y (.slice (some ⟨i, 0, none⟩) 2 2) [wNode, key] from by
    have h := own_lit [wNode, key] #[.string wNode, .string key] 2 wp rfl rfl (by decide)
    rw [← hY, hi] at h
    exact h)
   have hbY1 : Below q w Y := HB1.out.trans ((hbw.mono Hqq.out).trans (hbY.mono (Nat.le_trans Hqq.out hq1w)))
   have HLab := hid (labelsP_any key Y (HVw.out Y hbY1) (by omega))
   have HBY := hid hbY1
   have HBi := hid (show Below i wp Y by rw [← hi]; exact hbY)
   have HQi := hid (show q1 ≤ i by rw [← hi]; exact hq1w)
   have HI := hid hi
   have HYe := hid hY
   have HLo := hid ho
   have HBw := hid hbw
   have HLe := hid hlen
   have HKs := hid hks
   have HLl := hid hll
   have hw := IntWalk.i64_in ((j : Int) + 1) (by have := HNl.out; omega)
   have hjm : ¬ 9223372036854775807 < j + 1 := by have := HNl.out; omega
   have HJ1 := hid hjm
   have HW1 := hid hw
   clear hw hjm hY hi hbY hbY1 hce hy ho hbw hq1w hks hll hlen hls
   go_upto_region 6 with (first
    | (refine wpList_val (o := ⟨some 14, _, _, _, _, _⟩) rfl (.pointer (some ⟨g, j, none⟩)) wp (run_indexAddr_op rfl rfl rfl HAt.out) ?_)
    | fail)
   rw [HI.out]
   rw [show (wp.alloc (Obj.cells #[Value.string { data := #[110, 111, 100, 101] }, Value.string key] 9)) = Y from HYe.out.symm]
   clear cK
   go_wp2_with fail
   refine HLab.out.mono ?_
   rintro e W2 ⟨ul, rfl, hlo, hlb⟩
   have hi2 : i ≤ W2.heap.size := Nat.le_trans (by have h1 := HBi.out.size; have h2 := HI.out; omega) hlb.size
   obtain ⟨v3', w3, hrun, ho3, hb3, _⟩ := own_app2 (ty := 32) apS (HWo.out.keep hlb) hi2 (hlo.read enS_len) (by have h1 := HLl.out.1; simp only [List.length_cons, List.length_nil]; omega) (by have h1 := HLl.out.1; simp only [List.length_cons, List.length_nil]; omega)
   have hvs : ∀ s ∈ [wNode, key] ++ V.lab key, s.size ≤ 20000 := by
    intro s hs
    rcases List.mem_append.1 hs with h | h
    ·have h1 := HKs.out
     simp only [List.mem_cons, List.not_mem_nil, or_false] at h
     rcases h with rfl | rfl
     ·decide
     ·omega
    ·have := HLl.out.2 s h; omega
   have HLn := hid (line_any ([wNode, key] ++ V.lab key) v3' w3 (ho3.read enS_len) hvs (by have h1 := HLl.out.1; simp only [List.length_append, List.length_cons, List.length_nil]; omega))
   obtain ⟨ln, hln⟩ : ∃ ln, joinG ([wNode, key] ++ V.lab key) = ln := ⟨_, rfl⟩
   rw [hln] at HLn
   have HNd := hid (show nodeLines V key = ln :: partLinesV V (nodeE key) [wProp, key] from by unfold nodeLines; rw [hln])
   have HRun := hid hrun
   have HB3 := hid (show Below i wp w3 from HBi.out.trans ((hlb.mono (by have h1 := HBi.out.size; have h2 := HI.out; omega)).trans hb3))
   clear hlo hlb hi2 ho3 hb3 hvs hln hrun HLab HWo
   go_wp2_with (first
    | (at_builtin; refine Lib.wpList_append_run (o := ⟨some 23, _, _, _, _, _⟩) _ rfl _ _ _ _ rfl _ _ rfl rfl _ _ HRun.out ?_)
    | fail)
   refine HLn.out.mono ?_
   rintro e W4 ⟨rfl, hb4⟩
   obtain ⟨Z4, hZ4⟩ : ∃ Z4, Z4 = W4.alloc (.cells #[.string ln] 9) := ⟨_, rfl⟩
   have hbz4 : Below W4.heap.size W4 Z4 := by rw [hZ4]; exact (Below.refl _ _).alloc (Nat.le_refl _) _
   have hb3s : i ≤ w3.heap.size := by have h1 := HB3.out.size; have h2 := HI.out; omega
   have hbi4 : Below i wp Z4 := HB3.out.trans ((hb4.mono hb3s).trans (hbz4.mono (Nat.le_trans hb3s hb4.size)))
   have hq4 : q1 ≤ Z4.heap.size := Nat.le_trans HQi.out (by have h1 := hbi4.size; have h2 := HI.out; omega)
   obtain ⟨v5, w5, hrun5, ho5, hb5, _⟩ := own_app2 (ty := 32) apS (HLo.out.keep (w' := Z4) (by rw [HI.out]; exact hbi4)) hq4 (by rw [hZ4]; exact sl_S ln W4) (by have h1 := HLe.out; simp only [List.length_cons, List.length_nil]; omega) (by have h1 := HLe.out; simp only [List.length_cons, List.length_nil]; omega)
   obtain ⟨m4, hm4⟩ : ∃ m4, W4.heap.size = m4 := ⟨_, rfl⟩
   rw [hm4] at hrun5
   have HRun5 := hid hrun5
   have HZ4 := hid hZ4
   have HM4 := hid hm4
   have HL5 := hid ho5
   have HB5 := hid (show Below q1 W1 w5 from HBw.out.trans ((hbi4.mono HQi.out).trans hb5))
   have Hq5 := hid (Nat.le_trans hq4 hb5.size)
   have HNo := hid (nodeP_any key w5)
   clear hZ4 hbz4 hb3s hbi4 hq4 hrun5 ho5 hb5 hm4 hb4 HLn HRun HB3 HLo
   go_wp2_with (first
    | (at_builtin; rw [← HZ4.out, HM4.out]; refine Lib.wpList_append_run (o := ⟨some 26, _, _, _, _, _⟩) _ rfl _ _ _ _ rfl _ _ rfl rfl _ _ HRun5.out ?_)
    | fail)
   refine HNo.out.mono ?_
   rintro e W6 ⟨rfl, hb6⟩
   obtain ⟨Z6, hZ6⟩ : ∃ Z6, Z6 = W6.alloc (.cells #[.string wProp, .string key] 9) := ⟨_, rfl⟩
   have hbz6 : Below W6.heap.size W6 Z6 := by rw [hZ6]; exact (Below.refl _ _).alloc (Nat.le_refl _) _
   have hB6 : Below q1 W1 Z6 := HB5.out.trans ((hb6.mono Hq5.out).trans (hbz6.mono (Nat.le_trans Hq5.out hb6.size)))
   have hbqZ : Below q w Z6 := HB1.out.trans (hB6.mono Hqq.out)
   have HL6 := hid ((HL5.out.keep hb6).keep hbz6)
   have hs6 : SlK enS 1 Z6 (.slice (some ⟨W6.heap.size, 0, none⟩) 2 2) [wProp, key] := by
    have h := own_lit [wProp, key] #[.string wProp, .string key] 2 W6 rfl rfl (by decide)
    rw [← hZ6] at h
    exact h.read enS_len
   have HPl := hid (partLines_any (nodeE key) _ [wProp, key] Z6 (HVw.out Z6 hbqZ) HTx.out hs6 ⟨by simp only [List.length_cons, List.length_nil]; omega, fun s hs => by
    simp only [List.mem_cons, List.not_mem_nil, or_false] at hs
    rcases hs with rfl | rfl
    ·decide
    ·exact HKs.out⟩ (HWw.out Z6 hbqZ))
   have HPn := hid (partLines_len HTx.out (nodeE key) [wProp, key])
   have HZ6 := hid hZ6
   rw [hZ6] at HPl
   have HB6 := hid hB6
   have Hq6 := hid (show q1 ≤ Z6.heap.size from Nat.le_trans Hq5.out (Nat.le_trans hb6.size hbz6.size))
   clear hZ6 hbz6 hB6 hbqZ hs6 hb6 HL5 HNo HRun5 HB5 HZ4 HM4
   obtain ⟨E6, hE6⟩ : ∃ E6, eE (nodeE key) = E6 := ⟨_, rfl⟩
   rw [hE6] at HPl ⊢
   clear hE6
   go_wp2_with fail
   refine HPl.out.mono ?_
   rintro e W7 ⟨u7, rfl, ho7, hb7⟩
   rw [← HZ6.out] at ho7 hb7
   obtain ⟨v8, w8, hrun8, ho8, hb8, _⟩ := own_app2 (ty := 32) apS (HL6.out.keep hb7) (Nat.le_trans Hq6.out hb7.size) (ho7.read enS_len) (by have h1 := HLe.out; have h2 := HPn.out; simp only [List.length_append, List.length_cons, List.length_nil]; omega) (by have h1 := HLe.out; have h2 := HPn.out; simp only [List.length_append, List.length_cons, List.length_nil]; omega)
   rw [List.append_assoc, List.singleton_append, ← HNd.out, ← HFn.out] at ho8
   have HRun8 := hid hrun8
   have HL8 := hid ho8
   have HB8 := hid (HB6.out.trans ((hb7.mono Hq6.out).trans hb8))
   clear ho7 hb7 hrun8 ho8 hb8 HPl HL6 HB6
   have hw := HW1.out
   have hjm := HJ1.out
   go_wp2_with (first
    | (at_builtin; refine Lib.wpList_append_run (o := ⟨some 34, _, _, _, _, _⟩) _ rfl _ _ _ _ rfl _ _ rfl rfl _ _ HRun8.out ?_)
    | fail)
   go_roundw
   case rel => exact ⟨j + 1, by go_num, by omega, HL8.out, HB8.out⟩
   case measure => simp [intOf] <;> omega
  ·have hjn : n = j := by omega
   subst hjn
   have htk : V.nodes.take n = V.nodes := by rw [← HNn.out, List.take_length]
   rw [htk] at ho
   have hq1w : q1 ≤ wp.heap.size := by have h1 := hbw.size; have h2 := HQ1.out; omega
   have hbqw : Below q w wp := HB1.out.trans (hbw.mono Hqq.out)
   have HLk := hid (HLi.out wp hbqw)
   have hlen : (V.nodes.flatMap (nodeLines V)).length ≤ 1001000 := by
    have h1 := flat_le (nodeLines V) 1001 V.nodes fun x _ => by have := partLines_len HTx.out (nodeE x) [wProp, x]; unfold nodeLines; simp only [List.length_cons]; omega
    have h4 : V.nodes.length * 1001 ≤ 1000 * 1001 := Nat.mul_le_mul_right _ HTx.out.nodes.1
    omega
   have HLe := hid hlen
   obtain ⟨ls0, hls0⟩ : ∃ ls0, V.nodes.flatMap (nodeLines V) = ls0 := ⟨_, rfl⟩
   rw [hls0] at ho HLe
   have HLs0 := hid hls0
   have HL := hid ho
   have HB := hid hbw
   have Hqw := hid hq1w
   clear ho hbw htk hlt hj hq1w hbqw hlen hls0
   go_wp2_with fail
   refine HLk.out.mono ?_
   rintro e W2 ⟨u, rfl, huo, hub⟩
   obtain ⟨A2, c2, rfl, _, _⟩ := huo.read enK_len
   obtain ⟨n2, hn2⟩ : ∃ n2, V.links.length = n2 := ⟨_, rfl⟩
   rw [hn2] at huo ⊢
   have HN2 := hid hn2
   have HN2l := hid (show n2 ≤ 1000 by rw [← hn2]; exact HTx.out.links.1)
   have HK0 := hid (huo.base_ (b' := q) (Nat.le_trans Hqq.out Hqw.out))
   have HL0 := hid (HL.out.keep hub)
   have HB0 := hid (HB.out.trans (hub.mono Hqw.out))
   clear huo hub hn2 HL HB HLk
   go_wp2_with fail
   go_loopw [3, 39] (fun v3 v39 wr => ∃ k : Nat, v39 = .int .i64 k ∧ k ≤ n2 ∧ OwnK enS q1 9 1 wr v3 (ls0 ++ (V.links.take k).flatMap (linkLines V)) ∧ OwnK enK q 36 3 wr (.slice A2 n2 c2) V.links ∧ Below q1 W1 wr) (fun _ v39 _ => n2 - (intOf v39).toNat)
   case atStart => exact ⟨0, rfl, Nat.zero_le _, by simpa using HL0.out, HK0.out, HB0.out⟩
   case round =>
    obtain ⟨k, rfl, hk, ho, hko, hbw⟩ := hrel
    obtain ⟨wp, rfl⟩ : ∃ wp, wp = wr := ⟨_, rfl⟩
    by_cases hlt : k < n2
    ·obtain ⟨x, hx⟩ : ∃ x, V.links[k]? = some x := ⟨V.links[k]'(by rw [HN2.out]; exact hlt), List.getElem?_eq_getElem _⟩
     obtain ⟨g, rfl, _, _, hce⟩ := hko.at_ enK_len hx
     obtain ⟨A2, hA2⟩ : ∃ A : Option Addr, A = some ⟨g, 0, none⟩ := ⟨_, rfl⟩
     rw [← hA2] at hko
     have HAt := hid (at_Lk0 g c2 n2 k hlt wp)
     rw [← hA2] at HAt
     have HCe := hid (show wp.rangeAt g (k * 3) [.string x.f, .string x.t, .string x.y] from hce)
     have hxs := HTx.out.links.2 x (List.mem_of_getElem? hx)
     have hlen : (ls0 ++ (V.links.take k).flatMap (linkLines V)).length ≤ 2002000 := by
      have h1 := flat_le (linkLines V) 1001 (V.links.take k) fun x _ => by have := partLines_len HTx.out (linkE x) [wTrait, x.f, x.y, x.t]; unfold linkLines; simp only [List.length_cons]; omega
      have h2 := List.length_take_le k V.links
      have h3 := HN2l.out
      have h4 : (V.links.take k).length * 1001 ≤ 1000 * 1001 := Nat.mul_le_mul_right _ (by omega)
      have h5 := HLe.out
      rw [List.length_append]
      omega
     have HFn := hid (show ls0 ++ (V.links.take (k + 1)).flatMap (linkLines V) = (ls0 ++ (V.links.take k).flatMap (linkLines V)) ++ linkLines V x by rw [flat_next (linkLines V) hx, List.append_assoc])
     obtain ⟨ls, hls⟩ : ∃ ls, ls0 ++ (V.links.take k).flatMap (linkLines V) = ls := ⟨_, rfl⟩
     rw [hls] at ho hlen HFn
     have hq1w : q1 ≤ wp.heap.size := by have h1 := hbw.size; have h2 := HQ1.out; omega
     obtain ⟨i, hi⟩ : ∃ i, wp.heap.size = i := ⟨_, rfl⟩
     obtain ⟨Y, hY⟩ : ∃ Y, Y = wp.alloc (.cells #[.string x.f, .string x.t, .string x.y] 36) := ⟨_, rfl⟩
     have hbY : Below wp.heap.size wp Y := by rw [hY]; exact (Below.refl _ _).alloc (Nat.le_refl _) _
     have hEy : Blk Y i 36 #[.string x.f, .string x.t, .string x.y] := by rw [hY, ← hi]; exact Blk.new wp _ _
     obtain ⟨m, hm⟩ : ∃ m, Y.heap.size = m := ⟨_, rfl⟩
     obtain ⟨Z, hZ⟩ : ∃ Z, Z = Y.alloc (.cells #[.string wEdge, .string x.f, .string x.y, .string x.t] 9) := ⟨_, rfl⟩
     have hbZ : Below wp.heap.size wp Z := by rw [hZ]; exact hbY.alloc hbY.size _
     have hsz : SlK enS 1 Z (.slice (some ⟨m, 0, none⟩) 4 4) [wEdge, x.f, x.y, x.t] := by
      have h := own_lit [wEdge, x.f, x.y, x.t] #[.string wEdge, .string x.f, .string x.y, .string x.t] 4 Y rfl rfl (by decide)
      rw [← hZ, hm] at h
      exact h.read enS_len
     have HLn := hid (line_any [wEdge, x.f, x.y, x.t] _ Z hsz (fun s hs => by
      simp only [List.mem_cons, List.not_mem_nil, or_false] at hs
      rcases hs with rfl | rfl | rfl | rfl
      ·decide
      ·omega
      ·omega
      ·omega) (by simp only [List.length_cons, List.length_nil]; omega))
     obtain ⟨ln, hln⟩ : ∃ ln, joinG [wEdge, x.f, x.y, x.t] = ln := ⟨_, rfl⟩
     rw [hln] at HLn
     have HNd := hid (show linkLines V x = ln :: partLinesV V (linkE x) [wTrait, x.f, x.y, x.t] from by unfold linkLines; rw [hln])
     have hEz : Blk Z i 36 #[.string x.f, .string x.t, .string x.y] := by rw [hZ]; exact hEy.alloc _
     have c0 : Y.cell? ⟨i, 0, none⟩ = some (.string x.f) := (Blk.cell hEy 0).trans rfl
     have c1 : Y.cell? ⟨i, 1, none⟩ = some (.string x.t) := (Blk.cell hEy 1).trans rfl
     have c2' : Y.cell? ⟨i, 2, none⟩ = some (.string x.y) := (Blk.cell hEy 2).trans rfl
     have HEz := hid hEz
     rw [hZ, ← hm] at HLn
     have HTr := hid (show [wTrait, x.f, x.y, x.t].length ≤ 4 ∧ ∀ s ∈ [wTrait, x.f, x.y, x.t], s.size ≤ 1000 from ⟨by simp only [List.length_cons, List.length_nil]; omega, fun s hs => by
      simp only [List.mem_cons, List.not_mem_nil, or_false] at hs
      rcases hs with rfl | rfl | rfl | rfl
      ·decide
      ·omega
      ·omega
      ·omega⟩)
     have HBZ := hid (hbw.trans (hbZ.mono hq1w))
     have HLz := hid (ho.keep hbZ)
     have HKz := hid (hko.keep hbZ)
     have HQz := hid (Nat.le_trans hq1w hbZ.size)
     have HLe2 := hid hlen
     have HI := hid hi
     have HM := hid hm
     have HYe := hid hY
     have HZe := hid hZ
     have HAe := hid hA2
     have hz := (zero_of_info infoKz).1
     have hw := IntWalk.i64_in ((k : Int) + 1) (by have := HN2l.out; omega)
     have hjm : ¬ 9223372036854775807 < k + 1 := by have := HN2l.out; omega
     have HJ1 := hid hjm
     have HW1 := hid hw
     clear hw hjm hY hZ hi hm hbY hbZ hce hx ho hko hbw hq1w hxs hlen hls hEy hEz hsz hln
     rw [← hA2]
     clear hA2
     go_upto_region 12 with (first
      | (refine wpList_val (o := ⟨some 41, _, _, _, _, _⟩) rfl (.pointer (some ⟨g, k * 3, none⟩)) wp (run_indexAddr_op rfl rfl rfl HAt.out) ?_)
      | (refine wpList_load_midif rfl 36 (.tmp 41) rfl g (k * 3) rfl [.string x.f, .string x.t, .string x.y] _ HCe.out Tryz.underlying36 rfl (by kernel_rfl) ?_)
      | fail)
     clear hz
     rw [HI.out, ← HYe.out]
     go_wp2_with fail
     refine HLn.out.mono ?_
     rintro e W4 ⟨rfl, hb4⟩
     rw [← HZe.out] at hb4
     obtain ⟨Z4, hZ4⟩ : ∃ Z4, Z4 = W4.alloc (.cells #[.string ln] 9) := ⟨_, rfl⟩
     have hbz4 : Below W4.heap.size W4 Z4 := by rw [hZ4]; exact (Below.refl _ _).alloc (Nat.le_refl _) _
     have hq4 : q1 ≤ Z4.heap.size := Nat.le_trans HQz.out (Nat.le_trans hb4.size hbz4.size)
     obtain ⟨v3, w5, hrun5, ho5, hb5, hg5⟩ := own_app2 (ty := 32) apS ((HLz.out.keep hb4).keep hbz4) hq4 (by rw [hZ4]; exact sl_S ln W4) (by have h1 := HLe2.out; simp only [List.length_cons, List.length_nil]; omega) (by have h1 := HLe2.out; simp only [List.length_cons, List.length_nil]; omega)
     have hk5 := ((HKz.out.keep hb4).keep hbz4).grown ne_KS ((HLz.out.keep hb4).keep hbz4) hg5
     have hneB : u3.ownBlock ≠ some i := fun e => by
      obtain ⟨_, cs, hb⟩ := own_blkS HLz.out e
      have h1 := HEz.out
      unfold Blk at hb h1
      rw [hb] at h1
      cases h1
     obtain ⟨m4, hm4⟩ : ∃ m4, W4.heap.size = m4 := ⟨_, rfl⟩
     rw [hm4] at hrun5
     have HEX := hid (show Blk w5 i 36 #[.string x.f, .string x.t, .string x.y] from (hg5.block i (Nat.lt_of_lt_of_le HEz.out.lt (Nat.le_trans hb4.size hbz4.size)) fun e => hneB e.symm).trans ((HEz.out.below hb4 HEz.out.lt).below hbz4 (Nat.lt_of_lt_of_le HEz.out.lt hb4.size)))
     have HRun5 := hid hrun5
     have HZ4 := hid hZ4
     have HM4 := hid hm4
     have HL3 := hid ho5
     have HK3 := hid hk5
     have HB3 := hid (show Below q1 W1 w5 from HBZ.out.trans ((hb4.mono HQz.out).trans ((hbz4.mono (Nat.le_trans HQz.out hb4.size)).trans hb5)))
     have HqX := hid (Nat.le_trans hq4 hb5.size)
     have HL2n := hid (show (ls ++ [ln]).length ≤ 2002001 by have h1 := HLe2.out; simp only [List.length_append, List.length_cons, List.length_nil]; omega)
     have HPn := hid (partLines_len HTx.out (linkE x) [wTrait, x.f, x.y, x.t])
     clear hZ4 hbz4 hq4 hrun5 ho5 hb5 hg5 hk5 hneB hm4 hb4 HLn HLz HKz HBZ HEz c0 c1 c2'
     go_upto_region 13 with (first
      | (at_builtin; rw [← HZ4.out, HM4.out]; refine Lib.wpList_append_run (o := ⟨some 53, _, _, _, _, _⟩) _ rfl _ _ _ _ rfl _ _ rfl rfl _ _ HRun5.out ?_)
      | fail)
     clear HRun5 HZ4 HM4
     obtain ⟨X, rfl⟩ : ∃ X, X = w5 := ⟨_, rfl⟩
     obtain ⟨ls2, hls2⟩ : ∃ ls2, ls ++ [ln] = ls2 := ⟨_, rfl⟩
     rw [hls2] at HL3 HL2n
     have HFn2 := hid (show ls0 ++ (V.links.take (k + 1)).flatMap (linkLines V) = ls2 ++ partLinesV V (linkE x) [wTrait, x.f, x.y, x.t] by rw [HFn.out, HNd.out, ← hls2, List.append_assoc]; rfl)
     have HVX := hid (fun W (h : Below X.heap.size X W) => HVw.out W (HB1.out.trans ((HB3.out.mono Hqq.out).trans (h.mono (Nat.le_trans Hqq.out HqX.out)))))
     have HWX := hid (fun W (h : Below X.heap.size X W) => HWw.out W (HB1.out.trans ((HB3.out.mono Hqq.out).trans (h.mono (Nat.le_trans Hqq.out HqX.out)))))
     clear hls2 HFn HNd
     refine wp_region_any (by kernel_rfl) ?_
     refine Lt.wpAny_mid (fun iq uq wq => if iq = 10 then SlK enS 1 wq uq [wTrait, x.f, x.y, x.t] else if iq = 11 then OwnK enS X.heap.size 9 1 wq uq (partLinesV V (linkE x) [wTrait, x.f, x.y, x.t]) else uq = ([v3, .pointer (some ⟨vb, 0, none⟩), .agg #[.string x.f, .string x.t, .string x.y], eE (linkE x), .pointer (some ⟨i, 0, none⟩), .string x.f, .pointer (some ⟨i, 2, none⟩), .string x.y, .pointer (some ⟨i, 1, none⟩), .string x.t, undef, undef, undef, undef] : List Value).getD iq undef) _ X 12 _ _ (fun v W => OwnK enS q1 9 1 W v (ls2 ++ partLinesV V (linkE x) [wTrait, x.f, x.y, x.t]) ∧ OwnK enK q 36 3 W (.slice A2 n2 c2) V.links ∧ Below q1 W1 W) (by kernel_rfl) rfl rfl (by kernel_rfl) (by kernel_rfl) (by kernel_rfl) (by kernel_rfl) (by kernel_rfl) (fun i v w w' hb h => by
       by_cases h10 : i = 10
       ·rw [if_pos h10] at h ⊢; exact SlK.below h hb
       rw [if_neg h10] at h ⊢
       by_cases h11 : i = 11
       ·rw [if_pos h11] at h ⊢; exact OwnK.keep h hb
       rw [if_neg h11] at h ⊢
       exact h) ?_ ?_ ?_ ?_
     ·refine ⟨?_, ?_, ?_, ?_, ?_, ?_, ?_, ?_, ?_, ?_, ?_, ?_, fun h => absurd h (Nat.lt_irrefl _), fun h => absurd h (by decide), trivial⟩
      ·intro _ a W hI hun haft hi
       have e3 := hun 3 (by kernel_rfl)
       exact b_same hi hI rfl _ (run_move_op rfl e3) rfl
      ·intro _ a W hI hun haft hi
       have e0 := hun 0 (by kernel_rfl)
       exact b_same hi hI rfl _ (run_move_op rfl e0) rfl
      ·intro _ a W hI hun haft hi
       have ke := HEX.out.below hI HEX.out.lt
       have e8 := hun 8 (by kernel_rfl)
       exact b_same hi hI rfl _ (run_load_op rfl e8 (ke) Tryz.underlying36 rfl (by kernel_rfl)) rfl
      ·intro _ a W hI hun haft hi
       have ke := HEX.out.below hI HEX.out.lt
       have f2 : a.eval (.tmp 56) = .agg #[.string x.f, .string x.t, .string x.y] := haft ⟨2, .data⟩ (by simp) rfl _ _ rfl rfl
       refine b_call hi hI rfl _ _ (run_call_op (args := #[.agg #[.string x.f, .string x.t, .string x.y]]) rfl (by simp [f2]) (by kernel_rfl)) ?_
       exact (elemP_any x W).mono fun e w' H => ⟨_, H.1, rfl, H.2⟩
      ·intro _ a W hI hun haft hi
       have e8 := hun 8 (by kernel_rfl)
       exact b_same hi hI rfl _ (run_fieldAddr_any rfl e8 (at_link0 _ 0 _)) rfl
      ·intro _ a W hI hun haft hi
       have ke := HEX.out.below hI HEX.out.lt
       have f4 : a.eval (.tmp 58) = .pointer (some ⟨i, 0, none⟩) := haft ⟨4, .data⟩ (by simp) rfl _ _ rfl rfl
       exact b_same hi hI rfl _ (run_loadstr_op rfl f4 Tryz.underlying9 ((Blk.cell ke 0).trans rfl)) rfl
      ·intro _ a W hI hun haft hi
       have e8 := hun 8 (by kernel_rfl)
       exact b_same hi hI rfl _ (run_fieldAddr_any rfl e8 (at_link2 _ 0 _)) rfl
      ·intro _ a W hI hun haft hi
       have ke := HEX.out.below hI HEX.out.lt
       have f6 : a.eval (.tmp 60) = .pointer (some ⟨i, 2, none⟩) := haft ⟨6, .data⟩ (by simp) rfl _ _ rfl rfl
       exact b_same hi hI rfl _ (run_loadstr_op rfl f6 Tryz.underlying9 ((Blk.cell ke 2).trans rfl)) rfl
      ·intro _ a W hI hun haft hi
       have e8 := hun 8 (by kernel_rfl)
       exact b_same hi hI rfl _ (run_fieldAddr_any rfl e8 (at_link1 _ 0 _)) rfl
      ·intro _ a W hI hun haft hi
       have ke := HEX.out.below hI HEX.out.lt
       have f8 : a.eval (.tmp 62) = .pointer (some ⟨i, 1, none⟩) := haft ⟨8, .data⟩ (by simp) rfl _ _ rfl rfl
       exact b_same hi hI rfl _ (run_loadstr_op rfl f8 Tryz.underlying9 ((Blk.cell ke 1).trans rfl)) rfl
      ·intro _ a W hI hun haft hi
       have f5 : a.eval (.tmp 59) = .string x.f := haft ⟨5, .data⟩ (by simp) rfl _ _ rfl rfl
       have f7 : a.eval (.tmp 61) = .string x.y := haft ⟨7, .data⟩ (by simp) rfl _ _ rfl rfl
       have f9 : a.eval (.tmp 63) = .string x.t := haft ⟨9, .data⟩ (by simp) rfl _ _ rfl rfl
       exact b_val hi hI rfl _ _ (run_buildSlice_op (vs := #[(0, .string wTrait), (1, .string x.f), (2, .string x.y), (3, .string x.t)]) rfl (by simp only [List.map_toArray, List.map_cons, List.map_nil, f5, f7, f9] <;> rfl) (bs_S4 _ _ _ _ W)) ((Below.refl _ _).alloc (Nat.le_refl _) _) ((own_lit [wTrait, x.f, x.y, x.t] #[.string wTrait, .string x.f, .string x.y, .string x.t] 4 W rfl rfl (by decide)).read enS_len)
      ·intro _ a W hI hun haft hi
       have f1 : a.eval (.tmp 55) = .pointer (some ⟨vb, 0, none⟩) := haft ⟨1, .data⟩ (by simp) rfl _ _ rfl rfl
       have f3 : a.eval (.tmp 57) = eE (linkE x) := haft ⟨3, .data⟩ (by simp) rfl _ _ rfl rfl
       have f10 : SlK enS 1 W (a.eval (.tmp 64)) [wTrait, x.f, x.y, x.t] := haft ⟨10, .data⟩ (by simp) rfl _ _ rfl rfl
       refine b_call hi hI rfl _ _ (run_call_op (args := #[.pointer (some ⟨vb, 0, none⟩), eE (linkE x), a.eval (.tmp 64)]) rfl (by simp [f1, f3]) (by kernel_rfl)) ?_
       exact (partLines_any (linkE x) _ [wTrait, x.f, x.y, x.t] W (HVX.out W hI) HTx.out f10 HTr.out (HWX.out W hI)).mono fun e w' H => by
        obtain ⟨u, e1, h1, h2⟩ := H
        exact ⟨u, e1, h1.base_ hI.size, h2⟩
     ·intro a W hI haft
      have f0 : a.eval (.tmp 54) = v3 := haft ⟨0, .data⟩ (by simp) rfl _ _ rfl rfl
      have f11 : OwnK enS X.heap.size 9 1 W (a.eval (.tmp 65)) (partLinesV V (linkE x) [wTrait, x.f, x.y, x.t]) := haft ⟨11, .data⟩ (by simp) rfl _ _ rfl rfl
      have hq1 := Nat.le_trans HqX.out hI.size
      obtain ⟨v', w', hrun, ho', hb', hg'⟩ := own_app2 (ty := 32) apS (HL3.out.keep hI) hq1 (f11.read enS_len) (by have h1 := HL2n.out; have h2 := HPn.out; omega) (by have h1 := HL2n.out; have h2 := HPn.out; omega)
      exact wpOp_val rfl rfl v' w' (run_append_op rfl f0 rfl hrun) ⟨_, rfl, ho', (HK3.out.keep hI).grown ne_KS (HL3.out.keep hI) hg', (HB3.out.trans (hI.mono HqX.out)).trans hb'⟩
     ·intro v a W hv
      have f12 : a.eval (.tmp 66) = v := hv 66 rfl
      exact wpOp_val rfl rfl v W (run_assign_op rfl f12) ⟨rfl, rfl⟩
     ·rintro vals W ⟨k1, k2, k3⟩ hv13
      have HK1 := hid k1
      have HK2 := hid k2
      have HK4 := hid k3
      clear k1 k2 k3
      simp only [layN, layS, List.range, List.range.loop, if_true, Act.put, Nat.zero_add, Nat.reduceAdd, hv13]
      obtain ⟨u3, hu3⟩ : ∃ u3, vals 12 = u3 := ⟨_, rfl⟩
      rw [hu3] at HK1 ⊢
      clear hv13 hu3
      have hw := HW1.out
      have hjm := HJ1.out
      go_wp2
      go_roundw
      case rel => exact ⟨k + 1, by go_num, by omega, by rw [HFn2.out]; exact HK1.out, HK2.out, HK4.out⟩
      case measure => simp [intOf] <;> omega
    ·have hkn : n2 = k := by omega
     subst hkn
     have htk : V.links.take n2 = V.links := by rw [← HN2.out, List.take_length]
     rw [htk] at ho
     have HO := hid ho
     have HB' := hid hbw
     clear ho hko hbw htk hlt hk
     go_wp2_with fail
     go_ret
     exact ⟨_, rfl, by rw [HQ.out, HLs0.out]; exact HO.out.base_ Hqq.out, by rw [HQ.out]; exact HB1.out.trans (HB'.out.mono Hqq.out)⟩
end Go.Proofs.YtdgglhlofnigkaaGreatDoor
