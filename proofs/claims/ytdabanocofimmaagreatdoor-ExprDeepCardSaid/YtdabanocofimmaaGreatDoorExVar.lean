/-
  expr.Vars: the contract, by a walk. Conditions: lengths; the world holds the library's tables (WOk).
-/
import Derived.Test.YtdabanocofimmaaGreatDoorJExDep
namespace Go.Proofs.YtdabanocofimmaaGreatDoor
open Go.RowKit

/-- A row of marks in a block of the call's own. -/
def UsedIs (w : World) (g : Nat) (u : List Bool) : Prop := ∃ cs, Blk w g 4 cs ∧ ∀ (j : Nat) (x : Bool), u[j]? = some x → cs[j]? = some (.bool x)
theorem UsedIs.at_ {w : World} {g : Nat} {u : List Bool} (h : UsedIs w g u) {j : Nat} {x : Bool} (hj : u[j]? = some x) : w.cell? ⟨g, j, none⟩ = some (.bool x) ∧ w.frozen? ⟨g, j, none⟩ = false := by
  obtain ⟨cs, h1, h2⟩ := h
  exact ⟨(Blk.cell h1 j).trans (h2 j x hj), Blk.free h1 j⟩
theorem UsedIs.lt {w : World} {g : Nat} {u : List Bool} (h : UsedIs w g u) : g < w.heap.size := by
  obtain ⟨cs, h1, _⟩ := h
  exact h1.lt
theorem UsedIs.keep {w w' : World} {g : Nat} {u : List Bool} (h : UsedIs w g u) (hb : w'.heap[g]? = w.heap[g]?) : UsedIs w' g u := by
  obtain ⟨cs, h1, h2⟩ := h
  exact ⟨cs, hb.trans h1, h2⟩
theorem UsedIs.set {w : World} {g : Nat} {u : List Bool} (h : UsedIs w g u) (j : Nat) : UsedIs (w.setCell ⟨g, j, none⟩ (.bool true)) g (u.set j true) := by
  obtain ⟨cs, h1, h2⟩ := h
  refine ⟨_, h1.set_ j _, fun i x hi => ?_⟩
  rw [List.getElem?_set] at hi
  by_cases hij : j = i
  · subst hij
    rw [if_pos rfl] at hi
    split at hi
    · rename_i hlt
      cases hi
      obtain ⟨y, hy⟩ : ∃ y, u[j]? = some y := ⟨_, List.getElem?_eq_getElem hlt⟩
      have := (Array.getElem?_eq_some_iff.1 (h2 j y hy)).1
      exact Array.getElem?_setIfInBounds_self_of_lt this
    · cases hi
  · rw [if_neg hij] at hi
    rw [Array.getElem?_setIfInBounds_ne hij]
    exact h2 i x hi
theorem infoBA : (Tryz.prog.info? 4).map (fun i => (i.zero, i.size, i.bytes)) = some (some (.bool false), 1, 1) := by kernel_rfl
theorem make_b (w : World) (n : Nat) (hn : n ≤ 1000000) (h0 : 0 < n) : ∃ w', (Instr.makeSlice 56 (.int .i64 (n : Int)) (.int .i64 (n : Int))).run Tryz.prog w = .ok (.slice (some ⟨w.heap.size, 0, none⟩) n n) w' ∧ UsedIs w' w.heap.size (List.replicate n false) ∧ Below w.heap.size w w' := by
  obtain ⟨i, hi, hz0, hz1, hz2⟩ := info_parts infoBA
  obtain ⟨w', hr, ho, hg⟩ := run_makeSlice_full (P := Tryz.prog) (w := w) w.heap.size 56 4 i _ 1 Tryz.underlying56 hi hz0 hz1 .i64 .i64 n (by omega) (by rw [hz2]; omega) (by unfold maxLen; omega) (Nat.le_refl _)
  refine ⟨w', hr, ?_, ⟨hg.os, hg.tape, hg.output, hg.size, fun k hk => hg.block k hk (by simp)⟩⟩
  rw [show (madeCells (Value.bool false).cells (n * 1)).toList = List.replicate n (Value.bool false) by rw [Nat.mul_one]; exact toList_madeCells_one _ _] at ho
  obtain ⟨_, ⟨_, h⟩ | ⟨g, cap, cur, e1, e2, e3, e4, e5, e6, e7⟩⟩ := ho
  · omega
  · injection e1 with e1
    injection e1 with e1
    injection e1 with e1
    refine ⟨cur, by rw [e1]; exact e3, fun j x hj => ?_⟩
    rw [List.getElem?_replicate] at hj
    split at hj
    · rename_i hjn
      cases hj
      rw [← Array.getElem?_toList]
      have : (cur.toList.take (n * 1))[j]? = some (Value.bool false) := by rw [e7, List.getElem?_replicate, if_pos hjn]
      rw [List.getElem?_take, if_pos (by omega)] at this
      exact this
    · cases hj
theorem OwnK.base {α : Type} {enc : α → List Value} {R R2 : Nat} {e : TypeId} {k : Nat} {w : World} {v : Value} {l : List α} (h : OwnK enc R e k w v l) (hR : R2 ≤ R) : OwnK enc R2 e k w v l := by
  obtain ⟨h1, h2 | ⟨g, cap, cur, e1, e2, e3⟩⟩ := h
  · exact ⟨h1, .inl h2⟩
  · exact ⟨h1, .inr ⟨g, cap, cur, e1, Nat.le_trans hR e2, e3⟩⟩
theorem at_B (g m k : Nat) (h : k < m) (w : World) : (Instr.indexAt 56 (.slice (some ⟨g, 0, none⟩) m m) (.int .i64 (k : Int))).run Tryz.prog w = .ok (.pointer (some ⟨g, k, none⟩)) w := by
  have h2 : (k : Int) < m := by omega
  go_simp
/-- Marks of sides; a place of the row gone through; all places, from the last on. -/
def markL (u : List Bool) (L : List Int) : List Bool := L.foldl (fun u s => u.set s.toNat true) u
theorem markL_len (L : List Int) : ∀ u : List Bool, (markL u L).length = u.length := by
  induction L with
  | nil => exact fun _ => rfl
  | cons s L ih => exact fun u => (ih (u.set s.toNat true)).trans (List.length_set ..)
def runV (row : List Ex.X) : Nat → List Bool → List (List UInt8) → List (List UInt8)
  | 0, _, ns => ns
  | a + 1, u, ns => if u.getD a false = true then runV row a (markL u (sidesL (row.getD a zEx))) (if (row.getD a zEx).v = [] then ns else ns ++ [(row.getD a zEx).v]) else runV row a u ns
def varsL (row : List Ex.X) (i : Int) : List (List UInt8) := if hasB row i = true then Lib.compact (sortY (runV row (i.toNat + 1) ((List.replicate (i.toNat + 1) false).set i.toNat true) [])) else []
def atI : Nat → Int
  | 0 => -1
  | a + 1 => a
theorem atI_sub (a : Nat) : atI a = (a : Int) - 1 := by
  cases a with
  | zero => rfl
  | succ a => show (a : Int) = ((a + 1 : Nat) : Int) - 1; omega
theorem neq_str (l : List UInt8) (w : World) : (binOp .neq 9 (.string ⟨l.toArray⟩) (.string ⟨#[]⟩)).run Tryz.prog w = .ok (.bool (decide (l ≠ []))) w := by
  cases l with
  | nil => go_simp
  | cons x l => go_simp

set_option maxRecDepth 100000 in
set_option maxHeartbeats 3000000 in
theorem xvars_any (row : List Ex.X) (i : Int) (v : Value) (w : World) (hw : WOk w) (hs : SlK encX 8 w v row) (hsm : ∀ e ∈ row, XSm e) (hn : row.length ≤ 100000) :
    Calls Tryz.prog 12 #[v, .int .i64 i] w fun e w' => ∃ u, e = .returned u ∧ OwnK encY w.heap.size 9 1 w' u (varsL row i) ∧ Below w.heap.size w w' := by
  have HH := Lib.hid (xhas_any row i v w hw hs hsm (by omega))
  cases hq : hasB row i
  · have hd : varsL row i = [] := if_neg (by rw [hq]; decide)
    rw [hd]
    rw [hq] at HH
    clear hw hs hsm hn hq hd
    go_enter Tryz.func12, Tryz.ntmps12
    go_wp2_with fail
    refine HH.out.mono ?_
    rintro _ w1 ⟨rfl, hb1⟩
    have HB1 := Lib.hid hb1
    clear hb1
    go_wp2_with fail
    go_ret
    exact ⟨_, rfl, OwnK.nil_ _ _ _ _ _, HB1.out⟩
  obtain ⟨NS, hNS⟩ : ∃ NS, runV row (i.toNat + 1) ((List.replicate (i.toNat + 1) false).set i.toNat true) [] = NS := ⟨_, rfl⟩
  have hd : varsL row i = Lib.compact (sortY NS) := by rw [← hNS]; exact if_pos hq
  rw [hd]
  rw [hq] at HH
  unfold hasB at hq
  simp only [Bool.and_eq_true, decide_eq_true_eq] at hq
  obtain ⟨⟨h0, h1⟩, h2⟩ := hq
  obtain ⟨i, rfl⟩ := Int.eq_ofNat_of_zero_le h0
  rw [Int.toNat_natCast] at hNS
  obtain ⟨A, c0, rfl, _, _⟩ := id hs
  obtain ⟨n, hnn⟩ : ∃ n, row.length = n := ⟨_, rfl⟩
  obtain ⟨m, hm⟩ : ∃ m, i + 1 = m := ⟨_, rfl⟩
  rw [hnn] at hs HH ⊢
  rw [hm] at hNS
  have HNn := Lib.hid hnn
  have HM := Lib.hid (show i + 1 = m ∧ m ≤ n ∧ n ≤ 100000 by omega)
  have HS := Lib.hid hs
  have HNS := Lib.hid hNS
  have HRt := Lib.hid (show ∀ (j : Nat) (e : Ex.X), row[j]? = some e → ∀ s ∈ sidesL e, 0 ≤ s ∧ s < j from fun j e he s hs => by
    have hr := (rowB_iff row 0).1 h2 j e he
    rw [Nat.zero_add] at hr
    unfold rightX at hr
    have := List.all_eq_true.1 (Bool.and_eq_true_iff.1 hr).1 s hs
    unfold sideOk at this
    simpa using this)
  have HAdd := Lib.hid (fun W => show (binOp .add 3 (.int .i64 (i : Int)) (.int .i64 1)).run Tryz.prog W = .ok (.int .i64 (m : Int)) W by
    have hs : IntKind.i64.wrap ((i : Int) + 1) = (m : Int) := by rw [IntKind.wrap_i64]; omega
    go_simp)
  have HMk := Lib.hid (fun W => make_b W m (by omega) (by omega))
  clear hw hs hsm hn h0 h1 h2 hNS hd hnn hm
  go_enter Tryz.func12, Tryz.ntmps12
  go_wp2_with fail
  refine HH.out.mono ?_
  rintro _ w1 ⟨rfl, hb1⟩
  have HB1 := Lib.hid hb1
  obtain ⟨w2, hmk, hu, hb2⟩ := HMk.out w1
  obtain ⟨g, hg⟩ : ∃ g, w1.heap.size = g := ⟨_, rfl⟩
  rw [hg] at hmk hu
  have HMk2 := Lib.hid hmk
  have HU := Lib.hid hu
  have HB2 := Lib.hid (show Below w.heap.size w w2 from hb1.trans (hb2.mono hb1.size))
  have HG := Lib.hid (show w.heap.size ≤ g ∧ g < w2.heap.size from ⟨by rw [← hg]; exact hb1.size, hu.lt⟩)
  have him : i < m := by have := HM.out; omega
  have hu0 : (List.replicate m false)[i]? = some false := by rw [List.getElem?_replicate, if_pos him]
  obtain ⟨d0, d1⟩ := hu.at_ hu0
  have HAt0 := Lib.hid (at_B g m i him w2)
  obtain ⟨X, hX⟩ : ∃ X, X = w2.setCell ⟨g, i, none⟩ (.bool true) := ⟨_, rfl⟩
  have HX := Lib.hid hX
  have HUX := Lib.hid (show UsedIs X g ((List.replicate m false).set i true) by rw [hX]; exact hu.set i)
  have HBX := Lib.hid (show Below w.heap.size w X by rw [hX]; exact HB2.out.setCell (p := ⟨g, i, none⟩) HG.out.1 _)
  obtain ⟨R, hR⟩ : ∃ R, w2.heap.size = R := ⟨_, rfl⟩
  have HR := Lib.hid (show g < R ∧ R = X.heap.size by rw [← hR, hX]; exact ⟨HG.out.2, by simp⟩)
  have HRb := Lib.hid (show w.heap.size ≤ R by have h1 := HG.out; have h2 := HR.out; omega)
  clear hb1 hmk hu hb2 hg hX hR him hu0 HH HMk
  go_upto_region 5 with (first
    | (refine wpList_val (o := ⟨some 15, _, _, _, _, _⟩) rfl (.int .i64 (m : Int)) w1 (run_bin_op rfl rfl rfl (by kernel_rfl) (HAdd.out w1)) ?_)
    | (refine wpList_val (o := ⟨some 16, _, _, _, _, _⟩) rfl (.slice (some ⟨g, 0, none⟩) m m) w2 (run_makeZ_op rfl rfl rfl HMk2.out) ?_)
    | fail)
  go_upto_region 6 with (first
    | (refine wpList_val (o := ⟨some 19, _, _, _, _, _⟩) rfl (.pointer (some ⟨g, i, none⟩)) w2 (run_indexAddr_op rfl rfl rfl HAt0.out) ?_)
    | fail)
  rw [← HX.out]
  clear d0 d1 HAt0
  go_wp2_with fail
  go_loopw [5, 7] (fun v5 v7 wr => ∃ (c : Nat) (u : List Bool) (ns : List (List UInt8)), v7 = .int .i64 (atI c) ∧ c ≤ m ∧ UsedIs wr g u ∧ u.length = m ∧ OwnK encY R 9 1 wr v5 ns ∧ ns.length + c ≤ m ∧ Below w.heap.size w wr ∧ R ≤ wr.heap.size ∧ runV row c u ns = NS) (fun _ v7 _ => (intOf v7 + 1).toNat)
  case atStart =>
    refine ⟨m, _, [], ?_, Nat.le_refl _, HUX.out, by rw [List.length_set, List.length_replicate], OwnK.nil_ _ _ _ _ _, by simp, HBX.out, by rw [HR.out.2]; exact Nat.le_refl _, HNS.out⟩
    rw [← HM.out.1]
    rfl
  case round =>
    obtain ⟨wo, rfl⟩ : ∃ wo, wo = wr := ⟨_, rfl⟩
    obtain ⟨c, u, ns, rfl, hc, hu, hul, ho, hns, hb, hRw, hrun⟩ := hrel
    have HUo := Lib.hid hu
    have HO := Lib.hid ho
    have HBo := Lib.hid hb
    have HRw := Lib.hid hRw
    have HRun := Lib.hid hrun
    have HNs := Lib.hid hns
    have HUl := Lib.hid hul
    obtain ⟨A5, c5, rfl, _, _⟩ := ho.read encY_len
    obtain ⟨n5, hn5⟩ : ∃ n, ns.length = n := ⟨_, rfl⟩
    rw [hn5] at HO HNs ⊢
    have HN5 := Lib.hid hn5
    clear hu ho hb hRw hrun hul hns
    cases c with
    | zero =>
      have hnsNS : ns = NS := HRun.out
      have HLn := Lib.hid (show NS.length ≤ 1000000 by rw [← hnsNS, hn5]; have := HM.out; have := HNs.out; omega)
      rw [hnsNS] at HO
      have HSo := Lib.hid (sortY_any HO.out HRw.out HLn.out)
      clear hn5 hnsNS
      go_wp2_with fail
      refine HSo.out.mono ?_
      rintro _ w3 ⟨rfl, ho3, hb3⟩
      have HC3 := Lib.hid (compactY_any ho3 (Nat.le_trans HRw.out hb3.size) (by rw [sortY_len]; exact HLn.out))
      have HB3 := Lib.hid hb3
      clear ho3 hb3
      go_wp2_with fail
      refine HC3.out.mono ?_
      rintro _ w4 ⟨u4, rfl, ho4, hb4⟩
      have HO4 := Lib.hid ho4
      have HB4 := Lib.hid hb4
      clear ho4 hb4
      go_wp2_with fail
      go_ret
      exact ⟨_, rfl, HO4.out.base HRb.out, (HBo.out.trans (HB3.out.mono HRb.out)).trans (HB4.out.mono HRb.out)⟩
    | succ a =>
      rw [show atI (a + 1) = (a : Int) from rfl]
      have ham : a < m := by omega
      have HNx := Lib.hid (show a < m ∧ a + 1 ≤ m from ⟨ham, hc⟩)
      obtain ⟨ub, hub⟩ : ∃ x, u[a]? = some x := ⟨_, List.getElem?_eq_getElem (by rw [HUl.out]; exact ham)⟩
      obtain ⟨d0, d1⟩ := HUo.out.at_ hub
      have HAtA := Lib.hid (at_B g m a ham wo)
      have HSub := Lib.hid (fun W => show (binOp .sub 3 (.int .i64 (a : Int)) (.int .i64 1)).run Tryz.prog W = .ok (.int .i64 (atI a)) W by
        rw [atI_sub]
        have hs := IntWalk.i64_in ((a : Int) - 1) (by have := HM.out; omega)
        go_simp)
      have HIs := Lib.hid (show intOf (.int .i64 (atI a)) = (a : Int) - 1 from atI_sub a)
      cases ub
      · have HRn := Lib.hid (show runV row a u ns = NS by
          have := HRun.out
          unfold runV at this
          rwa [if_neg (by rw [List.getD_eq_getElem?_getD, hub]; decide)] at this)
        clear hub ham hc hn5 HRun
        have hnx := HNx.out
        go_wp2_with (first
          | (refine wpList_val (o := ⟨some 27, _, _, _, _, _⟩) rfl (.pointer (some ⟨g, a, none⟩)) wo (run_indexAddr_op rfl rfl rfl HAtA.out) ?_)
          | (refine wpList_val (o := ⟨some 24, _, _, _, _, _⟩) rfl (.int .i64 (atI a)) wo (run_bin_op rfl rfl rfl (by kernel_rfl) (HSub.out wo)) ?_)
          | fail)
        go_roundw
        case rel => exact ⟨a, u, ns, rfl, by omega, HUo.out, HUl.out, HO.out, by have h1 := HNs.out; have h2 := HN5.out; omega, HBo.out, HRw.out, HRn.out⟩
        case measure =>
          show (intOf (.int .i64 (atI a)) + 1).toNat < (intOf (.int .i64 (a : Int)) + 1).toNat
          rw [HIs.out]
          show (((a : Int) - 1) + 1).toNat < ((a : Int) + 1).toNat
          omega
      · obtain ⟨e, he⟩ : ∃ e, row[a]? = some e := ⟨_, List.getElem?_eq_getElem (by rw [HNn.out]; have := HM.out; omega)⟩
        have HRn := Lib.hid (show runV row a (markL u (sidesL e)) (if e.v = [] then ns else ns ++ [e.v]) = NS by
          have := HRun.out
          unfold runV at this
          rw [if_pos (by rw [List.getD_eq_getElem?_getD, hub]; rfl)] at this
          rwa [show row.getD a zEx = e by rw [List.getD_eq_getElem?_getD, he]; rfl] at this)
        obtain ⟨g1, o1, hA, hg1, hrg⟩ := HS.out.x_at he
        have HAt := Lib.hid (fun W => at_X A g1 o1 c0 n a hA (by have := HM.out; omega) W)
        have HRg := Lib.hid (range_keepT hrg hg1 HBo.out)
        have HRg0 := Lib.hid (And.intro hrg hg1)
        have HSd := Lib.hid (sides_any e wo)
        obtain ⟨L, hL⟩ : ∃ L, sidesL e = L := ⟨_, rfl⟩
        have HL := Lib.hid hL
        have HLs := Lib.hid (show ∀ s ∈ L, 0 ≤ s ∧ s < a by rw [← hL]; exact HRt.out a e he)
        have HL2 := Lib.hid (show L.length ≤ 2 by
          rw [← hL]
          unfold sidesL
          split
          · exact Nat.le_succ _
          · split
            · exact Nat.le_refl _
            · exact Nat.zero_le _)
        rw [hL] at HRn
        obtain ⟨k, vk, vn, vt, vv, pp, l, r⟩ := e
        dsimp only at HRn
        unfold exV exC at HSd
        dsimp only at HSd
        clear hub he hA hg1 hrg hL ham hc hn5 HRun
        go_wp2_with (first
          | (refine wpList_val (o := ⟨some 27, _, _, _, _, _⟩) rfl (.pointer (some ⟨g, a, none⟩)) wo (run_indexAddr_op rfl rfl rfl HAtA.out) ?_)
          | (refine wpList_val (o := ⟨some 32, _, _, _, _, _⟩) rfl (.pointer (some ⟨g1, o1 + a * 8, none⟩)) wo (run_indexAddr_op rfl rfl rfl (HAt.out wo)) ?_)
          | (refine wpList_val (o := ⟨some 33, _, _, _, _, _⟩) rfl (.agg #[.int .i64 k, .int .i64 vk, .int .i64 vn, .string ⟨vt.toArray⟩, .string ⟨vv.toArray⟩, .string ⟨pp.toArray⟩, .int .i64 l, .int .i64 r]) wo (run_loadmidT_op rfl rfl HRg.out Tryz.underlying49 rfl (by kernel_rfl)) ?_)
          | fail)
        refine HSd.out.mono ?_
        rintro _ w3 ⟨v34, rfl, hsl, hb3, hoff⟩
        rw [HL.out] at hsl
        obtain ⟨A3, c3, rfl, _, _⟩ := id hsl
        obtain ⟨nL, hnL⟩ : ∃ n, L.length = n := ⟨_, rfl⟩
        have HNL := Lib.hid hnL
        rw [hnL] at hsl hoff HL2 ⊢
        have HSl := Lib.hid hsl
        have HOff := Lib.hid hoff
        have HB3 := Lib.hid hb3
        have HB3w := Lib.hid (HBo.out.trans (hb3.mono HBo.out.size))
        have HU3 := Lib.hid (HUo.out.keep (hb3.block g HUo.out.lt))
        have HO3 := Lib.hid (HO.out.keep hb3)
        have HGo := Lib.hid HUo.out.lt
        clear hsl hoff hb3 hnL HSd d0 d1
        go_wp2_with fail
        go_loopw [36] (fun v36 wr => ∃ j : Nat, v36 = .int .i64 j ∧ j ≤ nL ∧ UsedIs wr g (markL u (L.take j)) ∧ But g w3 wr) (fun v36 _ => nL - (intOf v36).toNat)
        case atStart => exact ⟨0, rfl, Nat.zero_le _, HU3.out, But.refl _ _⟩
        case round =>
          obtain ⟨j, rfl, hj, hu, hbt⟩ := hrel
          have HUr := Lib.hid hu
          have HBt := Lib.hid hbt
          have HBr := Lib.hid (HB3w.out.trans (hbt.below HG.out.1 HB3w.out.size))
          have hl2 := HL2.out
          clear hu hbt
          by_cases hlt : j < nL
          · have hlt2 : (j : Int) < nL := by omega
            obtain ⟨z, hz⟩ : ∃ z, L[j]? = some z := ⟨_, List.getElem?_eq_getElem (by rw [HNL.out]; exact hlt)⟩
            have hsr : SlK encZ 1 wr (.slice A3 nL c3) L := HSl.out.kept HBt.out.size fun b o n' c' h => HBt.out.block b (by
              obtain ⟨A', c', h1, _, hx⟩ := HSl.out
              obtain ⟨b', o', h3, h4, _⟩ := hx (by rintro rfl; cases hz)
              rw [h] at h1
              injection h1 with h1 _ _
              rw [h3] at h1
              injection h1 with h1
              injection h1 with h1
              rw [h1]; exact h4) (fun hb => by
              have := HOff.out b o none n' c' h
              have h5 := HGo.out
              injection hb with hb
              omega)
            obtain ⟨g2, o2, hA, hg2, hcz⟩ := hsr.int_at hz
            have HAtz := Lib.hid (at_Z A3 g2 o2 c3 nL j hA hlt wr)
            obtain ⟨hz0, hz1⟩ := HLs.out z (List.mem_of_getElem? hz)
            obtain ⟨q, rfl⟩ := Int.eq_ofNat_of_zero_le hz0
            have hqm : q < m := by have := HNx.out; omega
            have HAtq := Lib.hid (at_B g m q hqm wr)
            obtain ⟨y, hy⟩ : ∃ y, (markL u (L.take j))[q]? = some y := ⟨_, List.getElem?_eq_getElem (by rw [markL_len, HUl.out]; exact hqm)⟩
            obtain ⟨d0, d1⟩ := HUr.out.at_ hy
            have HNxt := Lib.hid (show UsedIs (wr.setCell ⟨g, q, none⟩ (.bool true)) g (markL u (L.take (j + 1))) by
              have := HUr.out.set q
              rw [List.take_add_one, hz]
              unfold markL at this ⊢
              rw [List.foldl_append]
              exact this)
            have HBn := Lib.hid (HBt.out.trans (But.setCell wr g q (.bool true)))
            clear hz hsr hA hg2 hz0 hz1 hqm hy hj
            go_wp2_with (first
              | (refine wpList_val (o := ⟨some 38, _, _, _, _, _⟩) rfl (.pointer (some ⟨g2, o2 + j, none⟩)) wr (run_indexAddr_op rfl rfl rfl HAtz.out) ?_)
              | (refine wpList_val (o := ⟨some 42, _, _, _, _, _⟩) rfl (.pointer (some ⟨g, q, none⟩)) wr (run_indexAddr_op rfl rfl rfl HAtq.out) ?_)
              | fail)
            refine ⟨⟨j + 1, by go_num, by omega, HNxt.out, HBn.out⟩, ?_⟩
            simp [intOf] <;> omega
          · have HUe := Lib.hid (show UsedIs wr g (markL u L) by
              have := HUr.out
              rwa [List.take_of_length_le (by rw [HNL.out]; omega)] at this)
            have HOr := Lib.hid (show OwnK encY R 9 1 wr (.slice A5 n5 c5) ns from HO3.out.same fun g' hg' => HBt.out.block g' (HO3.out.lt g' hg').2 (fun hb => by
              have h1 := (HO3.out.lt g' hg').1
              have h2 := HR.out
              injection hb with hb
              omega))
            have HRr := Lib.hid (show R ≤ wr.heap.size from Nat.le_trans HRw.out (Nat.le_trans HB3.out.size HBt.out.size))
            have hrr := range_keepT HRg0.out.1 HRg0.out.2 HBr.out
            have c4 : wr.cell? ⟨g1, o1 + a * 8 + 4, none⟩ = some (.string ⟨vv.toArray⟩) := hrr 4 _ rfl
            have HNe := Lib.hid (neq_str vv wr)
            clear hrr hj HUr HSl HOff
            by_cases hv : vv = []
            · rw [decide_eq_false (fun h => h hv)] at HNe
              rw [if_pos hv] at HRn
              clear hv
              have hnx := HNx.out
              go_wp2_with (first
                | (refine wpList_val (o := ⟨some 46, _, _, _, _, _⟩) rfl (.pointer (some ⟨g1, o1 + a * 8, none⟩)) wr (run_indexAddr_op rfl rfl rfl (HAt.out wr)) ?_)
                | (refine wpList_val (o := ⟨some 49, _, _, _, _, _⟩) rfl (.bool false) wr (run_bin_op rfl rfl rfl (by kernel_rfl) HNe.out) ?_)
                | (refine wpList_val (o := ⟨some 24, _, _, _, _, _⟩) rfl (.int .i64 (atI a)) wr (run_bin_op rfl rfl rfl (by kernel_rfl) (HSub.out wr)) ?_)
                | fail)
              go_roundw
              case rel => exact ⟨a, _, ns, rfl, by omega, HUe.out, by rw [markL_len]; exact HUl.out, HOr.out, by have h1 := HNs.out; have h2 := HN5.out; omega, HBr.out, HRr.out, HRn.out⟩
              case measure =>
                show (intOf (.int .i64 (atI a)) + 1).toNat < (intOf (.int .i64 (a : Int)) + 1).toNat
                rw [HIs.out]
                show (((a : Int) - 1) + 1).toNat < ((a : Int) + 1).toNat
                omega
            · rw [decide_eq_true hv] at HNe
              rw [if_neg hv] at HRn
              have hbY : Below wr.heap.size wr (wr.alloc (.cells #[.string ⟨vv.toArray⟩] 9)) := (Below.refl _ _).alloc (Nat.le_refl _) _
              obtain ⟨v6, w6, hr6, ho6, hg6, hl6⟩ := append_y R (wr.alloc (.cells #[.string ⟨vv.toArray⟩] 9)) _ _ (HOr.out.keep hbY) _ [vv] (⟨_, _, rfl, Nat.le_refl _, fun _ => ⟨wr.heap.size, 0, rfl, by simp, fun q y hq => by
                have hq0 : q = 0 := by have := (List.getElem?_eq_some_iff.1 hq).1; simp at this; exact this
                subst hq0
                have hy : y = vv := by simpa using hq.symm
                subst hy
                intro i u hu
                rw [Blk.cell (Blk.new wr _ _)]
                simpa [encY] using hu⟩⟩ : SlK encY 1 _ (.slice (some ⟨wr.heap.size, 0, none⟩) 1 1) [vv]) (by
                  have h1 := HNs.out
                  have h2 := HN5.out
                  have h3 := HM.out
                  rw [List.length_singleton]
                  omega) (Nat.le_trans HRr.out hbY.size)
              have HA := Lib.hid hr6
              have HO6 := Lib.hid ho6
              have HU6 := Lib.hid (HUe.out.keep ((hg6.block g (Nat.lt_of_lt_of_le HUe.out.lt hbY.size) (fun hb => by
                have h1 := (HOr.out.lt g hb.symm).1
                have h2 := HR.out
                omega)).trans (hbY.block g HUe.out.lt)))
              have HB6 := Lib.hid (show Below w.heap.size w w6 from (HBr.out.trans (hbY.mono HBr.out.size)).trans ((Below.refl _ _).grown hg6 (Nat.le_trans HBr.out.size hbY.size) fun k hk => Nat.le_trans HRb.out (HOr.out.lt k hk).1))
              have HR6 := Lib.hid (show R ≤ w6.heap.size from Nat.le_trans HRr.out (Nat.le_trans hbY.size hg6.size))
              clear hbY hr6 ho6 hg6 hl6 hv
              have hnx := HNx.out
              go_wp2_with (first
                | (refine wpList_val (o := ⟨some 46, _, _, _, _, _⟩) rfl (.pointer (some ⟨g1, o1 + a * 8, none⟩)) wr (run_indexAddr_op rfl rfl rfl (HAt.out wr)) ?_)
                | (refine wpList_val (o := ⟨some 53, _, _, _, _, _⟩) rfl (.pointer (some ⟨g1, o1 + a * 8, none⟩)) wr (run_indexAddr_op rfl rfl rfl (HAt.out wr)) ?_)
                | (refine wpList_val (o := ⟨some 49, _, _, _, _, _⟩) rfl (.bool true) wr (run_bin_op rfl rfl rfl (by kernel_rfl) HNe.out) ?_)
                | (at_builtin; refine Lib.wpList_append_run (o := ⟨some 57, _, _, _, _, _⟩) _ rfl _ _ _ _ rfl _ _ rfl rfl _ _ HA.out ?_)
                | (refine wpList_val (o := ⟨some 24, _, _, _, _, _⟩) rfl (.int .i64 (atI a)) w6 (run_bin_op rfl rfl rfl (by kernel_rfl) (HSub.out w6)) ?_)
                | fail)
              go_roundw
              case rel => exact ⟨a, _, _, rfl, by omega, HU6.out, by rw [markL_len]; exact HUl.out, HO6.out, by have h1 := HNs.out; have h2 := HN5.out; rw [List.length_append, List.length_singleton]; omega, HB6.out, HR6.out, HRn.out⟩
              case measure =>
                show (intOf (.int .i64 (atI a)) + 1).toNat < (intOf (.int .i64 (a : Int)) + 1).toNat
                rw [HIs.out]
                show (((a : Int) - 1) + 1).toNat < ((a : Int) + 1).toNat
                omega

end Go.Proofs.YtdabanocofimmaaGreatDoor
