/-
  snap.rightItems: whether a row of items may be a snapshot's: the contract, by a walk. Conditions: lengths.
-/
import Derived.Test.YtejljikikhecnaaGreatSnItemR
namespace Go.Proofs.YtejljikikhecnaaGreat
open Go.RowKit Go.MapKept Go.Sort

/-- A slice of items, and their entries. -/
def ItsIs (w : World) (v : Value) (I : List (El × List (Dt × Va))) : Prop :=
  ∃ L : List (El × Value), SlK enI 6 w v L ∧ L.length = I.length ∧ ∀ (i : Nat) (y : El × Value) (q : El × List (Dt × Va)), L[i]? = some y → I[i]? = some q → y.1 = q.1 ∧ ∃ A c, y.2 = .slice A q.2.length c ∧ SlK enN 5 w (.slice A q.2.length c) q.2
theorem ItsIs.below {w w' : World} {v : Value} {I : List (El × List (Dt × Va))} (h : ItsIs w v I) (hb : Below w.heap.size w w') : ItsIs w' v I := by
  obtain ⟨L, h1, h2, h3⟩ := h
  refine ⟨L, h1.below hb, h2, fun i y q hy hq => ?_⟩
  obtain ⟨e, A, c, e2, hs⟩ := h3 i y q hy hq
  exact ⟨e, A, c, e2, hs.below hb⟩
theorem ItsIs.form {w : World} {v : Value} {I : List (El × List (Dt × Va))} (h : ItsIs w v I) : ∃ A c, v = .slice A I.length c := by
  obtain ⟨L, ⟨A, c, hv, _⟩, h2, _⟩ := h
  exact ⟨A, c, by rw [hv, h2]⟩
/-- One of the items. -/
theorem ItsIs.at_ {w : World} {A : Option Addr} {N c j : Nat} {I : List (El × List (Dt × Va))} {q : El × List (Dt × Va)} (h : ItsIs w (.slice A N c) I) (hj : I[j]? = some q) :
    ∃ (A2 : Option Addr) (c2 : Nat) (g o : Nat), A = some ⟨g, o, none⟩ ∧ g < w.heap.size ∧ w.rangeAt g (o + j * 6) (enI (q.1, .slice A2 q.2.length c2)) ∧ SlK enN 5 w (.slice A2 q.2.length c2) q.2 := by
  obtain ⟨L, h1, h2, h3⟩ := h
  have hl : j < L.length := by rw [h2]; exact (List.getElem?_eq_some_iff.1 hj).1
  obtain ⟨e, A2, c2, e2, hs⟩ := h3 j L[j] q (List.getElem?_eq_getElem hl) hj
  obtain ⟨g, o, hA, hg, hr⟩ := h1.at_ (List.getElem?_eq_getElem hl)
  have he : L[j] = (q.1, .slice A2 q.2.length c2) := by
    rw [← e, ← e2]
  rw [he] at hr
  exact ⟨A2, c2, g, o, hA, hg, hr, hs⟩
theorem range_el {w : World} {g o : Nat} {y : El × Value} (h : w.rangeAt g o (enI y)) : w.rangeAt g o (enL y.1) := fun i u hu => h i u (by
  have hi : i < 5 := (List.getElem?_eq_some_iff.1 hu).1
  show (enL y.1 ++ [y.2])[i]? = some u
  rw [List.getElem?_append_left (by exact hi)]
  exact hu)
/-- May the item of that number stand there? -/
def okI (f : Nat → Int) (I : List (El × List (Dt × Va))) (j : Nat) : Bool :=
  match I[j]? with
  | none => true
  | some q => (match j with
    | 0 => true
    | k + 1 => match I[k]? with
      | none => true
      | some r => !decide (0 ≤ cfE r.1 q.1)) && itemB f q.1 q.2
def itsB (f : Nat → Int) (I : List (El × List (Dt × Va))) : Bool := (List.range I.length).all (okI f I)
theorem itsB_no {f : Nat → Int} {I : List (El × List (Dt × Va))} {j : Nat} (hj : j < I.length) (h : okI f I j = false) : itsB f I = false := by
  unfold itsB
  exact List.all_eq_false.2 ⟨j, List.mem_range.2 hj, by simp [h]⟩
theorem itsB_yes {f : Nat → Int} {I : List (El × List (Dt × Va))} (h : ∀ k, k < I.length → okI f I k = true) : itsB f I = true := by
  unfold itsB
  rw [List.all_eq_true]
  exact fun k hk => h k (List.mem_range.1 hk)
theorem sub1 (k : Nat) (h : k + 1 ≤ 1000000) (w : World) : (binOp .sub 3 (.int .i64 ((k + 1 : Nat) : Int)) (.int .i64 1)).run Tryz.prog w = .ok (.int .i64 k) w := by
  have e : (((k + 1 : Nat) : Int) - 1) = (k : Int) := by omega
  have hi := IntWalk.i64_in (k : Int) (by omega)
  go_simp
theorem ge0 (c : Int) (b : Bool) (h : decide (0 ≤ c) = b) (w : World) : (binOp .geq 3 (.int .i64 c) (.int .i64 0)).run Tryz.prog w = .ok (.bool b) w := by
  subst h
  go_simp
theorem order_is (x y : El) (w : World) : Calls Tryz.prog 53 #[eE x, eE y] w (Gives w (.int .i64 (cfE x y))) :=
  (order_any x y w).mono fun _ _ h => ⟨h.1, h.2.below⟩
theorem item_is (f : Nat → Int) (x : El) (l : List (Dt × Va)) (A : Option Addr) (N c : Nat) (b : Bool) (hb : itemB f x l = b) (w : World) (hs : SlK enN 5 w (.slice A N c) l) (hN : l.length = N) (hN2 : N ≤ 10000) (hx : LenE x) (hl : ∀ q ∈ l, q.2.t.size ≤ 140737488355328) (hw : CutOk w) :
    Calls Tryz.prog 65 #[.agg (vA f), .agg #[.int .i64 x.k, .string x.a, .string x.b, .string x.c, .string x.d, .slice A N c]] w (Gives w (.bool b)) := by subst hb; exact rightItem_any f x l A N c w hs hN hN2 hx hl hw
/-- What of items is not too long. -/
def ItFits (q : El × List (Dt × Va)) : Prop := LenE q.1 ∧ q.2.length ≤ 10000 ∧ ∀ r ∈ q.2, r.2.t.size ≤ 4294967280

set_option maxRecDepth 100000 in
set_option maxHeartbeats 6000000 in
theorem rightItems_any (f : Nat → Int) (I : List (El × List (Dt × Va))) (A : Option Addr) (N c : Nat) (w : World) (hs : ItsIs w (.slice A N c) I) (hN : I.length = N) (hN2 : N ≤ 10000) (hx : ∀ q ∈ I, ItFits q) (hw : CutOk w) :
    Calls Tryz.prog 32 #[.agg (vA f), .slice A N c] w (Gives w (.bool (itsB f I))) := by
  obtain ⟨p, hp⟩ : ∃ p, w.heap.size = p := ⟨_, rfl⟩
  obtain ⟨X, hX⟩ : ∃ X, X = w.alloc (.cells (vA f) 23) := ⟨_, rfl⟩
  have hbX : Below w.heap.size w X := by rw [hX]; exact (Below.refl _ _).alloc (Nat.le_refl _) _
  have HM := Lib.hid (show VB X p f by rw [hX, ← hp]; exact VB.new_ f rfl)
  have HI := Lib.hid (hs.below hbX)
  have HX := Lib.hid hX
  have HB := Lib.hid hbX
  have HP := Lib.hid hp
  have HN := Lib.hid hN
  have HN2 := Lib.hid hN2
  have HFt := Lib.hid hx
  have HW := Lib.hid (hw.below hbX)
  have HZe := Lib.hid (zero_of_info zeroI).1
  obtain ⟨bb, hbb⟩ : ∃ bb, itsB f I = bb := ⟨_, rfl⟩
  have HBB := Lib.hid hbb
  rw [hbb]
  have hbig : decide ((100000 : Int) < (N : Int)) = false := decide_eq_false (by omega)
  clear hX hbX hp hs hN hN2 hx hw hbb
  go_enter Tryz.func32, Tryz.ntmps32
  go_upto_region 1 with fail
  rw [← HX.out, HP.out]
  go_wp2_with fail
  clear hbig
  go_loopw [12] (fun v12 wr => ∃ j : Nat, v12 = .int .i64 j ∧ j ≤ N ∧ (∀ k, k < j → okI f I k = true) ∧ Below X.heap.size X wr) (fun v12 _ => N - (intOf v12).toNat)
  case atStart => exact ⟨0, rfl, Nat.zero_le _, fun k hk => absurd hk (Nat.not_lt_zero _), Below.refl _ _⟩
  case round =>
    obtain ⟨j, rfl, hj, hall, hb⟩ := hrel
    obtain ⟨wi, rfl⟩ : ∃ wi, wi = wr := ⟨_, rfl⟩
    have HAll := Lib.hid hall
    have HBi := Lib.hid hb
    clear hall
    by_cases hlt : j < N
    case neg =>
      have hjN : N = j := by omega
      subst hjN
      have HY : Hid (bb = true) := Lib.hid (HBB.out.symm.trans (itsB_yes fun k hk => HAll.out k (by rw [← HN.out]; exact hk)))
      clear hb hj hlt
      go_wp2
      go_ret
      exact ⟨by rw [HY.out]; rfl, HB.out.trans (HBi.out.mono HB.out.size)⟩
    obtain ⟨q, hq⟩ : ∃ q, I[j]? = some q := ⟨I[j]'(by rw [HN.out]; exact hlt), List.getElem?_eq_getElem _⟩
    obtain ⟨A2, c2, g, o, rfl, hgl, hce, hsl⟩ := (HI.out.below hb).at_ hq
    obtain ⟨x, l⟩ := q
    dsimp only at hce hsl
    obtain ⟨n2, hn2⟩ : ∃ n2, l.length = n2 := ⟨_, rfl⟩
    rw [hn2] at hce hsl
    have hft := HFt.out (x, l) (List.mem_of_getElem? hq)
    have HQ := Lib.hid hq
    have HFq := Lib.hid hft
    have HNq := Lib.hid hn2
    have HCe := Lib.hid hce
    have HLg := Lib.hid hgl
    have HAt := Lib.hid (at_It g o c N j hlt wi)
    have HLt := Lib.hid hlt
    have HAl := Lib.hid fun c => World.setRow_alloc_new wi (cI zI) c 61
    have HZz := Lib.hid (show Blk (wi.alloc (.cells (cI zI) 61)) wi.heap.size 61 (cI zI) from Blk.new _ _ _)
    obtain ⟨Y, hY⟩ : ∃ Y, Y = wi.alloc (.cells (cI (x, .slice A2 n2 c2)) 61) := ⟨_, rfl⟩
    have hbY : Below wi.heap.size wi Y := by rw [hY]; exact (Below.refl _ _).alloc (Nat.le_refl _) _
    have HBY := Lib.hid (show Blk Y wi.heap.size 61 (cI (x, .slice A2 n2 c2)) by rw [hY]; exact Blk.new _ _ _)
    have HYe := Lib.hid hY
    have HbY := Lib.hid (show Below X.heap.size X Y from hb.trans (hbY.mono hb.size))
    have HSl := Lib.hid (hsl.below hbY)
    have HW1 := Lib.hid (IntWalk.i64_in ((j : Int) + 1) (by have := HN2.out; omega))
    have HJ1 := Lib.hid (show ¬ 9223372036854775807 < j + 1 by have := HN2.out; omega)
    clear hq hn2 hgl hce hY hbY hb hsl hft
    have hz := HZe.out
    go_upto_region 6 with (first
      | (refine wpList_val (o := ⟨some 15, _, _, _, _, _⟩) rfl (.pointer (some ⟨g, o + j * 6, none⟩)) wi (run_indexAddr_op rfl rfl rfl HAt.out) ?_)
      | (refine' wpList_load_midif ?q1 61 (.tmp 15) ?q2 g (o + j * 6) ?q3 (enI (x, .slice A2 n2 c2)) _ ?q4 Tryz.underlying61 ?q5 ?q6 ?_; (case q2 => rfl); (case q1 => rfl); (case q3 => rfl); (case q4 => exact HCe.out); (case q5 => rfl); (case q6 => exact (sizeIi (x, .slice A2 n2 c2))))
      | (refine wpList_store_row (o := ⟨none, _, _, _, _, _⟩) rfl 61 (.tmp 6) (.tmp 16) rfl wi.heap.size (cI (x, .slice A2 n2 c2)) rfl rfl _ _ HZz.out (sizeIi _) rfl (by simp [cI, Value.oneCell']) ?_; rw [HAl.out, ← HYe.out])
      | fail)
    clear hz HZz HAl HYe HAt HCe
    obtain ⟨b6, hb6⟩ : ∃ b6, wi.heap.size = b6 := ⟨_, rfl⟩
    rw [hb6] at HBY ⊢
    clear hb6
    try simp only [Act.put]
    obtain ⟨bi, hbi⟩ : ∃ bi, itemB f x l = bi := ⟨_, rfl⟩
    have HBi2 := Lib.hid hbi
    have HIt := Lib.hid (fun W hs hw => item_is f x l A2 n2 c2 bi hbi W hs HNq.out (by have h1 : l.length ≤ 10000 := HFq.out.2.1; have := HNq.out; omega) HFq.out.1 (fun r hr => by have := HFq.out.2.2 r hr; omega) hw)
    clear hbi
    rcases j with _ | k
    · skip
      have HOk := Lib.hid (show okI f I 0 = (true && itemB f x l) by unfold okI; rw [HQ.out])
      refine wp_region_any (by kernel_rfl) ?_
      refine wpAny_below (fun i v _ => v = ([.int .i64 ((0 : Nat) : Int), .bool false, .bool false, undef, undef, undef, undef, undef, undef, undef, undef, undef, undef, .bool false] : List Value).getD i undef) _ Y (by kernel_rfl) (by kernel_rfl) (by kernel_rfl) (fun i v w w' _ h => h) ?_ ?_
      · refine ⟨?_, ?_, ?_, ?_, ?_, ?_, ?_, ?_, ?_, ?_, ?_, ?_, ?_, ?_, trivial⟩
        · intro a W hI hun haft hi
          have e5 : a.eval (.tmp 5) = .int .i64 ((0 : Nat) : Int) := hun 5 (by kernel_rfl)
          exact b_same hi hI rfl _ (run_move_op rfl e5) rfl
        · intro a W hI hun haft hi
          have f0 : a.eval (.tmp 17) = .int .i64 ((0 : Nat) : Int) := haft ⟨0, .data⟩ (by simp) rfl _ _ rfl rfl
          exact b_same hi hI rfl (.bool false) (run_bin_op rfl f0 rfl (by kernel_rfl) (gt0_no 0 rfl W)) rfl
        · intro a W hI hun haft hi
          have f1 : a.eval (.tmp 18) = .bool false := haft ⟨1, .data⟩ (by simp) rfl _ _ rfl rfl
          exact b_same hi hI rfl _ (run_move_op rfl f1) rfl
        · intro a W hI hun haft hi
          have fg : a.eval (.tmp 19) = .bool false := haft ⟨2, .guard⟩ (by simp) rfl _ _ rfl rfl
          exact b_skip hi hI (guard_no rfl rfl rfl (.inl fg)) rfl
        · intro a W hI hun haft hi
          have fg : a.eval (.tmp 19) = .bool false := haft ⟨2, .guard⟩ (by simp) rfl _ _ rfl rfl
          exact b_skip hi hI (guard_no rfl rfl rfl (.inl fg)) rfl
        · intro a W hI hun haft hi
          have fg : a.eval (.tmp 19) = .bool false := haft ⟨2, .guard⟩ (by simp) rfl _ _ rfl rfl
          exact b_skip hi hI (guard_no rfl rfl rfl (.inl fg)) rfl
        · intro a W hI hun haft hi
          have fg : a.eval (.tmp 19) = .bool false := haft ⟨2, .guard⟩ (by simp) rfl _ _ rfl rfl
          exact b_skip hi hI (guard_no rfl rfl rfl (.inl fg)) rfl
        · intro a W hI hun haft hi
          have fg : a.eval (.tmp 19) = .bool false := haft ⟨2, .guard⟩ (by simp) rfl _ _ rfl rfl
          exact b_skip hi hI (guard_no rfl rfl rfl (.inl fg)) rfl
        · intro a W hI hun haft hi
          have fg : a.eval (.tmp 19) = .bool false := haft ⟨2, .guard⟩ (by simp) rfl _ _ rfl rfl
          exact b_skip hi hI (guard_no rfl rfl rfl (.inl fg)) rfl
        · intro a W hI hun haft hi
          have fg : a.eval (.tmp 19) = .bool false := haft ⟨2, .guard⟩ (by simp) rfl _ _ rfl rfl
          exact b_skip hi hI (guard_no rfl rfl rfl (.inl fg)) rfl
        · intro a W hI hun haft hi
          have fg : a.eval (.tmp 19) = .bool false := haft ⟨2, .guard⟩ (by simp) rfl _ _ rfl rfl
          exact b_skip hi hI (guard_no rfl rfl rfl (.inl fg)) rfl
        · intro a W hI hun haft hi
          have fg : a.eval (.tmp 19) = .bool false := haft ⟨2, .guard⟩ (by simp) rfl _ _ rfl rfl
          exact b_skip hi hI (guard_no rfl rfl rfl (.inl fg)) rfl
        · intro a W hI hun haft hi
          have fg : a.eval (.tmp 19) = .bool false := haft ⟨2, .guard⟩ (by simp) rfl _ _ rfl rfl
          exact b_skip hi hI (guard_no rfl rfl rfl (.inl fg)) rfl
        · intro a W hI hun haft hi
          have f2 : a.eval (.tmp 19) = .bool false := haft ⟨2, .data⟩ (by simp) rfl _ _ rfl rfl
          exact b_same hi hI rfl (.bool false) (run_pick_op (b := false) rfl f2 rfl rfl) rfl
      · intro vals W hI hp
        have hl13 : vals 13 = .bool false := hp 13 (by decide)
        have HJ := Lib.hid hI
        clear hp hI
        simp only [layN, List.size_toArray, List.length_cons, List.length_nil, List.range, List.range.loop, if_true, List.getElem?_toArray, List.getElem?_cons_zero, List.getElem?_cons_succ, Act.put, List.setIfInBounds_toArray, List.set_cons_zero, List.set_cons_succ, Nat.zero_add, Nat.reduceAdd, hl13]
        clear hl13
        generalize W = W6 at *
        have HKW := Lib.hid (Blk.below HBY.out HJ.out (Blk.lt HBY.out))
        have HSW := Lib.hid (HSl.out.below HJ.out)
        have HbW := Lib.hid (HbY.out.trans (HJ.out.mono HbY.out.size))
        have HMW := Lib.hid (Blk.below HM.out HbW.out (Blk.lt HM.out))
        go_wp2_with (first
          | (refine wpList_load_if rfl 23 (.tmp 2) rfl p rfl _ _ _ _ HMW.out Tryz.underlying23 rfl (by kernel_rfl) ?_)
          | (refine wpList_load_if rfl 61 (.tmp 6) rfl b6 rfl _ _ _ _ HKW.out Tryz.underlying61 rfl (sizeIi _) ?_)
          | fail)
        refine (HIt.out _ HSW.out (HW.out.below HbW.out)).mono ?_
        rintro e' w9 ⟨rfl, hb9⟩
        have HB9 := Lib.hid (HbW.out.trans (hb9.mono HbW.out.size))
        clear hb9 HMW HKW HSW
        cases bi
        · have HF : Hid (bb = false) := Lib.hid (HBB.out.symm.trans (itsB_no (f := f) (I := I) (j := 0) (by rw [HN.out]; exact HLt.out) (by rw [HOk.out, HBi2.out]; simp)))
          go_wp2
          go_ret
          exact ⟨by rw [HF.out]; rfl, HB.out.trans (HB9.out.mono HB.out.size)⟩
        · have HT := Lib.hid (show okI f I (0) = true by rw [HOk.out, HBi2.out]; rfl)
          have hw := HW1.out
          have hjm := HJ1.out
          have hlt := HLt.out
          go_wp2
          go_roundw
          case rel => exact ⟨0 + 1, by go_num, HLt.out, fun k hk => by
            rcases Nat.lt_succ_iff_lt_or_eq.1 hk with h | h
            · exact HAll.out k h
            · rw [h]; exact HT.out, HB9.out⟩
          case measure => simp [intOf] <;> omega
    · skip
      obtain ⟨r, hr⟩ : ∃ r, I[k]? = some r := ⟨I[k]'(by rw [HN.out]; have := HLt.out; omega), List.getElem?_eq_getElem _⟩
      have HOk := Lib.hid (show okI f I (k + 1) = (!decide (0 ≤ cfE r.1 x) && itemB f x l) by unfold okI; rw [HQ.out]; dsimp only; rw [hr])
      obtain ⟨A3, c3, g', o', hA', hgl', hce', _⟩ := (HI.out.below HbY.out).at_ hr
      have hgo : g' = g ∧ o' = o := by
        injection hA' with hA'
        injection hA' with e1 e2 _
        exact ⟨e1.symm, e2.symm⟩
      obtain ⟨rfl, rfl⟩ := hgo
      have HRe := Lib.hid (range_el hce')
      have HLg2 := Lib.hid hgl'
      have HKn := Lib.hid (show k < N by have := HLt.out; omega)
      clear hr hA' hgl' hce'
      cases hcf : decide (0 ≤ cfE r.1 x)
      case false =>
        have HCf := Lib.hid hcf
        clear hcf
        refine wp_region_any (by kernel_rfl) ?_
        refine wpAny_below (fun i v _ => v = ([.int .i64 ((k + 1 : Nat) : Int), .bool true, .bool true, .slice (some ⟨g', o', none⟩) N c, .int .i64 ((k + 1 : Nat) : Int), .int .i64 k, .pointer (some ⟨g', o' + k * 6, none⟩), .pointer (some ⟨g', o' + k * 6, none⟩), eE r.1, .pointer (some ⟨b6, 0, none⟩), eE x, .int .i64 (cfE r.1 x), .bool false, .bool false] : List Value).getD i undef) _ Y (by kernel_rfl) (by kernel_rfl) (by kernel_rfl) (fun i v w w' _ h => h) ?_ ?_
        · refine ⟨?_, ?_, ?_, ?_, ?_, ?_, ?_, ?_, ?_, ?_, ?_, ?_, ?_, ?_, trivial⟩
          · intro a W hI hun haft hi
            have e5 : a.eval (.tmp 5) = .int .i64 ((k + 1 : Nat) : Int) := hun 5 (by kernel_rfl)
            exact b_same hi hI rfl _ (run_move_op rfl e5) rfl
          · intro a W hI hun haft hi
            have f0 : a.eval (.tmp 17) = .int .i64 ((k + 1 : Nat) : Int) := haft ⟨0, .data⟩ (by simp) rfl _ _ rfl rfl
            exact b_same hi hI rfl (.bool true) (run_bin_op rfl f0 rfl (by kernel_rfl) (gt0_yes (k + 1) (Nat.succ_pos k) W)) rfl
          · intro a W hI hun haft hi
            have f1 : a.eval (.tmp 18) = .bool true := haft ⟨1, .data⟩ (by simp) rfl _ _ rfl rfl
            exact b_same hi hI rfl _ (run_move_op rfl f1) rfl
          · intro a W hI hun haft hi
            have fg : a.eval (.tmp 19) = .bool true := haft ⟨2, .guard⟩ (by simp) rfl _ _ rfl rfl
            have e1 : a.eval (.tmp 1) = .slice (some ⟨g', o', none⟩) N c := hun 1 (by kernel_rfl)
            exact b_same hi hI (guard_ok rfl rfl rfl fg) _ (run_move_op rfl e1) rfl
          · intro a W hI hun haft hi
            have fg : a.eval (.tmp 19) = .bool true := haft ⟨2, .guard⟩ (by simp) rfl _ _ rfl rfl
            have e5 : a.eval (.tmp 5) = .int .i64 ((k + 1 : Nat) : Int) := hun 5 (by kernel_rfl)
            exact b_same hi hI (guard_ok rfl rfl rfl fg) _ (run_move_op rfl e5) rfl
          · intro a W hI hun haft hi
            have fg : a.eval (.tmp 19) = .bool true := haft ⟨2, .guard⟩ (by simp) rfl _ _ rfl rfl
            have f4 : a.eval (.tmp 21) = .int .i64 ((k + 1 : Nat) : Int) := haft ⟨4, .data⟩ (by simp) rfl _ _ rfl rfl
            exact b_same hi hI (guard_ok rfl rfl rfl fg) (.int .i64 k) (run_bin_op rfl f4 rfl (by kernel_rfl) (sub1 k (by have := HKn.out; have := HN2.out; omega) W)) rfl
          · intro a W hI hun haft hi
            have fg : a.eval (.tmp 19) = .bool true := haft ⟨2, .guard⟩ (by simp) rfl _ _ rfl rfl
            have f3 : a.eval (.tmp 20) = .slice (some ⟨g', o', none⟩) N c := haft ⟨3, .data⟩ (by simp) rfl _ _ rfl rfl
            have f5 : a.eval (.tmp 22) = .int .i64 k := haft ⟨5, .data⟩ (by simp) rfl _ _ rfl rfl
            exact b_same hi hI (guard_ok rfl rfl rfl fg) _ (run_indexAddr_op rfl f3 f5 (at_It g' o' c N k HKn.out _)) rfl
          · intro a W hI hun haft hi
            have fg : a.eval (.tmp 19) = .bool true := haft ⟨2, .guard⟩ (by simp) rfl _ _ rfl rfl
            have f6 : a.eval (.tmp 23) = .pointer (some ⟨g', o' + k * 6, none⟩) := haft ⟨6, .data⟩ (by simp) rfl _ _ rfl rfl
            exact b_same hi hI (guard_ok rfl rfl rfl fg) _ (run_fieldAddr_any rfl f6 (at_item0 g' (o' + k * 6) W)) rfl
          · intro a W hI hun haft hi
            have fg : a.eval (.tmp 19) = .bool true := haft ⟨2, .guard⟩ (by simp) rfl _ _ rfl rfl
            have f7 : a.eval (.tmp 24) = .pointer (some ⟨g', o' + k * 6, none⟩) := haft ⟨7, .data⟩ (by simp) rfl _ _ rfl rfl
            exact b_same hi hI (guard_ok rfl rfl rfl fg) _ (run_loadmid_op rfl f7 (rangeAt_same HRe.out (hI.block g' HLg2.out)) Tryz.underlying45 rfl (by kernel_rfl)) rfl
          · intro a W hI hun haft hi
            have fg : a.eval (.tmp 19) = .bool true := haft ⟨2, .guard⟩ (by simp) rfl _ _ rfl rfl
            have e6 : a.eval (.tmp 6) = .pointer (some ⟨b6, 0, none⟩) := hun 6 (by kernel_rfl)
            exact b_same hi hI (guard_ok rfl rfl rfl fg) _ (run_fieldAddr_any rfl e6 (at_item0 b6 0 W)) rfl
          · intro a W hI hun haft hi
            have fg : a.eval (.tmp 19) = .bool true := haft ⟨2, .guard⟩ (by simp) rfl _ _ rfl rfl
            have f9 : a.eval (.tmp 26) = .pointer (some ⟨b6, 0, none⟩) := haft ⟨9, .data⟩ (by simp) rfl _ _ rfl rfl
            exact b_same hi hI (guard_ok rfl rfl rfl fg) _ (run_loadmid_op rfl f9 (rangeAt_same (World.rangeAt_of_block (C := cI (x, .slice A2 n2 c2)) HBY.out 0 5) (hI.block b6 (Blk.lt HBY.out))) Tryz.underlying45 rfl (by kernel_rfl)) rfl
          · intro a W hI hun haft hi
            have fg : a.eval (.tmp 19) = .bool true := haft ⟨2, .guard⟩ (by simp) rfl _ _ rfl rfl
            have f8 : a.eval (.tmp 25) = eE r.1 := haft ⟨8, .data⟩ (by simp) rfl _ _ rfl rfl
            have f10 : a.eval (.tmp 27) = eE x := haft ⟨10, .data⟩ (by simp) rfl _ _ rfl rfl
            refine b_call hi hI (guard_ok rfl rfl rfl fg) _ _ (run_call_op (args := #[eE r.1, eE x]) rfl (by simp [f8, f10]) (by kernel_rfl)) ?_
            exact (order_is r.1 x W).mono fun e w' H => ⟨_, H.1, rfl, H.2⟩
          · intro a W hI hun haft hi
            have fg : a.eval (.tmp 19) = .bool true := haft ⟨2, .guard⟩ (by simp) rfl _ _ rfl rfl
            have f11 : a.eval (.tmp 28) = .int .i64 (cfE r.1 x) := haft ⟨11, .data⟩ (by simp) rfl _ _ rfl rfl
            exact b_same hi hI (guard_ok rfl rfl rfl fg) (.bool false) (run_bin_op rfl f11 rfl (by kernel_rfl) (ge0 _ _ HCf.out W)) rfl
          · intro a W hI hun haft hi
            have f2 : a.eval (.tmp 19) = .bool true := haft ⟨2, .data⟩ (by simp) rfl _ _ rfl rfl
            have f12 : a.eval (.tmp 29) = .bool false := haft ⟨12, .data⟩ (by simp) rfl _ _ rfl rfl
            exact b_same hi hI rfl (.bool false) (run_pick_op (b := true) rfl f2 f12 rfl) rfl
        · intro vals W hI hp
          have hl13 : vals 13 = .bool false := hp 13 (by decide)
          have HJ := Lib.hid hI
          clear hp hI
          simp only [layN, List.size_toArray, List.length_cons, List.length_nil, List.range, List.range.loop, if_true, List.getElem?_toArray, List.getElem?_cons_zero, List.getElem?_cons_succ, Act.put, List.setIfInBounds_toArray, List.set_cons_zero, List.set_cons_succ, Nat.zero_add, Nat.reduceAdd, hl13]
          clear hl13
          generalize W = W6 at *
          rw [HCf.out] at HOk
          have HKW := Lib.hid (Blk.below HBY.out HJ.out (Blk.lt HBY.out))
          have HSW := Lib.hid (HSl.out.below HJ.out)
          have HbW := Lib.hid (HbY.out.trans (HJ.out.mono HbY.out.size))
          have HMW := Lib.hid (Blk.below HM.out HbW.out (Blk.lt HM.out))
          go_wp2_with (first
            | (refine wpList_load_if rfl 23 (.tmp 2) rfl p rfl _ _ _ _ HMW.out Tryz.underlying23 rfl (by kernel_rfl) ?_)
            | (refine wpList_load_if rfl 61 (.tmp 6) rfl b6 rfl _ _ _ _ HKW.out Tryz.underlying61 rfl (sizeIi _) ?_)
            | fail)
          refine (HIt.out _ HSW.out (HW.out.below HbW.out)).mono ?_
          rintro e' w9 ⟨rfl, hb9⟩
          have HB9 := Lib.hid (HbW.out.trans (hb9.mono HbW.out.size))
          clear hb9 HMW HKW HSW
          cases bi
          · have HF : Hid (bb = false) := Lib.hid (HBB.out.symm.trans (itsB_no (f := f) (I := I) (j := k + 1) (by rw [HN.out]; exact HLt.out) (by rw [HOk.out, HBi2.out]; simp)))
            go_wp2
            go_ret
            exact ⟨by rw [HF.out]; rfl, HB.out.trans (HB9.out.mono HB.out.size)⟩
          · have HT := Lib.hid (show okI f I (k + 1) = true by rw [HOk.out, HBi2.out]; rfl)
            have hw := HW1.out
            have hjm := HJ1.out
            have hlt := HLt.out
            go_wp2
            go_roundw
            case rel => exact ⟨k + 1 + 1, by go_num, HLt.out, fun k hk => by
              rcases Nat.lt_succ_iff_lt_or_eq.1 hk with h | h
              · exact HAll.out k h
              · rw [h]; exact HT.out, HB9.out⟩
            case measure => simp [intOf] <;> omega
      case true =>
        have HCf := Lib.hid hcf
        clear hcf
        refine wp_region_any (by kernel_rfl) ?_
        refine wpAny_below (fun i v _ => v = ([.int .i64 ((k + 1 : Nat) : Int), .bool true, .bool true, .slice (some ⟨g', o', none⟩) N c, .int .i64 ((k + 1 : Nat) : Int), .int .i64 k, .pointer (some ⟨g', o' + k * 6, none⟩), .pointer (some ⟨g', o' + k * 6, none⟩), eE r.1, .pointer (some ⟨b6, 0, none⟩), eE x, .int .i64 (cfE r.1 x), .bool true, .bool true] : List Value).getD i undef) _ Y (by kernel_rfl) (by kernel_rfl) (by kernel_rfl) (fun i v w w' _ h => h) ?_ ?_
        · refine ⟨?_, ?_, ?_, ?_, ?_, ?_, ?_, ?_, ?_, ?_, ?_, ?_, ?_, ?_, trivial⟩
          · intro a W hI hun haft hi
            have e5 : a.eval (.tmp 5) = .int .i64 ((k + 1 : Nat) : Int) := hun 5 (by kernel_rfl)
            exact b_same hi hI rfl _ (run_move_op rfl e5) rfl
          · intro a W hI hun haft hi
            have f0 : a.eval (.tmp 17) = .int .i64 ((k + 1 : Nat) : Int) := haft ⟨0, .data⟩ (by simp) rfl _ _ rfl rfl
            exact b_same hi hI rfl (.bool true) (run_bin_op rfl f0 rfl (by kernel_rfl) (gt0_yes (k + 1) (Nat.succ_pos k) W)) rfl
          · intro a W hI hun haft hi
            have f1 : a.eval (.tmp 18) = .bool true := haft ⟨1, .data⟩ (by simp) rfl _ _ rfl rfl
            exact b_same hi hI rfl _ (run_move_op rfl f1) rfl
          · intro a W hI hun haft hi
            have fg : a.eval (.tmp 19) = .bool true := haft ⟨2, .guard⟩ (by simp) rfl _ _ rfl rfl
            have e1 : a.eval (.tmp 1) = .slice (some ⟨g', o', none⟩) N c := hun 1 (by kernel_rfl)
            exact b_same hi hI (guard_ok rfl rfl rfl fg) _ (run_move_op rfl e1) rfl
          · intro a W hI hun haft hi
            have fg : a.eval (.tmp 19) = .bool true := haft ⟨2, .guard⟩ (by simp) rfl _ _ rfl rfl
            have e5 : a.eval (.tmp 5) = .int .i64 ((k + 1 : Nat) : Int) := hun 5 (by kernel_rfl)
            exact b_same hi hI (guard_ok rfl rfl rfl fg) _ (run_move_op rfl e5) rfl
          · intro a W hI hun haft hi
            have fg : a.eval (.tmp 19) = .bool true := haft ⟨2, .guard⟩ (by simp) rfl _ _ rfl rfl
            have f4 : a.eval (.tmp 21) = .int .i64 ((k + 1 : Nat) : Int) := haft ⟨4, .data⟩ (by simp) rfl _ _ rfl rfl
            exact b_same hi hI (guard_ok rfl rfl rfl fg) (.int .i64 k) (run_bin_op rfl f4 rfl (by kernel_rfl) (sub1 k (by have := HKn.out; have := HN2.out; omega) W)) rfl
          · intro a W hI hun haft hi
            have fg : a.eval (.tmp 19) = .bool true := haft ⟨2, .guard⟩ (by simp) rfl _ _ rfl rfl
            have f3 : a.eval (.tmp 20) = .slice (some ⟨g', o', none⟩) N c := haft ⟨3, .data⟩ (by simp) rfl _ _ rfl rfl
            have f5 : a.eval (.tmp 22) = .int .i64 k := haft ⟨5, .data⟩ (by simp) rfl _ _ rfl rfl
            exact b_same hi hI (guard_ok rfl rfl rfl fg) _ (run_indexAddr_op rfl f3 f5 (at_It g' o' c N k HKn.out _)) rfl
          · intro a W hI hun haft hi
            have fg : a.eval (.tmp 19) = .bool true := haft ⟨2, .guard⟩ (by simp) rfl _ _ rfl rfl
            have f6 : a.eval (.tmp 23) = .pointer (some ⟨g', o' + k * 6, none⟩) := haft ⟨6, .data⟩ (by simp) rfl _ _ rfl rfl
            exact b_same hi hI (guard_ok rfl rfl rfl fg) _ (run_fieldAddr_any rfl f6 (at_item0 g' (o' + k * 6) W)) rfl
          · intro a W hI hun haft hi
            have fg : a.eval (.tmp 19) = .bool true := haft ⟨2, .guard⟩ (by simp) rfl _ _ rfl rfl
            have f7 : a.eval (.tmp 24) = .pointer (some ⟨g', o' + k * 6, none⟩) := haft ⟨7, .data⟩ (by simp) rfl _ _ rfl rfl
            exact b_same hi hI (guard_ok rfl rfl rfl fg) _ (run_loadmid_op rfl f7 (rangeAt_same HRe.out (hI.block g' HLg2.out)) Tryz.underlying45 rfl (by kernel_rfl)) rfl
          · intro a W hI hun haft hi
            have fg : a.eval (.tmp 19) = .bool true := haft ⟨2, .guard⟩ (by simp) rfl _ _ rfl rfl
            have e6 : a.eval (.tmp 6) = .pointer (some ⟨b6, 0, none⟩) := hun 6 (by kernel_rfl)
            exact b_same hi hI (guard_ok rfl rfl rfl fg) _ (run_fieldAddr_any rfl e6 (at_item0 b6 0 W)) rfl
          · intro a W hI hun haft hi
            have fg : a.eval (.tmp 19) = .bool true := haft ⟨2, .guard⟩ (by simp) rfl _ _ rfl rfl
            have f9 : a.eval (.tmp 26) = .pointer (some ⟨b6, 0, none⟩) := haft ⟨9, .data⟩ (by simp) rfl _ _ rfl rfl
            exact b_same hi hI (guard_ok rfl rfl rfl fg) _ (run_loadmid_op rfl f9 (rangeAt_same (World.rangeAt_of_block (C := cI (x, .slice A2 n2 c2)) HBY.out 0 5) (hI.block b6 (Blk.lt HBY.out))) Tryz.underlying45 rfl (by kernel_rfl)) rfl
          · intro a W hI hun haft hi
            have fg : a.eval (.tmp 19) = .bool true := haft ⟨2, .guard⟩ (by simp) rfl _ _ rfl rfl
            have f8 : a.eval (.tmp 25) = eE r.1 := haft ⟨8, .data⟩ (by simp) rfl _ _ rfl rfl
            have f10 : a.eval (.tmp 27) = eE x := haft ⟨10, .data⟩ (by simp) rfl _ _ rfl rfl
            refine b_call hi hI (guard_ok rfl rfl rfl fg) _ _ (run_call_op (args := #[eE r.1, eE x]) rfl (by simp [f8, f10]) (by kernel_rfl)) ?_
            exact (order_is r.1 x W).mono fun e w' H => ⟨_, H.1, rfl, H.2⟩
          · intro a W hI hun haft hi
            have fg : a.eval (.tmp 19) = .bool true := haft ⟨2, .guard⟩ (by simp) rfl _ _ rfl rfl
            have f11 : a.eval (.tmp 28) = .int .i64 (cfE r.1 x) := haft ⟨11, .data⟩ (by simp) rfl _ _ rfl rfl
            exact b_same hi hI (guard_ok rfl rfl rfl fg) (.bool true) (run_bin_op rfl f11 rfl (by kernel_rfl) (ge0 _ _ HCf.out W)) rfl
          · intro a W hI hun haft hi
            have f2 : a.eval (.tmp 19) = .bool true := haft ⟨2, .data⟩ (by simp) rfl _ _ rfl rfl
            have f12 : a.eval (.tmp 29) = .bool true := haft ⟨12, .data⟩ (by simp) rfl _ _ rfl rfl
            exact b_same hi hI rfl (.bool true) (run_pick_op (b := true) rfl f2 f12 rfl) rfl
        · intro vals W hI hp
          have hl13 : vals 13 = .bool true := hp 13 (by decide)
          have HJ := Lib.hid hI
          clear hp hI
          simp only [layN, List.size_toArray, List.length_cons, List.length_nil, List.range, List.range.loop, if_true, List.getElem?_toArray, List.getElem?_cons_zero, List.getElem?_cons_succ, Act.put, List.setIfInBounds_toArray, List.set_cons_zero, List.set_cons_succ, Nat.zero_add, Nat.reduceAdd, hl13]
          clear hl13
          generalize W = W6 at *
          have HF : Hid (bb = false) := Lib.hid (HBB.out.symm.trans (itsB_no (f := f) (I := I) (j := k + 1) (by rw [HN.out]; exact HLt.out) (by rw [HOk.out, HCf.out]; simp)))
          go_wp2
          go_ret
          exact ⟨by rw [HF.out]; rfl, HB.out.trans ((HbY.out.trans (HJ.out.mono HbY.out.size)).mono HB.out.size)⟩

end Go.Proofs.YtejljikikhecnaaGreat
