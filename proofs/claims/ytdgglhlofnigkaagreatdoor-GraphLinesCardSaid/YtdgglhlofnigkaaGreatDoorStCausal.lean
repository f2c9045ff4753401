/- hedgerowref07.Causal. -/import Derived.Test.YtdgglhlofnigkaaGreatDoorJStGG
import Derived.Test.YtdgglhlofnigkaaGreatDoorEvRefRt
namespace Go.Proofs.YtdgglhlofnigkaaGreatDoor
open Lib (hid)
open Go.RowKit Go.MapKept Go.Sort
def mayC (f : Nat → Int) (e : Ev) : Bool := okB e && (f e.r.toNat == e.c - 1) && (List.range 16).all (fun i => decide (e.p i ≤ f i))
def comeC (s : List Ev × (Nat → Int)) (e : Ev) : List Ev × (Nat → Int) :=
 if mayC s.2 e then (s.1 ++ [e], fun i => if i = e.r.toNat then e.c else s.2 i) else s
def causC (l : List Ev) : List Ev × (Nat → Int) := l.foldl comeC ([], fun _ => 0)
theorem causC_snoc (l : List Ev) (e : Ev) : causC (l ++ [e]) = comeC (causC l) e := by simp [causC]
theorem causC_next {l : List Ev} {j : Nat} {e : Ev} (h : l[j]? = some e) : causC (l.take (j + 1)) = comeC (causC (l.take j)) e := by
 rw [List.take_add_one, h]; exact causC_snoc _ _
theorem comeC_no {s : List Ev × (Nat → Int)} {e : Ev} (h : mayC s.2 e = false) : comeC s e = s := by unfold comeC; rw [h]; rfl
theorem comeC_yes {s : List Ev × (Nat → Int)} {e : Ev} (h : mayC s.2 e = true) : comeC s e = (s.1 ++ [e], fun i => if i = e.r.toNat then e.c else s.2 i) := by unfold comeC; rw [h]; rfl
theorem causC_len (l : List Ev) : (causC l).1.length ≤ l.length := by
 suffices h : ∀ (l : List Ev) (s : List Ev × (Nat → Int)), (l.foldl comeC s).1.length ≤ s.1.length + l.length by
  have := h l ([], fun _ => 0)
  unfold causC
  simpa using this
 intro l
 induction l with
 | nil => intro s; simp
 | cons e l ih =>
  intro s
  have h1 := ih (comeC s e)
  have h2 : (comeC s e).1.length ≤ s.1.length + 1 := by unfold comeC; split <;> simp
  simp only [List.foldl_cons, List.length_cons]
  omega
theorem at_event0 (g q : Nat) (w : World) : (Instr.fieldAt 60 (.pointer (some ⟨g, q, none⟩)) 0).run Tryz.prog w = .ok (.pointer (some ⟨g, q, none⟩)) w := by go_simp
theorem at_event1 (g q : Nat) (w : World) : (Instr.fieldAt 60 (.pointer (some ⟨g, q, none⟩)) 1).run Tryz.prog w = .ok (.pointer (some ⟨g, q + 2, none⟩)) w := by go_simp
theorem at_vec (g n : Nat) (h : n < 16) (w : World) : (Instr.indexAt 26 (.pointer (some ⟨g, 0, none⟩)) (.int .i64 n)).run Tryz.prog w = .ok (.pointer (some ⟨g, n, none⟩)) w := by
 have h2 : (n : Int) < 16 := by omega
 go_simp
theorem run_nei {a b : Int} {q : Bool} (h : (a == b) = q) (w : World) : (binOp .neq 3 (.int .i64 a) (.int .i64 b)).run Tryz.prog w = .ok (.bool !q) w := by subst h; go_simp; rfl
theorem run_lei {a b : Int} {q : Bool} (h : decide (a ≤ b) = q) (w : World) : (binOp .leq 3 (.int .i64 a) (.int .i64 b)).run Tryz.prog w = .ok (.bool q) w := by subst h; go_simp
theorem infoEv : (Tryz.prog.info? 60).map (fun i => (i.zero, i.size, i.bytes)) = some (some (.agg (evC ev0)), 27, 256) := by kernel_rfl
theorem bsEv (e : Ev) (w : World) : (Instr.buildSlice 22 1 #[(0, .agg (evC e))]).run Tryz.prog w = .ok (.slice (some ⟨w.heap.size, 0, none⟩) 1 1) (w.alloc (.cells (evC e) 60)) := by
 unfold evC; go_simp
theorem ok_dot {e : Ev} (h : okB e = true) : ∃ n : Nat, e.r = n ∧ n < 16 ∧ 1 ≤ e.c ∧ e.c ≤ 1048576 := by
 unfold okB nextB at h
 simp only [Bool.and_eq_true] at h
 exact (dotB_iff _ _).1 h.1.1.1
theorem refright_is7 (e : Ev) (hl : Tiny e) (b : Bool) (h : okB e = b) (w : World) : Calls Tryz.prog 36 #[evV e] w (Gives w (.bool b)) := by
 have := refright6_any e w hl; rwa [h] at this
theorem own_ne_blk {γ : Type} {enc : γ → List Value} {base k : Nat} {e t : TypeId} {w : World} {v : Value} {l : List γ} {g : Nat} {cs : Array Value} (h : OwnK enc base e k w v l) (hb : Blk w g t cs) (hne : t ≠ e) : v.ownBlock ≠ some g := by
 intro hv
 rcases h.2 with ⟨rfl, _⟩ | ⟨g', cap, cur, rfl, _, hg, _⟩
 ·cases hv
 ·have : g' = g := Option.some.inj hv
  rw [this, show w.heap[g]? = _ from hb] at hg
  simp only [Option.some.injEq, Obj.cells.injEq] at hg
  exact hne hg.2.1
theorem ret_cell2 {P : Program} {fn : Func} {p u : Tmp} {ty : TypeId} (h : fn.results = #[.tmp u, .cell p ty]) (tmps : Array Value) (w : World) (g : Nat) (t : TypeId) (cs : Array Value) (d : TypeDesc) (v : Value)
  (hp : tmps.getD p undef = .pointer (some ⟨g, 0, none⟩)) (hg : Blk w g t cs)
  (hu : P.underlying ty = some d) (hd : (match d with | .struct _ | .array _ _ => true | _ => false) = true) (hi : (P.info? ty).map (·.size) = some cs.size) (hv : tmps.getD u undef = v) :
  (results fn tmps).run P w = .ok (.tuple #[v, .agg cs]) w := by
 have hp' : tmps[p]?.getD undef = .pointer (some ⟨g, 0, none⟩) := by rw [← Array.getD_eq_getD_getElem?]; exact hp
 have hv' : tmps[u]?.getD undef = v := by rw [← Array.getD_eq_getD_getElem?]; exact hv
 unfold results
 rw [h]
 simp [hp', hv', asAddr, Result.andThen, run_loadVar_row w g t ty cs (0, 0) d hg hu hd hi]
set_option maxRecDepth 100000 in
set_option maxHeartbeats 2000000 in
theorem causal_any (l : List Ev) (A : Option Addr) (N c : Nat) (w : World) (hs : SlK encE 27 w (.slice A N c) l) (hN : l.length = N) (hN2 : N ≤ 60) (ht : ∀ e ∈ l, Tiny e) :
  Calls Tryz.prog 9 #[.slice A N c] w fun x w' => ∃ v, x = .returned (.tuple #[v, .agg (vA (causC l).2)]) ∧ OwnK encE w.heap.size 60 27 w' v (causC l).1 ∧ Below w.heap.size w w' := by
 obtain ⟨i0, hi, hz0, hz1, hz2⟩ := info_parts infoEv
 obtain ⟨p, hp⟩ : ∃ p, w.heap.size = p := ⟨_, rfl⟩
 have HP := hid hp
 have HS := hid hs
 have HN := hid hN
 have HN2 := hid hN2
 have HTi := hid ht
 have HZe := hid (zero_of_info zeroE).1
 have hzv := (zero_of_info zeroV).1
 clear hp hs hN hN2 ht
 go_enter Tryz.func9, Tryz.ntmps9
 go_wp2_with fail
 rw [HP.out]
 have hY : Below p w ((w.alloc (.cells (vA fun _ => 0) 26)).alloc (.cells (vA fun _ => 0) 26)) := ((Below.refl _ _).alloc (by rw [HP.out]; exact Nat.le_refl _) _).alloc (by simp; have := HP.out; omega) _
 have hV0 : VB ((w.alloc (.cells (vA fun _ => 0) 26)).alloc (.cells (vA fun _ => 0) 26)) p (fun _ => 0) := by rw [← HP.out]; exact (VB.new_ _ rfl).alloc_ _
 have hV1 : VB ((w.alloc (.cells (vA fun _ => 0) 26)).alloc (.cells (vA fun _ => 0) 26)) (p + 1) (fun _ => 0) := by rw [← HP.out]; exact VB.new_ _ (by simp)
 have HY := hid hY
 have HV0 := hid hV0
 have HV1 := hid hV1
 clear hY hV0 hV1 hzv
 go_loopw [4, 12] (fun v4 v12 wr => ∃ j : Nat, v12 = .int .i64 j ∧ j ≤ N ∧ OwnK encE p 60 27 wr v4 (causC (l.take j)).1 ∧ VB wr (p + 1) (causC (l.take j)).2 ∧ VB wr p (fun _ => 0) ∧ Below p w wr) (fun _ v12 _ => N - (intOf v12).toNat)
 case atStart => exact ⟨0, rfl, Nat.zero_le _, OwnK.nil_ _ _ _ _ _, HV1.out, HV0.out, HY.out⟩
 case round =>
  obtain ⟨j, rfl, hj, ho, hv1, hv0, hbw⟩ := hrel
  obtain ⟨wo, rfl⟩ : ∃ wo, wo = wr := ⟨_, rfl⟩
  have HO := hid ho
  have HV1 := hid hv1
  have HV0 := hid hv0
  have HBw := hid hbw
  clear ho hv1 hv0 hbw HY
  by_cases hlt : j < N
  ·obtain ⟨e, he⟩ : ∃ e, l[j]? = some e := ⟨l[j]'(by rw [HN.out]; exact hlt), List.getElem?_eq_getElem _⟩
   have hSw : SlK encE 27 wo (.slice A N c) l := HS.out.below (by rw [HP.out]; exact HBw.out)
   obtain ⟨g, o, rfl, hgl, hce⟩ := hSw.ev he
   have HCe := hid hce
   have HTe := hid (HTi.out e (List.mem_of_getElem? he))
   have HAt := hid (at_Ev g o c N j hlt wo)
   have HNx := hid (causC_next he)
   have HAl := hid fun c => World.setRow_alloc_new wo (evC ev0) c 60
   have HZz := hid (show Blk (wo.alloc (.cells (evC ev0) 60)) wo.heap.size 60 (evC ev0) from Blk.new _ _ _)
   obtain ⟨S, hS⟩ : ∃ S, causC (l.take j) = S := ⟨_, rfl⟩
   obtain ⟨row, f⟩ := S
   rw [hS] at HO HV1 HNx
   dsimp only at HO HV1
   have hrow : row.length ≤ 60 := by
    have h1 := causC_len (l.take j)
    rw [hS] at h1
    have h2 := List.length_take_le j l
    have h3 := HN2.out
    dsimp only at h1
    omega
   have HRl := hid hrow
   obtain ⟨X, hX⟩ : ∃ X, X = wo.alloc (.cells (evC e) 60) := ⟨_, rfl⟩
   have hbX : Below wo.heap.size wo X := by rw [hX]; exact (Below.refl _ _).alloc (Nat.le_refl _) _
   have hBX : EB X wo.heap.size e := by rw [hX]; exact Blk.new _ _ _
   have hpw : p ≤ wo.heap.size := by have := HBw.out.size; have := HP.out; omega
   have HXe := hid hX
   have HBX := hid hBX
   have HbX := hid (HBw.out.trans (hbX.mono hpw))
   have HVX := hid (VB.keep HV1.out hbX)
   have HUX := hid (VB.keep HV0.out hbX)
   have HOX := hid (HO.out.keep hbX)
   have HOl := hid (fun g (h : u4.ownBlock = some g) => (HO.out.lt g h).2)
   have HpX := hid (Nat.le_trans hpw hbX.size)
   have HGo : Hid (∀ W, Below X.heap.size X W → OwnK encE p 60 27 W u4 row ∧ VB W (p + 1) f ∧ VB W p (fun _ => 0) ∧ Below p w W ∧ EB W wo.heap.size e) := hid fun W h =>
    ⟨HOX.out.keep h, VB.keep HVX.out h, VB.keep HUX.out h, HbX.out.trans (h.mono HpX.out), EB.keep HBX.out h⟩
   clear hX hbX hBX hce hgl he hS hpw hSw hrow HVX HUX HbX HO HV1 HV0
   have hw := IntWalk.i64_in ((j : Int) + 1) (by have := HN2.out; omega)
   have hjm : ¬ 9223372036854775807 < j + 1 := by have := HN2.out; omega
   have HJ1 := hid hjm
   have HW1 := hid hw
   clear hw hjm
   have hz := HZe.out
   go_upto_region 6 with (first
    | (refine wpList_val (o := ⟨some 14, _, _, _, _, _⟩) rfl (.pointer (some ⟨g, o + j * 27, none⟩)) wo (run_indexAddr_op rfl rfl rfl HAt.out) ?_)
    | (refine wpList_load_midif rfl 60 (.tmp 14) rfl g (o + j * 27) rfl (encE e) _ HCe.out Tryz.underlying60 rfl (sizeE e) ?_)
    | (refine wpList_store_row rfl 60 (.tmp 7) (.tmp 15) rfl wo.heap.size (evC e) rfl rfl _ _ HZz.out (sizeE e) rfl (by kernel_rfl) ?_; rw [HAl.out, ← HXe.out]))
   clear hz
   cases hok : okB e
   ·have HRt := hid (refright_is7 e HTe.out false hok)
    have HMy : Hid (mayC (row, f).2 e = false) := hid (by unfold mayC; rw [hok]; rfl)
    clear hok
    refine wp_region_any (by kernel_rfl) ?_
    refine wpAny_below (fun i uq _ => uq = ([evV e, .bool false, .bool true, .bool true, undef, undef, undef, undef, undef, undef, undef, undef, undef, undef, .bool true] : List Value).getD i undef) _ X (by kernel_rfl) (by kernel_rfl) (by kernel_rfl) (fun i v w w' _ h => h) ?_ ?_
    ·refine ⟨?_, ?_, ?_, ?_, ?_, ?_, ?_, ?_, ?_, ?_, ?_, ?_, ?_, ?_, ?_, trivial⟩
     ·intro a W hI hun haft hi
      have e7 := hun 7 (by kernel_rfl)
      exact b_same hi hI rfl _ (run_load_op rfl e7 (EB.keep HBX.out hI) Tryz.underlying60 rfl (sizeE e)) rfl
     ·intro a W hI hun haft hi
      have f0 : a.eval (.tmp 16) = evV e := haft ⟨0, .data⟩ (by simp) rfl _ _ rfl rfl
      refine b_call hi hI rfl _ _ (run_call_op (args := #[evV e]) rfl (by simp [f0]) (by kernel_rfl)) ?_
      exact (HRt.out W).mono fun e w' H => ⟨_, H.1, rfl, H.2⟩
     ·intro a W hI hun haft hi
      have f1 := haft ⟨1, .data⟩ (by simp) rfl _ _ rfl rfl
      exact b_same hi hI rfl _ (run_not_op rfl f1) rfl
     ·intro a W hI hun haft hi
      have f2 := haft ⟨2, .data⟩ (by simp) rfl _ _ rfl rfl
      exact b_same hi hI rfl _ (run_move_op rfl f2) rfl
     ·intro a W hI hun haft hi
      have fg : a.eval (.tmp 19) = .bool true := haft ⟨3, .guard⟩ (by simp) rfl _ _ rfl rfl
      exact b_skip hi hI (guard_no rfl rfl rfl (.inl fg)) rfl
     ·intro a W hI hun haft hi
      have fg : a.eval (.tmp 19) = .bool true := haft ⟨3, .guard⟩ (by simp) rfl _ _ rfl rfl
      exact b_skip hi hI (guard_no rfl rfl rfl (.inl fg)) rfl
     ·intro a W hI hun haft hi
      have fg : a.eval (.tmp 19) = .bool true := haft ⟨3, .guard⟩ (by simp) rfl _ _ rfl rfl
      exact b_skip hi hI (guard_no rfl rfl rfl (.inl fg)) rfl
     ·intro a W hI hun haft hi
      have fg : a.eval (.tmp 19) = .bool true := haft ⟨3, .guard⟩ (by simp) rfl _ _ rfl rfl
      exact b_skip hi hI (guard_no rfl rfl rfl (.inl fg)) rfl
     ·intro a W hI hun haft hi
      have fg : a.eval (.tmp 19) = .bool true := haft ⟨3, .guard⟩ (by simp) rfl _ _ rfl rfl
      exact b_skip hi hI (guard_no rfl rfl rfl (.inl fg)) rfl
     ·intro a W hI hun haft hi
      have fg : a.eval (.tmp 19) = .bool true := haft ⟨3, .guard⟩ (by simp) rfl _ _ rfl rfl
      exact b_skip hi hI (guard_no rfl rfl rfl (.inl fg)) rfl
     ·intro a W hI hun haft hi
      have fg : a.eval (.tmp 19) = .bool true := haft ⟨3, .guard⟩ (by simp) rfl _ _ rfl rfl
      exact b_skip hi hI (guard_no rfl rfl rfl (.inl fg)) rfl
     ·intro a W hI hun haft hi
      have fg : a.eval (.tmp 19) = .bool true := haft ⟨3, .guard⟩ (by simp) rfl _ _ rfl rfl
      exact b_skip hi hI (guard_no rfl rfl rfl (.inl fg)) rfl
     ·intro a W hI hun haft hi
      have fg : a.eval (.tmp 19) = .bool true := haft ⟨3, .guard⟩ (by simp) rfl _ _ rfl rfl
      exact b_skip hi hI (guard_no rfl rfl rfl (.inl fg)) rfl
     ·intro a W hI hun haft hi
      have fg : a.eval (.tmp 19) = .bool true := haft ⟨3, .guard⟩ (by simp) rfl _ _ rfl rfl
      exact b_skip hi hI (guard_no rfl rfl rfl (.inl fg)) rfl
     ·intro a W hI hun haft hi
      have f3 := haft ⟨3, .data⟩ (by simp) rfl _ _ rfl rfl
      have f13 := haft ⟨13, .data⟩ (by simp) rfl _ _ rfl rfl
      exact b_same hi hI rfl _ (run_pick_op (b := true) rfl f3 rfl f13) rfl
    ·intro vals W hI hp
     have hl0 : vals 0 = evV e := hp 0 (by decide)
     have hl1 : vals 1 = .bool false := hp 1 (by decide)
     have hl2 : vals 2 = .bool true := hp 2 (by decide)
     have hl3 : vals 3 = .bool true := hp 3 (by decide)
     have hl4 : vals 4 = undef := hp 4 (by decide)
     have hl5 : vals 5 = undef := hp 5 (by decide)
     have hl6 : vals 6 = undef := hp 6 (by decide)
     have hl7 : vals 7 = undef := hp 7 (by decide)
     have hl8 : vals 8 = undef := hp 8 (by decide)
     have hl9 : vals 9 = undef := hp 9 (by decide)
     have hl10 : vals 10 = undef := hp 10 (by decide)
     have hl11 : vals 11 = undef := hp 11 (by decide)
     have hl12 : vals 12 = undef := hp 12 (by decide)
     have hl13 : vals 13 = undef := hp 13 (by decide)
     have hl14 : vals 14 = .bool true := hp 14 (by decide)
     have HI := hid hI
     clear hp hI
     simp only [layN, layS, List.range, List.range.loop, if_true, Act.put, Nat.zero_add, Nat.reduceAdd, hl0, hl1, hl2, hl3, hl4, hl5, hl6, hl7, hl8, hl9, hl10, hl11, hl12, hl13, hl14]
     clear hl0 hl1 hl2 hl3 hl4 hl5 hl6 hl7 hl8 hl9 hl10 hl11 hl12 hl13 hl14
     have hjm := HJ1.out
     have hw := HW1.out
     go_wp2
     go_roundw
     case rel => exact ⟨j + 1, by go_num, by omega, by rw [HNx.out, comeC_no HMy.out]; exact (HGo.out _ HI.out).1, by rw [HNx.out, comeC_no HMy.out]; exact (HGo.out _ HI.out).2.1, (HGo.out _ HI.out).2.2.1, (HGo.out _ HI.out).2.2.2.1⟩
     case measure => simp [intOf] <;> omega
   ·have HRt := hid (refright_is7 e HTe.out true hok)
    obtain ⟨n, hrn, hnl, hc1, hc2⟩ := ok_dot hok
    have HRn := hid hrn
    have HNl := hid hnl
    have HCb := hid (show 1 ≤ e.c ∧ e.c ≤ 1048576 from ⟨hc1, hc2⟩)
    have HOk := hid hok
    clear hrn hnl hc1 hc2 hok
    cases hq : (f n == e.c - 1)
    ·have HMy : Hid (mayC (row, f).2 e = false) := hid (by unfold mayC; dsimp only; rw [HOk.out, HRn.out, Int.toNat_natCast, hq]; rfl)
     refine wp_region_any (by kernel_rfl) ?_
     refine wpAny_below (fun i uq _ => uq = ([evV e, .bool true, .bool false, .bool false, .pointer (some ⟨wo.heap.size, 0, none⟩), .pointer (some ⟨wo.heap.size, 0, none⟩), .int .i64 n, .pointer (some ⟨p + 1, n, none⟩), .int .i64 (f n), .pointer (some ⟨wo.heap.size, 0, none⟩), .pointer (some ⟨wo.heap.size, 1, none⟩), .int .i64 e.c, .int .i64 (e.c - 1), .bool true, .bool true] : List Value).getD i undef) _ X (by kernel_rfl) (by kernel_rfl) (by kernel_rfl) (fun i v w w' _ h => h) ?_ ?_
     ·refine ⟨?_, ?_, ?_, ?_, ?_, ?_, ?_, ?_, ?_, ?_, ?_, ?_, ?_, ?_, ?_, trivial⟩
      ·intro a W hI hun haft hi
       have e7 := hun 7 (by kernel_rfl)
       exact b_same hi hI rfl _ (run_load_op rfl e7 (EB.keep HBX.out hI) Tryz.underlying60 rfl (sizeE e)) rfl
      ·intro a W hI hun haft hi
       have f0 : a.eval (.tmp 16) = evV e := haft ⟨0, .data⟩ (by simp) rfl _ _ rfl rfl
       refine b_call hi hI rfl _ _ (run_call_op (args := #[evV e]) rfl (by simp [f0]) (by kernel_rfl)) ?_
       exact (HRt.out W).mono fun e w' H => ⟨_, H.1, rfl, H.2⟩
      ·intro a W hI hun haft hi
       have f1 := haft ⟨1, .data⟩ (by simp) rfl _ _ rfl rfl
       exact b_same hi hI rfl _ (run_not_op rfl f1) rfl
      ·intro a W hI hun haft hi
       have f2 := haft ⟨2, .data⟩ (by simp) rfl _ _ rfl rfl
       exact b_same hi hI rfl _ (run_move_op rfl f2) rfl
      ·intro a W hI hun haft hi
       have fg := haft ⟨3, .guard⟩ (by simp) rfl _ _ rfl rfl
       have e7 := hun 7 (by kernel_rfl)
       exact b_same hi hI (guard_ok rfl rfl rfl fg) _ (run_fieldAddr_any rfl e7 (at_event0 _ 0 _)) rfl
      ·intro a W hI hun haft hi
       have fg := haft ⟨3, .guard⟩ (by simp) rfl _ _ rfl rfl
       have f4 := haft ⟨4, .data⟩ (by simp) rfl _ _ rfl rfl
       exact b_same hi hI (guard_ok rfl rfl rfl fg) _ (run_fieldAddr_any rfl f4 (at_dot0' _ 0 _)) rfl
      ·intro a W hI hun haft hi
       have fg : a.eval (.tmp 19) = .bool false := haft ⟨3, .guard⟩ (by simp) rfl _ _ rfl rfl
       have f5 : a.eval (.tmp 21) = .pointer (some ⟨wo.heap.size, 0, none⟩) := haft ⟨5, .data⟩ (by simp) rfl _ _ rfl rfl
       exact b_same hi hI (guard_ok rfl rfl rfl fg) _ (run_loadint_op rfl f5 Tryz.underlying3 ((Blk.cell (EB.keep HBX.out hI) 0).trans (by rw [show (evC e)[0]? = some (.int .i64 e.r) from rfl, HRn.out]))) rfl
      ·intro a W hI hun haft hi
       have fg := haft ⟨3, .guard⟩ (by simp) rfl _ _ rfl rfl
       have e5 := hun 5 (by kernel_rfl)
       have f6 := haft ⟨6, .data⟩ (by simp) rfl _ _ rfl rfl
       exact b_same hi hI (guard_ok rfl rfl rfl fg) _ (run_indexAddr_op rfl e5 f6 (at_vec _ n HNl.out _)) rfl
      ·intro a W hI hun haft hi
       have fg := haft ⟨3, .guard⟩ (by simp) rfl _ _ rfl rfl
       have f7 := haft ⟨7, .data⟩ (by simp) rfl _ _ rfl rfl
       exact b_same hi hI (guard_ok rfl rfl rfl fg) _ (run_loadint_op rfl f7 Tryz.underlying3 (VB.cell_ (HGo.out W hI).2.1 n HNl.out)) rfl
      ·intro a W hI hun haft hi
       have fg := haft ⟨3, .guard⟩ (by simp) rfl _ _ rfl rfl
       have e7 := hun 7 (by kernel_rfl)
       exact b_same hi hI (guard_ok rfl rfl rfl fg) _ (run_fieldAddr_any rfl e7 (at_event0 _ 0 _)) rfl
      ·intro a W hI hun haft hi
       have fg := haft ⟨3, .guard⟩ (by simp) rfl _ _ rfl rfl
       have f9 := haft ⟨9, .data⟩ (by simp) rfl _ _ rfl rfl
       exact b_same hi hI (guard_ok rfl rfl rfl fg) _ (run_fieldAddr_any rfl f9 (at_dot1' _ 0 _)) rfl
      ·intro a W hI hun haft hi
       have fg : a.eval (.tmp 19) = .bool false := haft ⟨3, .guard⟩ (by simp) rfl _ _ rfl rfl
       have f10 : a.eval (.tmp 26) = .pointer (some ⟨wo.heap.size, 1, none⟩) := haft ⟨10, .data⟩ (by simp) rfl _ _ rfl rfl
       exact b_same hi hI (guard_ok rfl rfl rfl fg) _ (run_loadint_op rfl f10 Tryz.underlying3 ((Blk.cell (EB.keep HBX.out hI) 1).trans rfl)) rfl
      ·intro a W hI hun haft hi
       have fg := haft ⟨3, .guard⟩ (by simp) rfl _ _ rfl rfl
       have f11 := haft ⟨11, .data⟩ (by simp) rfl _ _ rfl rfl
       exact b_same hi hI (guard_ok rfl rfl rfl fg) (.int .i64 (e.c - 1)) (run_bin_op rfl f11 rfl (guardI _ _ _ _ _ _ _) (run_sub1 e.c HCb.out _)) rfl
      ·intro a W hI hun haft hi
       have fg := haft ⟨3, .guard⟩ (by simp) rfl _ _ rfl rfl
       have f8 := haft ⟨8, .data⟩ (by simp) rfl _ _ rfl rfl
       have f12 := haft ⟨12, .data⟩ (by simp) rfl _ _ rfl rfl
       exact b_same hi hI (guard_ok rfl rfl rfl fg) (.bool true) (run_bin_op rfl f8 f12 (guardI _ _ _ _ _ _ _) (run_nei hq _)) rfl
      ·intro a W hI hun haft hi
       have f3 := haft ⟨3, .data⟩ (by simp) rfl _ _ rfl rfl
       have f13 := haft ⟨13, .data⟩ (by simp) rfl _ _ rfl rfl
       exact b_same hi hI rfl _ (run_pick_op (b := false) rfl f3 rfl f13) rfl
     ·intro vals W hI hp
      have hl0 : vals 0 = evV e := hp 0 (by decide)
      have hl1 : vals 1 = .bool true := hp 1 (by decide)
      have hl2 : vals 2 = .bool false := hp 2 (by decide)
      have hl3 : vals 3 = .bool false := hp 3 (by decide)
      have hl4 : vals 4 = .pointer (some ⟨wo.heap.size, 0, none⟩) := hp 4 (by decide)
      have hl5 : vals 5 = .pointer (some ⟨wo.heap.size, 0, none⟩) := hp 5 (by decide)
      have hl6 : vals 6 = .int .i64 n := hp 6 (by decide)
      have hl7 : vals 7 = .pointer (some ⟨p + 1, n, none⟩) := hp 7 (by decide)
      have hl8 : vals 8 = .int .i64 (f n) := hp 8 (by decide)
      have hl9 : vals 9 = .pointer (some ⟨wo.heap.size, 0, none⟩) := hp 9 (by decide)
      have hl10 : vals 10 = .pointer (some ⟨wo.heap.size, 1, none⟩) := hp 10 (by decide)
      have hl11 : vals 11 = .int .i64 e.c := hp 11 (by decide)
      have hl12 : vals 12 = .int .i64 (e.c - 1) := hp 12 (by decide)
      have hl13 : vals 13 = .bool true := hp 13 (by decide)
      have hl14 : vals 14 = .bool true := hp 14 (by decide)
      have HI := hid hI
      clear hp hI
      simp only [layN, layS, List.range, List.range.loop, if_true, Act.put, Nat.zero_add, Nat.reduceAdd, hl0, hl1, hl2, hl3, hl4, hl5, hl6, hl7, hl8, hl9, hl10, hl11, hl12, hl13, hl14]
      clear hl0 hl1 hl2 hl3 hl4 hl5 hl6 hl7 hl8 hl9 hl10 hl11 hl12 hl13 hl14
      have hjm := HJ1.out
      have hw := HW1.out
      go_wp2
      go_roundw
      case rel => exact ⟨j + 1, by go_num, by omega, by rw [HNx.out, comeC_no HMy.out]; exact (HGo.out _ HI.out).1, by rw [HNx.out, comeC_no HMy.out]; exact (HGo.out _ HI.out).2.1, (HGo.out _ HI.out).2.2.1, (HGo.out _ HI.out).2.2.2.1⟩
      case measure => simp [intOf] <;> omega
    ·have HMy : Hid (mayC (row, f).2 e = (List.range 16).all fun i => decide (e.p i ≤ f i)) := hid (by unfold mayC; dsimp only; rw [HOk.out, HRn.out, Int.toNat_natCast, hq]; rfl)
     refine wp_region_any (by kernel_rfl) ?_
     refine wpAny_below (fun i uq _ => uq = ([evV e, .bool true, .bool false, .bool false, .pointer (some ⟨wo.heap.size, 0, none⟩), .pointer (some ⟨wo.heap.size, 0, none⟩), .int .i64 n, .pointer (some ⟨p + 1, n, none⟩), .int .i64 (f n), .pointer (some ⟨wo.heap.size, 0, none⟩), .pointer (some ⟨wo.heap.size, 1, none⟩), .int .i64 e.c, .int .i64 (e.c - 1), .bool false, .bool false] : List Value).getD i undef) _ X (by kernel_rfl) (by kernel_rfl) (by kernel_rfl) (fun i v w w' _ h => h) ?_ ?_
     ·refine ⟨?_, ?_, ?_, ?_, ?_, ?_, ?_, ?_, ?_, ?_, ?_, ?_, ?_, ?_, ?_, trivial⟩
      ·intro a W hI hun haft hi
       have e7 := hun 7 (by kernel_rfl)
       exact b_same hi hI rfl _ (run_load_op rfl e7 (EB.keep HBX.out hI) Tryz.underlying60 rfl (sizeE e)) rfl
      ·intro a W hI hun haft hi
       have f0 : a.eval (.tmp 16) = evV e := haft ⟨0, .data⟩ (by simp) rfl _ _ rfl rfl
       refine b_call hi hI rfl _ _ (run_call_op (args := #[evV e]) rfl (by simp [f0]) (by kernel_rfl)) ?_
       exact (HRt.out W).mono fun e w' H => ⟨_, H.1, rfl, H.2⟩
      ·intro a W hI hun haft hi
       have f1 := haft ⟨1, .data⟩ (by simp) rfl _ _ rfl rfl
       exact b_same hi hI rfl _ (run_not_op rfl f1) rfl
      ·intro a W hI hun haft hi
       have f2 := haft ⟨2, .data⟩ (by simp) rfl _ _ rfl rfl
       exact b_same hi hI rfl _ (run_move_op rfl f2) rfl
      ·intro a W hI hun haft hi
       have fg := haft ⟨3, .guard⟩ (by simp) rfl _ _ rfl rfl
       have e7 := hun 7 (by kernel_rfl)
       exact b_same hi hI (guard_ok rfl rfl rfl fg) _ (run_fieldAddr_any rfl e7 (at_event0 _ 0 _)) rfl
      ·intro a W hI hun haft hi
       have fg := haft ⟨3, .guard⟩ (by simp) rfl _ _ rfl rfl
       have f4 := haft ⟨4, .data⟩ (by simp) rfl _ _ rfl rfl
       exact b_same hi hI (guard_ok rfl rfl rfl fg) _ (run_fieldAddr_any rfl f4 (at_dot0' _ 0 _)) rfl
      ·intro a W hI hun haft hi
       have fg : a.eval (.tmp 19) = .bool false := haft ⟨3, .guard⟩ (by simp) rfl _ _ rfl rfl
       have f5 : a.eval (.tmp 21) = .pointer (some ⟨wo.heap.size, 0, none⟩) := haft ⟨5, .data⟩ (by simp) rfl _ _ rfl rfl
       exact b_same hi hI (guard_ok rfl rfl rfl fg) _ (run_loadint_op rfl f5 Tryz.underlying3 ((Blk.cell (EB.keep HBX.out hI) 0).trans (by rw [show (evC e)[0]? = some (.int .i64 e.r) from rfl, HRn.out]))) rfl
      ·intro a W hI hun haft hi
       have fg := haft ⟨3, .guard⟩ (by simp) rfl _ _ rfl rfl
       have e5 := hun 5 (by kernel_rfl)
       have f6 := haft ⟨6, .data⟩ (by simp) rfl _ _ rfl rfl
       exact b_same hi hI (guard_ok rfl rfl rfl fg) _ (run_indexAddr_op rfl e5 f6 (at_vec _ n HNl.out _)) rfl
      ·intro a W hI hun haft hi
       have fg := haft ⟨3, .guard⟩ (by simp) rfl _ _ rfl rfl
       have f7 := haft ⟨7, .data⟩ (by simp) rfl _ _ rfl rfl
       exact b_same hi hI (guard_ok rfl rfl rfl fg) _ (run_loadint_op rfl f7 Tryz.underlying3 (VB.cell_ (HGo.out W hI).2.1 n HNl.out)) rfl
      ·intro a W hI hun haft hi
       have fg := haft ⟨3, .guard⟩ (by simp) rfl _ _ rfl rfl
       have e7 := hun 7 (by kernel_rfl)
       exact b_same hi hI (guard_ok rfl rfl rfl fg) _ (run_fieldAddr_any rfl e7 (at_event0 _ 0 _)) rfl
      ·intro a W hI hun haft hi
       have fg := haft ⟨3, .guard⟩ (by simp) rfl _ _ rfl rfl
       have f9 := haft ⟨9, .data⟩ (by simp) rfl _ _ rfl rfl
       exact b_same hi hI (guard_ok rfl rfl rfl fg) _ (run_fieldAddr_any rfl f9 (at_dot1' _ 0 _)) rfl
      ·intro a W hI hun haft hi
       have fg : a.eval (.tmp 19) = .bool false := haft ⟨3, .guard⟩ (by simp) rfl _ _ rfl rfl
       have f10 : a.eval (.tmp 26) = .pointer (some ⟨wo.heap.size, 1, none⟩) := haft ⟨10, .data⟩ (by simp) rfl _ _ rfl rfl
       exact b_same hi hI (guard_ok rfl rfl rfl fg) _ (run_loadint_op rfl f10 Tryz.underlying3 ((Blk.cell (EB.keep HBX.out hI) 1).trans rfl)) rfl
      ·intro a W hI hun haft hi
       have fg := haft ⟨3, .guard⟩ (by simp) rfl _ _ rfl rfl
       have f11 := haft ⟨11, .data⟩ (by simp) rfl _ _ rfl rfl
       exact b_same hi hI (guard_ok rfl rfl rfl fg) (.int .i64 (e.c - 1)) (run_bin_op rfl f11 rfl (guardI _ _ _ _ _ _ _) (run_sub1 e.c HCb.out _)) rfl
      ·intro a W hI hun haft hi
       have fg := haft ⟨3, .guard⟩ (by simp) rfl _ _ rfl rfl
       have f8 := haft ⟨8, .data⟩ (by simp) rfl _ _ rfl rfl
       have f12 := haft ⟨12, .data⟩ (by simp) rfl _ _ rfl rfl
       exact b_same hi hI (guard_ok rfl rfl rfl fg) (.bool false) (run_bin_op rfl f8 f12 (guardI _ _ _ _ _ _ _) (run_nei hq _)) rfl
      ·intro a W hI hun haft hi
       have f3 := haft ⟨3, .data⟩ (by simp) rfl _ _ rfl rfl
       have f13 := haft ⟨13, .data⟩ (by simp) rfl _ _ rfl rfl
       exact b_same hi hI rfl _ (run_pick_op (b := false) rfl f3 rfl f13) rfl
     ·intro vals W hI hp
      have hl0 : vals 0 = evV e := hp 0 (by decide)
      have hl1 : vals 1 = .bool true := hp 1 (by decide)
      have hl2 : vals 2 = .bool false := hp 2 (by decide)
      have hl3 : vals 3 = .bool false := hp 3 (by decide)
      have hl4 : vals 4 = .pointer (some ⟨wo.heap.size, 0, none⟩) := hp 4 (by decide)
      have hl5 : vals 5 = .pointer (some ⟨wo.heap.size, 0, none⟩) := hp 5 (by decide)
      have hl6 : vals 6 = .int .i64 n := hp 6 (by decide)
      have hl7 : vals 7 = .pointer (some ⟨p + 1, n, none⟩) := hp 7 (by decide)
      have hl8 : vals 8 = .int .i64 (f n) := hp 8 (by decide)
      have hl9 : vals 9 = .pointer (some ⟨wo.heap.size, 0, none⟩) := hp 9 (by decide)
      have hl10 : vals 10 = .pointer (some ⟨wo.heap.size, 1, none⟩) := hp 10 (by decide)
      have hl11 : vals 11 = .int .i64 e.c := hp 11 (by decide)
      have hl12 : vals 12 = .int .i64 (e.c - 1) := hp 12 (by decide)
      have hl13 : vals 13 = .bool false := hp 13 (by decide)
      have hl14 : vals 14 = .bool false := hp 14 (by decide)
      have HI := hid hI
      clear hp hI
      simp only [layN, layS, List.range, List.range.loop, if_true, Act.put, Nat.zero_add, Nat.reduceAdd, hl0, hl1, hl2, hl3, hl4, hl5, hl6, hl7, hl8, hl9, hl10, hl11, hl12, hl13, hl14]
      clear hl0 hl1 hl2 hl3 hl4 hl5 hl6 hl7 hl8 hl9 hl10 hl11 hl12 hl13 hl14
      clear hq
      go_wp2_with fail
      go_loopw [8, 31] (fun v8 v31 wr => ∃ k : Nat, v31 = .int .i64 k ∧ k ≤ 16 ∧ v8 = .bool ((List.range k).all fun i => decide (e.p i ≤ f i)) ∧ Below X.heap.size X wr) (fun _ v31 _ => 16 - (intOf v31).toNat)
      case atStart => exact ⟨0, rfl, Nat.zero_le _, rfl, HI.out⟩
      case round =>
       obtain ⟨k, rfl, hk, rfl, hbi⟩ := hrel
       have HBi := hid hbi
       have HE1 := hid (HGo.out wr hbi).2.2.2.2
       have HV2 := hid (HGo.out wr hbi).2.1
       clear hbi HI
       obtain ⟨kb, hkb⟩ : ∃ kb, ((List.range k).all fun i => decide (e.p i ≤ f i)) = kb := ⟨_, rfl⟩
       rw [hkb]
       have HKb := hid hkb
       clear hkb
       by_cases hlk : k < 16
       ·have HKl := hid hlk
        cases kb
        ·go_upto_region 11 with fail
         refine wp_region_any (by kernel_rfl) ?_
         refine Lt.wpAny_late (fun i uq _ => uq = ([.bool false, .bool false, undef, undef, undef, undef, undef, undef, undef, undef, .bool false, .bool false] : List Value).getD i undef) _ wr (by kernel_rfl) (by kernel_rfl) (by kernel_rfl) (fun i v w w' _ h => h) ?_ ?_
         ·refine ⟨?_, ?_, ?_, ?_, ?_, ?_, ?_, ?_, ?_, ?_, ?_, ?_, trivial⟩
          ·intro a W hI hun haft hi
           have e8 := hun 8 (by kernel_rfl)
           exact b_same hi hI rfl _ (run_move_op rfl e8) rfl
          ·intro a W hI hun haft hi
           have f0 := haft ⟨0, .data⟩ (by simp) rfl _ _ rfl rfl
           exact b_same hi hI rfl _ (run_move_op rfl f0) rfl
          ·intro a W hI hun haft hi
           have fg : a.eval (.tmp 35) = .bool false := haft ⟨1, .guard⟩ (by simp) rfl _ _ rfl rfl
           exact b_skip hi hI (guard_no rfl rfl rfl (.inl fg)) rfl
          ·intro a W hI hun haft hi
           have fg : a.eval (.tmp 35) = .bool false := haft ⟨1, .guard⟩ (by simp) rfl _ _ rfl rfl
           exact b_skip hi hI (guard_no rfl rfl rfl (.inl fg)) rfl
          ·intro a W hI hun haft hi
           have fg : a.eval (.tmp 35) = .bool false := haft ⟨1, .guard⟩ (by simp) rfl _ _ rfl rfl
           exact b_skip hi hI (guard_no rfl rfl rfl (.inl fg)) rfl
          ·intro a W hI hun haft hi
           have fg : a.eval (.tmp 35) = .bool false := haft ⟨1, .guard⟩ (by simp) rfl _ _ rfl rfl
           exact b_skip hi hI (guard_no rfl rfl rfl (.inl fg)) rfl
          ·intro a W hI hun haft hi
           have fg : a.eval (.tmp 35) = .bool false := haft ⟨1, .guard⟩ (by simp) rfl _ _ rfl rfl
           exact b_skip hi hI (guard_no rfl rfl rfl (.inl fg)) rfl
          ·intro a W hI hun haft hi
           have fg : a.eval (.tmp 35) = .bool false := haft ⟨1, .guard⟩ (by simp) rfl _ _ rfl rfl
           exact b_skip hi hI (guard_no rfl rfl rfl (.inl fg)) rfl
          ·intro a W hI hun haft hi
           have fg : a.eval (.tmp 35) = .bool false := haft ⟨1, .guard⟩ (by simp) rfl _ _ rfl rfl
           exact b_skip hi hI (guard_no rfl rfl rfl (.inl fg)) rfl
          ·intro a W hI hun haft hi
           have fg : a.eval (.tmp 35) = .bool false := haft ⟨1, .guard⟩ (by simp) rfl _ _ rfl rfl
           exact b_skip hi hI (guard_no rfl rfl rfl (.inl fg)) rfl
          ·intro a W hI hun haft hi
           have f1 := haft ⟨1, .data⟩ (by simp) rfl _ _ rfl rfl
           have f9 := haft ⟨9, .data⟩ (by simp) rfl _ _ rfl rfl
           exact b_same hi hI rfl _ (run_pick_op (b := false) rfl f1 f9 rfl) rfl
          ·intro a W hI hun haft hi
           have f10 := haft ⟨10, .data⟩ (by simp) rfl _ _ rfl rfl
           exact b_same hi hI rfl _ (run_assign_op rfl f10) rfl
         ·intro vals W hI hp
          have hl0 : vals 0 = .bool false := hp 0 (by decide)
          have hl1 : vals 1 = .bool false := hp 1 (by decide)
          have hl2 : vals 2 = undef := hp 2 (by decide)
          have hl3 : vals 3 = undef := hp 3 (by decide)
          have hl4 : vals 4 = undef := hp 4 (by decide)
          have hl5 : vals 5 = undef := hp 5 (by decide)
          have hl6 : vals 6 = undef := hp 6 (by decide)
          have hl7 : vals 7 = undef := hp 7 (by decide)
          have hl8 : vals 8 = undef := hp 8 (by decide)
          have hl9 : vals 9 = undef := hp 9 (by decide)
          have hl10 : vals 10 = .bool false := hp 10 (by decide)
          have hl11 : vals 11 = .bool false := hp 11 (by decide)
          have HI := hid hI
          clear hp hI
          simp only [layN, layS, List.range, List.range.loop, if_true, Act.put, Nat.zero_add, Nat.reduceAdd, hl0, hl1, hl2, hl3, hl4, hl5, hl6, hl7, hl8, hl9, hl10, hl11]
          clear hl0 hl1 hl2 hl3 hl4 hl5 hl6 hl7 hl8 hl9 hl10 hl11
          go_wp2
          go_roundw
          case rel => exact ⟨k + 1, by go_num, by omega, by rw [List.range_succ, List.all_append, HKb.out]; rfl, HBi.out.trans (HI.out.mono HBi.out.size)⟩
          case measure => simp [intOf] <;> omega
        ·cases hc : decide (e.p k ≤ f k)
         ·go_upto_region 11 with fail
          refine wp_region_any (by kernel_rfl) ?_
          refine Lt.wpAny_late (fun i uq _ => uq = ([.bool true, .bool true, .int .i64 k, .pointer (some ⟨wo.heap.size, 2, none⟩), .pointer (some ⟨wo.heap.size, 2 + k, none⟩), .int .i64 (e.p k), .int .i64 k, .pointer (some ⟨p + 1, k, none⟩), .int .i64 (f k), .bool false, .bool false, .bool false] : List Value).getD i undef) _ wr (by kernel_rfl) (by kernel_rfl) (by kernel_rfl) (fun i v w w' _ h => h) ?_ ?_
          ·refine ⟨?_, ?_, ?_, ?_, ?_, ?_, ?_, ?_, ?_, ?_, ?_, ?_, trivial⟩
           ·intro a W hI hun haft hi
            have e8 := hun 8 (by kernel_rfl)
            exact b_same hi hI rfl _ (run_move_op rfl e8) rfl
           ·intro a W hI hun haft hi
            have f0 := haft ⟨0, .data⟩ (by simp) rfl _ _ rfl rfl
            exact b_same hi hI rfl _ (run_move_op rfl f0) rfl
           ·intro a W hI hun haft hi
            have fg := haft ⟨1, .guard⟩ (by simp) rfl _ _ rfl rfl
            have e9 := hun 9 (by kernel_rfl)
            exact b_same hi hI (guard_ok rfl rfl rfl fg) _ (run_move_op rfl e9) rfl
           ·intro a W hI hun haft hi
            have fg := haft ⟨1, .guard⟩ (by simp) rfl _ _ rfl rfl
            have e7 := hun 7 (by kernel_rfl)
            exact b_same hi hI (guard_ok rfl rfl rfl fg) _ (run_fieldAddr_any rfl e7 (at_event1 _ 0 _)) rfl
           ·intro a W hI hun haft hi
            have fg := haft ⟨1, .guard⟩ (by simp) rfl _ _ rfl rfl
            have f3 := haft ⟨3, .data⟩ (by simp) rfl _ _ rfl rfl
            have f2 := haft ⟨2, .data⟩ (by simp) rfl _ _ rfl rfl
            exact b_same hi hI (guard_ok rfl rfl rfl fg) _ (run_indexAddr_op rfl f3 f2 (at_past _ k HKl.out _)) rfl
           ·intro a W hI hun haft hi
            have fg : a.eval (.tmp 35) = .bool true := haft ⟨1, .guard⟩ (by simp) rfl _ _ rfl rfl
            have f4 : a.eval (.tmp 38) = .pointer (some ⟨wo.heap.size, 2 + k, none⟩) := haft ⟨4, .data⟩ (by simp) rfl _ _ rfl rfl
            exact b_same hi hI (guard_ok rfl rfl rfl fg) _ (run_loadint_op rfl f4 Tryz.underlying3 ((Blk.cell (EB.keep HE1.out hI) (2 + k)).trans (past_at e k HKl.out))) rfl
           ·intro a W hI hun haft hi
            have fg := haft ⟨1, .guard⟩ (by simp) rfl _ _ rfl rfl
            have e9 := hun 9 (by kernel_rfl)
            exact b_same hi hI (guard_ok rfl rfl rfl fg) _ (run_move_op rfl e9) rfl
           ·intro a W hI hun haft hi
            have fg := haft ⟨1, .guard⟩ (by simp) rfl _ _ rfl rfl
            have e5 := hun 5 (by kernel_rfl)
            have f6 := haft ⟨6, .data⟩ (by simp) rfl _ _ rfl rfl
            exact b_same hi hI (guard_ok rfl rfl rfl fg) _ (run_indexAddr_op rfl e5 f6 (at_vec _ k HKl.out _)) rfl
           ·intro a W hI hun haft hi
            have fg := haft ⟨1, .guard⟩ (by simp) rfl _ _ rfl rfl
            have f7 := haft ⟨7, .data⟩ (by simp) rfl _ _ rfl rfl
            exact b_same hi hI (guard_ok rfl rfl rfl fg) _ (run_loadint_op rfl f7 Tryz.underlying3 (VB.cell_ (VB.keep HV2.out hI) k HKl.out)) rfl
           ·intro a W hI hun haft hi
            have fg := haft ⟨1, .guard⟩ (by simp) rfl _ _ rfl rfl
            have f5 := haft ⟨5, .data⟩ (by simp) rfl _ _ rfl rfl
            have f8 := haft ⟨8, .data⟩ (by simp) rfl _ _ rfl rfl
            exact b_same hi hI (guard_ok rfl rfl rfl fg) (.bool false) (run_bin_op rfl f5 f8 (guardI _ _ _ _ _ _ _) (run_lei hc _)) rfl
           ·intro a W hI hun haft hi
            have f1 := haft ⟨1, .data⟩ (by simp) rfl _ _ rfl rfl
            have f9 := haft ⟨9, .data⟩ (by simp) rfl _ _ rfl rfl
            exact b_same hi hI rfl _ (run_pick_op (b := true) rfl f1 f9 rfl) rfl
           ·intro a W hI hun haft hi
            have f10 := haft ⟨10, .data⟩ (by simp) rfl _ _ rfl rfl
            exact b_same hi hI rfl _ (run_assign_op rfl f10) rfl
          ·intro vals W hI hp
           have hl0 : vals 0 = .bool true := hp 0 (by decide)
           have hl1 : vals 1 = .bool true := hp 1 (by decide)
           have hl2 : vals 2 = .int .i64 k := hp 2 (by decide)
           have hl3 : vals 3 = .pointer (some ⟨wo.heap.size, 2, none⟩) := hp 3 (by decide)
           have hl4 : vals 4 = .pointer (some ⟨wo.heap.size, 2 + k, none⟩) := hp 4 (by decide)
           have hl5 : vals 5 = .int .i64 (e.p k) := hp 5 (by decide)
           have hl6 : vals 6 = .int .i64 k := hp 6 (by decide)
           have hl7 : vals 7 = .pointer (some ⟨p + 1, k, none⟩) := hp 7 (by decide)
           have hl8 : vals 8 = .int .i64 (f k) := hp 8 (by decide)
           have hl9 : vals 9 = .bool false := hp 9 (by decide)
           have hl10 : vals 10 = .bool false := hp 10 (by decide)
           have hl11 : vals 11 = .bool false := hp 11 (by decide)
           have HI := hid hI
           clear hp hI
           simp only [layN, layS, List.range, List.range.loop, if_true, Act.put, Nat.zero_add, Nat.reduceAdd, hl0, hl1, hl2, hl3, hl4, hl5, hl6, hl7, hl8, hl9, hl10, hl11]
           clear hl0 hl1 hl2 hl3 hl4 hl5 hl6 hl7 hl8 hl9 hl10 hl11
           go_wp2
           go_roundw
           case rel => exact ⟨k + 1, by go_num, by omega, by rw [List.range_succ, List.all_append, HKb.out]; simp only [List.all_cons, List.all_nil, hc]; rfl, HBi.out.trans (HI.out.mono HBi.out.size)⟩
           case measure => simp [intOf] <;> omega
         ·go_upto_region 11 with fail
          refine wp_region_any (by kernel_rfl) ?_
          refine Lt.wpAny_late (fun i uq _ => uq = ([.bool true, .bool true, .int .i64 k, .pointer (some ⟨wo.heap.size, 2, none⟩), .pointer (some ⟨wo.heap.size, 2 + k, none⟩), .int .i64 (e.p k), .int .i64 k, .pointer (some ⟨p + 1, k, none⟩), .int .i64 (f k), .bool true, .bool true, .bool true] : List Value).getD i undef) _ wr (by kernel_rfl) (by kernel_rfl) (by kernel_rfl) (fun i v w w' _ h => h) ?_ ?_
          ·refine ⟨?_, ?_, ?_, ?_, ?_, ?_, ?_, ?_, ?_, ?_, ?_, ?_, trivial⟩
           ·intro a W hI hun haft hi
            have e8 := hun 8 (by kernel_rfl)
            exact b_same hi hI rfl _ (run_move_op rfl e8) rfl
           ·intro a W hI hun haft hi
            have f0 := haft ⟨0, .data⟩ (by simp) rfl _ _ rfl rfl
            exact b_same hi hI rfl _ (run_move_op rfl f0) rfl
           ·intro a W hI hun haft hi
            have fg := haft ⟨1, .guard⟩ (by simp) rfl _ _ rfl rfl
            have e9 := hun 9 (by kernel_rfl)
            exact b_same hi hI (guard_ok rfl rfl rfl fg) _ (run_move_op rfl e9) rfl
           ·intro a W hI hun haft hi
            have fg := haft ⟨1, .guard⟩ (by simp) rfl _ _ rfl rfl
            have e7 := hun 7 (by kernel_rfl)
            exact b_same hi hI (guard_ok rfl rfl rfl fg) _ (run_fieldAddr_any rfl e7 (at_event1 _ 0 _)) rfl
           ·intro a W hI hun haft hi
            have fg := haft ⟨1, .guard⟩ (by simp) rfl _ _ rfl rfl
            have f3 := haft ⟨3, .data⟩ (by simp) rfl _ _ rfl rfl
            have f2 := haft ⟨2, .data⟩ (by simp) rfl _ _ rfl rfl
            exact b_same hi hI (guard_ok rfl rfl rfl fg) _ (run_indexAddr_op rfl f3 f2 (at_past _ k HKl.out _)) rfl
           ·intro a W hI hun haft hi
            have fg : a.eval (.tmp 35) = .bool true := haft ⟨1, .guard⟩ (by simp) rfl _ _ rfl rfl
            have f4 : a.eval (.tmp 38) = .pointer (some ⟨wo.heap.size, 2 + k, none⟩) := haft ⟨4, .data⟩ (by simp) rfl _ _ rfl rfl
            exact b_same hi hI (guard_ok rfl rfl rfl fg) _ (run_loadint_op rfl f4 Tryz.underlying3 ((Blk.cell (EB.keep HE1.out hI) (2 + k)).trans (past_at e k HKl.out))) rfl
           ·intro a W hI hun haft hi
            have fg := haft ⟨1, .guard⟩ (by simp) rfl _ _ rfl rfl
            have e9 := hun 9 (by kernel_rfl)
            exact b_same hi hI (guard_ok rfl rfl rfl fg) _ (run_move_op rfl e9) rfl
           ·intro a W hI hun haft hi
            have fg := haft ⟨1, .guard⟩ (by simp) rfl _ _ rfl rfl
            have e5 := hun 5 (by kernel_rfl)
            have f6 := haft ⟨6, .data⟩ (by simp) rfl _ _ rfl rfl
            exact b_same hi hI (guard_ok rfl rfl rfl fg) _ (run_indexAddr_op rfl e5 f6 (at_vec _ k HKl.out _)) rfl
           ·intro a W hI hun haft hi
            have fg := haft ⟨1, .guard⟩ (by simp) rfl _ _ rfl rfl
            have f7 := haft ⟨7, .data⟩ (by simp) rfl _ _ rfl rfl
            exact b_same hi hI (guard_ok rfl rfl rfl fg) _ (run_loadint_op rfl f7 Tryz.underlying3 (VB.cell_ (VB.keep HV2.out hI) k HKl.out)) rfl
           ·intro a W hI hun haft hi
            have fg := haft ⟨1, .guard⟩ (by simp) rfl _ _ rfl rfl
            have f5 := haft ⟨5, .data⟩ (by simp) rfl _ _ rfl rfl
            have f8 := haft ⟨8, .data⟩ (by simp) rfl _ _ rfl rfl
            exact b_same hi hI (guard_ok rfl rfl rfl fg) (.bool true) (run_bin_op rfl f5 f8 (guardI _ _ _ _ _ _ _) (run_lei hc _)) rfl
           ·intro a W hI hun haft hi
            have f1 := haft ⟨1, .data⟩ (by simp) rfl _ _ rfl rfl
            have f9 := haft ⟨9, .data⟩ (by simp) rfl _ _ rfl rfl
            exact b_same hi hI rfl _ (run_pick_op (b := true) rfl f1 f9 rfl) rfl
           ·intro a W hI hun haft hi
            have f10 := haft ⟨10, .data⟩ (by simp) rfl _ _ rfl rfl
            exact b_same hi hI rfl _ (run_assign_op rfl f10) rfl
          ·intro vals W hI hp
           have hl0 : vals 0 = .bool true := hp 0 (by decide)
           have hl1 : vals 1 = .bool true := hp 1 (by decide)
           have hl2 : vals 2 = .int .i64 k := hp 2 (by decide)
           have hl3 : vals 3 = .pointer (some ⟨wo.heap.size, 2, none⟩) := hp 3 (by decide)
           have hl4 : vals 4 = .pointer (some ⟨wo.heap.size, 2 + k, none⟩) := hp 4 (by decide)
           have hl5 : vals 5 = .int .i64 (e.p k) := hp 5 (by decide)
           have hl6 : vals 6 = .int .i64 k := hp 6 (by decide)
           have hl7 : vals 7 = .pointer (some ⟨p + 1, k, none⟩) := hp 7 (by decide)
           have hl8 : vals 8 = .int .i64 (f k) := hp 8 (by decide)
           have hl9 : vals 9 = .bool true := hp 9 (by decide)
           have hl10 : vals 10 = .bool true := hp 10 (by decide)
           have hl11 : vals 11 = .bool true := hp 11 (by decide)
           have HI := hid hI
           clear hp hI
           simp only [layN, layS, List.range, List.range.loop, if_true, Act.put, Nat.zero_add, Nat.reduceAdd, hl0, hl1, hl2, hl3, hl4, hl5, hl6, hl7, hl8, hl9, hl10, hl11]
           clear hl0 hl1 hl2 hl3 hl4 hl5 hl6 hl7 hl8 hl9 hl10 hl11
           go_wp2
           go_roundw
           case rel => exact ⟨k + 1, by go_num, by omega, by rw [List.range_succ, List.all_append, HKb.out]; simp only [List.all_cons, List.all_nil, hc]; rfl, HBi.out.trans (HI.out.mono HBi.out.size)⟩
           case measure => simp [intOf] <;> omega
       ·have hk16 : k = 16 := by omega
        subst hk16
        cases kb
        ·have HMy' : Hid (mayC (row, f).2 e = false) := hid (HMy.out.trans HKb.out)
         clear HMy
         have HMy := HMy'
         have hjm := HJ1.out
         have hw := HW1.out
         go_wp2
         go_roundw
         case rel => exact ⟨j + 1, by go_num, by omega, by rw [HNx.out, comeC_no HMy.out]; exact (HGo.out _ HBi.out).1, by rw [HNx.out, comeC_no HMy.out]; exact (HGo.out _ HBi.out).2.1, (HGo.out _ HBi.out).2.2.1, (HGo.out _ HBi.out).2.2.2.1⟩
         case measure => simp [intOf] <;> omega
        ·have HMy' : Hid (mayC (row, f).2 e = true) := hid (HMy.out.trans HKb.out)
         have hOi := (HGo.out wr HBi.out).1
         have hpi : p ≤ wr.heap.size := Nat.le_trans HpX.out HBi.out.size
         have hba : Below wr.heap.size wr (wr.alloc (.cells (evC e) 60)) := (Below.refl _ _).alloc (Nat.le_refl _) _
         have HOa := hid (hOi.keep hba)
         have HVa := hid (VB.keep HV2.out hba)
         have HUa := hid (VB.keep (HGo.out wr HBi.out).2.2.1 hba)
         have HEa := hid (EB.keep HE1.out hba)
         have HBa := hid ((HGo.out wr HBi.out).2.2.2.1.trans (hba.mono hpi))
         have HNC := hid (fun j u (hu : (encE e)[j]? = some u) => show (wr.alloc (.cells (evC e) 60)).cell? ((⟨wr.heap.size, 0, none⟩ : Addr).add j) = some u by
          rw [Addr.add_lit, Blk.cell (Blk.new wr _ _)]
          simpa [encE] using hu)
         have Hpi := hid (show p ≤ (wr.alloc (.cells (evC e) 60)).heap.size by simp; omega)
         clear hOi hpi hba
         have hjm := HJ1.out
         have hw := HW1.out
         go_wp2_with (first
          | (refine wpList_load_if rfl 60 (.tmp 7) rfl wo.heap.size rfl _ _ _ _ HE1.out Tryz.underlying60 rfl (sizeE e) ?_)
          | (refine wpList_val (o := ⟨some 49, _, _, _, _, _⟩) rfl (.slice (some ⟨wr.heap.size, 0, none⟩) 1 1) (wr.alloc (.cells (evC e) 60)) (run_buildSlice_op (vs := #[(0, .agg (evC e))]) rfl (by simp only [List.map_toArray, List.map_cons, List.map_nil]; rfl) (bsEv e wr)) ?_)
          | (at_builtin; refine wpList_append_own _ rfl _ _ 22 rfl p 60 i0 _ 27 256 Tryz.underlying22 hi hz0 hz1 hz2 rfl (by decide) _ _ _ rfl HOa.out ⟨wr.heap.size, 0, none⟩ 1 1 (encE e) rfl rfl HNC.out (encE_one e) (by have := HRl.out; unfold maxLen; omega) (by have := HRl.out; omega) Hpi.out ?_; intro v' W6 hown' hgrow hnil'
             have hne1 := own_ne_blk HOa.out HVa.out (by decide)
             have hne0 := own_ne_blk HOa.out HUa.out (by decide)
             have hE6 : EB W6 wo.heap.size e := (hgrow.block _ (Blk.lt HEa.out) (fun h => absurd (HOl.out _ h.symm) (Nat.lt_irrefl _))).trans HEa.out
             have hV6 : VB W6 (p + 1) f := (hgrow.block _ (Blk.lt HVa.out) (fun h => hne1 h.symm)).trans HVa.out
             have hU6 : VB W6 p (fun _ => 0) := (hgrow.block _ (Blk.lt HUa.out) (fun h => hne0 h.symm)).trans HUa.out
             have hB6 : Below p w W6 := HBa.out.grown hgrow Hpi.out (fun q h => (HOa.out.lt q h).1)
             have HO6 := hid (show OwnK encE p 60 27 W6 v' (row ++ [e]) by unfold OwnK; rw [List.length_append, List.flatMap_append]; simpa using hown')
             have HV6 := hid hV6
             have HU6 := hid hU6
             have HB6 := hid hB6
             have c0 : W6.cell? ⟨wo.heap.size, 0, none⟩ = some (.int .i64 n) := (Blk.cell hE6 0).trans (by rw [show (evC e)[0]? = some (.int .i64 e.r) from rfl, HRn.out])
             have c1 : W6.cell? ⟨wo.heap.size, 1, none⟩ = some (.int .i64 e.c) := (Blk.cell hE6 1).trans rfl
             have cv : W6.cell? ⟨p + 1, n, none⟩ = some (.int .i64 (f n)) := VB.cell_ hV6 n HNl.out
             have fv : W6.frozen? ⟨p + 1, n, none⟩ = false := Blk.free hV6 n
             clear hown' hgrow hnil' hne1 hne0 hE6 hV6 hU6 hB6)
          | (refine wpList_val (o := ⟨some 57, _, _, _, _, _⟩) rfl (.pointer (some ⟨p + 1, n, none⟩)) _ (run_indexAddr_op rfl rfl rfl (at_vec (p + 1) n HNl.out _)) ?_)
          | go_in)
         have hne6 := own_ne_blk HO6.out HV6.out (by decide)
         have hO7 := HO6.out.same (w' := W6.setCell ⟨p + 1, n, none⟩ (.int .i64 e.c)) (fun q h => Below.heap_setCell _ _ _ _ (fun e => hne6 (by rw [h, e])))
         have hV7 := VB.put HV6.out n e.c
         have hU7 : VB (W6.setCell ⟨p + 1, n, none⟩ (.int .i64 e.c)) p (fun _ => 0) := Blk.far HU6.out (by simp) _
         have hB7 := HB6.out.setCell (p := ⟨p + 1, n, none⟩) (Nat.le_succ p) (.int .i64 e.c)
         have HO7 := hid hO7
         have HV7 := hid hV7
         have HU7 := hid hU7
         have HB7 := hid hB7
         clear hne6 hO7 hV7 hU7 hB7 c0 c1 cv fv
         go_roundw
         case rel => exact ⟨j + 1, by go_num, by omega, by rw [HNx.out, comeC_yes HMy'.out]; exact HO7.out, by rw [HNx.out, comeC_yes HMy'.out, HRn.out, Int.toNat_natCast]; exact HV7.out, HU7.out, HB7.out⟩
         case measure => simp [intOf] <;> omega
  ·have hjN : j = N := by omega
   subst hjN
   rw [List.take_of_length_le (Nat.le_of_eq HN.out)] at HO HV1
   go_upto_region 17 with fail
   refine wp_region_any (by kernel_rfl) ?_
   refine wpAny_last (fun i uq _ => uq = ([u4, .agg (vA (causC l).2), u4, undef] : List Value).getD i undef) _ wo 3 _ (fun vals wq => (∀ j, j < 3 → vals j = ([u4, .agg (vA (causC l).2), u4, undef] : List Value).getD j undef) ∧ (fun w' => Blk w' p 26 (vA (causC l).2) ∧ OwnK encE p 60 27 w' u4 (causC l).1 ∧ Below p w w') wq) (by kernel_rfl) rfl (by kernel_rfl) (by kernel_rfl) (by kernel_rfl) (by kernel_rfl) (fun i v w w' _ h => h) ?_ ?_ ?_
   ·refine ⟨?_, ?_, ?_, fun h => absurd h (Nat.lt_irrefl _), trivial⟩
    ·intro _ a W hI hun haft hi
     have e4 := hun 4 (by kernel_rfl)
     exact b_same hi hI rfl _ (run_move_op rfl e4) rfl
    ·intro _ a W hI hun haft hi
     have e5 := hun 5 (by kernel_rfl)
     exact b_same hi hI rfl _ (run_load_op rfl e5 (Blk.below HV1.out hI (Blk.lt HV1.out)) Tryz.underlying26 rfl (sizeV _)) rfl
    ·intro _ a W hI hun haft hi
     have f0 := haft ⟨0, .data⟩ (by simp) rfl _ _ rfl rfl
     exact b_same hi hI rfl _ (run_assign_op rfl f0) rfl
   ·intro vals a W hI hun hsl hp
    have e3 : a.eval (.tmp 3) = .pointer (some ⟨p, 0, none⟩) := hun 3 (by kernel_rfl)
    have f1 : a.eval (.tmp 60) = .agg (vA (causC l).2) := (hsl 1 _ _ rfl (by decide) rfl).trans (hp 1 (by decide))
    have hz : Blk W p 26 (vA fun _ => 0) := Blk.below HV0.out hI (Blk.lt HV0.out)
    have hoW := HO.out.keep hI
    have hne := own_ne_blk hoW hz (by decide)
    have hpW : p ≤ wo.heap.size := Nat.le_of_lt (Blk.lt HV0.out)
    refine l_skip rfl rfl (W.setRow p (vA (causC l).2)) (run_storerow_op rfl e3 f1 hz (sizeV _) (by rw [vA_size, vA_size]) (vA_one _)) ⟨_, rfl, fun vals' h1 _ => ⟨fun j hj => (h1 j hj).trans (hp j hj), setRow_blk _ _ _ _ _ hz, hoW.same (fun q h => setRow_other _ _ _ _ (fun e => hne (by rw [h, e]))), (HBw.out.trans (hI.mono hpW)).trans (setRow_below _ _ _ _ (Nat.le_refl _))⟩⟩
   ·rintro vals W ⟨hv, hJ⟩
    have hl0 : vals 0 = u4 := hv 0 (by decide)
    have hl1 : vals 1 = .agg (vA (causC l).2) := hv 1 (by decide)
    have hl2 : vals 2 = u4 := hv 2 (by decide)
    have HJ := hid hJ
    clear hv hJ
    simp only [layN, layS, List.range, List.range.loop, if_true, Act.put, Nat.zero_add, Nat.reduceAdd, hl0, hl1, hl2]
    clear hl0 hl1 hl2
    go_wp2_with fail
    refine bodyPost_ret (ret_cell2 rfl _ _ _ _ _ _ u4 rfl HJ.out.1 Tryz.underlying26 rfl (sizeV _) rfl) rfl ?_
    exact ⟨u4, rfl, by rw [HP.out]; exact HJ.out.2.1, by rw [HP.out]; exact HJ.out.2.2⟩
end Go.Proofs.YtdgglhlofnigkaaGreatDoor
