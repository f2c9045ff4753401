/-
  hedgerowlaw08.GraphAsks: the walk. Conditions: lengths.
-/
import Derived.Test.YtdgglhlofnigkaaGreatDoorJGrFix
namespace Go.Proofs.YtdgglhlofnigkaaGreatDoor
open Lib (hid)
open Go.RowKit Go.MapKept Go.Sort
theorem guardI3 (o : BinOp) (t : TypeId) (x y : Operand) (k k' : IntKind) (a b : Int) (w : World) : (eqGuard o t x y (.int k a) (.int k' b)).run Tryz.prog w = .ok () w := by
 cases o <;> rfl
theorem add_i {a b h : Nat} (e : a + b = h) (hh : h ≤ 9223372036854775807) (w : World) : (binOp .add 3 (.int .i64 (a : Nat)) (.int .i64 (b : Nat))).run Tryz.prog w = .ok (.int .i64 (h : Nat)) w := by
 have h1 := IntWalk.i64_in ((a : Int) + (b : Int)) (by omega)
 have h2 : ((a : Int) + (b : Int)) = (h : Int) := by omega
 rw [h2] at h1
 go_simp
 first | done | (rw [h2, h1]) | (rw [h2]; exact h1)
theorem eqb (b : Bool) (w : World) : (binOp .eql 4 (.bool b) (.bool b)).run Tryz.prog w = .ok (.bool true) w := by
 cases b <;> go_simp
set_option maxRecDepth 100000 in
set_option maxHeartbeats 8000000 in
theorem gasks_walk (key : ByteArray) (lx : Lk) (x : El) (l : List Ev) (A : Option Addr) (N c : Nat) (w : World) (hs : SlK encE 27 w (.slice A N c) l) (hN : l.length = N) (hN2 : N ≤ 4611686018427387903) (hf : ∀ e ∈ l, Fit e) (hw : WOk w)
  (hz1 : key.size ≤ 140737488355328) (hz2 : lx.f.size ≤ 140737488355328 ∧ lx.t.size ≤ 140737488355328 ∧ lx.y.size ≤ 140737488355328) :
  Calls Tryz.prog 4 #[.slice A N c, .string key, eK lx, eE x] w (Gives w (.bool true)) := by
 obtain ⟨p, hp⟩ : ∃ p, w.heap.size = p := ⟨_, rfl⟩
 obtain ⟨X, hX⟩ : ∃ X, X = w.alloc (.cells (lkC lx) 36) := ⟨_, rfl⟩
 have hbX : Below w.heap.size w X := by rw [hX]; exact (Below.refl _ _).alloc (Nat.le_refl _) _
 have hBX : Blk X p 36 (lkC lx) := by rw [hX, ← hp]; exact Blk.new w _ _
 obtain ⟨q, hq⟩ : ∃ q, X.heap.size = q := ⟨_, rfl⟩
 have hpq : p + 1 = q := by rw [← hq, hX, ← hp]; simp
 obtain ⟨Y, hY⟩ : ∃ Y, Y = X.alloc (.cells (elC x) 38) := ⟨_, rfl⟩
 have hbY : Below X.heap.size X Y := by rw [hY]; exact (Below.refl _ _).alloc (Nat.le_refl _) _
 have hBY : Blk Y q 38 (elC x) := by rw [hY, ← hq]; exact Blk.new X _ _
 have hBXY := hBX.below hbY hBX.lt
 have hb0 : Below w.heap.size w Y := hbX.trans (hbY.mono hbX.size)
 have HX0 := hid (show ∀ W, Below Y.heap.size Y W → Blk W p 36 (lkC lx) from fun W h => hBXY.below h hBXY.lt)
 have HE0 := hid (show ∀ W, Below Y.heap.size Y W → Blk W q 38 (elC x) from fun W h => hBY.below h hBY.lt)
 have HB0 := hid hb0
 have HFw := hid (fun W (h : Below Y.heap.size Y W) => few8_any l A N c W (hs.below (hb0.trans (h.mono hb0.size))) hN hN2 hf)
 have HS := hid (show SlK encE 27 Y (.slice A N c) l from hs.below hb0)
 have HN := hid hN
 have HW := hid (hw.below hb0)
 have HZv := hid (zero_of_info zeroV).1
 have HXe := hid hX
 have HYe := hid hY
 have HP := hid hp
 have HPQ := hid hpq
 have c0 : Y.cell? ⟨p, 0, none⟩ = some (.string lx.f) := (Blk.cell hBXY 0).trans rfl
 have c1 : Y.cell? ⟨p, 1, none⟩ = some (.string lx.t) := (Blk.cell hBXY 1).trans rfl
 have c2 : Y.cell? ⟨p, 2, none⟩ = some (.string lx.y) := (Blk.cell hBXY 2).trans rfl
 have HZ1 := hid hz1
 have HZ2 := hid hz2
 clear hs hN hN2 hf hw hp hX hq hY hbX hBX hbY hBY hBXY hb0 hpq hz1 hz2
 unfold eK eE elV
 unfold lkC elC at *
 go_enter Tryz.func4, Tryz.ntmps4
 go_upto_region 1 with fail
 rw [← HXe.out, HP.out, HPQ.out, ← HYe.out]
 clear c0 c1 c2
 go_wp2_with fail
 refine (fixed8 Y HW.out).mono ?_
 rintro e w1 ⟨rfl, hb⟩
 have HB1 := hid hb
 clear hb
 have hfx := HFw.out w1 HB1.out
 cases hfew : few8B l
 ·rw [hfew] at hfx
  have HF1 := hid hfx
  clear hfew hfx
  go_wp2_with fail
  refine HF1.out.mono ?_
  rintro e w2 ⟨rfl, hb⟩
  have HB2 := hid (HB0.out.trans ((HB1.out.trans (hb.mono HB1.out.size)).mono HB0.out.size))
  clear hb
  go_wp2
  go_ret
  exact ⟨rfl, HB2.out⟩
 ·have hsh : ∀ e ∈ l, shortB e = true := by
   unfold few8B at hfew
   simp only [Bool.and_eq_true, List.all_eq_true] at hfew
   exact hfew.1
  have hl60 : N ≤ 60 := by
   unfold few8B at hfew
   simp only [Bool.and_eq_true, decide_eq_true_eq] at hfew
   have := hfew.2
   rw [HN.out] at this
   omega
  rw [hfew] at hfx
  have HF1 := hid hfx
  have HSh := hid hsh
  have H60 := hid hl60
  clear hfew hsh hl60 hfx
  go_wp2_with fail
  refine HF1.out.mono ?_
  rintro e w2 ⟨rfl, hb⟩
  have HB2 := hid (HB1.out.trans (hb.mono HB1.out.size))
  clear hb
  have d0 : w2.cell? ⟨p, 0, none⟩ = some (.string lx.f) := (Blk.cell (HX0.out w2 HB2.out) 0).trans rfl
  have d1 : w2.cell? ⟨p, 1, none⟩ = some (.string lx.t) := (Blk.cell (HX0.out w2 HB2.out) 1).trans rfl
  have d2 : w2.cell? ⟨p, 2, none⟩ = some (.string lx.y) := (Blk.cell (HX0.out w2 HB2.out) 2).trans rfl
  obtain ⟨s1, hs1⟩ : ∃ s1, key.size + lx.f.size = s1 := ⟨_, rfl⟩
  obtain ⟨s2, hs2⟩ : ∃ s2, s1 + lx.t.size = s2 := ⟨_, rfl⟩
  obtain ⟨s3, hs3⟩ : ∃ s3, s2 + lx.y.size = s3 := ⟨_, rfl⟩
  have HA1 := hid (add_i hs1 (by have := HZ1.out; have := HZ2.out; omega) w2)
  have HA2 := hid (add_i hs2 (by have := HZ1.out; have := HZ2.out; omega) w2)
  have HA3 := hid (add_i hs3 (by have := HZ1.out; have := HZ2.out; omega) w2)
  clear hs1 hs2 hs3
  by_cases h300 : 300 < s3
  ·go_wp2_with (first
    | (refine wpList_val (o := ⟨some 26, _, _, _, _, _⟩) rfl (.int .i64 (s1 : Nat)) _ (run_bin_op rfl rfl rfl (guardI3 _ _ _ _ _ _ _ _ _) HA1.out) ?_)
    | (refine wpList_val (o := ⟨some 30, _, _, _, _, _⟩) rfl (.int .i64 (s2 : Nat)) _ (run_bin_op rfl rfl rfl (guardI3 _ _ _ _ _ _ _ _ _) HA2.out) ?_)
    | (refine wpList_val (o := ⟨some 34, _, _, _, _, _⟩) rfl (.int .i64 (s3 : Nat)) _ (run_bin_op rfl rfl rfl (guardI3 _ _ _ _ _ _ _ _ _) HA3.out) ?_)
    | fail)
   go_ret
   exact ⟨rfl, HB0.out.trans (HB2.out.mono HB0.out.size)⟩
  ·have HB2' := HB2
   go_upto_region 5 with (first
    | (refine wpList_val (o := ⟨some 26, _, _, _, _, _⟩) rfl (.int .i64 (s1 : Nat)) _ (run_bin_op rfl rfl rfl (guardI3 _ _ _ _ _ _ _ _ _) HA1.out) ?_)
    | (refine wpList_val (o := ⟨some 30, _, _, _, _, _⟩) rfl (.int .i64 (s2 : Nat)) _ (run_bin_op rfl rfl rfl (guardI3 _ _ _ _ _ _ _ _ _) HA2.out) ?_)
    | (refine wpList_val (o := ⟨some 34, _, _, _, _, _⟩) rfl (.int .i64 (s3 : Nat)) _ (run_bin_op rfl rfl rfl (guardI3 _ _ _ _ _ _ _ _ _) HA3.out) ?_)
    | fail)
   clear d0 d1 d2 HA1 HA2 HA3 h300
   go_wp2_with fail
   refine (causal_any l A N c w2 (HS.out.below HB2.out) HN.out H60.out (fun e he => short_tiny e (HSh.out e he))).mono ?_
   rintro e w3 ⟨rv, rfl, ho3, hb⟩
   obtain ⟨row, hrow⟩ : ∃ row, (causC l).1 = row := ⟨_, rfl⟩
   obtain ⟨f, hff⟩ : ∃ f, (causC l).2 = f := ⟨_, rfl⟩
   have hcl : CausL row := by rw [← hrow]; exact caus_row l
   rw [hrow] at ho3
   rw [hff]
   have hrl : row.length ≤ 60 := by have := causC_len l; rw [hrow] at this; have h1 := HN.out; have h2 := H60.out; omega
   have hrm : ∀ e ∈ row, Lens e := fun e he => short_lens e (HSh.out e (causC_mem l e (by rw [hrow]; exact he)))
   have HSr := hid (show ∀ e ∈ row, shortB e = true from fun e he => HSh.out e (causC_mem l e (by rw [hrow]; exact he)))
   have HCl := hid hcl
   have HRm := hid hrm
   have HRl := hid hrl
   have HB3 := hid (HB2.out.trans (hb.mono HB2.out.size))
   have HO3 := hid ho3
   obtain ⟨A5, c5, rfl, _, _⟩ := ho3.read encE_len
   clear hb hrow hff ho3 hrl hrm hcl
   obtain ⟨n5, hn5⟩ : ∃ n5, row.length = n5 := ⟨_, rfl⟩
   rw [hn5] at HO3 ⊢
   have HN5 := hid hn5
   have HN6 := hid (show n5 ≤ 60 by rw [← hn5]; exact HRl.out)
   clear hn5
   have hzv := HZv.out
   have hAl := fun c => World.setRow_alloc_new w3 (vA fun _ => 0) c 26
   have hZ : Blk (w3.alloc (.cells (vA fun _ => 0) 26)) w3.heap.size 26 (vA fun _ => 0) := Blk.new _ _ _
   go_wp2_with (first
    | (refine wpList_store_row rfl 26 (.tmp 10) (.tmp 41) rfl w3.heap.size (vA f) rfl rfl _ _ hZ (sizeV _) (by rw [vA_size, vA_size]) (vA_one _) ?_; rw [hAl])
    | fail)
   clear hzv hAl hZ
   obtain ⟨w4, hw4⟩ : ∃ w4, w3.alloc (.cells (vA f) 26) = w4 := ⟨_, rfl⟩
   rw [hw4]
   have hb4 : Below w3.heap.size w3 w4 := by rw [← hw4]; exact (Below.refl _ _).alloc (Nat.le_refl _) _
   have HB4 := hid (HB3.out.trans (hb4.mono HB3.out.size))
   have HO4 := hid (HO3.out.keep hb4)
   clear hw4 hb4
   refine (view_any row A5 n5 c5 w4 (HO4.out.read encE_len) HN5.out (by have := HN6.out; omega) HCl.out HRm.out (HW.out.cut.below HB4.out)).mono ?_
   rintro e w5 ⟨vb, rfl, ⟨own, nv, lv, b1', b2', b3, b4, b5, hV⟩, hb⟩
   have HB5 := hid (HB4.out.trans (hb.mono HB4.out.size))
   have HB05 := hid (HB0.out.trans (HB5.out.mono HB0.out.size))
   have hO5 := HO4.out.keep hb
   have hok : ∀ e ∈ row, okB e = true := fun e he => (HCl.out.1 e he).1
   have hTx := view_text HCl.out HSr.out (by have := HRl.out; omega)
   have HXB := hid (show ∀ W, Below w5.heap.size w5 W → Blk W p 36 (lkC lx) from fun W h => HX0.out W (HB5.out.trans (h.mono HB5.out.size)))
   have HEB := hid (show ∀ W, Below w5.heap.size w5 W → Blk W q 38 (elC x) from fun W h => HE0.out W (HB5.out.trans (h.mono HB5.out.size)))
   have hrd : ∀ W, Below w5.heap.size w5 W → SlK encE 27 W (.slice A5 n5 c5) row := fun W h => (hO5.keep h).read encE_len
   have hvv := viewL_val HCl.out HRm.out x
   have hvn := viewL_names HCl.out HRm.out x
   have hvl := viewL_lab HCl.out HRm.out key
   have hvh := viewL_has HCl.out HRm.out key
   have hvk := viewL_haslink HCl.out HRm.out lx
   have hN6 := HN6.out
   have hvlen := valsR_len row x
   obtain ⟨vs, hvs⟩ : ∃ vs, valsR row x = vs := ⟨_, rfl⟩
   obtain ⟨labs, hlabs⟩ : ∃ labs, labR (hasG row) (elsL row) key = labs := ⟨_, rfl⟩
   obtain ⟨nms, hnms⟩ : ∃ nms, namesR (hasG row) (elsL row) x = nms := ⟨_, rfl⟩
   obtain ⟨b1, hb1⟩ : ∃ b1, hasG row (nodeE key) = b1 := ⟨_, rfl⟩
   obtain ⟨b2, hb2⟩ : ∃ b2, linkG row lx = b2 := ⟨_, rfl⟩
   have hr60 : row.length ≤ 60 := HRl.out
   have hlb := (labs_sizes HSr.out key).1
   have hnb := (names_sizes HSr.out x).1
   rw [hvs] at hvv hvlen
   rw [hlabs] at hvl hlb
   rw [hnms] at hvn hnb
   rw [hb1] at hvh
   rw [hb2] at hvk
   have HVp := hid (show ∀ W, Below w5.heap.size w5 W → Calls Tryz.prog 16 #[.pointer (some ⟨vb, 0, none⟩), eE x] W (fun e w' => ∃ u, e = .returned u ∧ OwnK enW W.heap.size 43 3 w' u vs ∧ Below W.heap.size W w') from fun W h => by
    have := valuesP_any x W (hV.keep h) (by rw [hvv]; omega)
    rwa [hvv] at this)
   have HVr := hid (show ∀ W, Below w5.heap.size w5 W → Calls Tryz.prog 17 #[.slice A5 n5 c5, eE x] W (fun e w' => ∃ u, e = .returned u ∧ OwnK enW W.heap.size 43 3 w' u vs ∧ Below W.heap.size W w') from fun W h => by
    have := values8_any x row A5 n5 c5 W (hrd W h) HN5.out (by omega) hok HRm.out
    rwa [hvs] at this)
   have HLp := hid (show ∀ W, Below w5.heap.size w5 W → Calls Tryz.prog 20 #[.pointer (some ⟨vb, 0, none⟩), .string key] W (fun e w' => ∃ u, e = .returned u ∧ OwnK enS W.heap.size 9 1 w' u labs ∧ Below W.heap.size W w') from fun W h => by
    have := labelsP_any key W (hV.keep h) (by rw [hvl]; omega)
    rwa [hvl] at this)
   have HLr := hid (show ∀ W, Below w5.heap.size w5 W → Calls Tryz.prog 21 #[.slice A5 n5 c5, .string key] W (fun e w' => ∃ u, e = .returned u ∧ OwnK enS W.heap.size 9 1 w' u labs ∧ Below W.heap.size W w') from fun W h => by
    have := labels8_any key row A5 n5 c5 W (hrd W h) HN5.out (by omega) hok
    rwa [hlabs] at this)
   have HNp := hid (show ∀ W, Below w5.heap.size w5 W → Calls Tryz.prog 24 #[.pointer (some ⟨vb, 0, none⟩), eE x] W (fun e w' => ∃ u, e = .returned u ∧ OwnK enS W.heap.size 9 1 w' u nms ∧ Below W.heap.size W w') from fun W h => by
    have := namesP_any x W (hV.keep h) (by have := (hTx.part x).1; omega)
    rwa [hvn] at this)
   have HNr := hid (show ∀ W, Below w5.heap.size w5 W → Calls Tryz.prog 25 #[.slice A5 n5 c5, eE x] W (fun e w' => ∃ u, e = .returned u ∧ OwnK enS W.heap.size 9 1 w' u nms ∧ Below W.heap.size W w') from fun W h => by
    have := names8_any x row A5 n5 c5 W (hrd W h) HN5.out (by omega) hok HRm.out
    rwa [hnms] at this)
   have HHp := hid (show ∀ W, Below w5.heap.size w5 W → Calls Tryz.prog 18 #[.pointer (some ⟨vb, 0, none⟩), .string key] W (Gives W (.bool b1)) from fun W h => by
    have := hasP_any key W (hV.keep h)
    rwa [hvh] at this)
   have HHr := hid (show ∀ W, Below w5.heap.size w5 W → Calls Tryz.prog 19 #[.slice A5 n5 c5, .string key] W (Gives W (.bool b1)) from fun W h => by
    have := node8_any key row A5 n5 c5 W (hrd W h) HN5.out (by omega) hok
    rwa [hb1] at this)
   have HKp := hid (show ∀ W, Below w5.heap.size w5 W → Calls Tryz.prog 22 #[.pointer (some ⟨vb, 0, none⟩), eK lx] W (Gives W (.bool b2)) from fun W h => by
    have := hasLinkP_any lx W (hV.keep h)
    rwa [hvk] at this)
   have HKr := hid (show ∀ W, Below w5.heap.size w5 W → Calls Tryz.prog 23 #[.slice A5 n5 c5, eK lx] W (Gives W (.bool b2)) from fun W h => by
    have := link8_any lx row A5 n5 c5 W (hrd W h) HN5.out (by omega) hok
    rwa [hb2] at this)
   have HVl := hid (show vs.length ≤ 60 by omega)
   have HLl := hid (show labs.length ≤ 1000000 by omega)
   have HNl := hid (show nms.length ≤ 1000000 by omega)
   clear hV hb hO5 hok hTx hrd hvv hvn hvl hvh hvk hvlen hvs hlabs hnms hb1 hb2 hr60 hlb hnb hN6
   clear HFw HS HN HW HZv HXe HYe HP HPQ HX0 HE0 HZ1 HZ2 HF1 HSh H60 HB2' HB1 HB2 HB3 HB4 HO3 HO4 HSr HCl HRm HRl HN5 HN6 HB0 HB5
   go_upto_region 7 with fail
   try simp only [Act.put]
   refine wp_region_any (by kernel_rfl) ?_
   refine wpAny_below (fun iq uq wq => if iq = 2 then OwnK enW w5.heap.size 43 3 wq uq vs else if iq = 5 then OwnK enW w5.heap.size 43 3 wq uq vs else if iq = 6 then OwnK enW w5.heap.size 43 3 wq uq vs else if iq = 7 then OwnK enW w5.heap.size 43 3 wq uq vs else uq = ([.pointer (some ⟨vb, 0, none⟩), eE x, undef, .slice A5 n5 c5, eE x, undef, undef, undef] : List Value).getD iq undef) _ w5 (by kernel_rfl) (by kernel_rfl) (by kernel_rfl) (fun i v w w' hb h => by
     by_cases h2 : i = 2
     ·rw [if_pos h2] at h ⊢; exact OwnK.keep h hb
     rw [if_neg h2] at h ⊢
     by_cases h5 : i = 5
     ·rw [if_pos h5] at h ⊢; exact OwnK.keep h hb
     rw [if_neg h5] at h ⊢
     by_cases h6 : i = 6
     ·rw [if_pos h6] at h ⊢; exact OwnK.keep h hb
     rw [if_neg h6] at h ⊢
     by_cases h7 : i = 7
     ·rw [if_pos h7] at h ⊢; exact OwnK.keep h hb
     rw [if_neg h7] at h ⊢
     exact h) ?_ ?_
   ·refine ⟨?_, ?_, ?_, ?_, ?_, ?_, ?_, ?_, trivial⟩
    ·intro a W hI hun haft hi
     have e11 : a.eval (.tmp 11) = .pointer (some ⟨vb, 0, none⟩) := hun 11 (by kernel_rfl)
     exact b_same hi hI rfl _ (run_move_op rfl e11) rfl
    ·intro a W hI hun haft hi
     have e7 : a.eval (.tmp 7) = .pointer (some ⟨q, 0, none⟩) := hun 7 (by kernel_rfl)
     exact b_same hi hI rfl _ (run_load_op rfl e7 (HEB.out W hI) Tryz.underlying38 rfl (by kernel_rfl)) rfl
    ·intro a W hI hun haft hi
     have f0 : a.eval (.tmp 44) = .pointer (some ⟨vb, 0, none⟩) := haft ⟨0, .data⟩ (by simp) rfl _ _ rfl rfl
     have f1 : a.eval (.tmp 45) = eE x := haft ⟨1, .data⟩ (by simp) rfl _ _ rfl rfl
     refine b_call hi hI rfl _ _ (run_call_op (args := #[.pointer (some ⟨vb, 0, none⟩), eE x]) rfl (by simp [f0, f1]) (by kernel_rfl)) ?_
     exact (HVp.out W hI).mono fun e w' H => by
      obtain ⟨u, e1, h1, h2⟩ := H
      exact ⟨u, e1, h1.base_ hI.size, h2⟩
    ·intro a W hI hun haft hi
     have e9 : a.eval (.tmp 9) = .slice A5 n5 c5 := hun 9 (by kernel_rfl)
     exact b_same hi hI rfl _ (run_move_op rfl e9) rfl
    ·intro a W hI hun haft hi
     have e7 : a.eval (.tmp 7) = .pointer (some ⟨q, 0, none⟩) := hun 7 (by kernel_rfl)
     exact b_same hi hI rfl _ (run_load_op rfl e7 (HEB.out W hI) Tryz.underlying38 rfl (by kernel_rfl)) rfl
    ·intro a W hI hun haft hi
     have f3 : a.eval (.tmp 47) = .slice A5 n5 c5 := haft ⟨3, .data⟩ (by simp) rfl _ _ rfl rfl
     have f4 : a.eval (.tmp 48) = eE x := haft ⟨4, .data⟩ (by simp) rfl _ _ rfl rfl
     refine b_call hi hI rfl _ _ (run_call_op (args := #[.slice A5 n5 c5, eE x]) rfl (by simp [f3, f4]) (by kernel_rfl)) ?_
     exact (HVr.out W hI).mono fun e w' H => by
      obtain ⟨u, e1, h1, h2⟩ := H
      exact ⟨u, e1, h1.base_ hI.size, h2⟩
    ·intro a W hI hun haft hi
     have f2 : OwnK enW w5.heap.size 43 3 W (a.eval (.tmp 46)) vs := haft ⟨2, .data⟩ (by simp) rfl _ _ rfl rfl
     exact b_same hi hI rfl _ (run_assign_op rfl rfl) f2
    ·intro a W hI hun haft hi
     have f5 : OwnK enW w5.heap.size 43 3 W (a.eval (.tmp 49)) vs := haft ⟨5, .data⟩ (by simp) rfl _ _ rfl rfl
     exact b_same hi hI rfl _ (run_assign_op rfl rfl) f5
   ·intro vals W hI hp
    have hl6 : OwnK enW w5.heap.size 43 3 W (vals 6) vs := hp 6 (by decide)
    have hl7 : OwnK enW w5.heap.size 43 3 W (vals 7) vs := hp 7 (by decide)
    have HI := hid hI
    clear hp hI
    simp only [layN, layS, List.range, List.range.loop, if_true, Act.put, Nat.zero_add, Nat.reduceAdd]
    have HBi := HI
    clear HI
    obtain ⟨ua, hua⟩ : ∃ u, vals 6 = u := ⟨_, rfl⟩
    obtain ⟨ub, hub⟩ : ∃ u, vals 7 = u := ⟨_, rfl⟩
    rw [hua] at hl6
    rw [hub] at hl7
    rw [hua, hub]
    clear hua hub
    have HOa := hid hl6
    have HOb := hid hl7
    obtain ⟨Aa, ca, rfl, _, _⟩ := hl6.read enW_len
    obtain ⟨Ab, cb, rfl, _, _⟩ := hl7.read enW_len
    obtain ⟨n, hn⟩ : ∃ n, vs.length = n := ⟨_, rfl⟩
    rw [hn] at HOa HOb HVl ⊢
    have HNn := hid hn
    clear hl6 hl7 hn
    try simp only [Act.put]
    go_wp2_with fail
    go_loopw [57] (fun v57 wr => ∃ j : Nat, v57 = .int .i64 j ∧ j ≤ n ∧ Below w5.heap.size w5 wr ∧ OwnK enW w5.heap.size 43 3 wr (.slice Aa n ca) vs ∧ OwnK enW w5.heap.size 43 3 wr (.slice Ab n cb) vs) (fun v57 _ => n - (intOf v57).toNat)
    case atStart => exact ⟨0, rfl, Nat.zero_le _, HBi.out, HOa.out, HOb.out⟩
    case round =>
     clear HOa HOb HBi
     obtain ⟨j, rfl, hj, hbw, hoa, hob⟩ := hrel
     obtain ⟨wo, rfl⟩ : ∃ wo, wo = wr := ⟨_, rfl⟩
     by_cases hlt : j < n
     ·obtain ⟨v, hv⟩ : ∃ v, vs[j]? = some v := ⟨vs[j]'(by rw [HNn.out]; exact hlt), List.getElem?_eq_getElem _⟩
      obtain ⟨ga, rfl, _, hga, hca⟩ := hoa.at_ enW_len hv
      obtain ⟨gb, rfl, _, hgb, hcb⟩ := hob.at_ enW_len hv
      have HY1 := hid (show ∀ W, Below wo.heap.size wo W → W.rangeAt ga (j * 3) (enW v) from fun W h => rangeAt_below hca hga h)
      have HY2 := hid (show ∀ W, Below wo.heap.size wo W → W.rangeAt gb (j * 3) (enW v) from fun W h => rangeAt_below hcb hgb h)
      have HBw := hid hbw
      have HOa := hid hoa
      have HOb := hid hob
      have HW1 := hid (IntWalk.i64_in ((j : Int) + 1) (by have := HVl.out; omega))
      have HJ1 := hid (show ¬ 9223372036854775807 < j + 1 by have := HVl.out; omega)
      clear hv hga hca hgb hcb hbw hoa hob
      go_upto_region 13 with fail
      try simp only [Act.put]
      refine wp_region_any (by kernel_rfl) ?_
      refine wpAny_below (fun iq uq wq => uq = ([.slice (some ⟨ga, 0, none⟩) n ca, .int .i64 (j : Nat), .pointer (some ⟨ga, j * 3, none⟩), eV v, .slice (some ⟨gb, 0, none⟩) n cb, .int .i64 (j : Nat), .pointer (some ⟨gb, j * 3, none⟩), eV v, .bool false] : List Value).getD iq undef) _ wo (by kernel_rfl) (by kernel_rfl) (by kernel_rfl) (fun i v w w' _ h => h) ?_ ?_
      ·refine ⟨?_, ?_, ?_, ?_, ?_, ?_, ?_, ?_, ?_, trivial⟩
       ·intro a W hI hun haft hi
        have e12 : a.eval (.tmp 12) = .slice (some ⟨ga, 0, none⟩) n ca := hun 12 (by kernel_rfl)
        exact b_same hi hI rfl _ (run_move_op rfl e12) rfl
       ·intro a W hI hun haft hi
        have e14 : a.eval (.tmp 14) = .int .i64 (j : Nat) := hun 14 (by kernel_rfl)
        exact b_same hi hI rfl _ (run_move_op rfl e14) rfl
       ·intro a W hI hun haft hi
        have f0 : a.eval (.tmp 60) = .slice (some ⟨ga, 0, none⟩) n ca := haft ⟨0, .data⟩ (by simp) rfl _ _ rfl rfl
        have f1 : a.eval (.tmp 61) = .int .i64 (j : Nat) := haft ⟨1, .data⟩ (by simp) rfl _ _ rfl rfl
        exact b_same hi hI rfl _ (run_indexAddr_op rfl f0 f1 (at_Va0 ga ca n j hlt W)) rfl
       ·intro a W hI hun haft hi
        have f2 : a.eval (.tmp 62) = .pointer (some ⟨ga, j * 3, none⟩) := haft ⟨2, .data⟩ (by simp) rfl _ _ rfl rfl
        exact b_same hi hI rfl _ (run_loadmid_op rfl f2 (HY1.out W hI) Tryz.underlying43 rfl (by kernel_rfl)) rfl
       ·intro a W hI hun haft hi
        have e13 : a.eval (.tmp 13) = .slice (some ⟨gb, 0, none⟩) n cb := hun 13 (by kernel_rfl)
        exact b_same hi hI rfl _ (run_move_op rfl e13) rfl
       ·intro a W hI hun haft hi
        have e14 : a.eval (.tmp 14) = .int .i64 (j : Nat) := hun 14 (by kernel_rfl)
        exact b_same hi hI rfl _ (run_move_op rfl e14) rfl
       ·intro a W hI hun haft hi
        have f4 : a.eval (.tmp 64) = .slice (some ⟨gb, 0, none⟩) n cb := haft ⟨4, .data⟩ (by simp) rfl _ _ rfl rfl
        have f5 : a.eval (.tmp 65) = .int .i64 (j : Nat) := haft ⟨5, .data⟩ (by simp) rfl _ _ rfl rfl
        exact b_same hi hI rfl _ (run_indexAddr_op rfl f4 f5 (at_Va0 gb cb n j hlt W)) rfl
       ·intro a W hI hun haft hi
        have f6 : a.eval (.tmp 66) = .pointer (some ⟨gb, j * 3, none⟩) := haft ⟨6, .data⟩ (by simp) rfl _ _ rfl rfl
        exact b_same hi hI rfl _ (run_loadmid_op rfl f6 (HY2.out W hI) Tryz.underlying43 rfl (by kernel_rfl)) rfl
       ·intro a W hI hun haft hi
        have f3 : a.eval (.tmp 63) = eV v := haft ⟨3, .data⟩ (by simp) rfl _ _ rfl rfl
        have f7 : a.eval (.tmp 67) = eV v := haft ⟨7, .data⟩ (by simp) rfl _ _ rfl rfl
        exact b_same hi hI rfl (.bool false) (run_bin_op rfl f3 f7 (by kernel_rfl) (ne_VR (decide_eq_true rfl) W)) rfl
      ·intro vals W hI hp
       have hl8 : vals 8 = .bool false := hp 8 (by decide)
       have HI := hid hI
       clear hp hI
       simp only [layN, layS, List.range, List.range.loop, if_true, Act.put, Nat.zero_add, Nat.reduceAdd, hl8]
       clear hl8
       have HF := hid (And.intro (HBw.out.trans (HI.out.mono HBw.out.size)) (And.intro (HOa.out.keep HI.out) (HOb.out.keep HI.out)))
       have hw := HW1.out
       have hjm := HJ1.out
       clear HI
       try simp only [Act.put]
       go_wp2_with fail
       go_roundw
       case rel => exact ⟨j + 1, by go_num, by omega, HF.out.1, HF.out.2.1, HF.out.2.2⟩
       case measure => simp [intOf] <;> omega
     ·have HBw := hid hbw
      clear hbw hoa hob
      go_upto_region 16 with fail
      try simp only [Act.put]
      obtain ⟨wo2, hwo2⟩ : ∃ wo2, wo2 = wo := ⟨_, rfl⟩
      have HHp := hid (fun W (h : Below wo.heap.size wo W) => HHp.out W (HBw.out.trans (h.mono HBw.out.size)))
      have HHr := hid (fun W (h : Below wo.heap.size wo W) => HHr.out W (HBw.out.trans (h.mono HBw.out.size)))
      have HKp := hid (fun W (h : Below wo.heap.size wo W) => HKp.out W (HBw.out.trans (h.mono HBw.out.size)))
      have HKr := hid (fun W (h : Below wo.heap.size wo W) => HKr.out W (HBw.out.trans (h.mono HBw.out.size)))
      have HLp := hid (fun W (h : Below wo.heap.size wo W) => HLp.out W (HBw.out.trans (h.mono HBw.out.size)))
      have HLr := hid (fun W (h : Below wo.heap.size wo W) => HLr.out W (HBw.out.trans (h.mono HBw.out.size)))
      have HNp := hid (fun W (h : Below wo.heap.size wo W) => HNp.out W (HBw.out.trans (h.mono HBw.out.size)))
      have HNr := hid (fun W (h : Below wo.heap.size wo W) => HNr.out W (HBw.out.trans (h.mono HBw.out.size)))
      have HXB := hid (fun W (h : Below wo.heap.size wo W) => HXB.out W (HBw.out.trans (h.mono HBw.out.size)))
      have HEB := hid (fun W (h : Below wo.heap.size wo W) => HEB.out W (HBw.out.trans (h.mono HBw.out.size)))
      clear hwo2
      refine wp_region_any (by kernel_rfl) ?_
      refine wpAny_below (fun iq uq wq => if iq = 10 then OwnK enS wo.heap.size 9 1 wq uq labs else if iq = 13 then OwnK enS wo.heap.size 9 1 wq uq labs else if iq = 28 then OwnK enS wo.heap.size 9 1 wq uq nms else if iq = 31 then OwnK enS wo.heap.size 9 1 wq uq nms else uq = ([.pointer (some ⟨vb, 0, none⟩), .string key, .bool b1, .slice A5 n5 c5, .string key, .bool b1, .bool true, .bool true, .pointer (some ⟨vb, 0, none⟩), .string key, undef, .slice A5 n5 c5, .string key, undef, .bool true, .bool true, .bool true, .pointer (some ⟨vb, 0, none⟩), eK lx, .bool b2, .slice A5 n5 c5, eK lx, .bool b2, .bool true, .bool true, .bool true, .pointer (some ⟨vb, 0, none⟩), eE x, undef, .slice A5 n5 c5, eE x, undef, .bool true, .bool true, .bool true] : List Value).getD iq undef) _ wo (by kernel_rfl) (by kernel_rfl) (by kernel_rfl) (fun i v w w' hb h => by
        by_cases h10 : i = 10
        ·rw [if_pos h10] at h ⊢; exact OwnK.keep h hb
        rw [if_neg h10] at h ⊢
        by_cases h13 : i = 13
        ·rw [if_pos h13] at h ⊢; exact OwnK.keep h hb
        rw [if_neg h13] at h ⊢
        by_cases h28 : i = 28
        ·rw [if_pos h28] at h ⊢; exact OwnK.keep h hb
        rw [if_neg h28] at h ⊢
        by_cases h31 : i = 31
        ·rw [if_pos h31] at h ⊢; exact OwnK.keep h hb
        rw [if_neg h31] at h ⊢
        exact h) ?_ ?_
      ·refine ⟨?_, ?_, ?_, ?_, ?_, ?_, ?_, ?_, ?_, ?_, ?_, ?_, ?_, ?_, ?_, ?_, ?_, ?_, ?_, ?_, ?_, ?_, ?_, ?_, ?_, ?_, ?_, ?_, ?_, ?_, ?_, ?_, ?_, ?_, ?_, trivial⟩
       ·intro a W hI hun haft hi
        have e11 : a.eval (.tmp 11) = .pointer (some ⟨vb, 0, none⟩) := hun 11 (by kernel_rfl)
        exact b_same hi hI rfl _ (run_move_op rfl e11) rfl
       ·intro a W hI hun haft hi
        have e1 : a.eval (.tmp 1) = .string key := hun 1 (by kernel_rfl)
        exact b_same hi hI rfl _ (run_move_op rfl e1) rfl
       ·intro a W hI hun haft hi
        have f0 : a.eval (.tmp 70) = .pointer (some ⟨vb, 0, none⟩) := haft ⟨0, .data⟩ (by simp) rfl _ _ rfl rfl
        have f1 : a.eval (.tmp 71) = .string key := haft ⟨1, .data⟩ (by simp) rfl _ _ rfl rfl
        refine b_call hi hI rfl _ _ (run_call_op (args := #[.pointer (some ⟨vb, 0, none⟩), .string key]) rfl (by simp [f0, f1]) (by kernel_rfl)) ?_
        exact (HHp.out W hI).mono fun e w' H => ⟨_, H.1, rfl, H.2⟩
       ·intro a W hI hun haft hi
        have e9 : a.eval (.tmp 9) = .slice A5 n5 c5 := hun 9 (by kernel_rfl)
        exact b_same hi hI rfl _ (run_move_op rfl e9) rfl
       ·intro a W hI hun haft hi
        have e1 : a.eval (.tmp 1) = .string key := hun 1 (by kernel_rfl)
        exact b_same hi hI rfl _ (run_move_op rfl e1) rfl
       ·intro a W hI hun haft hi
        have f3 : a.eval (.tmp 73) = .slice A5 n5 c5 := haft ⟨3, .data⟩ (by simp) rfl _ _ rfl rfl
        have f4 : a.eval (.tmp 74) = .string key := haft ⟨4, .data⟩ (by simp) rfl _ _ rfl rfl
        refine b_call hi hI rfl _ _ (run_call_op (args := #[.slice A5 n5 c5, .string key]) rfl (by simp [f3, f4]) (by kernel_rfl)) ?_
        exact (HHr.out W hI).mono fun e w' H => ⟨_, H.1, rfl, H.2⟩
       ·intro a W hI hun haft hi
        have f2 : a.eval (.tmp 72) = .bool b1 := haft ⟨2, .data⟩ (by simp) rfl _ _ rfl rfl
        have f5 : a.eval (.tmp 75) = .bool b1 := haft ⟨5, .data⟩ (by simp) rfl _ _ rfl rfl
        exact b_same hi hI rfl (.bool true) (run_bin_op rfl f2 f5 (by kernel_rfl) (eqb b1 W)) rfl
       ·intro a W hI hun haft hi
        have f6 : a.eval (.tmp 76) = .bool true := haft ⟨6, .data⟩ (by simp) rfl _ _ rfl rfl
        exact b_same hi hI rfl _ (run_move_op rfl f6) rfl
       ·intro a W hI hun haft hi
        have fg : a.eval (.tmp 77) = .bool true := haft ⟨7, .guard⟩ (by simp) rfl _ _ rfl rfl
        have e11 : a.eval (.tmp 11) = .pointer (some ⟨vb, 0, none⟩) := hun 11 (by kernel_rfl)
        exact b_same hi hI (guard_ok rfl rfl rfl fg) _ (run_move_op rfl e11) rfl
       ·intro a W hI hun haft hi
        have fg : a.eval (.tmp 77) = .bool true := haft ⟨7, .guard⟩ (by simp) rfl _ _ rfl rfl
        have e1 : a.eval (.tmp 1) = .string key := hun 1 (by kernel_rfl)
        exact b_same hi hI (guard_ok rfl rfl rfl fg) _ (run_move_op rfl e1) rfl
       ·intro a W hI hun haft hi
        have fg : a.eval (.tmp 77) = .bool true := haft ⟨7, .guard⟩ (by simp) rfl _ _ rfl rfl
        have f8 : a.eval (.tmp 78) = .pointer (some ⟨vb, 0, none⟩) := haft ⟨8, .data⟩ (by simp) rfl _ _ rfl rfl
        have f9 : a.eval (.tmp 79) = .string key := haft ⟨9, .data⟩ (by simp) rfl _ _ rfl rfl
        refine b_call hi hI (guard_ok rfl rfl rfl fg) _ _ (run_call_op (args := #[.pointer (some ⟨vb, 0, none⟩), .string key]) rfl (by simp [f8, f9]) (by kernel_rfl)) ?_
        exact (HLp.out W hI).mono fun e w' H => by
         obtain ⟨u, e1, h1, h2⟩ := H
         exact ⟨u, e1, h1.base_ hI.size, h2⟩
       ·intro a W hI hun haft hi
        have fg : a.eval (.tmp 77) = .bool true := haft ⟨7, .guard⟩ (by simp) rfl _ _ rfl rfl
        have e9 : a.eval (.tmp 9) = .slice A5 n5 c5 := hun 9 (by kernel_rfl)
        exact b_same hi hI (guard_ok rfl rfl rfl fg) _ (run_move_op rfl e9) rfl
       ·intro a W hI hun haft hi
        have fg : a.eval (.tmp 77) = .bool true := haft ⟨7, .guard⟩ (by simp) rfl _ _ rfl rfl
        have e1 : a.eval (.tmp 1) = .string key := hun 1 (by kernel_rfl)
        exact b_same hi hI (guard_ok rfl rfl rfl fg) _ (run_move_op rfl e1) rfl
       ·intro a W hI hun haft hi
        have fg : a.eval (.tmp 77) = .bool true := haft ⟨7, .guard⟩ (by simp) rfl _ _ rfl rfl
        have f11 : a.eval (.tmp 81) = .slice A5 n5 c5 := haft ⟨11, .data⟩ (by simp) rfl _ _ rfl rfl
        have f12 : a.eval (.tmp 82) = .string key := haft ⟨12, .data⟩ (by simp) rfl _ _ rfl rfl
        refine b_call hi hI (guard_ok rfl rfl rfl fg) _ _ (run_call_op (args := #[.slice A5 n5 c5, .string key]) rfl (by simp [f11, f12]) (by kernel_rfl)) ?_
        exact (HLr.out W hI).mono fun e w' H => by
         obtain ⟨u, e1, h1, h2⟩ := H
         exact ⟨u, e1, h1.base_ hI.size, h2⟩
       ·intro a W hI hun haft hi
        have fg : a.eval (.tmp 77) = .bool true := haft ⟨7, .guard⟩ (by simp) rfl _ _ rfl rfl
        have f10 : OwnK enS wo.heap.size 9 1 W (a.eval (.tmp 80)) labs := haft ⟨10, .data⟩ (by simp) rfl _ _ rfl rfl
        have f13 : OwnK enS wo.heap.size 9 1 W (a.eval (.tmp 83)) labs := haft ⟨13, .data⟩ (by simp) rfl _ _ rfl rfl
        obtain ⟨A1, z1, e1, _, _⟩ := (f10).read enS_len
        obtain ⟨A2, z2, e2, _, _⟩ := (f13).read enS_len
        have g1 := (f10).read enS_len
        have g2 := (f13).read enS_len
        rw [e1] at g1
        rw [e2] at g2
        refine b_call hi hI (guard_ok rfl rfl rfl fg) _ _ (run_call_op (args := #[.slice A1 (labs).length z1, .slice A2 (labs).length z2]) rfl (by simp [e1, e2]) (by kernel_rfl)) ?_
        exact (sameS_any (labs) A1 A2 _ z1 z2 W g1 g2 rfl HLl.out).mono fun e w' H => ⟨_, H.1, rfl, H.2⟩
       ·intro a W hI hun haft hi
        have f7 : a.eval (.tmp 77) = .bool true := haft ⟨7, .data⟩ (by simp) rfl _ _ rfl rfl
        have f14 : a.eval (.tmp 84) = .bool true := haft ⟨14, .data⟩ (by simp) rfl _ _ rfl rfl
        exact b_same hi hI rfl _ (run_pick_op (b := true) rfl f7 f14 rfl) rfl
       ·intro a W hI hun haft hi
        have f15 : a.eval (.tmp 85) = .bool true := haft ⟨15, .data⟩ (by simp) rfl _ _ rfl rfl
        exact b_same hi hI rfl _ (run_move_op rfl f15) rfl
       ·intro a W hI hun haft hi
        have fg : a.eval (.tmp 86) = .bool true := haft ⟨16, .guard⟩ (by simp) rfl _ _ rfl rfl
        have e11 : a.eval (.tmp 11) = .pointer (some ⟨vb, 0, none⟩) := hun 11 (by kernel_rfl)
        exact b_same hi hI (guard_ok rfl rfl rfl fg) _ (run_move_op rfl e11) rfl
       ·intro a W hI hun haft hi
        have fg : a.eval (.tmp 86) = .bool true := haft ⟨16, .guard⟩ (by simp) rfl _ _ rfl rfl
        have e6 : a.eval (.tmp 6) = .pointer (some ⟨p, 0, none⟩) := hun 6 (by kernel_rfl)
        exact b_same hi hI (guard_ok rfl rfl rfl fg) _ (run_load_op rfl e6 (HXB.out W hI) Tryz.underlying36 rfl (by kernel_rfl)) rfl
       ·intro a W hI hun haft hi
        have fg : a.eval (.tmp 86) = .bool true := haft ⟨16, .guard⟩ (by simp) rfl _ _ rfl rfl
        have f17 : a.eval (.tmp 87) = .pointer (some ⟨vb, 0, none⟩) := haft ⟨17, .data⟩ (by simp) rfl _ _ rfl rfl
        have f18 : a.eval (.tmp 88) = eK lx := haft ⟨18, .data⟩ (by simp) rfl _ _ rfl rfl
        refine b_call hi hI (guard_ok rfl rfl rfl fg) _ _ (run_call_op (args := #[.pointer (some ⟨vb, 0, none⟩), eK lx]) rfl (by simp [f17, f18]) (by kernel_rfl)) ?_
        exact (HKp.out W hI).mono fun e w' H => ⟨_, H.1, rfl, H.2⟩
       ·intro a W hI hun haft hi
        have fg : a.eval (.tmp 86) = .bool true := haft ⟨16, .guard⟩ (by simp) rfl _ _ rfl rfl
        have e9 : a.eval (.tmp 9) = .slice A5 n5 c5 := hun 9 (by kernel_rfl)
        exact b_same hi hI (guard_ok rfl rfl rfl fg) _ (run_move_op rfl e9) rfl
       ·intro a W hI hun haft hi
        have fg : a.eval (.tmp 86) = .bool true := haft ⟨16, .guard⟩ (by simp) rfl _ _ rfl rfl
        have e6 : a.eval (.tmp 6) = .pointer (some ⟨p, 0, none⟩) := hun 6 (by kernel_rfl)
        exact b_same hi hI (guard_ok rfl rfl rfl fg) _ (run_load_op rfl e6 (HXB.out W hI) Tryz.underlying36 rfl (by kernel_rfl)) rfl
       ·intro a W hI hun haft hi
        have fg : a.eval (.tmp 86) = .bool true := haft ⟨16, .guard⟩ (by simp) rfl _ _ rfl rfl
        have f20 : a.eval (.tmp 90) = .slice A5 n5 c5 := haft ⟨20, .data⟩ (by simp) rfl _ _ rfl rfl
        have f21 : a.eval (.tmp 91) = eK lx := haft ⟨21, .data⟩ (by simp) rfl _ _ rfl rfl
        refine b_call hi hI (guard_ok rfl rfl rfl fg) _ _ (run_call_op (args := #[.slice A5 n5 c5, eK lx]) rfl (by simp [f20, f21]) (by kernel_rfl)) ?_
        exact (HKr.out W hI).mono fun e w' H => ⟨_, H.1, rfl, H.2⟩
       ·intro a W hI hun haft hi
        have fg : a.eval (.tmp 86) = .bool true := haft ⟨16, .guard⟩ (by simp) rfl _ _ rfl rfl
        have f19 : a.eval (.tmp 89) = .bool b2 := haft ⟨19, .data⟩ (by simp) rfl _ _ rfl rfl
        have f22 : a.eval (.tmp 92) = .bool b2 := haft ⟨22, .data⟩ (by simp) rfl _ _ rfl rfl
        exact b_same hi hI (guard_ok rfl rfl rfl fg) (.bool true) (run_bin_op rfl f19 f22 (by kernel_rfl) (eqb b2 W)) rfl
       ·intro a W hI hun haft hi
        have f16 : a.eval (.tmp 86) = .bool true := haft ⟨16, .data⟩ (by simp) rfl _ _ rfl rfl
        have f23 : a.eval (.tmp 93) = .bool true := haft ⟨23, .data⟩ (by simp) rfl _ _ rfl rfl
        exact b_same hi hI rfl _ (run_pick_op (b := true) rfl f16 f23 rfl) rfl
       ·intro a W hI hun haft hi
        have f24 : a.eval (.tmp 94) = .bool true := haft ⟨24, .data⟩ (by simp) rfl _ _ rfl rfl
        exact b_same hi hI rfl _ (run_move_op rfl f24) rfl
       ·intro a W hI hun haft hi
        have fg : a.eval (.tmp 95) = .bool true := haft ⟨25, .guard⟩ (by simp) rfl _ _ rfl rfl
        have e11 : a.eval (.tmp 11) = .pointer (some ⟨vb, 0, none⟩) := hun 11 (by kernel_rfl)
        exact b_same hi hI (guard_ok rfl rfl rfl fg) _ (run_move_op rfl e11) rfl
       ·intro a W hI hun haft hi
        have fg : a.eval (.tmp 95) = .bool true := haft ⟨25, .guard⟩ (by simp) rfl _ _ rfl rfl
        have e7 : a.eval (.tmp 7) = .pointer (some ⟨q, 0, none⟩) := hun 7 (by kernel_rfl)
        exact b_same hi hI (guard_ok rfl rfl rfl fg) _ (run_load_op rfl e7 (HEB.out W hI) Tryz.underlying38 rfl (by kernel_rfl)) rfl
       ·intro a W hI hun haft hi
        have fg : a.eval (.tmp 95) = .bool true := haft ⟨25, .guard⟩ (by simp) rfl _ _ rfl rfl
        have f26 : a.eval (.tmp 96) = .pointer (some ⟨vb, 0, none⟩) := haft ⟨26, .data⟩ (by simp) rfl _ _ rfl rfl
        have f27 : a.eval (.tmp 97) = eE x := haft ⟨27, .data⟩ (by simp) rfl _ _ rfl rfl
        refine b_call hi hI (guard_ok rfl rfl rfl fg) _ _ (run_call_op (args := #[.pointer (some ⟨vb, 0, none⟩), eE x]) rfl (by simp [f26, f27]) (by kernel_rfl)) ?_
        exact (HNp.out W hI).mono fun e w' H => by
         obtain ⟨u, e1, h1, h2⟩ := H
         exact ⟨u, e1, h1.base_ hI.size, h2⟩
       ·intro a W hI hun haft hi
        have fg : a.eval (.tmp 95) = .bool true := haft ⟨25, .guard⟩ (by simp) rfl _ _ rfl rfl
        have e9 : a.eval (.tmp 9) = .slice A5 n5 c5 := hun 9 (by kernel_rfl)
        exact b_same hi hI (guard_ok rfl rfl rfl fg) _ (run_move_op rfl e9) rfl
       ·intro a W hI hun haft hi
        have fg : a.eval (.tmp 95) = .bool true := haft ⟨25, .guard⟩ (by simp) rfl _ _ rfl rfl
        have e7 : a.eval (.tmp 7) = .pointer (some ⟨q, 0, none⟩) := hun 7 (by kernel_rfl)
        exact b_same hi hI (guard_ok rfl rfl rfl fg) _ (run_load_op rfl e7 (HEB.out W hI) Tryz.underlying38 rfl (by kernel_rfl)) rfl
       ·intro a W hI hun haft hi
        have fg : a.eval (.tmp 95) = .bool true := haft ⟨25, .guard⟩ (by simp) rfl _ _ rfl rfl
        have f29 : a.eval (.tmp 99) = .slice A5 n5 c5 := haft ⟨29, .data⟩ (by simp) rfl _ _ rfl rfl
        have f30 : a.eval (.tmp 100) = eE x := haft ⟨30, .data⟩ (by simp) rfl _ _ rfl rfl
        refine b_call hi hI (guard_ok rfl rfl rfl fg) _ _ (run_call_op (args := #[.slice A5 n5 c5, eE x]) rfl (by simp [f29, f30]) (by kernel_rfl)) ?_
        exact (HNr.out W hI).mono fun e w' H => by
         obtain ⟨u, e1, h1, h2⟩ := H
         exact ⟨u, e1, h1.base_ hI.size, h2⟩
       ·intro a W hI hun haft hi
        have fg : a.eval (.tmp 95) = .bool true := haft ⟨25, .guard⟩ (by simp) rfl _ _ rfl rfl
        have f28 : OwnK enS wo.heap.size 9 1 W (a.eval (.tmp 98)) nms := haft ⟨28, .data⟩ (by simp) rfl _ _ rfl rfl
        have f31 : OwnK enS wo.heap.size 9 1 W (a.eval (.tmp 101)) nms := haft ⟨31, .data⟩ (by simp) rfl _ _ rfl rfl
        obtain ⟨A1, z1, e1, _, _⟩ := (f28).read enS_len
        obtain ⟨A2, z2, e2, _, _⟩ := (f31).read enS_len
        have g1 := (f28).read enS_len
        have g2 := (f31).read enS_len
        rw [e1] at g1
        rw [e2] at g2
        refine b_call hi hI (guard_ok rfl rfl rfl fg) _ _ (run_call_op (args := #[.slice A1 (nms).length z1, .slice A2 (nms).length z2]) rfl (by simp [e1, e2]) (by kernel_rfl)) ?_
        exact (sameS_any (nms) A1 A2 _ z1 z2 W g1 g2 rfl HNl.out).mono fun e w' H => ⟨_, H.1, rfl, H.2⟩
       ·intro a W hI hun haft hi
        have f25 : a.eval (.tmp 95) = .bool true := haft ⟨25, .data⟩ (by simp) rfl _ _ rfl rfl
        have f32 : a.eval (.tmp 102) = .bool true := haft ⟨32, .data⟩ (by simp) rfl _ _ rfl rfl
        exact b_same hi hI rfl _ (run_pick_op (b := true) rfl f25 f32 rfl) rfl
       ·intro a W hI hun haft hi
        have f33 : a.eval (.tmp 103) = .bool true := haft ⟨33, .data⟩ (by simp) rfl _ _ rfl rfl
        exact b_same hi hI rfl _ (run_assign_op rfl f33) rfl
      ·intro vals W hI hp
       have hl34 : vals 34 = .bool true := hp 34 (by decide)
       have HI := hid hI
       clear hp hI
       simp only [layN, layS, List.range, List.range.loop, if_true, Act.put, Nat.zero_add, Nat.reduceAdd, hl34]
       clear hl34
       have HBe := hid (HB05.out.trans ((HBw.out.trans (HI.out.mono HBw.out.size)).mono HB05.out.size))
       clear HI
       try simp only [Act.put]
       go_wp2_with fail
       go_ret
       exact ⟨rfl, HBe.out⟩
end Go.Proofs.YtdgglhlofnigkaaGreatDoor
