/-
  hedgerowlaw08.GraphHides: the walk. Conditions: lengths.
-/
import Derived.Test.YtdgglhlofnigkaaGreatDoorJGrHidM
import Derived.Test.YtdgglhlofnigkaaGreatDoorGrLines
import Derived.Test.YtdgglhlofnigkaaGreatDoorGrFix
import Derived.Test.YtdgglhlofnigkaaGreatDoorStCausal
namespace Go.Proofs.YtdgglhlofnigkaaGreatDoor
open Lib (hid)
open Go.RowKit Go.MapKept Go.Sort
def ViewV (w w' : World) (v : Value) (V : Vw) : Prop := ∃ vb own nv lv b1 b2 b3 b4 b5, v = .pointer (some ⟨vb, 0, none⟩) ∧ VIs own w.heap.size w' vb V nv lv b1 b2 b3 b4 b5 ∧ Below w.heap.size w w'
theorem view_is (row : List Ev) (v : Value) (w0 w : World) (R : Nat) (ho : OwnK encE R 60 27 w v row) (hN : row.length ≤ 100) (hc : CausL row) (hl : ∀ e ∈ row, Lens e) (hw : CutOk w) (hb0 : Below w0.heap.size w0 w) :
  Calls Tryz.prog 10 #[v] w fun e w' => ∃ u, e = .returned u ∧ ViewV w0 w' u (viewL row) := by
 obtain ⟨A, c, rfl, _, _⟩ := ho.read encE_len
 refine (view_any row A _ c w (ho.read encE_len) rfl hN hc hl hw).mono ?_
 rintro e w' ⟨vb, rfl, ⟨own, nv, lv, b1, b2, b3, b4, b5, hV⟩, hb⟩
 exact ⟨_, rfl, vb, own, nv, lv, b1, b2, b3, b4, b5, rfl, hV.rebase hb0.size, hb0.trans (hb.mono hb0.size)⟩
theorem guardI8 (o : BinOp) (t : TypeId) (x y : Operand) (k k' : IntKind) (a b : Int) (w : World) : (eqGuard o t x y (.int k a) (.int k' b)).run Tryz.prog w = .ok () w := by
 cases o <;> rfl
theorem add_c {a : Int} (h : IntKind.i64.wrap (a + 1) = a + 1) (w : World) : (binOp .add 3 (.int .i64 a) (.int .i64 1)).run Tryz.prog w = .ok (.int .i64 (a + 1)) w := by
 go_simp
theorem bsEv2 (e f : Ev) (w : World) : (Instr.buildSlice 22 2 #[(0, .agg (evC e)), (1, .agg (evC f))]).run Tryz.prog w = .ok (.slice (some ⟨w.heap.size, 0, none⟩) 2 2) (w.alloc (.cells (evC e ++ evC f) 60)) := by
 unfold evC; go_simp
theorem sl_ev1 (e : Ev) (w : World) : SlK encE 27 (w.alloc (.cells (evC e) 60)) (.slice (some ⟨w.heap.size, 0, none⟩) 1 1) [e] := ⟨_, _, rfl, Nat.le_refl _, fun _ => ⟨w.heap.size, 0, rfl, by simp, fun q y hq => by
 have hq0 : q = 0 := by have := (List.getElem?_eq_some_iff.1 hq).1; simp at this; exact this
 subst hq0
 have hy : y = e := by simpa using hq.symm
 subst hy
 intro i u hu
 rw [Blk.cell (Blk.new w _ _)]
 simpa [encE] using hu⟩⟩
theorem sl_ev2 (e f : Ev) (w : World) : SlK encE 27 (w.alloc (.cells (evC e ++ evC f) 60)) (.slice (some ⟨w.heap.size, 0, none⟩) 2 2) [e, f] := by
 refine ⟨_, _, rfl, Nat.le_refl _, fun _ => ⟨w.heap.size, 0, rfl, by simp, fun q y hq => ?_⟩⟩
 have h0 : q < 2 := by have := (List.getElem?_eq_some_iff.1 hq).1; simpa using this
 have hc : q = 0 ∨ q = 1 := by omega
 intro i u hu
 have hi : i < 27 := (List.getElem?_eq_some_iff.1 hu).1
 rw [Blk.cell (Blk.new w _ _)]
 rcases hc with rfl | rfl
 ·have hy : y = e := by simpa using hq.symm
  subst hy
  rw [show 0 + 0 * 27 + i = i by omega, Array.getElem?_append_left (by show i < 27; exact hi)]
  simpa [encE] using hu
 ·have hy : y = f := by simpa using hq.symm
  subst hy
  rw [show 0 + 1 * 27 + i = 27 + i by omega, Array.getElem?_append_right (by show 27 ≤ 27 + i; omega), show 27 + i - (evC e).size = i by (show 27 + i - 27 = i; omega)]
  simpa [encE] using hu
def pH1 (R : Nat) (row : List Ev) (A : Option Addr) (n c : Nat) (e : Ev) (i : Nat) (v : Value) (w : World) : Prop :=
 match i with
 | 0 => ∃ g, v = .slice (some ⟨g, 0, none⟩) 0 0 ∧ OwnK encE R 60 27 w v []
 | 1 => v = .slice A n c
 | 2 => OwnK encE R 60 27 w v row
 | 3 => v = .agg (evC e)
 | 4 => SlK encE 27 w v [e]
 | _ => True
theorem pH1_keep {R : Nat} {row : List Ev} {A : Option Addr} {n c : Nat} {e : Ev} {i : Nat} {v : Value} {w w' : World} (hb : Below w.heap.size w w') (h : pH1 R row A n c e i v w) : pH1 R row A n c e i v w' := by
 unfold pH1 at *
 split at h
 ·obtain ⟨g, h1, h2⟩ := h; exact ⟨g, h1, h2.keep hb⟩
 ·exact h
 ·exact OwnK.keep h hb
 ·exact h
 ·exact SlK.below h hb
 ·trivial
def pH2 (R : Nat) (row : List Ev) (A : Option Addr) (n c : Nat) (e f : Ev) (i : Nat) (v : Value) (w : World) : Prop :=
 match i with
 | 0 => ∃ g, v = .slice (some ⟨g, 0, none⟩) 0 0 ∧ OwnK encE R 60 27 w v []
 | 1 => v = .slice A n c
 | 2 => OwnK encE R 60 27 w v row
 | 3 => v = .agg (evC e)
 | 4 => v = .agg (evC f)
 | 5 => SlK encE 27 w v [e, f]
 | _ => True
theorem pH2_keep {R : Nat} {row : List Ev} {A : Option Addr} {n c : Nat} {e f : Ev} {i : Nat} {v : Value} {w w' : World} (hb : Below w.heap.size w w') (h : pH2 R row A n c e f i v w) : pH2 R row A n c e f i v w' := by
 unfold pH2 at *
 split at h
 ·obtain ⟨g, h1, h2⟩ := h; exact ⟨g, h1, h2.keep hb⟩
 ·exact h
 ·exact OwnK.keep h hb
 ·exact h
 ·exact h
 ·exact SlK.below h hb
 ·trivial
theorem short_sizes (e : Ev) (h : shortB e = true) : e.a.size ≤ 300 ∧ e.b.size ≤ 300 ∧ e.cc.size ≤ 300 ∧ e.d.size ≤ 300 ∧ e.t.size ≤ 300 := by
 unfold shortB at h
 have := of_decide_eq_true h
 omega
theorem view_text {row : List Ev} (hc : CausL row) (hsh : ∀ e ∈ row, shortB e = true) (hn : row.length ≤ 1000) : TextV (viewL row) := by
 have hl : ∀ e ∈ row, Lens e := fun e he => short_lens e (hsh e he)
 refine text_fold (fun x => ?_) (fun x hx => ?_) (Nat.le_trans (elsG_len row) hn)
 ·rw [vals_is hc hl]
  unfold valsG
  refine ⟨Nat.le_trans (riseC_len _) ?_, fun z hz => ?_⟩
  ·rw [List.length_map]; exact Nat.le_trans (List.length_filter_le _ _) hn
  ·rw [riseC_mem] at hz
   obtain ⟨e, he, rfl⟩ := List.mem_map.1 hz
   have := (short_sizes e (hsh e (List.mem_filter.1 he).1)).2.2.2.2
   show e.t.size ≤ 1000
   omega
 ·obtain ⟨e, he, rfl⟩ := (els_mem row x).1 (List.mem_filter.1 hx).1
  have := short_sizes e (hsh e he)
  unfold SmE elOf
  dsimp only
  omega
theorem linesV_len (row : List Ev) (hn : row.length ≤ 60) : (linesV (viewL row)).length ≤ 8000 := by
 have hs : SizeV (foldV (valsS (runS row)) (elsG row)) (elsG row).length := by
  have := size_fold (valsS (runS row)) (elsG row) _ (Nat.le_refl _)
  rwa [List.take_length] at this
 have he := elsG_len row
 obtain ⟨s1, s2, _, s4⟩ := hs
 have hp : ∀ x f, (partLinesV (viewL row) x f).length ≤ 60 := fun x f => by
  unfold partLinesV
  rw [List.length_map]
  show (((foldV (valsS (runS row)) (elsG row)).part x).getD []).length ≤ 60
  cases hq : (foldV (valsS (runS row)) (elsG row)).part x with
  | none => exact Nat.zero_le _
  | some ps => have := s4 x ps hq; rw [Option.getD_some]; omega
 have h3 : (viewL row).nodes.length ≤ 60 := Nat.le_trans s1 (by omega)
 have h4 : (viewL row).links.length ≤ 60 := by
  show (sortK (foldV (valsS (runS row)) (elsG row)).links).length ≤ 60
  rw [(sortK_perm _).length_eq]; omega
 unfold linesV
 have h1 := flat_le (nodeLines (viewL row)) 61 (viewL row).nodes fun x _ => by unfold nodeLines; rw [List.length_cons]; have := hp (nodeE x) [wProp, x]; omega
 have h2 := flat_le (linkLines (viewL row)) 61 (viewL row).links fun x _ => by unfold linkLines; rw [List.length_cons]; have := hp (linkE x) [wTrait, x.f, x.y, x.t]; omega
 rw [List.length_append]
 omega
set_option maxRecDepth 100000 in
set_option maxHeartbeats 20000000 in
theorem ghides_walk (key : ByteArray) (l : List Ev) (A : Option Addr) (N c : Nat) (w : World) (hs : SlK encE 27 w (.slice A N c) l) (hN : l.length = N) (hN2 : N ≤ 4611686018427387903) (hf : ∀ e ∈ l, Fit e) (hw : WOk w) :
  Calls Tryz.prog 6 #[.slice A N c, .string key] w (Gives w (.bool true)) := by
 have HFw := hid (fun W (h : Below w.heap.size w W) => few8_any l A N c W (hs.below h) hN hN2 hf)
 have HS := hid hs
 have HN := hid hN
 have HW := hid hw
 have HZv := hid (zero_of_info zeroV).1
 clear hs hN hN2 hf hw
 cases hfew : few8B l
 ·rw [hfew] at HFw
  clear hfew
  go_enter Tryz.func6, Tryz.ntmps6
  go_wp2_with fail
  refine (fixed8 w HW.out).mono ?_
  rintro e w1 ⟨rfl, hb⟩
  have HB1 := hid hb
  clear hb
  go_wp2_with fail
  refine (HFw.out w1 HB1.out).mono ?_
  rintro e w2 ⟨rfl, hb⟩
  have HB2 := hid (HB1.out.trans (hb.mono HB1.out.size))
  clear hb
  go_wp2
  go_ret
  exact ⟨rfl, HB2.out⟩
 ·have hsh : ∀ e ∈ l, shortB e = true := by
   unfold few8B at hfew
   simp only [Bool.and_eq_true, List.all_eq_true] at hfew
   exact hfew.1
  have hl60 : N ≤ 60 := by
   unfold few8B at hfew
   simp only [Bool.and_eq_true, decide_eq_true_eq] at hfew
   have := hfew.2
   rw [HN.out] at this
   omega
  rw [hfew] at HFw
  have HSh := hid hsh
  have H60 := hid hl60
  clear hfew hsh hl60
  go_enter Tryz.func6, Tryz.ntmps6
  go_wp2_with fail
  refine (fixed8 w HW.out).mono ?_
  rintro e w1 ⟨rfl, hb⟩
  have HB1 := hid hb
  clear hb
  go_wp2_with fail
  refine (HFw.out w1 HB1.out).mono ?_
  rintro e w2 ⟨rfl, hb⟩
  have HB2 := hid (HB1.out.trans (hb.mono HB1.out.size))
  clear hb
  by_cases h50 : (50 : Int) < (key.size : Int)
  ·go_wp2_with fail
   go_ret
   exact ⟨rfl, HB2.out⟩
  go_wp2_with fail
  clear h50
  refine (causal_any l A N c w2 (HS.out.below HB2.out) HN.out H60.out (fun e he => short_tiny e (HSh.out e he))).mono ?_
  rintro e w3 ⟨rv, rfl, ho3, hb⟩
  obtain ⟨row, hrow⟩ : ∃ row, (causC l).1 = row := ⟨_, rfl⟩
  obtain ⟨f, hff⟩ : ∃ f, (causC l).2 = f := ⟨_, rfl⟩
  have hcl : CausL row := by rw [← hrow]; exact caus_row l
  rw [hrow] at ho3
  rw [hff]
  have hrl : row.length ≤ 60 := by have := causC_len l; rw [hrow] at this; have h1 := HN.out; have h2 := H60.out; omega
  have hrm : ∀ e ∈ row, Lens e := fun e he => short_lens e (HSh.out e (causC_mem l e (by rw [hrow]; exact he)))
  have HCl := hid hcl
  have HRm := hid hrm
  have HShr := hid (show ∀ e ∈ row, shortB e = true from fun e he => HSh.out e (causC_mem l e (by rw [hrow]; exact he)))
  have HRow0 := hid hrow
  have HF0 := hid hff
  have HRl := hid hrl
  have HB3 := hid (HB2.out.trans (hb.mono HB2.out.size))
  have HO3 := hid ho3
  obtain ⟨A5, c5, rfl, _, _⟩ := ho3.read encE_len
  clear hb hrow hff ho3 hrl hrm hcl
  obtain ⟨n5, hn5⟩ : ∃ n5, row.length = n5 := ⟨_, rfl⟩
  rw [hn5] at HO3 ⊢
  have HN5 := hid hn5
  have HN6 := hid (show n5 ≤ 60 by rw [← hn5]; exact HRl.out)
  clear hn5
  have hzv := HZv.out
  have hAl := fun c => World.setRow_alloc_new w3 (vA fun _ => 0) c 26
  have hZ : Blk (w3.alloc (.cells (vA fun _ => 0) 26)) w3.heap.size 26 (vA fun _ => 0) := Blk.new _ _ _
  go_wp2_with (first
   | (refine wpList_store_row rfl 26 (.tmp 6) (.tmp 29) rfl w3.heap.size (vA f) rfl rfl _ _ hZ (sizeV _) (by rw [vA_size, vA_size]) (vA_one _) ?_; rw [hAl])
   | fail)
  clear hzv hAl hZ
  obtain ⟨w4, hw4⟩ : ∃ w4, w3.alloc (.cells (vA f) 26) = w4 := ⟨_, rfl⟩
  rw [hw4]
  have HV4 := hid (show VB w4 w3.heap.size f by rw [← hw4]; exact Blk.new _ _ _)
  have hs34 : w4.heap.size = w3.heap.size + 1 := by rw [← hw4]; simp
  obtain ⟨p6, hp6⟩ : ∃ p6, w3.heap.size = p6 := ⟨_, rfl⟩
  have hb4 : Below w3.heap.size w3 w4 := by rw [← hw4]; exact (Below.refl _ _).alloc (Nat.le_refl _) _
  have HB4 := hid (HB3.out.trans (hb4.mono HB3.out.size))
  have HO4 := hid (HO3.out.keep hb4)
  have HP6 := hid (show w3.heap.size = p6 ∧ w4.heap.size = p6 + 1 from ⟨hp6, by omega⟩)
  rw [hp6] at HV4 ⊢
  clear hw4 hb4 hs34 hp6
  refine (view_any row A5 n5 c5 w4 (HO4.out.read encE_len) HN5.out (by have := HN6.out; omega) HCl.out HRm.out (HW.out.cut.below HB4.out)).mono ?_
  rintro e w5 ⟨vb, rfl, ⟨own, nv, lv, b1, b2, b3, b4, b5, hV⟩, hb⟩
  have HB5 := hid (HB4.out.trans (hb.mono HB4.out.size))
  have HO5 := hid (HO4.out.keep hb)
  have HV5 := hid hV
  have HSr := hid (show ∀ e ∈ row, shortB e = true from HShr.out)
  have hkn : Known row f := by
   have := Known.of l (fun e he => HRm.out e (by rw [← HRow0.out]; exact he))
   rwa [HRow0.out, HF0.out] at this
  have HKn := hid hkn
  have HTx := hid (view_text HCl.out HSr.out (by have := HRl.out; omega))
  have HTl := hid (linesV_len row HRl.out)
  have HWw := hid (fun W (h : Below w5.heap.size w5 W) => (HW.out.below HB5.out).below h)
  have hhas := viewL_has HCl.out HRm.out key
  have HVk := hid (HV4.out.keep hb)
  clear hV hb
  obtain ⟨b, hbq⟩ : ∃ b, hasG row (nodeE key) = b := ⟨_, rfl⟩
  rw [hbq] at hhas
  have HHq := hid hbq
  have HHas := hid (show Calls Tryz.prog 18 #[.pointer (some ⟨vb, 0, none⟩), .string key] w5 (Gives w5 (.bool b)) from by have := hasP_any key w5 HV5.out; rwa [hhas] at this)
  clear hbq hhas hkn
  go_wp2_with fail
  refine HHas.out.mono ?_
  rintro e w6 ⟨rfl, hb⟩
  have HB6 := hid (HB5.out.trans (hb.mono HB5.out.size))
  have HV6 := hid (HV5.out.keep hb)
  have HO6 := hid (HO5.out.keep hb)
  have HVk6 := hid (show VB w6 p6 f from VB.keep HVk.out hb)
  have HW6 := hid (HWw.out w6 hb)
  clear hb
  cases b with
  | false =>
   go_wp2_with fail
   go_ret
   exact ⟨rfl, HB6.out⟩
  | true =>
   have c15 : w6.cell? ⟨p6, 15, none⟩ = some (.int .i64 (f 15)) := VB.cell_ HVk6.out 15 (by decide)
   have HBd := hid (HKn.out.bounds 15)
   by_cases hge : (1048574 : Int) ≤ f 15
   ·go_wp2_with fail
    go_ret
    exact ⟨rfl, HB6.out⟩
   ·skip
    have HLt := hid (show f 15 < 1048574 by omega)
    obtain ⟨p8, hp8⟩ : ∃ p8, w6.heap.size = p8 := ⟨_, rfl⟩
    obtain ⟨w7, hw7⟩ : ∃ w7, w7 = w6.alloc (.cells #[.int .i64 1, .string key, .string ⟨#[]⟩, .string ⟨#[]⟩, .string ⟨#[]⟩] 38) := ⟨_, rfl⟩
    have hb7 : Below w6.heap.size w6 w7 := by rw [hw7]; exact (Below.refl _ _).alloc (Nat.le_refl _) _
    have hE7 : Blk w7 p8 38 #[.int .i64 1, .string key, .string ⟨#[]⟩, .string ⟨#[]⟩, .string ⟨#[]⟩] := by rw [hw7, ← hp8]; exact Blk.new _ _ _
    have hVk7 : VB w7 p6 f := VB.keep HVk6.out hb7
    have hlt7 : p8 + 1 = w7.heap.size := by rw [hw7, ← hp8]; simp
    have hp68 : p6 < p8 := by rw [← hp8]; exact Blk.lt HVk6.out
    obtain ⟨w8, hw8⟩ : ∃ w8, w8 = w7.alloc (.cells (evC (goneE f key)) 60) := ⟨_, rfl⟩
    have hb8 : Below w7.heap.size w7 w8 := by rw [hw8]; exact (Below.refl _ _).alloc (Nat.le_refl _) _
    have hG8 : EB w8 (p8 + 1) (goneE f key) := by rw [hw8, hlt7]; exact Blk.new _ _ _
    have hE8 := hE7.below hb8 hE7.lt
    have hVk8 : VB w8 p6 f := VB.keep hVk7 hb8
    have hlt8 : p8 + 2 = w8.heap.size := by rw [hw8]; simp; omega
    obtain ⟨w9, hw9⟩ : ∃ w9, w9 = w8.setCell ⟨p6, 15, none⟩ (.int .i64 (f 15 + 1)) := ⟨_, rfl⟩
    have hother : ∀ g, g ≠ p6 → w9.heap[g]? = w8.heap[g]? := fun g hg => by rw [hw9]; exact Below.heap_setCell w8 _ _ g hg
    have hsz9 : w9.heap.size = w8.heap.size := by rw [hw9]; simp
    have hVk9 : VB w9 p6 (upF f) := by
     have := VB.put hVk8 15 (f 15 + 1)
     rw [← hw9] at this
     exact this
    have hE9 : Blk w9 p8 38 #[.int .i64 1, .string key, .string ⟨#[]⟩, .string ⟨#[]⟩, .string ⟨#[]⟩] := (hother p8 (by omega)).trans hE8
    have hG9 : EB w9 (p8 + 1) (goneE f key) := (hother (p8 + 1) (by omega)).trans hG8
    obtain ⟨w10, hw10⟩ : ∃ w10, w10 = w9.alloc (.cells (evC (backE f key)) 60) := ⟨_, rfl⟩
    have hb10 : Below w9.heap.size w9 w10 := by rw [hw10]; exact (Below.refl _ _).alloc (Nat.le_refl _) _
    have hK10 : EB w10 (p8 + 2) (backE f key) := by rw [hw10, hlt8, ← hsz9]; exact Blk.new _ _ _
    have hG10 : EB w10 (p8 + 1) (goneE f key) := EB.keep hG9 hb10
    have hV8 := (HV6.out.keep hb7).keep hb8
    have hV9 := hV8.same (w' := w9) (fun g hg => hother g (fun e => by have := (hV8.lt g hg).1; have := HP6.out; omega)) (by rw [hsz9]; exact Nat.le_refl _)
    have HV10 := hid (hV9.keep hb10)
    have hO8 := (HO6.out.keep hb7).keep hb8
    have hO9 : OwnK encE w2.heap.size 60 27 w9 (.slice A5 n5 c5) row := hO8.same fun g hg => hother g (fun e => by have := (HO3.out.lt g hg).2; have := HP6.out; omega)
    have HO10 := hid (hO9.keep hb10)
    have hlow : p6 ≥ w.heap.size := by have := HP6.out; have := HB3.out.size; omega
    have hB8 := HB6.out.trans ((hb7.trans (hb8.mono hb7.size)).mono HB6.out.size)
    have hB9 : Below w.heap.size w w9 := by rw [hw9]; exact hB8.setCell hlow _
    have HB10 := hid (hB9.trans (hb10.mono hB9.size))
    have hC10 : WOk w10 := (HW.out.below HB10.out)
    have HW10 := hid hC10
    have HZ8 := hid (fun cs => World.setRow_alloc_new w7 (evC ev0) cs 60)
    have HZ9 := hid (fun cs => World.setRow_alloc_new w9 (evC ev0) cs 60)
    have HZb8 := hid (show Blk (w7.alloc (.cells (evC ev0) 60)) w7.heap.size 60 (evC ev0) from Blk.new _ _ _)
    have HZb9 := hid (show Blk (w9.alloc (.cells (evC ev0) 60)) w9.heap.size 60 (evC ev0) from Blk.new _ _ _)
    have HG10 := hid hG10
    have HK10 := hid hK10
    have hwr1 := IntWalk.i64_in (f 15 + 1) (by have := HBd.out; omega)
    have hwr2 := IntWalk.i64_in (f 15 + 1 + 1) (by have := HBd.out; omega)
    have HWr1 := hid hwr1
    have HWr2 := hid hwr2
    have c15' : w9.cell? ⟨p6, 15, none⟩ = some (.int .i64 (f 15 + 1)) := VB.cell_ hVk9 15 (by decide)
    have HC9 := hid c15'
    have c15b : w7.cell? ⟨p6, 15, none⟩ = some (.int .i64 (f 15)) := VB.cell_ hVk7 15 (by decide)
    have HC7 := hid c15b
    have c15c : w8.cell? ⟨p6, 15, none⟩ = some (.int .i64 (f 15)) := VB.cell_ hVk8 15 (by decide)
    have HC8 := hid c15c
    have f15c : w8.frozen? ⟨p6, 15, none⟩ = false := Blk.free hVk8 15
    have HF8 := hid f15c
    have HVk7 := hid hVk7
    have HVk9 := hid hVk9
    have HE7 := hid hE7
    have HE9 := hid hE9
    have HW7 := hid hw7
    have HW8 := hid hw8
    have HW9 := hid hw9
    have HW10e := hid hw10
    have HP8 := hid hp8
    have HL7 := hid hlt7
    have HL9 := hid (show w9.heap.size = p8 + 2 by rw [hsz9, ← hlt8])
    have hz := (zero_of_info infoElG).1
    clear hp8 hw7 hb7 hE7 hVk7 hlt7 hp68 hw8 hb8 hG8 hE8 hVk8 hlt8 hw9 hother hsz9 hVk9 hE9 hG9 hw10 hb10 hK10 hG10 hV8 hV9 hO8 hO9 hlow hB8 hB9 hC10 hwr1 hwr2 c15' c15b c15c f15c
    go_upto_region 10 with fail
    rw [HP8.out, ← HW7.out]
    clear hz c15 hge
    have hz := (zero_of_info zeroE).1
    go_upto_region 11 with (first
     | (refine wpList_val (o := ⟨some 44, _, _, _, _, _⟩) rfl (.int .i64 (f 15)) w7 (run_loadint_op rfl rfl Tryz.underlying3 HC7.out) ?_)
     | (refine wpList_val (o := ⟨some 45, _, _, _, _, _⟩) rfl (.int .i64 (f 15 + 1)) w7 (run_bin_op rfl rfl rfl (guardI8 _ _ _ _ _ _ _ _ _) (add_c HWr1.out w7)) ?_)
     | (refine wpList_val (o := ⟨some 47, _, _, _, _, _⟩) rfl (.agg (vA f)) w7 (run_load_op rfl rfl HVk7.out Tryz.underlying26 rfl (sizeV f)) ?_)
     | (refine wpList_val (o := ⟨some 48, _, _, _, _, _⟩) rfl (.agg #[.int .i64 1, .string key, .string ⟨#[]⟩, .string ⟨#[]⟩, .string ⟨#[]⟩]) w7 (run_load_op rfl rfl HE7.out Tryz.underlying38 rfl (sizeL (nodeE key))) ?_)
     | (refine wpList_val (o := ⟨some 49, _, _, _, _, _⟩) rfl (.agg (evC (goneE f key))) w7 (by kernel_rfl) ?_)
     | (refine wpList_store_row (o := ⟨none, _, _, _, _, _⟩) rfl 60 (.tmp 9) (.tmp 49) rfl w7.heap.size (evC (goneE f key)) rfl rfl _ _ HZb8.out (sizeE _) rfl (evC_one _) ?_; rw [HZ8.out, ← HW8.out])
     | fail)
    clear hz
    rw [← HL7.out]
    have c15 := HC8.out
    have f15 := HF8.out
    have hwr := HWr1.out
    go_upto_region 12 with fail
    rw [← HW9.out]
    clear c15 f15 hwr
    have hz := (zero_of_info zeroE).1
    go_upto_region 13 with (first
     | (refine wpList_val (o := ⟨some 55, _, _, _, _, _⟩) rfl (.int .i64 (f 15 + 1)) w9 (run_loadint_op rfl rfl Tryz.underlying3 HC9.out) ?_)
     | (refine wpList_val (o := ⟨some 56, _, _, _, _, _⟩) rfl (.int .i64 (f 15 + 1 + 1)) w9 (run_bin_op rfl rfl rfl (guardI8 _ _ _ _ _ _ _ _ _) (add_c HWr2.out w9)) ?_)
     | (refine wpList_val (o := ⟨some 58, _, _, _, _, _⟩) rfl (.agg (vA (upF f))) w9 (run_load_op rfl rfl HVk9.out Tryz.underlying26 rfl (sizeV (upF f))) ?_)
     | (refine wpList_val (o := ⟨some 59, _, _, _, _, _⟩) rfl (.agg #[.int .i64 1, .string key, .string ⟨#[]⟩, .string ⟨#[]⟩, .string ⟨#[]⟩]) w9 (run_load_op rfl rfl HE9.out Tryz.underlying38 rfl (sizeL (nodeE key))) ?_)
     | (refine wpList_val (o := ⟨some 60, _, _, _, _, _⟩) rfl (.agg (evC (backE f key))) w9 (by kernel_rfl) ?_)
     | (refine wpList_store_row (o := ⟨none, _, _, _, _, _⟩) rfl 60 (.tmp 10) (.tmp 60) rfl w9.heap.size (evC (backE f key)) rfl rfl _ _ HZb9.out (sizeE _) rfl (evC_one _) ?_; rw [HZ9.out, ← HW10e.out])
     | fail)
    clear hz
    rw [HL9.out]
    clear HZ8 HZ9 HZb8 HZb9 HWr1 HWr2 HC7 HC8 HC9 HF8 HVk7 HVk9 HE7 HE9 HW7 HW8 HW9 HW10e HP8 HL7 HL9 HBd HVk6 HV6 HO6 HB6 HW6
    have HUp := hid (HKn.out.up HHq.out HLt.out)
    have htw := HKn.out.twice HHq.out HLt.out
    obtain ⟨g2, hg2⟩ := htw
    have HTw := hid hg2
    have HAg := hid (view_again HKn.out hg2 HHq.out)
    have HGo := hid (view_gone (key := key) (HKn.out.up HHq.out HLt.out) HKn.out)
    clear hg2
    have HRow := hid (show ∀ W, Below w10.heap.size w10 W → SlK encE 27 W (.slice A5 n5 c5) row from fun W h => (HO10.out.keep h).read encE_len)
    have HGb := hid (show ∀ W, Below w10.heap.size w10 W → Blk W (p8 + 1) 60 (evC (goneE f key)) from fun W h => EB.keep HG10.out h)
    have HCt := hid (show ∀ W, Below w10.heap.size w10 W → CutOk W from fun W h => (HW10.out.below h).cut)
    try simp only [Act.put]
    refine wp_region_any (by kernel_rfl) ?_
    refine Lt.wpAny_two (fun _ => false) (pH1 w10.heap.size row A5 n5 c5 (goneE f key)) _ w10 5 6 _ _ _ (fun v' Wz => OwnK encE w10.heap.size 60 27 Wz v' (row ++ [goneE f key]) ∧ Below w10.heap.size w10 Wz) (fun v' Wz => ViewV w10 Wz v' (viewL (row ++ [goneE f key])))
     (by kernel_rfl) (by decide) rfl rfl rfl rfl (by kernel_rfl) (by kernel_rfl) (by kernel_rfl) (by kernel_rfl) (by kernel_rfl) (by kernel_rfl) (fun i v w w' hb h => pH1_keep hb h) (fun _ _ _ _ h => by cases h) ?_ ?_ ?_ ?_ ?_ ?_
    ·refine ⟨?_, ?_, ?_, ?_, ?_, ?_, ?_, ?_, trivial⟩
     ·intro _ _ _ a W hI hun haft hi
      exact b_val hi hI rfl _ _ (run_buildSlice_op (vs := #[]) rfl (by simp only [List.map_toArray, List.map_nil]) (bsNil W)) ((Below.refl _ _).alloc (Nat.le_refl _) _) ⟨_, rfl, (own_empty W).base_ hI.size⟩
     ·intro _ _ _ a W hI hun haft hi
      have e5 : a.eval (.tmp 5) = .slice A5 n5 c5 := hun 5 (by kernel_rfl)
      exact b_same hi hI rfl _ (run_move_op rfl e5) rfl
     ·intro _ _ _ a W hI hun haft hi
      obtain ⟨gn, f0, hown⟩ : ∃ gn, a.eval (.tmp 61) = .slice (some ⟨gn, 0, none⟩) 0 0 ∧ OwnK encE w10.heap.size 60 27 W (a.eval (.tmp 61)) [] := haft ⟨0, .data⟩ (by simp) rfl _ _ rfl rfl
      have f1 : a.eval (.tmp 62) = .slice A5 n5 c5 := haft ⟨1, .data⟩ (by simp) rfl _ _ rfl rfl
      rw [f0] at hown
      obtain ⟨v', w', hr, ho, hb⟩ := append_new w10.heap.size W _ row (HRow.out W hI) (by have := HRl.out; omega) gn hown hI.size
      exact b_val hi hI rfl _ _ (run_append_op rfl f0 f1 hr) hb ho
     ·intro _ _ _ a W hI hun haft hi
      have ez : a.eval (.tmp 9) = .pointer (some ⟨p8 + 1, 0, none⟩) := hun 9 (by kernel_rfl)
      exact b_same hi hI rfl _ (run_load_op rfl ez (HGb.out W hI) Tryz.underlying60 rfl (sizeE (goneE f key))) rfl
     ·intro _ _ _ a W hI hun haft hi
      have f3 : a.eval (.tmp 64) = .agg (evC (goneE f key)) := haft ⟨3, .data⟩ (by simp) rfl _ _ rfl rfl
      exact b_val hi hI rfl _ _ (run_buildSlice_op (vs := #[(0, .agg (evC (goneE f key)))]) rfl (by simp only [List.map_toArray, List.map_cons, List.map_nil, f3]) (bsEv (goneE f key) W)) ((Below.refl _ _).alloc (Nat.le_refl _) _) (sl_ev1 (goneE f key) W)
     ·exact fun _ h => absurd rfl h
     ·exact fun h => absurd h (Nat.lt_irrefl _)
     ·exact fun h => absurd h (by decide)
    ·refine ⟨?_, ?_, ?_, ?_, ?_, ?_, ?_, ?_, trivial⟩
     ·exact fun _ h => absurd h (by decide)
     ·exact fun _ h => absurd h (by decide)
     ·exact fun _ h => absurd h (by decide)
     ·exact fun _ h => absurd h (by decide)
     ·exact fun _ h => absurd h (by decide)
     ·exact fun _ h => absurd h (by decide)
     ·exact fun h => absurd h (Nat.lt_irrefl _)
     ·exact fun h => absurd h (by decide)
    ·intro a W hI hun haft
     have f2 : OwnK encE w10.heap.size 60 27 W (a.eval (.tmp 63)) row := haft ⟨2, .data⟩ (by simp) rfl _ _ rfl rfl
     have f4 : SlK encE 27 W (a.eval (.tmp 65)) [goneE f key] := haft ⟨4, .data⟩ (by simp) rfl _ _ rfl rfl
     obtain ⟨v', w', hr, ho, hgr, _⟩ := append_ev w10.heap.size W _ row f2 _ _ f4 (by have := HRl.out; simp only [List.length_cons, List.length_nil]; omega) hI.size
     exact wpOp_val rfl rfl v' w' (run_append_op rfl rfl rfl hr) ⟨v', rfl, ho, hI.grown hgr hI.size (fun q e => (f2.lt q e).1)⟩
    ·intro vals a W hJ hsl hp
     obtain ⟨ho, hIJ⟩ := hJ
     have fv : a.eval (.tmp 66) = vals 5 := hsl 5 _ _ rfl (by decide) rfl
     rw [← fv] at ho
     refine wpOp_enter rfl rfl 10 #[a.eval (.tmp 66)] (run_call_op (args := #[a.eval (.tmp 66)]) rfl (by simp) (by kernel_rfl)) ?_
     exact (view_is _ _ w10 W _ ho (by rw [List.length_append]; have := HRl.out; simp only [List.length_cons, List.length_nil]; omega) HUp.out.caus HUp.out.lens (HCt.out W hIJ) hIJ).mono fun e w' H => by
      obtain ⟨u, e1, h1⟩ := H
      exact ⟨u, e1, u, rfl, h1⟩
    ·intro v a W hJ hs
     have f11 : a.eval (.tmp 67) = v := hs 67 rfl
     exact wpOp_val rfl rfl v W (run_assign_op rfl f11) ⟨v, rfl, rfl, hJ⟩
    ·rintro vals Wh hvw
     obtain ⟨vbH, ownH, nvH, lvH, x1H, x2H, x3H, x4H, x5H, hvH, hVH, hBH⟩ := hvw
     have HVH := hid hVH
     have HBH := hid hBH
     clear hVH hBH
     simp only [layN, layS, List.range, List.range.loop, if_true, Act.put, Nat.zero_add, Nat.reduceAdd, hvH]
     clear hvH
     try simp only [Act.put]
     obtain ⟨w11, hw11⟩ : ∃ w11, w11 = Wh := ⟨_, rfl⟩
     rw [← hw11] at HVH HBH ⊢
     clear hw11
     have HRow := hid (fun W (h : Below w11.heap.size w11 W) => HRow.out W (HBH.out.trans (h.mono HBH.out.size)))
     have HGb := hid (fun W (h : Below w11.heap.size w11 W) => HGb.out W (HBH.out.trans (h.mono HBH.out.size)))
     have HKb := hid (show ∀ W, Below w11.heap.size w11 W → Blk W (p8 + 2) 60 (evC (backE f key)) from fun W h => EB.keep HK10.out (HBH.out.trans (h.mono HBH.out.size)))
     have HCt := hid (fun W (h : Below w11.heap.size w11 W) => HCt.out W (HBH.out.trans (h.mono HBH.out.size)))
     have HVk10 := hid (HV10.out.keep HBH.out)
     have HB11 := hid (HB10.out.trans (HBH.out.mono HB10.out.size))
     have hassoc : row ++ [goneE f key, backE f key] = row ++ [goneE f key] ++ [backE f key] := by simp
     have HAs := hid hassoc
     clear hassoc HV10 HB10 HO10 HG10 HK10
     go_upto_region 14 with fail
     try simp only [Act.put]
     refine wp_region_any (by kernel_rfl) ?_
     refine Lt.wpAny_two (fun _ => false) (pH2 w11.heap.size row A5 n5 c5 (goneE f key) (backE f key)) _ w11 6 7 _ _ _ (fun v' Wz => OwnK encE w11.heap.size 60 27 Wz v' (row ++ [goneE f key, backE f key]) ∧ Below w11.heap.size w11 Wz) (fun v' Wz => ViewV w11 Wz v' (viewL (row ++ [goneE f key, backE f key])))
      (by kernel_rfl) (by decide) rfl rfl rfl rfl (by kernel_rfl) (by kernel_rfl) (by kernel_rfl) (by kernel_rfl) (by kernel_rfl) (by kernel_rfl) (fun i v w w' hb h => pH2_keep hb h) (fun _ _ _ _ h => by cases h) ?_ ?_ ?_ ?_ ?_ ?_
     ·refine ⟨?_, ?_, ?_, ?_, ?_, ?_, ?_, ?_, ?_, trivial⟩
      ·intro _ _ _ a W hI hun haft hi
       exact b_val hi hI rfl _ _ (run_buildSlice_op (vs := #[]) rfl (by simp only [List.map_toArray, List.map_nil]) (bsNil W)) ((Below.refl _ _).alloc (Nat.le_refl _) _) ⟨_, rfl, (own_empty W).base_ hI.size⟩
      ·intro _ _ _ a W hI hun haft hi
       have e5 : a.eval (.tmp 5) = .slice A5 n5 c5 := hun 5 (by kernel_rfl)
       exact b_same hi hI rfl _ (run_move_op rfl e5) rfl
      ·intro _ _ _ a W hI hun haft hi
       obtain ⟨gn, f0, hown⟩ : ∃ gn, a.eval (.tmp 68) = .slice (some ⟨gn, 0, none⟩) 0 0 ∧ OwnK encE w11.heap.size 60 27 W (a.eval (.tmp 68)) [] := haft ⟨0, .data⟩ (by simp) rfl _ _ rfl rfl
       have f1 : a.eval (.tmp 69) = .slice A5 n5 c5 := haft ⟨1, .data⟩ (by simp) rfl _ _ rfl rfl
       rw [f0] at hown
       obtain ⟨v', w', hr, ho, hb⟩ := append_new w11.heap.size W _ row (HRow.out W hI) (by have := HRl.out; omega) gn hown hI.size
       exact b_val hi hI rfl _ _ (run_append_op rfl f0 f1 hr) hb ho
      ·intro _ _ _ a W hI hun haft hi
       have ez : a.eval (.tmp 9) = .pointer (some ⟨p8 + 1, 0, none⟩) := hun 9 (by kernel_rfl)
       exact b_same hi hI rfl _ (run_load_op rfl ez (HGb.out W hI) Tryz.underlying60 rfl (sizeE (goneE f key))) rfl
      ·intro _ _ _ a W hI hun haft hi
       have ez : a.eval (.tmp 10) = .pointer (some ⟨p8 + 2, 0, none⟩) := hun 10 (by kernel_rfl)
       exact b_same hi hI rfl _ (run_load_op rfl ez (HKb.out W hI) Tryz.underlying60 rfl (sizeE (backE f key))) rfl
      ·intro _ _ _ a W hI hun haft hi
       have f3 : a.eval (.tmp 71) = .agg (evC (goneE f key)) := haft ⟨3, .data⟩ (by simp) rfl _ _ rfl rfl
       have f4 : a.eval (.tmp 72) = .agg (evC (backE f key)) := haft ⟨4, .data⟩ (by simp) rfl _ _ rfl rfl
       exact b_val hi hI rfl _ _ (run_buildSlice_op (vs := #[(0, .agg (evC (goneE f key))), (1, .agg (evC (backE f key)))]) rfl (by simp only [List.map_toArray, List.map_cons, List.map_nil, f3, f4]) (bsEv2 (goneE f key) (backE f key) W)) ((Below.refl _ _).alloc (Nat.le_refl _) _) (sl_ev2 (goneE f key) (backE f key) W)
      ·exact fun _ h => absurd rfl h
      ·exact fun h => absurd h (Nat.lt_irrefl _)
      ·exact fun h => absurd h (by decide)
     ·refine ⟨?_, ?_, ?_, ?_, ?_, ?_, ?_, ?_, ?_, trivial⟩
      ·exact fun _ h => absurd h (by decide)
      ·exact fun _ h => absurd h (by decide)
      ·exact fun _ h => absurd h (by decide)
      ·exact fun _ h => absurd h (by decide)
      ·exact fun _ h => absurd h (by decide)
      ·exact fun _ h => absurd h (by decide)
      ·exact fun _ h => absurd h (by decide)
      ·exact fun h => absurd h (Nat.lt_irrefl _)
      ·exact fun h => absurd h (by decide)
     ·intro a W hI hun haft
      have f2 : OwnK encE w11.heap.size 60 27 W (a.eval (.tmp 70)) row := haft ⟨2, .data⟩ (by simp) rfl _ _ rfl rfl
      have f4 : SlK encE 27 W (a.eval (.tmp 73)) [goneE f key, backE f key] := haft ⟨5, .data⟩ (by simp) rfl _ _ rfl rfl
      obtain ⟨v', w', hr, ho, hgr, _⟩ := append_ev w11.heap.size W _ row f2 _ _ f4 (by have := HRl.out; simp only [List.length_cons, List.length_nil]; omega) hI.size
      exact wpOp_val rfl rfl v' w' (run_append_op rfl rfl rfl hr) ⟨v', rfl, ho, hI.grown hgr hI.size (fun q e => (f2.lt q e).1)⟩
     ·intro vals a W hJ hsl hp
      obtain ⟨ho, hIJ⟩ := hJ
      have fv : a.eval (.tmp 74) = vals 6 := hsl 6 _ _ rfl (by decide) rfl
      rw [← fv] at ho
      refine wpOp_enter rfl rfl 10 #[a.eval (.tmp 74)] (run_call_op (args := #[a.eval (.tmp 74)]) rfl (by simp) (by kernel_rfl)) ?_
      exact (view_is _ _ w11 W _ ho (by rw [List.length_append]; have := HRl.out; simp only [List.length_cons, List.length_nil]; omega) (by rw [HAs.out]; exact HTw.out.caus) (by rw [HAs.out]; exact HTw.out.lens) (HCt.out W hIJ) hIJ).mono fun e w' H => by
       obtain ⟨u, e1, h1⟩ := H
       exact ⟨u, e1, u, rfl, h1⟩
     ·intro v a W hJ hs
      have f11 : a.eval (.tmp 75) = v := hs 75 rfl
      exact wpOp_val rfl rfl v W (run_assign_op rfl f11) ⟨v, rfl, rfl, hJ⟩
     ·rintro vals Wa hvw
      obtain ⟨vbA, ownA, nvA, lvA, x1A, x2A, x3A, x4A, x5A, hvA, hVA, hBA⟩ := hvw
      have HVA := hid hVA
      have HBA := hid hBA
      clear hVA hBA
      simp only [layN, layS, List.range, List.range.loop, if_true, Act.put, Nat.zero_add, Nat.reduceAdd, hvA]
      clear hvA
      try simp only [Act.put]
      obtain ⟨w12, hw12⟩ : ∃ w12, w12 = Wa := ⟨_, rfl⟩
      rw [← hw12] at HVA HBA ⊢
      clear hw12 HRow HGb HKb
      rw [HAs.out, HAg.out] at HVA
      have HVh := hid (HVH.out.keep HBA.out)
      have HVb := hid (HVk10.out.keep HBA.out)
      have HB12 := hid (HB11.out.trans (HBA.out.mono HB11.out.size))
      have HW12 := hid (HW.out.below HB12.out)
      have hln : (viewL (row ++ [goneE f key])).links.length ≤ 100 := by
       have h := viewL_len HUp.out.caus HUp.out.lens
       rw [List.length_append] at h
       have h2 := HRl.out
       simp only [List.length_cons, List.length_nil] at h
       omega
      clear HVH HVk10 HB11
      go_wp2_with fail
      refine (linksP_any w12 HVh.out (by omega)).mono ?_
      rintro e w13 ⟨u, rfl, ho, hb⟩
      obtain ⟨A77, c77, rfl, _, _⟩ := ho.read enK_len
      obtain ⟨V, hVd⟩ : ∃ V, viewL (row ++ [goneE f key]) = V := ⟨_, rfl⟩
      rw [hVd] at ho hln HVh HGo ⊢
      obtain ⟨lks, hlks⟩ : ∃ lks, V.links = lks := ⟨_, rfl⟩
      rw [hlks] at ho hln HGo ⊢
      obtain ⟨n, hn⟩ : ∃ n, lks.length = n := ⟨_, rfl⟩
      rw [hn] at ho hln ⊢
      have HOk := hid ho
      have HNn := hid hn
      have HLn := hid hln
      have HB13 := hid (HB12.out.trans (hb.mono HB12.out.size))
      have HVh13 := hid (HVh.out.keep hb)
      have HVb13 := hid (HVb.out.keep hb)
      have HVa13 := hid (HVA.out.keep hb)
      have HW13 := hid (HW12.out.below hb)
      clear ho hb hn hln hVd hlks HVh HVb HVA HB12 HW12
      go_wp2_with fail
      go_loopw [79] (fun v79 wr => ∃ j : Nat, v79 = .int .i64 j ∧ j ≤ n ∧ Below w13.heap.size w13 wr) (fun v79 _ => n - (intOf v79).toNat)
      case atStart => exact ⟨0, rfl, Nat.zero_le _, Below.refl _ _⟩
      case round =>
       obtain ⟨j, rfl, hj, hbw⟩ := hrel
       obtain ⟨wo, rfl⟩ : ∃ wo, wo = wr := ⟨_, rfl⟩
       have HBw := hid hbw
       clear hbw
       by_cases hlt : j < n
       ·obtain ⟨x, hx⟩ : ∃ x, lks[j]? = some x := ⟨lks[j]'(by rw [HNn.out]; exact hlt), List.getElem?_eq_getElem _⟩
        have hne := HGo.out.2.2 x (List.mem_of_getElem? hx)
        obtain ⟨g, rfl, _, hg, hce⟩ := (HOk.out.keep HBw.out).at_ enK_len hx
        have HCe := hid (show wo.rangeAt g (j * 3) [.string x.f, .string x.t, .string x.y] from hce)
        have HAt := hid (at_Lk0 g c77 n j hlt wo)
        obtain ⟨q, hq⟩ : ∃ q, wo.heap.size = q := ⟨_, rfl⟩
        obtain ⟨Y, hY⟩ : ∃ Y, Y = wo.alloc (.cells #[.string x.f, .string x.t, .string x.y] 36) := ⟨_, rfl⟩
        have hbY : Below wo.heap.size wo Y := by rw [hY]; exact (Below.refl _ _).alloc (Nat.le_refl _) _
        have hEY : Blk Y q 36 #[.string x.f, .string x.t, .string x.y] := by rw [hY, ← hq]; exact Blk.new _ _ _
        have HBY := hid (HBw.out.trans (hbY.mono HBw.out.size))
        have HW1 := hid (IntWalk.i64_in ((j : Int) + 1) (by have := HLn.out; omega))
        have HJ1 := hid (show ¬ 9223372036854775807 < j + 1 by have := HLn.out; omega)
        have HYe := hid hY
        have HQ := hid hq
        have c0 : Y.cell? ⟨q, 0, none⟩ = some (.string x.f) := (Blk.cell hEY 0).trans rfl
        have c1 : Y.cell? ⟨q, 1, none⟩ = some (.string x.t) := (Blk.cell hEY 1).trans rfl
        have hz := (zero_of_info infoKz).1
        have hxf : (x.f.toList == key.toList) = false := by rw [beq_eq_false_iff_ne]; exact fun e => hne.1 (toList_eq (by rw [e]; simp))
        have hxt : (x.t.toList == key.toList) = false := by rw [beq_eq_false_iff_ne]; exact fun e => hne.2 (toList_eq (by rw [e]; simp))
        rw [HYe.out] at c0 c1
        clear hx hne hg hce hq hY hbY hEY
        go_upto_region 18 with (first
         | (refine wpList_val (o := ⟨some 81, _, _, _, _, _⟩) rfl (.pointer (some ⟨g, j * 3, none⟩)) wo (run_indexAddr_op rfl rfl rfl HAt.out) ?_)
         | (refine wpList_load_midif rfl 36 (.tmp 81) rfl g (j * 3) rfl [.string x.f, .string x.t, .string x.y] _ HCe.out Tryz.underlying36 rfl (by kernel_rfl) ?_)
         | fail)
        clear hz HAt HCe
        rw [← HYe.out] at c0 c1
        rw [HQ.out, ← HYe.out]
        have hw := HW1.out
        have hjm := HJ1.out
        go_wp2_with fail
        go_roundw
        case rel => exact ⟨j + 1, by go_num, by omega, HBY.out⟩
        case measure => simp [intOf] <;> omega
       ·as_aux_lemma =>
        have HVh14 := hid (HVh13.out.keep HBw.out)
        have HVb14 := hid (HVb13.out.keep HBw.out)
        have HVa14 := hid (HVa13.out.keep HBw.out)
        have HB14 := hid (HB13.out.trans (HBw.out.mono HB13.out.size))
        have HW14 := hid (HW13.out.below HBw.out)
        have HHf := hid (show Calls Tryz.prog 18 #[.pointer (some ⟨vbH, 0, none⟩), .string key] wo (Gives wo (.bool false)) from by have := hasP_any key wo HVh14.out; rwa [HGo.out.1] at this)
        clear HVh13 HVb13 HVa13 HB13 HW13 HBw
        go_wp2_with fail
        refine HHf.out.mono ?_
        rintro e w15 ⟨rfl, hb⟩
        have HB15 := hid (HB14.out.trans (hb.mono HB14.out.size))
        have HVh15 := hid (HVh14.out.keep hb)
        have HVb15 := hid (HVb14.out.keep hb)
        have HVa15 := hid (HVa14.out.keep hb)
        have HW15 := hid (HW14.out.below hb)
        clear hb
        go_wp2_with fail
        refine (labelsP_any key w15 HVh15.out (by rw [HGo.out.2.1]; exact Nat.zero_le _)).mono ?_
        rintro e w16 ⟨u, rfl, ho, hb⟩
        rw [HGo.out.2.1] at ho
        obtain ⟨A16, c16, rfl, _, _⟩ := ho.read enS_len
        have HB16 := hid (HB15.out.trans (hb.mono HB15.out.size))
        have HVb16 := hid (HVb15.out.keep hb)
        have HVa16 := hid (HVa15.out.keep hb)
        have HW16 := hid (HW15.out.below hb)
        clear ho hb
        go_wp2_with fail
        refine (lines_any w16 HVa16.out HTx.out HW16.out).mono ?_
        rintro e w17 ⟨u, rfl, ho, hb⟩
        obtain ⟨A17, c17, rfl, _, _⟩ := ho.read enS_len
        have HB17 := hid (HB16.out.trans (hb.mono HB16.out.size))
        have HVb17 := hid (HVb16.out.keep hb)
        have HW17 := hid (HW16.out.below hb)
        have HP17 := hid ho
        clear ho hb
        go_wp2_with fail
        refine (lines_any w17 HVb17.out HTx.out HW17.out).mono ?_
        rintro e w18 ⟨u, rfl, ho, hb⟩
        obtain ⟨A18, c18, rfl, _, _⟩ := ho.read enS_len
        have HB18 := hid (HB17.out.trans (hb.mono HB17.out.size))
        have HP18 := hid (HP17.out.keep hb)
        have HQ18 := hid ho
        clear ho hb
        obtain ⟨nl, hnl⟩ : ∃ nl, (linesV (viewL row)).length = nl := ⟨_, rfl⟩
        rw [hnl] at HP18 HQ18 HTl ⊢
        have HNl := hid hnl
        clear hnl
        go_wp2_with fail
        refine (sameS_any (linesV (viewL row)) A17 A18 nl c17 c18 w18 (HP18.out.read enS_len) (HQ18.out.read enS_len) HNl.out (by have := HTl.out; omega)).mono ?_
        rintro e w19 ⟨rfl, hb⟩
        have HBe := hid (HB18.out.trans (hb.mono HB18.out.size))
        clear hb
        go_wp2_with fail
        go_ret
        exact ⟨rfl, HBe.out⟩
end Go.Proofs.YtdgglhlofnigkaaGreatDoor
