/-
  hedgerowlaw08.GraphLines. THE LAST STEP OF A LAW's ROW, for whatever arguments: a call that answers true and turns nothing that was there meets the row. Conditions: lengths.
-/import Derived.Test.YtdgglhlofnigkaaGreatDoorGrRefLs
import Derived.Test.YtdgglhlofnigkaaGreatDoorJGrSame
import Derived.Test.YtdgglhlofnigkaaGreatDoorJGrFew
import Derived.Test.YtdgglhlofnigkaaGreatDoorStCausal
import Derived.Test.YtdgglhlofnigkaaGreatDoorRows
import Derived.WalkKit
import Derived.ProofKit
import Derived.SizedLaws
import Derived.OpenShut
namespace Go.Proofs.YtdgglhlofnigkaaGreatDoor
open Lib (hid)
open Go.RowKit Go.MapKept Go.Sort
theorem view_text {row : List Ev} (hc : CausL row) (hsh : ∀ e ∈ row, shortB e = true) (hn : row.length ≤ 1000) : TextV (viewL row) := by
 have hl : ∀ e ∈ row, Lens e := fun e he => short_lens e (hsh e he)
 refine text_fold (fun x => ?_) (fun x hx => ?_) (Nat.le_trans (elsG_len row) hn)
 ·rw [vals_is hc hl]
  unfold valsG
  refine ⟨Nat.le_trans (riseC_len _) ?_, fun z hz => ?_⟩
  ·rw [List.length_map]; exact Nat.le_trans (List.length_filter_le _ _) hn
  ·rw [riseC_mem] at hz
   obtain ⟨e, he, rfl⟩ := List.mem_map.1 hz
   have := (short_sizes (hsh e (List.mem_filter.1 he).1)).2.2.2.2
   show e.t.size ≤ 1000
   omega
 ·have := el_sizes hsh (List.mem_filter.1 hx).1
  unfold SmE
  omega
theorem linesR_len {l : List Ev} (h : ∀ e ∈ l, shortB e = true) (hn : l.length ≤ 60) : (linesR l).length ≤ 8000 := by
 unfold linesR
 have h1 := flat_le (nodeR l) 61 (nodesR (hasG l) (elsL l)) fun x _ => by have := nodeR_len h x; omega
 have h2 := flat_le (linkR8 l) 61 (sortK (linksR (hasG l) (elsL l))) fun x _ => by have := linkR8_len h x; omega
 have h3 := (nodes_sizes h).1
 have h4 := (links_sizes h).1
 rw [List.length_append]
 omega
set_option maxRecDepth 100000 in
set_option maxHeartbeats 8000000 in
theorem glines_walk (l : List Ev) (A : Option Addr) (N c : Nat) (w : World) (hs : SlK encE 27 w (.slice A N c) l) (hN : l.length = N) (hN2 : N ≤ 4611686018427387903) (hf : ∀ e ∈ l, Fit e) (hw : WOk w) :
  Calls Tryz.prog 3 #[.slice A N c] w (Gives w (.bool true)) := by
 have HFw := hid (fun W (h : Below w.heap.size w W) => few8_any l A N c W (hs.below h) hN hN2 hf)
 have HS := hid hs
 have HN := hid hN
 have HW := hid hw
 have HZv := hid (zero_of_info zeroV).1
 clear hs hN hN2 hf hw
 cases hfew : few8B l
 ·rw [hfew] at HFw
  clear hfew
  go_enter Tryz.func3, Tryz.ntmps3
  go_wp2_with fail
  refine (fixed8 w HW.out).mono ?_
  rintro e w1 ⟨rfl, hb⟩
  have HB1 := hid hb
  clear hb
  go_wp2_with fail
  refine (HFw.out w1 HB1.out).mono ?_
  rintro e w2 ⟨rfl, hb⟩
  have HB2 := hid (HB1.out.trans (hb.mono HB1.out.size))
  clear hb
  go_wp2
  go_ret
  exact ⟨rfl, HB2.out⟩
 ·have hsh : ∀ e ∈ l, shortB e = true := by
   unfold few8B at hfew
   simp only [Bool.and_eq_true, List.all_eq_true] at hfew
   exact hfew.1
  have hl60 : N ≤ 60 := by
   unfold few8B at hfew
   simp only [Bool.and_eq_true, decide_eq_true_eq] at hfew
   have := hfew.2
   rw [HN.out] at this
   omega
  rw [hfew] at HFw
  have HSh := hid hsh
  have H60 := hid hl60
  clear hfew hsh hl60
  go_enter Tryz.func3, Tryz.ntmps3
  go_wp2_with fail
  refine (fixed8 w HW.out).mono ?_
  rintro e w1 ⟨rfl, hb⟩
  have HB1 := hid hb
  clear hb
  go_wp2_with fail
  refine (HFw.out w1 HB1.out).mono ?_
  rintro e w2 ⟨rfl, hb⟩
  have HB2 := hid (HB1.out.trans (hb.mono HB1.out.size))
  clear hb
  go_wp2_with fail
  refine (causal_any l A N c w2 (HS.out.below HB2.out) HN.out H60.out (fun e he => short_tiny e (HSh.out e he))).mono ?_
  rintro e w3 ⟨rv, rfl, ho3, hb⟩
  obtain ⟨row, hrow⟩ : ∃ row, (causC l).1 = row := ⟨_, rfl⟩
  obtain ⟨f, hff⟩ : ∃ f, (causC l).2 = f := ⟨_, rfl⟩
  have hcl : CausL row := by rw [← hrow]; exact caus_row l
  rw [hrow] at ho3
  rw [hff]
  have hrl : row.length ≤ 60 := by have := causC_len l; rw [hrow] at this; have h1 := HN.out; have h2 := H60.out; omega
  have hrm : ∀ e ∈ row, Lens e := fun e he => short_lens e (HSh.out e (causC_mem l e (by rw [hrow]; exact he)))
  have HCl := hid hcl
  have HRm := hid hrm
  have HShr := hid (show ∀ e ∈ row, shortB e = true from fun e he => HSh.out e (causC_mem l e (by rw [hrow]; exact he)))
  have HRl := hid hrl
  have HB3 := hid (HB2.out.trans (hb.mono HB2.out.size))
  have HO3 := hid ho3
  obtain ⟨A5, c5, rfl, _, _⟩ := ho3.read encE_len
  clear hb hrow hff ho3 hrl hrm hcl
  obtain ⟨n5, hn5⟩ : ∃ n5, row.length = n5 := ⟨_, rfl⟩
  rw [hn5] at HO3 ⊢
  have HN5 := hid hn5
  have HN6 := hid (show n5 ≤ 60 by rw [← hn5]; exact HRl.out)
  clear hn5
  have hzv := HZv.out
  have hAl := fun c => World.setRow_alloc_new w3 (vA fun _ => 0) c 26
  have hZ : Blk (w3.alloc (.cells (vA fun _ => 0) 26)) w3.heap.size 26 (vA fun _ => 0) := Blk.new _ _ _
  go_wp2_with (first
   | (refine wpList_store_row rfl 26 (.tmp 4) (.tmp 15) rfl w3.heap.size (vA f) rfl rfl _ _ hZ (sizeV _) (by rw [vA_size, vA_size]) (vA_one _) ?_; rw [hAl])
   | fail)
  clear hzv hAl hZ
  obtain ⟨w4, hw4⟩ : ∃ w4, w3.alloc (.cells (vA f) 26) = w4 := ⟨_, rfl⟩
  rw [hw4]
  have hb4 : Below w3.heap.size w3 w4 := by rw [← hw4]; exact (Below.refl _ _).alloc (Nat.le_refl _) _
  have HB4 := hid (HB3.out.trans (hb4.mono HB3.out.size))
  have HO4 := hid (HO3.out.keep hb4)
  clear hw4 hb4
  refine (view_any row A5 n5 c5 w4 (HO4.out.read encE_len) HN5.out (by have := HN6.out; omega) HCl.out HRm.out (HW.out.cut.below HB4.out)).mono ?_
  rintro e w5 ⟨vb, rfl, ⟨own, nv, lv, b1, b2, b3, b4, b5, hV⟩, hb⟩
  have HB5 := hid (HB4.out.trans (hb.mono HB4.out.size))
  have HO5 := hid (HO4.out.keep hb)
  have HV5 := hid hV
  have HSr := hid (show ∀ e ∈ row, shortB e = true from HShr.out)
  have HTx := hid (view_text HCl.out HSr.out (by have := HRl.out; omega))
  have HLi := hid (lines_is HCl.out HRm.out)
  have HNd := hid (viewL_nodes HCl.out HRm.out)
  have HLr := hid (linesR_len HSr.out HRl.out)
  have HNr := hid (nodes_sizes HSr.out).1
  have HWw := hid (HW.out.below HB5.out)
  clear hV hb
  go_wp2_with fail
  refine (lines_any w5 HV5.out HTx.out HWw.out).mono ?_
  rintro e w6 ⟨u, rfl, ho, hb⟩
  rw [HLi.out] at ho
  obtain ⟨A6, c6, rfl, _, _⟩ := ho.read enS_len
  have HB6 := hid (HB5.out.trans (hb.mono HB5.out.size))
  have HV6 := hid (HV5.out.keep hb)
  have HO6 := hid (HO5.out.keep hb)
  have HP6 := hid ho
  clear ho hb
  go_wp2_with fail
  refine (lines8_any row A5 n5 c5 w6 (HO6.out.read encE_len) HN5.out HN6.out (fun e he => (HCl.out.1 e he).1) HSr.out).mono ?_
  rintro e w7 ⟨u, rfl, ho, hb⟩
  obtain ⟨A7, c7, rfl, _, _⟩ := ho.read enS_len
  have HB7 := hid (HB6.out.trans (hb.mono HB6.out.size))
  have HV7 := hid (HV6.out.keep hb)
  have HO7 := hid (HO6.out.keep hb)
  have HP7 := hid (HP6.out.keep hb)
  have HQ7 := hid ho
  clear ho hb
  obtain ⟨nl, hnl⟩ : ∃ nl, (linesR row).length = nl := ⟨_, rfl⟩
  rw [hnl] at HP7 HQ7 HLr ⊢
  have HNl := hid hnl
  clear hnl
  go_wp2_with fail
  refine (sameS_any (linesR row) A6 A7 nl c6 c7 w7 (HP7.out.read enS_len) (HQ7.out.read enS_len) HNl.out (by have := HLr.out; omega)).mono ?_
  rintro e w8 ⟨rfl, hb⟩
  have HB8 := hid (HB7.out.trans (hb.mono HB7.out.size))
  have HV8 := hid (HV7.out.keep hb)
  have HO8 := hid (HO7.out.keep hb)
  clear hb
  go_wp2_with fail
  refine (nodesP_any w8 HV8.out (by rw [HNd.out]; have := HNr.out; have := HRl.out; omega)).mono ?_
  rintro e w9 ⟨u, rfl, ho, hb⟩
  rw [HNd.out] at ho
  obtain ⟨A9, c9, rfl, _, _⟩ := ho.read enS_len
  have HB9 := hid (HB8.out.trans (hb.mono HB8.out.size))
  have HO9 := hid (HO8.out.keep hb)
  have HP9 := hid ho
  clear ho hb
  go_wp2_with fail
  refine (nodes8_any row A5 n5 c5 w9 (HO9.out.read encE_len) HN5.out (by have := HN6.out; omega) (fun e he => (HCl.out.1 e he).1)).mono ?_
  rintro e w10 ⟨u, rfl, ho, hb⟩
  obtain ⟨A10, c10, rfl, _, _⟩ := ho.read enS_len
  have HB10 := hid (HB9.out.trans (hb.mono HB9.out.size))
  have HP10 := hid (HP9.out.keep hb)
  have HQ10 := hid ho
  clear ho hb
  obtain ⟨nn, hnn⟩ : ∃ nn, (nodesR (hasG row) (elsL row)).length = nn := ⟨_, rfl⟩
  rw [hnn] at HP10 HQ10 HNr ⊢
  have HNn := hid hnn
  clear hnn
  go_wp2_with fail
  refine (sameS_any (nodesR (hasG row) (elsL row)) A9 A10 nn c9 c10 w10 (HP10.out.read enS_len) (HQ10.out.read enS_len) HNn.out (by have := HNr.out; have := HRl.out; omega)).mono ?_
  rintro e w11 ⟨rfl, hb⟩
  have HBe := hid (HB10.out.trans (hb.mono HB10.out.size))
  clear hb
  go_wp2_with fail
  go_ret
  exact ⟨rfl, HBe.out⟩
open Go.ChangeShapes Go.WideShapes Go.ChangeAt Go.RowKit
theorem Tryz.own : ownKnob Tryz.prog.godebug = none := by kernel_rfl
theorem Tryz.laidOut : laidOutB Tryz.prog = true := by kernel_rfl
section
variable {H : Type} {enc : TypeId × Value → H} {P : Program}
theorem stays_all (hl : laidOutB P = true) {W W' : World} (hb : Below W.heap.size W W') : ∀ (ts : List TypeId) (vs : List Value) (ds : List (DataW H)) (ps : List MemPlace),
  (ts.all fun t => P.readableRec t && decide (t < P.types.size)) = true → DataW.TrodAll enc P W 0 (fun _ => true) true ts vs ds ps → (∀ x ∈ ps, x.block < W.heap.size) →
  DataW.TrodAll enc P W' 0 (fun b => decide (b < W.heap.size)) true ts vs ds ps
 | [], [], [], ps, _, h, _ => h
 | t :: ts, v :: vs, d :: ds, ps, ht, h, hp => by
  obtain ⟨p, q, h1, h2, rfl⟩ := h
  simp only [List.all_cons, Bool.and_eq_true, decide_eq_true_eq] at ht
  exact ⟨p, q, Below.trod hl ht.1.1 ht.1.2 h1 hb (fun x hx => hp x (List.mem_append_left _ hx)), stays_all hl hb ts vs ds q (by simpa [List.all_eq_true] using ht.2) h2 (fun x hx => hp x (List.mem_append_right _ hx)), rfl⟩
 | [], _ :: _, _, _, _, h, _ => by simp [DataW.TrodAll] at h
 | [], [], _ :: _, _, _, h, _ => by simp [DataW.TrodAll] at h
 | _ :: _, [], _, _, _, h, _ => by simp [DataW.TrodAll] at h
 | _ :: _, _ :: _, [], _, _, h, _ => by simp [DataW.TrodAll] at h
theorem law_post {f : Func} {s : ChangeSpec} {W W' : World} {args : Array Value} {ds : List (DataW H)} {before : List MemPlace} {tb : TypeId}
  (hl : laidOutB P = true) (hW : DataW.Whole enc P f.params.toList s.vars false W args.toList ds [] before) (hv : s.vars = [])
  (ht : (f.params.toList.all fun t => P.readableRec t && decide (t < P.types.size)) = true) (hr : f.resultTypes = #[tb]) (htb : P.underlying tb = some .bool)
  (hres : (s.fn H (ds ++ [])).results = [.lit (.bool true)]) (hargs : (s.fn H (ds ++ [])).args = ds) (hvars : (s.fn H (ds ++ [])).vars = []) (hb : Below W.heap.size W W') :
  s.post enc P f false true false false W args (.bool true) W' := by
 have hW0 := hW
 obtain ⟨p, q, hA, hV, rfl, hfz, hnd⟩ := hW
 rw [hv] at hV
 have hq : q = [] := hV
 subst hq
 have hlt : ∀ x ∈ p, x.block < W.heap.size := fun x hx => by simpa using hW0.lt x (List.mem_append_left _ hx)
 refine ⟨ds, [], _, [], p, [], hW0, ?_, ?_, ?_, hb.frame _, fun h => by cases h⟩
 ·rw [hres, hr]
  exact ⟨[], [], shut_bool htb _, rfl, rfl⟩
 ·rw [hargs]
  exact stays_all hl hb _ _ _ _ ht hA hlt
 ·rw [hvars, hv]; rfl
end
end Go.Proofs.YtdgglhlofnigkaaGreatDoor
