/-
  (*graph.View).Nodes, Links, Labels, Out, In, Values, Names: the contracts, by walks. strings.Builder's writers at this program (copyCheck's own body is told anew: its panic is no part of the road): copyCheck, WriteByte, WriteRune, by walks. Conditions: lengths.
-/
import Derived.Test.YtdgglhlofnigkaaGreatDoorGrOf
import Derived.Test.YtdgglhlofnigkaaGreatDoorJValCmp
import Derived.Lib.OthersKept
import Derived.Lib.AppendZeros
namespace Go.Proofs.YtdgglhlofnigkaaGreatDoor
open Lib (hid)
open Go.RowKit Go.MapKept Go.Sort
set_option maxRecDepth 100000 in
set_option maxHeartbeats 1000000 in
theorem nodesP_any {own : Nat → Option Tg} {R vb b1 b2 b3 b4 b5 : Nat} {V : Vw} {nv lv : Value} (w : World) (hV : VIs own R w vb V nv lv b1 b2 b3 b4 b5) (hn : V.nodes.length ≤ 1000000) :
  Calls Tryz.prog 14 #[.pointer (some ⟨vb, 0, none⟩)] w fun e w' => ∃ u, e = .returned u ∧ OwnK enS w.heap.size 9 1 w' u V.nodes ∧ Below w.heap.size w w' := by
 obtain ⟨A, c, rfl, _, _⟩ := hV.nodes.1.read enS_len
 have HS := hid (seen_any vb w)
 have HC := hid (fun W (h : Below w.heap.size w W) => cloneS_any V.nodes (.slice A V.nodes.length c) W (((hV.keep h).nodes.1).read enS_len) hn)
 obtain ⟨n, hn2⟩ : ∃ n, V.nodes.length = n := ⟨_, rfl⟩
 rw [hn2] at HC hV
 have HV := hid hV
 clear hV hn hn2
 go_enter Tryz.func14, Tryz.ntmps14
 go_wp2_with fail
 refine HS.out.mono ?_
 rintro e w1 ⟨rfl, hb1⟩
 have HB1 := hid hb1
 have c0 : w1.cell? ⟨vb, 0, none⟩ = some (.slice A n c) := (Blk.cell (HV.out.keep hb1).blk 0).trans rfl
 clear hb1
 go_wp2_with fail
 refine (HC.out w1 HB1.out).mono ?_
 rintro e w2 ⟨u, rfl, ho, hb2⟩
 have HO := hid (ho.base_ HB1.out.size)
 have HB2 := hid (HB1.out.trans (hb2.mono HB1.out.size))
 clear ho hb2 c0
 go_wp2_with fail
 go_ret
 exact ⟨u, rfl, HO.out, HB2.out⟩
set_option maxRecDepth 100000 in
set_option maxHeartbeats 1000000 in
theorem linksP_any {own : Nat → Option Tg} {R vb b1 b2 b3 b4 b5 : Nat} {V : Vw} {nv lv : Value} (w : World) (hV : VIs own R w vb V nv lv b1 b2 b3 b4 b5) (hn : V.links.length ≤ 1000000) :
  Calls Tryz.prog 26 #[.pointer (some ⟨vb, 0, none⟩)] w fun e w' => ∃ u, e = .returned u ∧ OwnK enK w.heap.size 36 3 w' u V.links ∧ Below w.heap.size w w' := by
 obtain ⟨A, c, rfl, _, _⟩ := hV.links.1.read enK_len
 have HS := hid (seen_any vb w)
 have HC := hid (fun W (h : Below w.heap.size w W) => cloneK_any V.links (.slice A V.links.length c) W (((hV.keep h).links.1).read enK_len) hn)
 obtain ⟨n, hn2⟩ : ∃ n, V.links.length = n := ⟨_, rfl⟩
 rw [hn2] at HC hV
 have HV := hid hV
 clear hV hn hn2
 go_enter Tryz.func26, Tryz.ntmps26
 go_wp2_with fail
 refine HS.out.mono ?_
 rintro e w1 ⟨rfl, hb1⟩
 have HB1 := hid hb1
 have c0 : w1.cell? ⟨vb, 1, none⟩ = some (.slice A n c) := (Blk.cell (HV.out.keep hb1).blk 1).trans rfl
 clear hb1
 go_wp2_with fail
 refine (HC.out w1 HB1.out).mono ?_
 rintro e w2 ⟨u, rfl, ho, hb2⟩
 have HO := hid (ho.base_ HB1.out.size)
 have HB2 := hid (HB1.out.trans (hb2.mono HB1.out.size))
 clear ho hb2 c0
 go_wp2_with fail
 go_ret
 exact ⟨u, rfl, HO.out, HB2.out⟩
set_option maxRecDepth 100000 in
set_option maxHeartbeats 1000000 in
theorem labelsP_any {own : Nat → Option Tg} {R vb b1 b2 b3 b4 b5 : Nat} {V : Vw} {nv lv : Value} (key : ByteArray) (w : World) (hV : VIs own R w vb V nv lv b1 b2 b3 b4 b5) (hn : (V.lab key).length ≤ 1000000) :
  Calls Tryz.prog 20 #[.pointer (some ⟨vb, 0, none⟩), .string key] w fun e w' => ∃ u, e = .returned u ∧ OwnK enS w.heap.size 9 1 w' u (V.lab key) ∧ Below w.heap.size w w' := by
 obtain ⟨v, hvo, hlk⟩ := hV.lookLab key
 have HS := hid (seen_any vb w)
 have HC := hid (fun W (h : Below w.heap.size w W) => cloneS_any (V.lab key) v W ((hvo.1.keep h).read enS_len) hn)
 have HLk := hid hlk
 have HV := hid hV
 clear hV hn hvo hlk
 go_enter Tryz.func20, Tryz.ntmps20
 go_wp2_with fail
 refine HS.out.mono ?_
 rintro e w1 ⟨rfl, hb1⟩
 have HB1 := hid hb1
 have c0 : w1.cell? ⟨vb, 2, none⟩ = some (.map (some b1)) := (Blk.cell (HV.out.keep hb1).blk 2).trans rfl
 have HL1 := hid (HLk.out w1 hb1)
 clear hb1
 go_wp2_with (first
  | (refine wpList_val (o := ⟨some 11, _, _, _, _, _⟩) rfl v w1 (run_lookup_op rfl rfl rfl HL1.out) ?_)
  | fail)
 refine (HC.out w1 HB1.out).mono ?_
 rintro e w2 ⟨u, rfl, ho, hb2⟩
 have HO := hid (ho.base_ HB1.out.size)
 have HB2 := hid (HB1.out.trans (hb2.mono HB1.out.size))
 clear ho hb2 c0
 go_wp2_with fail
 go_ret
 exact ⟨u, rfl, HO.out, HB2.out⟩
set_option maxRecDepth 100000 in
set_option maxHeartbeats 2000000 in
theorem valuesP_any {own : Nat → Option Tg} {R vb b1 b2 b3 b4 b5 : Nat} {V : Vw} {nv lv : Value} (x : El) (w : World) (hV : VIs own R w vb V nv lv b1 b2 b3 b4 b5) (hn : (V.val x).length ≤ 1000000) :
  Calls Tryz.prog 16 #[.pointer (some ⟨vb, 0, none⟩), eE x] w fun e w' => ∃ u, e = .returned u ∧ OwnK enW w.heap.size 43 3 w' u (V.val x) ∧ Below w.heap.size w w' := by
 obtain ⟨q, hq⟩ : ∃ q, w.heap.size = q := ⟨_, rfl⟩
 obtain ⟨X, hX⟩ : ∃ X, X = w.alloc (.cells #[.int .i64 x.k, .string x.a, .string x.b, .string x.c, .string x.d] 38) := ⟨_, rfl⟩
 have hb : Below w.heap.size w X := by rw [hX]; exact (Below.refl _ _).alloc (Nat.le_refl _) _
 have hE : Blk X q 38 #[.int .i64 x.k, .string x.a, .string x.b, .string x.c, .string x.d] := by rw [hX, ← hq]; exact Blk.new w _ _
 have hVX := hV.keep hb
 obtain ⟨v, hvo, hlk⟩ := hVX.lookVal x
 have HCl := hid (fun W (h : Below X.heap.size X W) => cloneV_any (V.val x) v W ((hvo.1.keep h).read enW_len) hn)
 have HLk := hid hlk
 have HC := hid (show ∀ W, Below X.heap.size X W → Blk W vb 78 #[nv, lv, .map (some b1), .map (some b2), .map (some b3), .map (some b4), .map (some b5)] ∧ Blk W q 38 #[.int .i64 x.k, .string x.a, .string x.b, .string x.c, .string x.d] from fun W hW => ⟨hVX.blk.below hW hVX.blk.lt, hE.below hW hE.lt⟩)
 have HB := hid hb
 have HX := hid hX
 have HQ := hid hq
 clear hV hVX hb hE hX hq hvo hlk hn
 unfold eE elV at *
 go_enter Tryz.func16, Tryz.ntmps16
 go_upto_region 1 with fail
 rw [← HX.out, HQ.out]
 refine wp_region_any (by kernel_rfl) ?_
 refine wpAny_below (fun i uq wq => if i = 7 then OwnK enW X.heap.size 43 3 wq uq (V.val x) else if i = 8 then OwnK enW X.heap.size 43 3 wq uq (V.val x) else uq = ([.pointer (some ⟨vb, 0, none⟩), .pointer (some ⟨vb, 0, none⟩), .pointer (some ⟨vb, 0, none⟩), .pointer (some ⟨vb, 6, none⟩), .map (some b5), .agg #[.int .i64 x.k, .string x.a, .string x.b, .string x.c, .string x.d], v, undef, undef] : List Value).getD i undef) _ X (by kernel_rfl) (by kernel_rfl) (by kernel_rfl) (fun i v w w' hb h => by
   by_cases h7 : i = 7
   ·rw [if_pos h7] at h ⊢; exact OwnK.keep h hb
   rw [if_neg h7] at h ⊢
   by_cases h8 : i = 8
   ·rw [if_pos h8] at h ⊢; exact OwnK.keep h hb
   rw [if_neg h8] at h ⊢
   exact h) ?_ ?_
 ·refine ⟨?_, ?_, ?_, ?_, ?_, ?_, ?_, ?_, ?_, trivial⟩
  ·intro a W hI hun haft hi
   have e0 : a.eval (.tmp 0) = .pointer (some ⟨vb, 0, none⟩) := hun 0 (by kernel_rfl)
   exact b_same hi hI rfl _ (run_move_op rfl e0) rfl
  ·intro a W hI hun haft hi
   obtain ⟨kv, ke⟩ := HC.out W hI
   have f0 : a.eval (.tmp 5) = .pointer (some ⟨vb, 0, none⟩) := haft ⟨0, .data⟩ (by simp) rfl _ _ rfl rfl
   refine b_call hi hI rfl _ _ (run_call_op (args := #[.pointer (some ⟨vb, 0, none⟩)]) rfl (by simp [f0]) (by kernel_rfl)) ?_
   exact (seen_any vb W).mono fun e w' H => ⟨_, H.1, rfl, H.2⟩
  ·intro a W hI hun haft hi
   have f1 : a.eval (.tmp 6) = .pointer (some ⟨vb, 0, none⟩) := haft ⟨1, .data⟩ (by simp) rfl _ _ rfl rfl
   exact b_same hi hI rfl _ (run_nilCheck_op rfl f1) rfl
  ·intro a W hI hun haft hi
   have f2 : a.eval (.tmp 7) = .pointer (some ⟨vb, 0, none⟩) := haft ⟨2, .data⟩ (by simp) rfl _ _ rfl rfl
   exact b_same hi hI rfl _ (run_fieldAddr_any rfl f2 (at_view6 _ 0 _)) rfl
  ·intro a W hI hun haft hi
   obtain ⟨kv, ke⟩ := HC.out W hI
   have f3 : a.eval (.tmp 8) = .pointer (some ⟨vb, 6, none⟩) := haft ⟨3, .data⟩ (by simp) rfl _ _ rfl rfl
   exact b_same hi hI rfl _ (run_loadmap_op rfl f3 Tryz.underlying76 ((Blk.cell kv 6).trans rfl)) rfl
  ·intro a W hI hun haft hi
   obtain ⟨kv, ke⟩ := HC.out W hI
   have e3 : a.eval (.tmp 3) = .pointer (some ⟨q, 0, none⟩) := hun 3 (by kernel_rfl)
   exact b_same hi hI rfl _ (run_load_op rfl e3 (ke) Tryz.underlying38 rfl (by kernel_rfl)) rfl
  ·intro a W hI hun haft hi
   obtain ⟨kv, ke⟩ := HC.out W hI
   have f4 : a.eval (.tmp 9) = .map (some b5) := haft ⟨4, .data⟩ (by simp) rfl _ _ rfl rfl
   have f5 : a.eval (.tmp 10) = .agg #[.int .i64 x.k, .string x.a, .string x.b, .string x.c, .string x.d] := haft ⟨5, .data⟩ (by simp) rfl _ _ rfl rfl
   exact b_same hi hI rfl _ (run_lookup_op rfl f4 f5 (HLk.out W hI)) rfl
  ·intro a W hI hun haft hi
   have f6 : a.eval (.tmp 11) = v := haft ⟨6, .data⟩ (by simp) rfl _ _ rfl rfl
   refine b_call hi hI rfl _ _ (run_call_op (args := #[v]) rfl (by simp [f6]) (by kernel_rfl)) ?_
   exact (HCl.out W hI).mono fun e w' H => by
    obtain ⟨u, e1, h1, h2⟩ := H
    exact ⟨u, e1, h1.base_ hI.size, h2⟩
  ·intro a W hI hun haft hi
   have f7 : OwnK enW X.heap.size 43 3 W (a.eval (.tmp 12)) (V.val x) := haft ⟨7, .data⟩ (by simp) rfl _ _ rfl rfl
   exact b_same hi hI rfl _ (run_assign_op rfl rfl) f7
 ·intro vals W hI hp
  have hl8 : OwnK enW X.heap.size 43 3 W (vals 8) (V.val x) := hp 8 (by decide)
  have HI := hid hI
  clear hp hI
  simp only [layN, layS, List.range, List.range.loop, if_true, Act.put, Nat.zero_add, Nat.reduceAdd]
  have HO := hid (hl8.base_ HB.out.size)
  have HB2 := hid (HB.out.trans (HI.out.mono HB.out.size))
  obtain ⟨u, hu⟩ : ∃ u, vals 8 = u := ⟨_, rfl⟩
  rw [hu] at HO ⊢
  clear HI hl8 hu
  go_wp2_with fail
  go_ret
  exact ⟨u, rfl, HO.out, HB2.out⟩
theorem at_Es (g c n k : Nat) (h : k < n) (w : World) : (Instr.indexAt 80 (.slice (some ⟨g, 0, none⟩) n c) (.int .i64 k)).run Tryz.prog w = .ok (.pointer (some ⟨g, k * 5, none⟩)) w := by
 have h2 : (k : Int) < n := by omega
 go_simp
end Go.Proofs.YtdgglhlofnigkaaGreatDoor

namespace Go.Proofs.YtdgglhlofnigkaaGreatDoor
open Lib (hid)
open Go.RowKit
def Own (B b : Nat) (p : Value) (bs : List Value) (w : World) : Prop := Lib.BuilderAt 134 5 B b p bs w
def selfP (b : Nat) : Value := .pointer (some ⟨b, 0, none⟩)
def KeptB (b : Nat) (w w' : World) : Prop := Lib.OthersKept 5 (some b) w w'
def Wrote (B b : Nat) (bs : List Value) (w w' : World) : Prop := Own B b (selfP b) bs w' ∧ Below B w w' ∧ KeptB b w w'
set_option maxHeartbeats 1000000 in
set_option maxRecDepth 100000 in
theorem copy_used (B b : Nat) (bs : List Value) (w : World) (h : Own B b (selfP b) bs w) : Calls Tryz.prog 115 #[selfP b] w fun e w' => e = .returned (.tuple #[]) ∧ Wrote B b bs w w' := by
 have h0 : w.cell? ⟨b, 0, none⟩ = some (.pointer (some ⟨b, 0, none⟩)) := Lib.BuilderAt.cell0 h
 obtain ⟨j, hj, _⟩ := Option.map_eq_some_iff.1 Tryz.Builder_Extra_169.sizeBuilder
 unfold selfP
 go_enter Tryz.func115, Tryz.ntmps115
 go_wp2
 rw [Lib.run_neq_ptr_same _ _ Tryz.underlying131 hj]
 go_wp2
 go_end0
 exact ⟨rfl, h, Below.refl _ _, Lib.OthersKept.refl _ _ _⟩
set_option maxHeartbeats 1000000 in
set_option maxRecDepth 100000 in
theorem copy_fresh (B b : Nat) (bs : List Value) (w : World) (h : Own B b (.pointer none) bs w) : Calls Tryz.prog 115 #[selfP b] w fun e w' => e = .returned (.tuple #[]) ∧ Wrote B b bs w w' := by
 have h0 : w.cell? ⟨b, 0, none⟩ = some (.pointer none) := Lib.BuilderAt.cell0 h
 have hsh := Lib.BuilderAt.shape h
 have hfz := Lib.BuilderAt.frozen0 h
 obtain ⟨j, hj, hjs⟩ := Option.map_eq_some_iff.1 Tryz.Builder_Extra_169.sizeBuilder
 unfold selfP
 go_enter Tryz.func115, Tryz.ntmps115
 go_wp2
 rw [Lib.run_to_unsafe _ ⟨b, 0, none⟩ Tryz.underlying131 Tryz.underlying188 hj (by rw [hjs]; decide) hsh (Nat.zero_lt_succ 1)]
 simp only [Result.andThen]
 rw [Oper.upon_value]
 go_wp2
 rw [run_callFunc_extern Tryz.func144 (by kernel_rfl) (by kernel_rfl) (by kernel_rfl) (e := Extern.AbiNoEscape.same) (by kernel_rfl)]
 rw [Lib.run_noEscape]
 simp only [Result.andThen]
 rw [Oper.upon_value]
 go_wp2
 rw [Lib.run_from_unsafe _ ⟨b, 0, none⟩ Tryz.underlying188 Tryz.underlying131 hj hsh Tryz.Builder_Extra_169.liesBuilder]
 simp only [Result.andThen]
 rw [Oper.upon_value]
 go_wp2
 go_end0
 exact ⟨rfl, Lib.BuilderAt.used h _, (Below.refl B w).setCell (p := ⟨b, 0, none⟩) h.1 _, (Lib.OthersKept.refl _ _ w).setCell ⟨b, 0, none⟩ rfl _⟩
theorem copy_any (B b : Nat) (bs : List Value) (w : World) (h : Lib.IsBuilder 134 5 B b bs w) : Calls Tryz.prog 115 #[selfP b] w fun e w' => e = .returned (.tuple #[]) ∧ Wrote B b bs w w' :=
 h.elim (copy_fresh B b bs w) (copy_used B b bs w)
theorem own_put {B b : Nat} {w w1 w2 : World} {v v' : Value} {bs bs' : List Value} {o : Obj} (hW : Below B w w1 ∧ KeptB b w w1) (hBw : B ≤ w.heap.size) (hB : B ≤ b)
  (hbk : w1.heap[b]? = some (.cells #[selfP b, v] 134 (0, 0))) (hne : v.ownBlock ≠ some b) (hown : w1.ownsRow B 5 1 v bs.length bs) (hg : (w1.alloc o).grownBy w2 v.ownBlock) (hown' : w2.ownsRow B 5 1 v' bs'.length bs') :
  w2.cell? ⟨b, 0, none⟩ = some (selfP b) ∧ w2.cell? ⟨b, 1, none⟩ = some v ∧ w2.frozen? ⟨b, 1, none⟩ = false ∧ Wrote B b bs' w (w2.setCell ⟨b, 1, none⟩ v') := by
 have hlt : b < w1.heap.size := (Array.getElem?_eq_some_iff.1 hbk).1
 have hsz := hW.1.size
 have hb2 : w2.heap[b]? = some (.cells #[selfP b, v] 134 (0, 0)) := by
  rw [hg.block b (by simp; omega) (fun e => hne e.symm), Below.heap_alloc w1 _ b hlt]
  exact hbk
 refine ⟨by rw [Lib.cell_of_heap hb2]; rfl, by rw [Lib.cell_of_heap hb2]; rfl, Lib.frozen_of_heap hb2 1, ?_, ?_, ?_⟩
 ·exact Lib.BuilderAt.put (p := selfP b) (bs' := bs') hB hb2 hown' (by decide)
 ·refine ((hW.1.alloc (by omega) o).grown hg (by simp; omega) (fun k hk => (hown.lt k hk).1)).setCell (p := ⟨b, 1, none⟩) hB _
 ·refine ((Lib.OthersKept.alloc hW.2 o).grown hg (fun g hg' => ?_)).setCell ⟨b, 1, none⟩ rfl _
  exact Lib.ownsRowF_kind (World.ownsRowF_of (hown.alloc o)) g hg'
set_option maxRecDepth 100000 in
theorem run_append_byte (w : World) (B : Nat) (v : Value) (n : Nat) (xs : List Value) (c : Int) (ty : TypeId) (hown : w.ownsRow B 5 1 v n xs) (hn : n + 1 ≤ 140737488355328) (hB : B ≤ w.heap.size) :
  ∃ v' w', (Builtin.append_ #[132, 132] ty #[v, .slice (some ⟨w.heap.size, 0, none⟩) 1 1]).run Tryz.prog (w.alloc (.cells #[.int .u8 c] 5)) = .ok v' w' ∧ w'.ownsRow B 5 1 v' (n + 1) (xs ++ [.int .u8 c]) ∧ (w.alloc (.cells #[.int .u8 c] 5)).grownBy w' v.ownBlock := by
 obtain ⟨i0, hi, hz0, hz1, hz2⟩ : ∃ i0 : TypeInfo, Tryz.prog.info? 5 = some i0 ∧ i0.zero = some (.int .u8 0) ∧ i0.size = 1 ∧ i0.bytes = 1 := ⟨_, rfl, rfl, rfl, rfl⟩
 have hlit : Sl (fun x : Int => Value.int .u8 x) (w.alloc (.cells #[.int .u8 c] 5)) (.slice (some ⟨w.heap.size, 0, none⟩) 1 1) [c] := by
  refine ⟨_, _, rfl, Nat.le_refl _, fun _ => ⟨_, 0, rfl, by simp, fun j u hu => ?_⟩⟩
  rw [(Blk.new w _ #[.int .u8 c]).cell (0 + j)]
  match j, hu with
  | 0, hu => simp at hu; subst hu; rfl
 obtain ⟨v', w', h1, h2, h3⟩ := run_append_sl (P := Tryz.prog) (w.alloc (.cells #[.int .u8 c] 5)) B 132 ty 5 i0 (.int .u8 0) 1 Tryz.underlying132 hi hz0 hz1 hz2 rfl v n xs (hown.alloc _) _ [c] hlit (fun _ => rfl) (by simp; omega) (by simp; omega) (by simp; omega)
 exact ⟨v', w', h1, by simpa using h2, h3⟩
set_option maxHeartbeats 1000000 in
set_option maxRecDepth 100000 in
theorem byte_any (B b : Nat) (bs : List Value) (c : Int) (w : World) (h : Lib.IsBuilder 134 5 B b bs w) (hlen : bs.length + 1 ≤ 140737488355328) (hBw : B ≤ w.heap.size) :
  Calls Tryz.prog 122 #[selfP b, .int .u8 c] w fun e w' => e = .returned .nilIface ∧ Wrote B b (bs ++ [.int .u8 c]) w w' := by
 unfold selfP
 go_enter Tryz.func122, Tryz.ntmps122
 go_wp2_with fail
 refine (copy_any B b bs _ h).mono ?_
 rintro e w1 ⟨rfl, h1, hb1, hk1⟩
 obtain ⟨hB, v, hbk, hown, hne⟩ := h1
 have c0 : w1.cell? ⟨b, 0, none⟩ = some (.pointer (some ⟨b, 0, none⟩)) := by rw [Lib.cell_of_heap hbk]; rfl
 have c1 : w1.cell? ⟨b, 1, none⟩ = some v := by rw [Lib.cell_of_heap hbk]; rfl
 obtain ⟨v', w2, hr, hown', hg⟩ := run_append_byte w1 B v bs.length bs c 132 hown hlen (by have := hb1.size; omega)
 obtain ⟨d0, d1, f1, hW⟩ := own_put (bs' := bs ++ [.int .u8 c]) ⟨hb1, hk1⟩ hBw hB hbk hne hown hg (by simpa using hown')
 unfold selfP at d0
 obtain ⟨ao', cap', rfl⟩ : ∃ ao' cap', v' = .slice ao' (bs.length + 1) cap' := by
  rcases hown'.2 with ⟨hv, h0⟩ | ⟨g, cap, cur, hv, _⟩
  ·omega
  ·exact ⟨_, _, hv⟩
 clear hown hbk hne
 have HO := hid hown'
 have HG := hid hg
 have HR := hid hr
 clear hown' hg hr
 go_wp2_with (at_builtin; refine Lib.wpList_append_run _ rfl _ _ _ _ rfl _ _ rfl rfl _ _ HR.out ?_)
 go_ret
 exact ⟨rfl, hW⟩
set_option maxHeartbeats 1000000 in
set_option maxRecDepth 100000 in
theorem rune_any (B b : Nat) (bs : List Value) (r : Int) (hr0 : -2147483648 ≤ r) (hr1 : r ≤ 2147483647) (w : World) (h : Lib.IsBuilder 134 5 B b bs w) (hlen : bs.length + 4 ≤ 140737488355328) (hBw : B ≤ w.heap.size) :
  Calls Tryz.prog 123 #[selfP b, .int .i32 r] w fun e w' => (∃ v, e = .returned v) ∧ Wrote B b (bs ++ Lib.runeCells r) w w' := by
 unfold selfP
 go_enter Tryz.func123, Tryz.ntmps123
 go_wp2_with fail
 refine (copy_any B b bs _ h).mono ?_
 rintro e w1 ⟨rfl, h1, hb1, hk1⟩
 obtain ⟨hB, v, hbk, hown, hne⟩ := h1
 obtain ⟨ao, cap, rfl⟩ : ∃ ao cap, v = .slice ao bs.length cap := by
  rcases hown.2 with ⟨hv, h0⟩ | ⟨g, cap, cur, hv, _⟩
  ·exact ⟨none, 0, by rw [hv, h0]⟩
  ·exact ⟨_, _, hv⟩
 have c0 : w1.cell? ⟨b, 0, none⟩ = some (.pointer (some ⟨b, 0, none⟩)) := by rw [Lib.cell_of_heap hbk]; rfl
 have c1 : w1.cell? ⟨b, 1, none⟩ = some (.slice ao bs.length cap) := by rw [Lib.cell_of_heap hbk]; rfl
 have hk4 := Lib.runeCells_le r
 go_wp2_with fail
 refine (Tryz.utf8_AppendRune_plain B _ bs.length bs r hr0 hr1 _ hown hlen (by have := hb1.size; omega)).mono ?_
 rintro e w2 ⟨v', rfl, hown', o, hg⟩
 obtain ⟨d0, d1, f1, hW⟩ := own_put (bs' := bs ++ Lib.runeCells r) ⟨hb1, hk1⟩ hBw hB hbk hne hown hg (by simpa using hown')
 obtain ⟨ao', cap', rfl⟩ : ∃ ao' cap', v' = .slice ao' (bs.length + (Lib.runeCells r).length) cap' := by
  rcases hown'.2 with ⟨hv, h0⟩ | ⟨g, cap, cur, hv, _⟩
  ·exact ⟨none, 0, by rw [hv, h0]⟩
  ·exact ⟨_, _, hv⟩
 unfold selfP at d0
 clear hown hbk hne
 have HO := hid hown'
 have HG := hid hg
 clear hown' hg
 go_wp2
 go_ret2
 exact ⟨⟨_, rfl⟩, hW⟩
end Go.Proofs.YtdgglhlofnigkaaGreatDoor
