/- Values compared, collected, sorted (merged texts). -/import Derived.Test.YtdgglhlofnigkaaGreatDoorJStGG
import Derived.Test.YtdgglhlofnigkaaGreatDoorJValCmp
set_option maxHeartbeats 2000000
set_option maxRecDepth 100000
namespace Go.Proofs.YtdgglhlofnigkaaGreatDoor
open Lib (hid)
open Go.RowKit Go.MapKept Go.Sort
def enW (x : Va) : List Value := [.int .i64 x.k, .int .i64 x.n, .string x.t]
theorem enW_len (x : Va) : (enW x).length = 3 := rfl
theorem enW_one : ∀ x, ∀ v ∈ enW x, v.oneCell' = true := by
 intro x v hv
 simp only [enW, List.mem_cons, List.not_mem_nil, or_false] at hv
 rcases hv with rfl | rfl | rfl <;> rfl
def cfV (x y : Va) : Int := cmpB x.k x.n x.t.data.toList y.k y.n y.t.data.toList
theorem cfV_ok : CmpOk cfV := (ciOk.map Va.k).lex ((ciOk.map Va.n).lex (cbOk.map fun x : Va => x.t.data.toList))
theorem vcmp_any (k n : Int) (s : ByteArray) (k' n' : Int) (t : ByteArray) (w : World) : Calls Tryz.prog 136 #[valV k n s, valV k' n' t] w fun e w' => e = .returned (.int .i64 (cmpB k n s.data.toList k' n' t.data.toList)) ∧ Grn w w' := by
 have HB : Hid (∀ o o' : Obj, Grn w ((w.alloc o).alloc o')) := hid (fun o o' => ((Grn.refl w).alloc o).alloc o')
 unfold valV
 go_enter Tryz.func136, Tryz.ntmps136
 go_wp2_with fail
 refine (Tryz.cmp_Compare_int _ _ _).mono ?_
 rintro e w1 ⟨rfl, rfl⟩
 by_cases h1 : Lib.compareInt k k' = 0
 ·have b1 : (Lib.compareInt k k' == 0) = true := by simp [h1]
  have b1' : (Lib.compareInt k k' != 0) = false := by simp [h1]
  have H1 := hid h1
  clear h1
  go_wp2_with fail
  refine (Tryz.cmp_Compare_int _ _ _).mono ?_
  rintro e w1 ⟨rfl, rfl⟩
  by_cases h2 : Lib.compareInt n n' = 0
  ·have b2 : (Lib.compareInt n n' == 0) = true := by simp [h2]
   have b2' : (Lib.compareInt n n' != 0) = false := by simp [h2]
   have H2 := hid h2
   clear h2
   go_wp2_with fail
   refine (Tryz.strings_Compare _ _ _).mono ?_
   rintro e w1 ⟨rfl, rfl⟩
   go_wp2
   go_ret
   exact ⟨by simp [cmpB, H1.out, H2.out], HB.out _ _⟩
  ·have b2 : (Lib.compareInt n n' == 0) = false := by simp [h2]
   have b2' : (Lib.compareInt n n' != 0) = true := by simp [h2]
   have H2 := hid h2
   clear h2
   go_wp2
   go_ret
   exact ⟨by simp [cmpB, H1.out, H2.out], HB.out _ _⟩
 ·have b1 : (Lib.compareInt k k' == 0) = false := by simp [h1]
  have b1' : (Lib.compareInt k k' != 0) = true := by simp [h1]
  have H1 := hid h1
  clear h1
  go_wp2
  go_ret
  exact ⟨by simp [cmpB, H1.out], HB.out _ _⟩
theorem laysV (blk off size : Nat) (w : World) : CmpLays Tryz.prog 136 #[] enW 3 cfV blk off size w := fun _ _ _ _ x y =>
 (vcmp_any x.k x.n x.t y.k y.n y.t _).mono fun _ _ ⟨he, hg⟩ => ⟨he, hg.grow_⟩
theorem sortV_any (l : List Va) (v : Value) (base : Nat) (w : World) (h : OwnK enW base 43 3 w v l) (hl : l.length ≤ 1000000) :
  Calls Tryz.prog 168 #[v, .func (.func 136) #[] #[]] w fun e w' =>
   e = .returned (.tuple #[]) ∧ ∃ l' : List Va, l'.Perm l ∧ (l'.Pairwise fun x y => ltOf cfV y x = false) ∧ OwnK enW base 43 3 w' v l' ∧ Out (fun i => v.ownBlock = some i) w w' := by
 by_cases hn : l = []
 ·subst hn
  have hv : ∃ p c, v = .slice p 0 c := by
   rcases h.2 with ⟨rfl, _⟩ | ⟨g, cap, cur, rfl, _⟩
   ·exact ⟨none, 0, rfl⟩
   ·exact ⟨_, cap, rfl⟩
  obtain ⟨p, c, rfl⟩ := hv
  have hc := AnyF.slices_SortFunc_none (P := Tryz.prog) (ρ := Tryz.sortV_ren) { Tryz.sortV with } p c (.func (.func 136) #[] #[]) w
  exact hc.mono fun e w' ⟨he, hw⟩ => ⟨he, [], List.Perm.refl _, List.Pairwise.nil, hw ▸ h, hw ▸ Out.refl _ _⟩
 ·obtain ⟨g, cap, cur, rfl, hb, hg, h1, h2, h3, h4⟩ := h.block hn
  have eg : ∀ args w, (callFunc 136 args).run Tryz.prog w = .ok (.enter 136 args) w := enters_of Tryz.func136 (by kernel_rfl) rfl
  have hsz : l.toArray.size = l.length := by simp
  have hc := AnyQ.slices_SortFunc (P := Tryz.prog) (ρ := Tryz.sortV_ren) Tryz.sortV 3 Tryz.isAgg43 Tryz.sizeOf43 enW enW_len enW_one cfV cfV_ok.swo 136 #[] g 0 cap l.toArray w eg (laysV g 0 _ w) (holdsK_of enW_len (by decide) hg h4) (Array.getElem?_eq_some_iff.1 hg).1 (by rw [hsz]; omega)
  rw [hsz] at hc
  refine hc.mono ?_
  rintro e w' ⟨he, d', n, os, hp, hs, rfl⟩
  have hd : d'.size = l.length := hp.1.trans hsz
  refine ⟨he, d'.toList, by simpa using perm_all (by rw [hsz]; exact hp), sorted_all (d := l.toArray) hp.1 (by rw [hsz]; exact hs), OwnK.sorted enW_len (by decide) hd hb hg h1 h2 h3, Out.of_but (but_sortedK d') rfl⟩
open Go.RowKit Go.MapKept
theorem infoW : (Tryz.prog.info? 43).map (fun i => (i.zero, i.size, i.bytes)) = some (some (.agg #[.int .i64 0, .int .i64 0, .string ⟨#[]⟩]), 3, 32) := by kernel_rfl
def ApV (B : Nat) (w0 : World) (ss : List Va) (W : World) : Prop := ∃ v, Boxed W B 39 v ∧ OwnK enW w0.heap.size 43 3 W v ss ∧ Below w0.heap.size w0 W
theorem ne_VL : (39 : TypeId) ≠ 43 := by decide
theorem ApV.own (B : Nat) (w0 : World) (D : Nat) (hD : w0.heap.size ≤ D) : OwnFrom D (ApV B w0) := by
 rintro s X Y row ⟨v, hv, hr, hb⟩ hg hrow
 refine ⟨v, hv.kept hg (fun e' => ?_), hr.kept hg ?_, hb.grown hg hb.size (fun k e => Nat.le_trans hD (hrow k e).1)⟩
 ·obtain ⟨_, o, ho, hc⟩ := hrow B e'.symm
  rw [show X.heap[B]? = _ from hv] at ho; cases ho; cases hc
 ·rcases hr.2 with ⟨rfl, _⟩ | ⟨g, cap, cur, rfl, _, hgb, _⟩
  ·exact .inl rfl
  ·refine .inr fun e' => ?_
   obtain ⟨_, o, ho, hc⟩ := hrow g (by simpa [Value.ownBlock] using e'.symm)
   rw [hgb] at ho; cases ho; cases hc
theorem appendSeqV_in (F : Fence) (n : Nat) (hf : F.fn 183) (hro : F.round = none) (hn : 2 ≤ n) (g : Nat) (lb : Array Value) (hFg : F.fn g) (eg : ∀ args w, (callFunc g args).run Tryz.prog w = .ok (.enter g args) w)
  (S : List Va → Prop) (N : Nat) (hN : N ≤ 1000000) (w : World) (hseq : SeqGives F (n - 1) Tryz.prog g lb eV S N w) :
  CallsIn F n Tryz.prog 183 #[.slice none 0 0, .func (.func g) #[] lb] w fun e w' => ∃ (v : Value) (ss : List Va), e = .returned v ∧ S ss ∧ OwnK enW w.heap.size 43 3 w' v ss ∧ Below w.heap.size w w' := by
 obtain ⟨i0, hi, hz0, hz1, hz2⟩ := info_parts infoW
 refine callsIn_of_wp_marks Tryz.func183 rfl hf ?_ hro
 rw [Tryz.ntmps183]
 simp only [List.size_toArray, List.length_cons, List.length_nil, Nat.reduceAdd, Nat.reduceSub, Array.replicate_succ, Array.replicate_zero, List.push_toArray, List.append_toArray, List.nil_append, List.cons_append]
 gi_wp2
 obtain ⟨W0, hW0⟩ : ∃ W0, w.alloc (.cells #[.slice none 0 0] 39) = W0 := ⟨_, rfl⟩
 have hs0 : w.heap.size < W0.heap.size := by rw [← hW0]; simp
 have hv0 : Boxed W0 w.heap.size 39 (.slice none 0 0) := by rw [← hW0]; exact Boxed.new _ _ _
 have hb0 : Below w.heap.size w W0 := by rw [← hW0]; exact (Below.refl _ w).alloc (Nat.le_refl _) _
 rw [hW0]
 clear hW0
 refine wpIn_rangeFunc_box (α := Va) hro (by omega) (gf := g) (lb := lb) rfl hFg eg hseq hb0 rfl (ApV w.heap.size w) (ApV.own _ _ _ hb0.size) ⟨_, hv0, OwnK.nil_ _ _ _ _ _, hb0⟩ (fun x => .cells #[.int .i64 x.k, .int .i64 x.n, .string x.t] 43)
  (fun x q => { tmps := #[.slice none 0 0, .func (.func g) #[] lb, .pointer (some ⟨w.heap.size, 0, none⟩), undef, .slice none 0 0, .pointer (some ⟨q, 0, none⟩), .func (.func g) #[] lb, eV x, undef, undef, undef, undef, undef], defers := [] }) ?_ ?_ ?_
 ·rintro l ⟨kk, xn, xt⟩ W K hK
  have hZ : Blk (W.alloc (.cells #[.int .i64 0, .int .i64 0, .string ⟨#[]⟩] 43)) W.heap.size 43 #[.int .i64 0, .int .i64 0, .string ⟨#[]⟩] := Blk.new _ _ _
  have hX := World.setRow_alloc_new W #[.int .i64 0, .int .i64 0, .string ⟨#[]⟩] #[.int .i64 kk, .int .i64 xn, .string xt] 43
  simp only [eV, valV] at hK ⊢
  rw [zip1]
  simp only [List.setIfInBounds_toArray, List.set_cons_zero, List.set_cons_succ]
  gi_wp2_with (first
   | (refine wpListIn_store_row rfl 43 (.tmp 5) (.tmp 7) rfl W.heap.size #[.int .i64 kk, .int .i64 xn, .string xt] rfl rfl _ _ hZ (by kernel_rfl) rfl (by kernel_rfl) ?_; rw [hX])
   | (rw [Oper.semAt_eq _ _ _ (fun c h => by cases h)]; go_simp; try go_bits))
  exact hK
 ·rintro l pre ⟨kk, xn, xt⟩ W bx ⟨v, hv, hr, hb⟩ hx hle hlen
  have HX := hid (show Blk W bx 43 #[.int .i64 kk, .int .i64 xn, .string xt] from hx)
  have hNC : ∀ j u, [Value.int .i64 kk, .int .i64 xn, .string xt][j]? = some u → (W.alloc (.cells #[.int .i64 kk, .int .i64 xn, .string xt] 43)).cell? ((⟨W.heap.size, 0, none⟩ : Addr).add j) = some u := fun j u hu => by
   rw [Addr.add_lit, Blk.cell (Blk.new W _ _)]
   simpa using hu
  have hws : w.heap.size ≤ W.heap.size := hb.size
  have hOw := hr.keep ((Below.refl _ _).alloc (Nat.le_refl _) (.cells #[.int .i64 kk, .int .i64 xn, .string xt] 43))
  have hc := hv.cell
  clear hx
  simp only [eV, valV]
  gi_wp2_with (first
   | (refine wpListIn_val (o := ⟨some 9, _, _, _, _, _⟩) rfl (fun c hc => by cases hc) (by simp [Oper.about]) (.agg #[.int .i64 kk, .int .i64 xn, .string xt]) W (run_load_op rfl rfl HX.out Tryz.underlying43 rfl (by kernel_rfl)) ?_)
   | (gi_at_builtin; refine wpListIn_append_own _ rfl _ _ 39 rfl w.heap.size 43 i0 _ 3 32 Tryz.underlying39 hi hz0 hz1 hz2 rfl (by decide) _ _ _ rfl hOw ⟨W.heap.size, 0, none⟩ 1 1 [.int .i64 kk, .int .i64 xn, .string xt] rfl rfl hNC (enW_one ⟨kk, xn, xt⟩) (by unfold maxLen; omega) (by omega) (by simp; omega) ?_; intro v' W6 hown' hgrow hnil'
      obtain ⟨g', cap', rfl⟩ := ownsRow_succ hown'
      obtain ⟨q1, q2, q3, q4, q5⟩ := Boxed.appended hv ne_VL hr hws (Nat.le_refl _) hown' hgrow
      have hc1 := q1.cell
      have hf1 := q1.frozen)
   | (rw [Oper.semAt_eq _ _ _ (fun c h => by cases h)]; go_simp; try go_bits))
  refine ⟨_, q2, ?_, hb.trans (q5.mono (Nat.le_refl _))⟩
  unfold OwnK
  rw [List.length_append, List.flatMap_append]
  exact q3
 ·intro D xs W hD hS hI hDf
  obtain ⟨v, hv, hr, hb⟩ := hI
  have hc := hv.cell
  have hne : v.ownBlock = none ∨ v.ownBlock ≠ some D := by
   rcases hr.2 with ⟨rfl, _⟩ | ⟨g', cap, cur, rfl, _, hgb, _⟩
   ·exact .inl rfl
   ·refine .inr fun e' => ?_
    have : g' = D := by simpa [Value.ownBlock] using e'
    rw [this, hDf] at hgb; cases hgb
  gi_wp2
  refine ⟨by simp, .inl ⟨_, _, rfl, run_takeDeferred hDf, ?_⟩⟩
  exact ⟨_, results_tmp rfl _ _ _, v, xs, rfl, hS, hr.kept (grownBy_putObj' _ _ _) hne, hb.grown (grownBy_putObj' _ _ _) hb.size (fun k e => by cases e; omega)⟩
theorem collectV_in (F : Fence) (n : Nat) (hf : F.fn 167) (hf2 : F.fn 183) (hro : F.round = none) (hn : 3 ≤ n) (g : Nat) (lb : Array Value) (hFg : F.fn g) (eg : ∀ args w, (callFunc g args).run Tryz.prog w = .ok (.enter g args) w)
  (S : List Va → Prop) (N : Nat) (hN : N ≤ 1000000) (w : World) (hseq : SeqGives F (n - 1 - 1) Tryz.prog g lb eV S N w) :
  CallsIn F n Tryz.prog 167 #[.func (.func g) #[] lb] w fun e w' => ∃ (v : Value) (ss : List Va), e = .returned v ∧ S ss ∧ OwnK enW w.heap.size 43 3 w' v ss ∧ Below w.heap.size w w' := by
 refine callsIn_of_wp Tryz.func167 rfl hf ?_ hro
 rw [Tryz.ntmps167]
 simp only [List.size_toArray, List.length_cons, List.length_nil, Nat.reduceAdd, Nat.reduceSub, Array.replicate_succ, Array.replicate_zero, List.push_toArray, List.append_toArray, List.nil_append, List.cons_append]
 gi_wp2_with fail
 refine ⟨fun _ => by omega, ?_⟩
 refine (appendSeqV_in F (n - 1) hf2 hro (by omega) g lb hFg eg S N hN _ hseq).mono ?_
 rintro e w' ⟨v, ss, rfl, hS, hrow, hb⟩
 gi_wp2
 go_ret
 exact ⟨v, ss, rfl, hS, hrow, hb⟩
def valsL (L : List (Dt × Va)) : List Va := L.map Prod.snd
theorem valsIt_in (F : Fence) (n : Nat) (hf : F.fn 169) (hro : F.round = none) (hn : 1 ≤ n) (l Bm b : Nat) (L : List (Dt × Va)) (J : List Va → World → Prop)
  (hY : ∀ pre x W, J pre W → pre.length < L.length → YieldAt F (n - 1) Tryz.prog l #[eV x] W fun e W' => e = .returned (.bool true) ∧ J (pre ++ [x]) W' ∧ KeepsWalks W W')
  (W : World) (hJ : AbidesFrom W.heap.size J) (hm : W.cell? ⟨Bm, 0, none⟩ = some (.map (some b))) (hown : MapIs eD eV W b L) (h0 : J [] W) :
  CallsIn F n Tryz.prog 169 #[.func (.yield l) #[] #[], .pointer (some ⟨Bm, 0, none⟩)] W fun e W' => (∃ v, e = .returned v) ∧ ∃ ss : List Va, ss.Perm (valsL L) ∧ J ss W' := by
 obtain ⟨R0, hR0⟩ : ∃ R0, W.heap.size = R0 := ⟨_, rfl⟩
 have HR := hid hR0
 clear hR0
 refine callsIn_of_wp Tryz.func169 rfl hf ?_ hro
 rw [Tryz.ntmps169]
 simp only [List.size_toArray, List.length_cons, List.length_nil, Nat.reduceAdd, Nat.reduceSub, Array.replicate_succ, Array.replicate_zero, List.push_toArray, List.append_toArray, List.nil_append, List.cons_append]
 gi_wp2_with (first
  | (gi_at_range; refine wpListIn_range_is _ rfl _ 116 58 43 rfl Tryz.underlying116 b L rfl hown ?_; intro V hrg hal)
  | gi_in)
 go_frame
 rw [HR.out] at hrg ⊢
 have hg0 : W.grownBy V none := by
  obtain ⟨o, rfl⟩ := hal
  exact grown_of_below ((Below.refl _ _).alloc (Nat.le_refl _) _) _
 have hJ0 := hJ [] W V none h0 hg0 (fun r e => by cases e)
 clear hal hg0 h0 hm hown
 gi_loopw [4] (fun _ wr => ∃ (R : List (Dt × Va)) (ss : List Va), Ranging eD eV wr b R0 L R ∧ (ss ++ valsL R).Perm (valsL L) ∧ J ss wr) (fun _ wr => wr.rangeLeft b R0)
 case atStart => exact ⟨L, [], hrg, List.Perm.refl _, hJ0⟩
 case round =>
  obtain ⟨R, ss, hrg1, hpm, hJs⟩ := hrel
  have HPm := hid hpm
  clear hpm hrg hJ0
  gi_wp2_with (first
   | (gi_at_next; refine wpListIn_next_is _ rfl _ rfl b R0 _ _ rfl hrg1 ?_ ?_)
   | gi_in)
  ·intro hR
   subst hR
   gi_wp2
   go_end0
   exact ⟨⟨_, rfl⟩, ss, by simpa [valsL] using HPm.out, hJs⟩
  ·intro pd pn R1 V1 hp hrg2 hb1 hs1 hen
   obtain ⟨kk, xn, xt⟩ := pn
   have hJ2 : J ss V1 := hJ ss wr V1 (some R0) hJs hb1 (fun r e => by cases e; exact ⟨by rw [HR.out]; exact Nat.le_refl _, hrg1.iter_walk⟩)
   have hlen : ss.length < L.length := by
    have h1 := HPm.out.length_eq
    have h2 := hp.length_eq
    simp [valsL] at h1 h2
    omega
   have hl1 : wr.rangeLeft b R0 = R.length := hrg1.left_eq
   have HL1 := hid hl1
   have HP := hid hp
   have hZ : Blk (V1.alloc (.cells #[.int .i64 0, .int .i64 0, .string ⟨#[]⟩] 43)) V1.heap.size 43 #[.int .i64 0, .int .i64 0, .string ⟨#[]⟩] := Blk.new _ _ _
   obtain ⟨X, hX⟩ : ∃ X, X = (V1.alloc (.cells #[.int .i64 0, .int .i64 0, .string ⟨#[]⟩] 43)).setRow V1.heap.size #[.int .i64 kk, .int .i64 xn, .string xt] := ⟨_, rfl⟩
   have hbX : Below V1.heap.size V1 X := by
    rw [hX]
    exact ((Below.refl _ _).alloc (Nat.le_refl _) _).trans (setRow_below _ _ _ _ (Nat.le_refl _))
   have hBX : Blk X V1.heap.size 43 #[.int .i64 kk, .int .i64 xn, .string xt] := by rw [hX]; exact setRow_blk _ _ _ _ _ hZ
   have hJX : J ss X := hJ ss V1 X none hJ2 (grown_of_below hbX _) (fun r e => by cases e)
   have hrgX := hrg2.below hbX
   have HX := hid hX
   have HBX := hid hBX
   obtain ⟨fn, tmps, assign, body, hy, hRd⟩ := hY ss ⟨kk, xn, xt⟩ X hJX hlen
   clear hX hb1 hs1 hl1 hp hrg1 hrg2 hbX
   simp only [eD, dv, eV, valV] at hen hy hRd ⊢
   gi_wp2_with (first
    | (refine wpListIn_store_row rfl 43 (.tmp 4) (.tmp 10) rfl V1.heap.size #[.int .i64 kk, .int .i64 xn, .string xt] rfl rfl _ _ hZ (by kernel_rfl) rfl (by kernel_rfl) ?_; rw [← HX.out])
    | (refine wpListIn_val (o := ⟨some 12, _, _, _, _, _⟩) rfl (fun c hc => by cases hc) (by simp [Oper.about]) (.agg #[.int .i64 kk, .int .i64 xn, .string xt]) X (run_load_op rfl rfl hBX Tryz.underlying43 rfl (by kernel_rfl)) ?_)
    | gi_in)
   refine hRd.mono ?_
   rintro e W3 ⟨rfl, hJ3, hk3⟩
   gi_wp2
   have hrg3 := hrgX.of_walks hk3
   go_roundw
   case rel => exact ⟨R1, ss ++ [⟨kk, xn, xt⟩], hrg3, by
    rw [List.append_assoc]
    exact (List.Perm.append_left ss (HP.out.map Prod.snd).symm).trans HPm.out, hJ3⟩
   case measure =>
    rw [hrg3.left_eq, HL1.out, HP.out.length_eq]
    exact Nat.lt_succ_self _
theorem vals_in (F : Fence) (n : Nat) (hf : F.fn 134) (hro : F.round = none) (mb : Option Nat) (w : World) :
  CallsIn F n Tryz.prog 134 #[.map mb] w fun e w' => e = .returned (.func (.func 169) #[] #[.pointer (some ⟨w.heap.size, 0, none⟩)]) ∧ w' = w.alloc (.cells #[.map mb] 116) := by
 refine callsIn_of_wp Tryz.func134 rfl hf ?_ hro
 rw [Tryz.ntmps134]
 simp only [List.size_toArray, List.length_cons, List.length_nil, Nat.reduceAdd, Nat.reduceSub, Array.replicate_succ, Array.replicate_zero, List.push_toArray, List.append_toArray, List.nil_append, List.cons_append]
 gi_wp2
 go_ret
 exact ⟨rfl, rfl⟩
theorem vals_gives (F : Fence) (n : Nat) (hf : F.fn 169) (hro : F.round = none) (hn : 1 ≤ n) (Bm b : Nat) (L : List (Dt × Va)) (w : World) (hBm : Bm < w.heap.size)
  (hm : w.cell? ⟨Bm, 0, none⟩ = some (.map (some b))) (hown : MapIs eD eV w b L) :
  SeqGives F n Tryz.prog 169 #[.pointer (some ⟨Bm, 0, none⟩)] eV (fun ss => ss.Perm (valsL L)) L.length w := fun l J W hW hJ hY h0 =>
 valsIt_in F n hf hro hn l Bm b L J hY W hJ ((hW.cell (p := ⟨Bm, 0, none⟩) hBm).trans hm) (hown.same (hW.block b hown.lt)) h0
theorem valsNil_in (F : Fence) (n : Nat) (hf : F.fn 169) (hro : F.round = none) (l Bm : Nat) (J : List Va → World → Prop)
  (W : World) (hJ : AbidesFrom W.heap.size J) (hm : W.cell? ⟨Bm, 0, none⟩ = some (.map none)) (h0 : J [] W) :
  CallsIn F n Tryz.prog 169 #[.func (.yield l) #[] #[], .pointer (some ⟨Bm, 0, none⟩)] W fun e W' => (∃ v, e = .returned v) ∧ J [] W' := by
 obtain ⟨r, hr⟩ : ∃ r, W.heap.size = r := ⟨_, rfl⟩
 obtain ⟨V, hV⟩ : ∃ V, V = W.alloc (.mapIter none 0 #[] 0) := ⟨_, rfl⟩
 have hrg : (Instr.range 116 (.map none)).run Tryz.prog W = .ok (.pointer (some ⟨r, 0, none⟩)) V := by rw [hV, ← hr]; exact run_range_nilMap W _ _ _ Tryz.underlying116
 have hnx : ∀ ty, (Instr.next (.pointer (some ⟨r, 0, none⟩)) false ty).run Tryz.prog V = .ok (.tuple #[.bool false]) V := fun ty => run_next_nil_at V ty r 0 0 #[] (by rw [hV, ← hr]; exact heap_alloc_new W _)
 have HJ := hid (show J [] V from hJ [] W V none h0 (by rw [hV]; exact grown_of_below ((Below.refl _ _).alloc (Nat.le_refl _) _) _) (fun r e => by cases e))
 clear hV hr hJ h0
 refine callsIn_of_wp Tryz.func169 rfl hf ?_ hro
 rw [Tryz.ntmps169]
 simp only [List.size_toArray, List.length_cons, List.length_nil, Nat.reduceAdd, Nat.reduceSub, Array.replicate_succ, Array.replicate_zero, List.push_toArray, List.append_toArray, List.nil_append, List.cons_append]
 gi_wp2
 refine wpIn_loop_once ?_
 gi_wp2
 go_end0
 exact ⟨⟨_, rfl⟩, HJ.out⟩
def HdIs (w : World) (m : Option Nat) (L : List (Dt × Va)) : Prop := (m = none ∧ L = []) ∨ ∃ b, m = some b ∧ MapIs eD eV w b L
theorem hd_gives (F : Fence) (n : Nat) (hf : F.fn 169) (hro : F.round = none) (hn : 1 ≤ n) (Bm : Nat) (m : Option Nat) (L : List (Dt × Va)) (w : World) (hBm : Bm < w.heap.size)
  (hm : w.cell? ⟨Bm, 0, none⟩ = some (.map m)) (hown : HdIs w m L) :
  SeqGives F n Tryz.prog 169 #[.pointer (some ⟨Bm, 0, none⟩)] eV (fun ss => ss.Perm (valsL L)) L.length w := by
 rcases hown with ⟨rfl, rfl⟩ | ⟨b, rfl, h⟩
 ·intro l J W hW hJ hY h0
  exact (valsNil_in F n hf hro l Bm J W hJ ((hW.cell (p := ⟨Bm, 0, none⟩) hBm).trans hm) h0).mono fun e w' ⟨he, hj⟩ => ⟨he, [], List.Perm.refl _, hj⟩
 ·exact vals_gives F n hf hro hn Bm b L w hBm hm h
theorem vals_any (mb : Option Nat) (w : World) : Calls Tryz.prog 134 #[.map mb] w fun e w' => e = .returned (.func (.func 169) #[] #[.pointer (some ⟨w.heap.size, 0, none⟩)]) ∧ w' = w.alloc (.cells #[.map mb] 116) :=
 callsIn_wide.1 (vals_in Fence.wide 0 trivial rfl mb w)
theorem sortedV_any (Bm : Nat) (m : Option Nat) (L : List (Dt × Va)) (w : World) (hBm : Bm < w.heap.size) (hm : w.cell? ⟨Bm, 0, none⟩ = some (.map m)) (hown : HdIs w m L) (hl : L.length ≤ 1000000) :
  Calls Tryz.prog 133 #[.func (.func 169) #[] #[.pointer (some ⟨Bm, 0, none⟩)], .func (.func 136) #[] #[]] w fun e w' =>
   ∃ (v : Value) (ss : List Va), e = .returned v ∧ ss.Perm (valsL L) ∧ (ss.Pairwise fun x y => ltOf cfV y x = false) ∧ OwnK enW w.heap.size 43 3 w' v ss ∧ Below w.heap.size w w' := by
 have eg : ∀ args w, (callFunc 169 args).run Tryz.prog w = .ok (.enter 169 args) w := enters_of Tryz.func169 (by kernel_rfl) rfl
 have HC := hid (callsIn_wide.1 (collectV_in Fence.wide 9 trivial trivial rfl (by decide) _ _ trivial eg (fun ss => ss.Perm (valsL L)) L.length hl w (hd_gives Fence.wide 7 trivial rfl (by decide) Bm m L w hBm hm hown)))
 have HL := hid hl
 clear eg hm hown hl
 go_enter Tryz.func133, Tryz.ntmps133
 go_wp2_with fail
 refine HC.out.mono ?_
 rintro e w1 ⟨v, ss, rfl, hS, ho, hb⟩
 have hlen : ss.length ≤ 1000000 := by
  have := hS.length_eq
  simp [valsL] at this
  have := HL.out
  omega
 have HS := hid hS
 have HO := hid ho
 have HB := hid hb
 have HN := hid hlen
 clear hS ho hb hlen
 go_wp2_with fail
 refine (sortV_any ss v w.heap.size w1 HO.out HN.out).mono ?_
 rintro e w2 ⟨rfl, l', hp, hs, ho, hout⟩
 have HP := hid hp
 have HQ := hid hs
 have HO2 := hid ho
 have HU := hid hout
 clear hp hs ho hout
 go_wp2
 go_ret
 exact ⟨v, l', rfl, HP.out.trans HS.out, HQ.out, HO2.out, HB.out.trans (HU.out.below HB.out.size (fun i hi => (HO.out.lt i hi).1))⟩
end Go.Proofs.YtdgglhlofnigkaaGreatDoor
