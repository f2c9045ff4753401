/- What a view tells as lines. -/import Derived.Test.YtdgglhlofnigkaaGreatDoorGrAsk
import Derived.Test.YtdgglhlofnigkaaGreatDoorJValBuild
set_option maxHeartbeats 8000000
set_option maxRecDepth 100000
namespace Go.Proofs.YtdgglhlofnigkaaGreatDoor
open Lib (hid)
open Go.RowKit Go.MapKept Go.Sort
def joinG (ls : List ByteArray) : ByteArray := ⟨(Lib.join (ls.map (·.data.toList)) [32]).toArray⟩
def txV (x : Va) : ByteArray := ⟨(textB x.k x.n x.t.data.toList).toArray⟩
def partLine (V : Vw) (b : ByteArray) (y : El) : ByteArray := joinG ([b, y.d] ++ (V.val y).map txV)
def partLinesV (V : Vw) (x : El) (first : List ByteArray) : List ByteArray := ((V.part x).getD []).map (partLine V (joinG first))
def wNode : ByteArray := ⟨#[110, 111, 100, 101]⟩
def wProp : ByteArray := ⟨#[112, 114, 111, 112]⟩
def wEdge : ByteArray := ⟨#[101, 100, 103, 101]⟩
def wTrait : ByteArray := ⟨#[116, 114, 97, 105, 116]⟩
def nodeLines (V : Vw) (key : ByteArray) : List ByteArray := joinG ([wNode, key] ++ V.lab key) :: partLinesV V (nodeE key) [wProp, key]
def linkLines (V : Vw) (l : Lk) : List ByteArray := joinG [wEdge, l.f, l.y, l.t] :: partLinesV V (linkE l) [wTrait, l.f, l.y, l.t]
def linesV (V : Vw) : List ByteArray := V.nodes.flatMap (nodeLines V) ++ V.links.flatMap (linkLines V)
structure TextV (V : Vw) : Prop where
 nodes : V.nodes.length ≤ 1000 ∧ ∀ s ∈ V.nodes, s.size ≤ 1000
 links : V.links.length ≤ 1000 ∧ ∀ x ∈ V.links, x.f.size ≤ 1000 ∧ x.t.size ≤ 1000 ∧ x.y.size ≤ 1000
 lab : ∀ key, (V.lab key).length ≤ 1000 ∧ ∀ s ∈ V.lab key, s.size ≤ 1000
 part : ∀ x, ((V.part x).getD []).length ≤ 1000 ∧ ∀ y ∈ (V.part x).getD [], y.d.size ≤ 1000
 val : ∀ x, (V.val x).length ≤ 1000 ∧ ∀ y ∈ V.val x, y.t.size ≤ 1000
theorem lens_le (M : Nat) : ∀ ls : List ByteArray, (∀ s ∈ ls, s.size ≤ M) → Lib.lens (ls.map (·.data.toList)) ≤ ls.length * M
 | [], _ => by simp [Lib.lens]
 | s :: ls, h => by
  have ih := lens_le M ls fun y hy => h y (List.mem_cons_of_mem _ hy)
  have h1 := h s List.mem_cons_self
  have h2 : s.data.toList.length = s.size := Array.length_toList
  simp only [Lib.lens, List.map_cons, List.sum_cons, List.length_cons, Nat.add_mul, Nat.one_mul] at *
  omega
theorem joinG_len (M : Nat) (ls : List ByteArray) (h : ∀ s ∈ ls, s.size ≤ M) : (Lib.join (ls.map (·.data.toList)) [32]).length ≤ ls.length * (M + 1) := by
 cases ls with
 | nil => simp [Lib.join_nil]
 | cons s ls =>
  have h1 := lens_le M (s :: ls) h
  have h2 := Lib.join_length s.data.toList (ls.map (·.data.toList)) [32]
  rw [List.map_cons] at h1 ⊢
  simp only [List.length_cons, List.length_map, List.length_nil, Nat.add_mul, Nat.mul_add, Nat.one_mul, Nat.mul_one] at *
  omega
theorem joinG_size (M : Nat) (ls : List ByteArray) (h : ∀ s ∈ ls, s.size ≤ M) : (joinG ls).size ≤ ls.length * (M + 1) := by
 have := joinG_len M ls h
 have h2 : (joinG ls).size = (Lib.join (ls.map (·.data.toList)) [32]).length := by unfold joinG; show Array.size _ = _; simp
 omega
theorem textB_len (k n : Int) (l : List UInt8) : (textB k n l).length ≤ 2 * l.length + 20 := by
 unfold textB
 split
 ·rename_i hr
  split
  ·have : (Lib.formatBool (n == 1)).length ≤ 5 := by cases (n == 1) <;> decide
   omega
  split
  ·rename_i h1 h2
   subst h2
   have hb : -1099511627776 ≤ n ∧ n ≤ 1099511627776 := by simp [rightB] at hr; exact hr.1
   have := itoa_len n hb.1 hb.2
   omega
  split
  ·have := qL_len l
   unfold quoteL
   simp only [List.length_append, List.length_cons, List.length_nil]; omega
  split
  ·simp only [List.length_append, List.length_cons, List.length_nil]; omega
  split
  ·simp only [List.length_append, List.length_cons, List.length_nil]; omega
  ·simp
 ·simp
theorem txV_size (x : Va) : (txV x).size ≤ 2 * x.t.size + 20 := by
 have h := textB_len x.k x.n x.t.data.toList
 have h2 : x.t.data.toList.length = x.t.size := Array.length_toList
 have h3 : (txV x).size = (textB x.k x.n x.t.data.toList).length := by unfold txV; show Array.size _ = _; simp
 omega
theorem line_any (ls : List ByteArray) (v : Value) (w : World) (hs : SlK enS 1 w v ls) (hM : ∀ s ∈ ls, s.size ≤ 20000) (hn : ls.length ≤ 20000) : Calls Tryz.prog 37 #[v] w (Gives w (.string (joinG ls))) := by
 have hj := joinG_len 20000 ls hM
 have hJ : Calls Tryz.prog 60 #[v, .string ⟨#[32]⟩] w fun e w' => e = .returned (.string (joinG ls)) ∧ Below w.heap.size w w' := by
  obtain ⟨A, c, rfl, hc, hx⟩ := hs
  by_cases he : ls = []
  ·subst he
   exact (Tryz.strings_Join_none A c ⟨#[32]⟩ w).mono fun e w' ⟨h1, h2⟩ => ⟨h1, h2 ▸ Below.refl _ _⟩
  ·obtain ⟨b, o, rfl, hb, hcell⟩ := hx he
   refine (Tryz.strings_Join b o c ls ⟨#[32]⟩ w (fun j x hj => ?_) hb (by omega) hc (Nat.le_trans hj ?_)).mono fun e w' h => ⟨h.1, h.2⟩
   ·have := hcell j x hj 0 (.string x) rfl
    simpa using this
   ·have := Nat.mul_le_mul_right 20001 hn
    omega
 have HJ := hid hJ
 clear hJ hs hM hn hj
 go_enter Tryz.func37, Tryz.ntmps37
 go_wp2_with fail
 refine HJ.out.mono ?_
 rintro e w1 ⟨rfl, hb1⟩
 have HB := hid hb1
 clear hb1
 go_wp2_with fail
 go_ret
 exact ⟨rfl, HB.out⟩
theorem own_app2 {P : Program} {α : Type} {enc : α → List Value} {k bytes : Nat} {e st ty : TypeId} (T : ApT P enc k e st bytes) {R : Nat} {W : World} {v v2 : Value} {l l2 : List α} (ho : OwnK enc R e k W v l) (hR : R ≤ W.heap.size) (hs : SlK enc k W v2 l2)
  (hy : (l.length + l2.length) * bytes ≤ 140737488355328) (hn : l.length + l2.length ≤ 140737488355328) : ∃ v' w', (Builtin.append_ #[st, st] ty #[v, v2]).run P W = .ok v' w' ∧ OwnK enc R e k w' v' (l ++ l2) ∧ Below R W w' ∧ W.grownBy w' v.ownBlock := by
 obtain ⟨i, z, h1, h2, h3, h4, h5⟩ := T.info
 obtain ⟨v', w', hr, h, hg⟩ := run_append_K (P := P) T.len T.pos W R st ty e i z bytes T.under h1 h2 h3 h4 h5 v l ho v2 l2 hs T.one hy hn hR
 exact ⟨v', w', hr, h, (Below.refl R W).grown hg hR fun k hk => (ho.lt k hk).1, hg⟩
theorem own_lit (ls : List ByteArray) (cs : Array Value) (n : Nat) (w : World) (hcs : cs.toList = ls.flatMap enS) (hn : ls.length = n) (hm : n ≤ 1000000) : OwnK enS w.heap.size 9 1 (w.alloc (.cells cs 9)) (.slice (some ⟨w.heap.size, 0, none⟩) n n) ls := by
 have hl : (ls.flatMap enS).length = ls.length * 1 := flat_length enS_len ls
 have hsz : cs.size = n * 1 := by rw [← Array.length_toList, hcs, hl, hn]
 refine ⟨hl, .inr ⟨w.heap.size, n, cs, by rw [hn], Nat.le_refl _, heap_alloc_new w _, by omega, by unfold maxLen; omega, hsz, ?_⟩⟩
 rw [hcs, ← hl, List.take_length]
theorem at_Va0 (g c n k : Nat) (h : k < n) (w : World) : (Instr.indexAt 39 (.slice (some ⟨g, 0, none⟩) n c) (.int .i64 k)).run Tryz.prog w = .ok (.pointer (some ⟨g, k * 3, none⟩)) w := by
 have h2 : (k : Int) < n := by omega
 go_simp
theorem ne_VS : (43 : TypeId) ≠ 9 := by decide
theorem infoVz : (Tryz.prog.info? 43).map (fun i => (i.zero, i.size)) = some (some (.agg #[.int .i64 0, .int .i64 0, .string ⟨#[]⟩]), 3) := by kernel_rfl
theorem partLines_any {own : Nat → Option Tg} {R vb b1 b2 b3 b4 b5 : Nat} {V : Vw} {nv lv : Value} (x : El) (v2 : Value) (first : List ByteArray) (w : World) (hV : VIs own R w vb V nv lv b1 b2 b3 b4 b5) (hT : TextV V) (hs2 : SlK enS 1 w v2 first) (hf : first.length ≤ 4 ∧ ∀ s ∈ first, s.size ≤ 1000) (hw0 : WOk w) :
  Calls Tryz.prog 38 #[.pointer (some ⟨vb, 0, none⟩), eE x, v2] w fun e w' => ∃ u, e = .returned u ∧ OwnK enS w.heap.size 9 1 w' u (partLinesV V x first) ∧ Below w.heap.size w w' := by
 obtain ⟨q, hq⟩ : ∃ q, w.heap.size = q := ⟨_, rfl⟩
 obtain ⟨X, hX⟩ : ∃ X, X = w.alloc (.cells #[.int .i64 x.k, .string x.a, .string x.b, .string x.c, .string x.d] 38) := ⟨_, rfl⟩
 have hb : Below w.heap.size w X := by rw [hX]; exact (Below.refl _ _).alloc (Nat.le_refl _) _
 have hE : Blk X q 38 #[.int .i64 x.k, .string x.a, .string x.b, .string x.c, .string x.d] := by rw [hX, ← hq]; exact Blk.new w _ _
 have HL1 := hid (line_any first v2 X (hs2.below hb) (fun s hs => Nat.le_trans (hf.2 s hs) (by omega)) (by omega))
 have HBg := hid (show (joinG first).size ≤ 5000 by
  have h1 := joinG_size 1000 first hf.2
  have h2 := Nat.mul_le_mul_right 1001 hf.1
  omega)
 unfold partLinesV
 obtain ⟨bg, hbg⟩ : ∃ bg, joinG first = bg := ⟨_, rfl⟩
 rw [hbg] at HL1 HBg ⊢
 have HWw := hid (fun wr (h : Below q w wr) => show WOk wr from hw0.below (by rw [hq]; exact h))
 have HVw := hid (fun wr (h : Below q w wr) => show VIs own R wr vb V nv lv b1 b2 b3 b4 b5 from hV.keep (by rw [hq]; exact h))
 have HTx := hid hT
 have HBX := hid hb
 have HEX := hid hE
 have HX := hid hX
 have HQ := hid hq
 have HVb := hid hV.bound
 obtain ⟨ps, hps⟩ : ∃ ps, (V.part x).getD [] = ps := ⟨_, rfl⟩
 rw [hps]
 have HPse := hid hps
 clear hV hT hs2 hf hw0 hb hE hX hq hbg hps
 unfold eE elV
 go_enter Tryz.func38, Tryz.ntmps38
 go_upto_region 2 with fail
 rw [← HX.out, HQ.out]
 go_wp2_with fail
 refine HL1.out.mono ?_
 rintro e W0 ⟨rfl, hb0⟩
 have hbq : Below q w W0 := by have h := HBX.out.trans (hb0.mono HBX.out.size); rw [HQ.out] at h; exact h
 have hE0 := HEX.out.below hb0 HEX.out.lt
 have hV0 := HVw.out W0 hbq
 obtain ⟨v, hvo, hlk⟩ := hV0.lookPart x
 obtain ⟨A, c, rfl, _⟩ := hvo.1.read enL_len
 have hps := HPse.out
 have hn0 := (HTx.out.part x).1
 have HPd := hid (HTx.out.part x).2
 rw [hps] at hvo hlk hn0 HPd
 obtain ⟨n, hn2⟩ : ∃ n, ps.length = n := ⟨_, rfl⟩
 rw [hn2] at hvo hlk hn0
 have HPs := hid hn2
 have HN := hid hn0
 have HOw := hid (show ∀ wr, Below q W0 wr → OwnK enL R 38 5 wr (.slice A n c) ps from fun wr hr => hvo.1.same fun g hg => by
  have hgl := HVb.out g (by rw [hvo.2 g hg]; simp)
  have := HQ.out
  exact hr.block g (by omega))
 have HLk := hid hlk
 obtain ⟨X, rfl⟩ : ∃ X', X' = W0 := ⟨_, rfl⟩
 have HC := hid (show ∀ W, Below X.heap.size X W → Blk W vb 78 #[nv, lv, .map (some b1), .map (some b2), .map (some b3), .map (some b4), .map (some b5)] ∧ Blk W q 38 #[.int .i64 x.k, .string x.a, .string x.b, .string x.c, .string x.d] from fun W hW => ⟨hV0.blk.below hW hV0.blk.lt, hE0.below hW hE0.lt⟩)
 have HBq := hid hbq
 clear hb0 hbq hE0 hV0 hvo hlk hps hn2 hn0 HL1 HBX HEX HX
 go_upto_region 3 with fail
 refine wp_region_any (by kernel_rfl) ?_
 refine wpAny_below (fun i uq wq => uq = ([.pointer (some ⟨vb, 0, none⟩), .pointer (some ⟨vb, 0, none⟩), .pointer (some ⟨vb, 0, none⟩), .pointer (some ⟨vb, 5, none⟩), .map (some b4), .agg #[.int .i64 x.k, .string x.a, .string x.b, .string x.c, .string x.d], .slice A n c, .int .i64 n, .int .i64 0] : List Value).getD i undef) _ X (by kernel_rfl) (by kernel_rfl) (by kernel_rfl) (fun i v w w' _ h => h) ?_ ?_
 ·refine ⟨?_, ?_, ?_, ?_, ?_, ?_, ?_, ?_, ?_, trivial⟩
  ·intro a W hI hun haft hi
   have e0 := hun 0 (by kernel_rfl)
   exact b_same hi hI rfl _ (run_move_op rfl e0) rfl
  ·intro a W hI hun haft hi
   obtain ⟨kv, ke⟩ := HC.out W hI
   have f0 : a.eval (.tmp 16) = .pointer (some ⟨vb, 0, none⟩) := haft ⟨0, .data⟩ (by simp) rfl _ _ rfl rfl
   refine b_call hi hI rfl _ _ (run_call_op (args := #[.pointer (some ⟨vb, 0, none⟩)]) rfl (by simp [f0]) (by kernel_rfl)) ?_
   exact (seen_any vb W).mono fun e w' H => ⟨_, H.1, rfl, H.2⟩
  ·intro a W hI hun haft hi
   have f1 := haft ⟨1, .data⟩ (by simp) rfl _ _ rfl rfl
   exact b_same hi hI rfl _ (run_nilCheck_op rfl f1) rfl
  ·intro a W hI hun haft hi
   have f2 := haft ⟨2, .data⟩ (by simp) rfl _ _ rfl rfl
   exact b_same hi hI rfl _ (run_fieldAddr_any rfl f2 (at_view5 _ 0 _)) rfl
  ·intro a W hI hun haft hi
   obtain ⟨kv, ke⟩ := HC.out W hI
   have f3 : a.eval (.tmp 19) = .pointer (some ⟨vb, 5, none⟩) := haft ⟨3, .data⟩ (by simp) rfl _ _ rfl rfl
   exact b_same hi hI rfl _ (run_loadmap_op rfl f3 Tryz.underlying75 ((Blk.cell kv 5).trans rfl)) rfl
  ·intro a W hI hun haft hi
   obtain ⟨kv, ke⟩ := HC.out W hI
   have e4 := hun 4 (by kernel_rfl)
   exact b_same hi hI rfl _ (run_load_op rfl e4 (ke) Tryz.underlying38 rfl (by kernel_rfl)) rfl
  ·intro a W hI hun haft hi
   obtain ⟨kv, ke⟩ := HC.out W hI
   have f4 := haft ⟨4, .data⟩ (by simp) rfl _ _ rfl rfl
   have f5 := haft ⟨5, .data⟩ (by simp) rfl _ _ rfl rfl
   exact b_same hi hI rfl _ (run_lookup_op rfl f4 f5 (HLk.out W hI)) rfl
  ·intro a W hI hun haft hi
   have f6 := haft ⟨6, .data⟩ (by simp) rfl _ _ rfl rfl
   exact b_same hi hI rfl _ (run_len_op Tryz.underlying80 rfl f6) rfl
  ·intro a W hI hun haft hi
   exact b_same hi hI rfl _ (run_move_op rfl rfl) rfl
 ·intro vals W hI hp
  have hl6 : vals 6 = .slice A n c := hp 6 (by decide)
  have hl7 : vals 7 = .int .i64 n := hp 7 (by decide)
  have hl8 : vals 8 = .int .i64 0 := hp 8 (by decide)
  have HI := hid hI
  clear hp hI
  simp only [layN, layS, List.range, List.range.loop, if_true, Act.put, Nat.zero_add, Nat.reduceAdd, hl6, hl7, hl8]
  clear hl6 hl7 hl8
  have HB2 := hid (show Below q w W from HBq.out.trans (HI.out.mono (by have h1 := HBq.out.size; have h2 := HQ.out; omega)))
  have HOw2 := hid (show ∀ wr, Below q W wr → OwnK enL R 38 5 wr (.slice A n c) ps from fun wr hr => HOw.out wr ((HI.out.mono (by have h1 := HBq.out.size; have h2 := HQ.out; omega)).trans hr))
  have HqW := hid (show q ≤ W.heap.size by have h1 := HB2.out.size; have h2 := HQ.out; omega)
  clear HI HLk HC HOw
  obtain ⟨W0, rfl⟩ : ∃ W', W' = W := ⟨_, rfl⟩
  go_wp2_with fail
  go_loopw [7, 24] (fun v7 v24 wr => ∃ j : Nat, v24 = .int .i64 j ∧ j ≤ n ∧ OwnK enS q 9 1 wr v7 ((ps.take j).map (partLine V bg)) ∧ Below q W0 wr) (fun _ v24 _ => n - (intOf v24).toNat)
  case atStart => exact ⟨0, rfl, Nat.zero_le _, OwnK.nil_ _ _ _ _ _, Below.refl _ _⟩
  case round =>
   obtain ⟨j, rfl, hj, ho, hbw⟩ := hrel
   obtain ⟨wp, rfl⟩ : ∃ wp, wp = wr := ⟨_, rfl⟩
   by_cases hlt : j < n
   ·obtain ⟨y, hy⟩ : ∃ y, ps[j]? = some y := ⟨ps[j]'(by rw [HPs.out]; exact hlt), List.getElem?_eq_getElem _⟩
    obtain ⟨g, rfl, _, _, hce⟩ := (HOw2.out wp hbw).at_ enL_len hy
    have HAt := hid (at_Es g c n j hlt wp)
    have HCe := hid (show wp.rangeAt g (j * 5) [.int .i64 y.k, .string y.a, .string y.b, .string y.c, .string y.d] from hce)
    have hqw : q ≤ wp.heap.size := Nat.le_trans HqW.out hbw.size
    obtain ⟨Y, hY⟩ : ∃ Y, Y = wp.alloc (.cells #[.int .i64 y.k, .string y.a, .string y.b, .string y.c, .string y.d] 38) := ⟨_, rfl⟩
    have hbY : Below wp.heap.size wp Y := by rw [hY]; exact (Below.refl _ _).alloc (Nat.le_refl _) _
    obtain ⟨Z, hZ⟩ : ∃ Z, Z = Y.alloc (.cells #[.string bg, .string y.d] 9) := ⟨_, rfl⟩
    have hbZ : Below wp.heap.size wp Z := by rw [hZ]; exact hbY.alloc hbY.size _
    obtain ⟨i, hi⟩ : ∃ i, wp.heap.size = i := ⟨_, rfl⟩
    obtain ⟨m, hm⟩ : ∃ m, Y.heap.size = m := ⟨_, rfl⟩
    have hEy : Blk Y i 38 #[.int .i64 y.k, .string y.a, .string y.b, .string y.c, .string y.d] := by rw [hY, ← hi]; exact Blk.new wp _ _
    have c4 : Y.cell? ⟨i, 4, none⟩ = some (.string y.d) := (Blk.cell hEy 4).trans rfl
    have HEz := hid (show Blk Z i 38 #[.int .i64 y.k, .string y.a, .string y.b, .string y.c, .string y.d] by rw [hZ]; exact hEy.alloc _)
    have HWo := hid (show OwnK enS i 9 1 Z (.slice (some ⟨m, 0, none⟩) 2 2) [bg, y.d] from by
     have h := own_lit [bg, y.d] #[.string bg, .string y.d] 2 Y rfl rfl (by decide)
     rw [← hZ, hm] at h
     exact h.base_ (by rw [← hm, ← hi]; exact hbY.size))
    have hvl := (HTx.out.val y).1
    have HVal := hid (valuesP_any y Z (HVw.out Z (HB2.out.trans (hbw.trans (hbZ.mono hqw)))) (by omega))
    have HDy := hid (HPd.out y (List.mem_of_getElem? hy))
    have HNx := hid (show (ps.take (j + 1)).map (partLine V bg) = (ps.take j).map (partLine V bg) ++ [partLine V bg y] by rw [List.take_add_one, hy, List.map_append]; rfl)
    have HLo := hid (ho.keep hbZ)
    have HLw := hid ho
    have HBZ := hid (hbw.trans (hbZ.mono hqw))
    have HBi := hid (show Below i wp Z by rw [← hi]; exact hbZ)
    have HQi := hid (show q ≤ i by rw [← hi]; exact hqw)
    have HBw := hid hbw
    have HYe := hid hY
    have HZe := hid hZ
    have HI := hid hi
    have HM := hid hm
    have HVn := hid hvl
    have hz := (zero_of_info infoElG).1
    have hw := IntWalk.i64_in ((j : Int) + 1) (by have := HN.out; omega)
    have hjm : ¬ 9223372036854775807 < j + 1 := by have := HN.out; omega
    have HJ1 := hid hjm
    have HW1 := hid hw
    clear hw hjm hY hZ hi hm hbY hbZ hce hy ho hbw hqw hEy hvl
    go_upto_region 6 with (first
     | (refine wpList_val (o := ⟨some 26, _, _, _, _, _⟩) rfl (.pointer (some ⟨g, j * 5, none⟩)) wp (run_indexAddr_op rfl rfl rfl HAt.out) ?_)
     | (refine wpList_load_midif rfl 38 (.tmp 26) rfl g (j * 5) rfl [.int .i64 y.k, .string y.a, .string y.b, .string y.c, .string y.d] _ HCe.out Tryz.underlying38 rfl (by kernel_rfl) ?_)
     | fail)
    clear hz
    rw [HI.out, ← HYe.out]
    go_upto_region 7 with fail
    rw [← HZe.out, HM.out]
    clear c4
    unfold eE elV at HVal
    go_wp2_with (first
     | (refine' wpList_load_if ?q1 38 (.tmp 10) ?q2 i ?q3 _ _ _ _ ?q4 Tryz.underlying38 ?q5 ?q6 ?_; (case q2 => rfl); (case q1 => rfl); (case q3 => rfl); (case q4 => exact HEz.out); (case q5 => rfl); (case q6 => exact sizeL y))
     | fail)
    refine HVal.out.mono ?_
    rintro e W2 ⟨uv, rfl, huo, hub⟩
    obtain ⟨Av, cv, rfl, _, _⟩ := huo.read enW_len
    obtain ⟨nn, hnn⟩ : ∃ nn, (V.val y).length = nn := ⟨_, rfl⟩
    rw [hnn] at huo ⊢
    have HVo := hid (huo.base_ (b' := i) (by have h1 := HBi.out.size; have h2 := HI.out; omega))
    have HWo2 := hid (HWo.out.keep hub)
    have HB3 := hid (show Below i wp W2 from HBi.out.trans (hub.mono (by have h1 := HBi.out.size; have h2 := HI.out; omega)))
    have HNn := hid hnn
    have HNl := hid (show nn ≤ 1000 by rw [← hnn]; exact HVn.out)
    clear huo hub hnn HVal HWo HEz HLo HBZ HBi
    go_wp2_with fail
    go_loopw [11, 36] (fun v11 v36 wq => ∃ k : Nat, v36 = .int .i64 k ∧ k ≤ nn ∧ OwnK enS i 9 1 wq v11 ([bg, y.d] ++ ((V.val y).take k).map txV) ∧ OwnK enW i 43 3 wq (.slice Av nn cv) (V.val y) ∧ Below i wp wq) (fun _ v36 _ => nn - (intOf v36).toNat)
    case atStart => exact ⟨0, rfl, Nat.zero_le _, by simpa using HWo2.out, HVo.out, HB3.out⟩
    case round =>
     obtain ⟨k, rfl, hk, hwo, hvo, hbi⟩ := hrel
     obtain ⟨wq, rfl⟩ : ∃ wq, wq = wr := ⟨_, rfl⟩
     by_cases hkl : k < nn
     ·obtain ⟨z, hz⟩ : ∃ z, (V.val y)[k]? = some z := ⟨(V.val y)[k]'(by rw [HNn.out]; exact hkl), List.getElem?_eq_getElem _⟩
      obtain ⟨gv, rfl, _, _, hcz⟩ := hvo.at_ enW_len hz
      obtain ⟨Av, hAv⟩ : ∃ A : Option Addr, A = some ⟨gv, 0, none⟩ := ⟨_, rfl⟩
      rw [← hAv] at hvo
      have HAtv := hid (at_Va0 gv cv nn k hkl wq)
      rw [← hAv] at HAtv
      have HCz := hid (show wq.rangeAt gv (k * 3) [.int .i64 z.k, .int .i64 z.n, .string z.t] from hcz)
      have hiq : i ≤ wq.heap.size := by have h1 := hbi.size; have h2 := HI.out; omega
      obtain ⟨T, hT⟩ : ∃ T, T = wq.alloc (.cells #[.int .i64 z.k, .int .i64 z.n, .string z.t] 43) := ⟨_, rfl⟩
      have hbT : Below wq.heap.size wq T := by rw [hT]; exact (Below.refl _ _).alloc (Nat.le_refl _) _
      obtain ⟨r, hr⟩ : ∃ r, wq.heap.size = r := ⟨_, rfl⟩
      have HTb := hid (show Blk T r 43 #[.int .i64 z.k, .int .i64 z.n, .string z.t] by rw [hT, ← hr]; exact Blk.new wq _ _)
      have hzt := (HTx.out.val y).2 z (List.mem_of_getElem? hz)
      have hbqT : Below q w T := HB2.out.trans (HBw.out.trans ((hbi.mono HQi.out).trans (hbT.mono (Nat.le_trans HQi.out hiq))))
      have HSt := hid (string_any z.k z.n z.t T (by omega) (HWw.out T hbqT))
      have HZt := hid hzt
      have HNz := hid (show ((V.val y).take (k + 1)).map txV = ((V.val y).take k).map txV ++ [txV z] by rw [List.take_add_one, hz, List.map_append]; rfl)
      have HTw := hid (show sv (textB z.k z.n z.t.data.toList) = .string (txV z) from rfl)
      obtain ⟨tz, htz⟩ : ∃ tz, txV z = tz := ⟨_, rfl⟩
      rw [HTw.out, htz] at HSt
      rw [htz] at HNz
      have HWq := hid (hwo.keep hbT)
      have HVq := hid (hvo.keep hbT)
      have HBq2 := hid (hbi.trans (hbT.mono hiq))
      have HTe := hid hT
      have HRe := hid hr
      have HAve := hid hAv
      have HIq := hid (Nat.le_trans hiq hbT.size)
      have hzz := (zero_of_info infoVz).1
      have hw := IntWalk.i64_in ((k : Int) + 1) (by have := HNl.out; omega)
      have hjm : ¬ 9223372036854775807 < k + 1 := by have := HNl.out; omega
      have HK1 := hid hjm
      have HKw := hid hw
      unfold valV at HSt
      clear hT hbT hr hzt hbqT hw hjm hwo hvo hbi hcz hz hiq htz HTw
      rw [← hAv]
      clear hAv
      go_upto_region 10 with (first
       | (refine wpList_val (o := ⟨some 38, _, _, _, _, _⟩) rfl (.pointer (some ⟨gv, k * 3, none⟩)) wq (run_indexAddr_op rfl rfl rfl HAtv.out) ?_)
       | (refine wpList_load_midif rfl 43 (.tmp 38) rfl gv (k * 3) rfl [.int .i64 z.k, .int .i64 z.n, .string z.t] _ HCz.out Tryz.underlying43 rfl (by kernel_rfl) ?_)
       | fail)
      clear hzz
      rw [HRe.out, ← HTe.out]
      go_wp2_with (first
       | (refine' wpList_load_if ?q1 43 (.tmp 13) ?q2 r ?q3 _ _ _ _ ?q4 Tryz.underlying43 ?q5 ?q6 ?_; (case q2 => rfl); (case q1 => rfl); (case q3 => rfl); (case q4 => exact HTb.out); (case q5 => rfl); (case q6 => exact sizeVa z))
       | fail)
      refine HSt.out.mono ?_
      rintro e W3 ⟨rfl, hb3⟩
      obtain ⟨Z3, hZ3⟩ : ∃ Z3, Z3 = W3.alloc (.cells #[.string tz] 9) := ⟨_, rfl⟩
      have hbz3 : Below W3.heap.size W3 Z3 := by rw [hZ3]; exact (Below.refl _ _).alloc (Nat.le_refl _) _
      have hi3 : i ≤ Z3.heap.size := Nat.le_trans HIq.out (Nat.le_trans hb3.size hbz3.size)
      obtain ⟨v', w', hrun, ho', hb', hg'⟩ := own_app2 (ty := 32) apS ((HWq.out.keep hb3).keep hbz3) hi3 (by rw [hZ3]; exact sl_S tz W3) (by have h1 := HNl.out; have h2 := List.length_take_le k (V.val y); simp only [List.length_append, List.length_map, List.length_cons, List.length_nil]; omega) (by have h1 := HNl.out; have h2 := List.length_take_le k (V.val y); simp only [List.length_append, List.length_map, List.length_cons, List.length_nil]; omega)
      rw [List.append_assoc, ← HNz.out] at ho'
      have HO' := hid ho'
      have HV' := hid (((HVq.out.keep hb3).keep hbz3).grown ne_VS ((HWq.out.keep hb3).keep hbz3) hg')
      have HB' := hid (HBq2.out.trans ((hb3.mono HIq.out).trans ((hbz3.mono (Nat.le_trans HIq.out hb3.size)).trans hb')))
      obtain ⟨m3, hm3⟩ : ∃ m3, W3.heap.size = m3 := ⟨_, rfl⟩
      rw [hm3] at hrun
      have HRun := hid hrun
      have HZ3 := hid hZ3
      have HM3 := hid hm3
      clear hb3 hbz3 hi3 ho' hb' hg' hrun hZ3 hm3 HSt HTb HWq HVq HBq2
      have hw := HKw.out
      have hjm := HK1.out
      go_wp2_with (first
       | (at_builtin; rw [← HZ3.out, HM3.out]; refine Lib.wpList_append_run (o := ⟨some 44, _, _, _, _, _⟩) _ rfl _ _ _ _ rfl _ _ rfl rfl _ _ HRun.out ?_)
       | fail)
      go_roundw
      case rel => exact ⟨k + 1, by go_num, by omega, HO'.out, HV'.out, HB'.out⟩
      case measure => simp [intOf] <;> omega
     ·have hkn : nn = k := by omega
      subst hkn
      have htk : (V.val y).take nn = V.val y := by rw [← HNn.out, List.take_length]
      rw [htk] at hwo
      have hvs : ∀ s ∈ [bg, y.d] ++ (V.val y).map txV, s.size ≤ 20000 := by
       intro s hs
       rcases List.mem_append.1 hs with h | h
       ·have h1 := HBg.out
        have h2 := HDy.out
        simp only [List.mem_cons, List.not_mem_nil, or_false] at h
        rcases h with rfl | rfl <;> omega
       ·obtain ⟨z, hz, rfl⟩ := List.mem_map.1 h
        have h1 := txV_size z
        have h2 := (HTx.out.val y).2 z hz
        omega
      have HLn := hid (line_any ([bg, y.d] ++ (V.val y).map txV) u11 wq (hwo.read enS_len) hvs (by have h1 := HNn.out; have h2 := HNl.out; simp only [List.length_append, List.length_map, List.length_cons, List.length_nil]; omega))
      have HLq := hid (show OwnK enS q 9 1 wq u7 ((ps.take j).map (partLine V bg)) from HLw.out.keep (by rw [HI.out]; exact hbi))
      have HBq3 := hid (HBw.out.trans (hbi.mono HQi.out))
      have HQq := hid (show q ≤ wq.heap.size by have h1 := hbi.size; have h2 := HQi.out; have h3 := HI.out; omega)
      clear hwo hvo hbi htk hvs hk hkl
      obtain ⟨ln, hln⟩ : ∃ ln, joinG ([bg, y.d] ++ (V.val y).map txV) = ln := ⟨_, rfl⟩
      have HLe := hid (show partLine V bg y = ln from hln)
      rw [hln] at HLn
      rw [HLe.out] at HNx
      clear hln
      go_wp2_with fail
      refine HLn.out.mono ?_
      rintro e W3 ⟨rfl, hb3⟩
      obtain ⟨Z3, hZ3⟩ : ∃ Z3, Z3 = W3.alloc (.cells #[.string ln] 9) := ⟨_, rfl⟩
      have hbz3 : Below W3.heap.size W3 Z3 := by rw [hZ3]; exact (Below.refl _ _).alloc (Nat.le_refl _) _
      have hi3 : q ≤ Z3.heap.size := Nat.le_trans HQq.out (Nat.le_trans hb3.size hbz3.size)
      obtain ⟨v', w', hrun, ho', hb', _⟩ := own_app2 (ty := 32) apS ((HLq.out.keep hb3).keep hbz3) hi3 (by rw [hZ3]; exact sl_S ln W3) (by have h1 := HN.out; have h2 := List.length_take_le j ps; simp only [List.length_map, List.length_cons, List.length_nil]; omega) (by have h1 := HN.out; have h2 := List.length_take_le j ps; simp only [List.length_map, List.length_cons, List.length_nil]; omega)
      rw [← HNx.out] at ho'
      have HO' := hid ho'
      have HB' := hid (HBq3.out.trans ((hb3.mono HQq.out).trans ((hbz3.mono (Nat.le_trans HQq.out hb3.size)).trans hb')))
      obtain ⟨m3, hm3⟩ : ∃ m3, W3.heap.size = m3 := ⟨_, rfl⟩
      rw [hm3] at hrun
      have HRun := hid hrun
      have HZ3 := hid hZ3
      have HM3 := hid hm3
      clear hb3 hbz3 hi3 ho' hb' hrun hZ3 hm3 HLn HLq HBq3
      have hw := HW1.out
      have hjm := HJ1.out
      go_wp2_with (first
       | (at_builtin; rw [← HZ3.out, HM3.out]; refine Lib.wpList_append_run (o := ⟨some 50, _, _, _, _, _⟩) _ rfl _ _ _ _ rfl _ _ rfl rfl _ _ HRun.out ?_)
       | fail)
      go_roundw
      case rel => exact ⟨j + 1, by go_num, by omega, HO'.out, HB'.out⟩
      case measure => simp [intOf] <;> omega
   ·have hjn : n = j := by omega
    subst hjn
    have htk : ps.take n = ps := by rw [← HPs.out, List.take_length]
    rw [htk] at ho
    have HO := hid ho
    have HB' := hid (HB2.out.trans hbw)
    clear ho hbw htk hlt hj
    go_wp2_with fail
    go_ret
    exact ⟨_, rfl, by rw [HQ.out]; exact HO.out, by rw [HQ.out]; exact HB'.out⟩
end Go.Proofs.YtdgglhlofnigkaaGreatDoor
