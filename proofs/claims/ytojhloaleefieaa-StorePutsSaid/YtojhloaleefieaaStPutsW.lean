/-
  StorePuts: true for every input, by a walk (written by gensput.py). Conditions: lengths, CutOk.
-/
import Derived.Test.YtojhloaleefieaaSPuA
namespace Go.Proofs.Ytojhloaleefieaa
open Go.RowKit Go.MapKept Go.Sort

theorem zeroIt : (Try.prog.info? 46).map (fun i => (i.zero, i.size)) = some (some (.agg #[.int .i64 0, .string ⟨#[]⟩, .string ⟨#[]⟩, .string ⟨#[]⟩, .string ⟨#[]⟩, .slice none 0 0]), 6) := by kernel_rfl
theorem run_lenstr_op {o : Oper} {ρ : Operand → Value} {w : World} {x : Operand} {t : TypeId} {s : ByteArray} (ho : o.op = .call { callee := .builtin .len, args := #[x], argTypes := #[t] }) (hu : Try.prog.underlying t = some .string) (hx : ρ x = .string s) : (execOp ρ o).run Try.prog w = .ok (.value (.int .i64 (s.size : Nat))) w := by
  unfold execOp
  simp [ho, hx, resolve, invoke, builtin, Builtin.len_, run_underlying hu, go_sem]
theorem run_eqz7 {k : Nat} {q : Bool} (h : decide (k = 0) = q) (w : World) : (binOp .eql 3 (.int .i64 (k : Nat)) (.int .i64 0)).run Try.prog w = .ok (.bool q) w := by
  subst h
  go_simp
  by_cases h : k = 0 <;> simp [h]
theorem sub1_P (a : Nat) (ha : a < 4000000000000000000) (w : World) : (binOp .sub 3 (.int .i64 ((a + 1 : Nat) : Int)) (.int .i64 1)).run Try.prog w = .ok (.int .i64 (a : Nat)) w := by
  have h1 : IntKind.i64.wrap (a : Int) = (a : Int) := IntWalk.i64_in _ (by omega)
  simp [binOp, Op.intArith, h1, go_sem]
theorem chg_is (x : El) (v : Va) (op : Int) (b : Bool) (hop : op = (evX x v).op) (h : fit7B x v = b) (hl : Tiny (evX x v)) (w : World) : Calls Try.prog 17 #[.agg #[.int .i64 op, .int .i64 x.k, .string x.a, .string x.b, .string x.c, .string x.d, .int .i64 v.k, .int .i64 v.n, .string v.t]] w (Gives w (.bool b)) := by
  subst hop h
  exact refchange_any (evX x v) w hl
theorem okE_no {x : El} {l : List (Dt × Va)} {q : Dt × Va} {k : Nat} (h : l[k]? = some q) (hn : dotB q.1.r q.1.c = false ∨ fit7B x q.2 = false) : okE7 x l k = false := by
  unfold okE7
  rw [h]
  rcases hn with e | e <;> simp [e]
theorem op_is {x : El} {l : List (Dt × Va)} {k : Nat} {v : Va} (h : okL x l k = true) : (if 4 ≤ x.k then (3 : Int) else 1) = (evX x v).op := by
  unfold okL elB elemB at h
  simp only [Bool.and_eq_true, decide_eq_true_eq] at h
  have h1 := h.1.1
  show _ = if valdB x.k = true then (3 : Int) else 1
  unfold valdB
  by_cases h4 : 4 ≤ x.k
  · rw [if_pos h4, if_pos (by simp; omega)]
  · rw [if_neg h4, if_neg (by simp; omega)]
theorem at_value2 (g q : Nat) (w : World) : (Instr.fieldAt 37 (.pointer (some ⟨g, q, none⟩)) 2).run Try.prog w = .ok (.pointer (some ⟨g, q + 2, none⟩)) w := by go_simp
theorem zeroEn : (Try.prog.info? 48).map (fun i => (i.zero, i.size)) = some (some (.agg #[.int .i64 0, .int .i64 0, .int .i64 0, .int .i64 0, .string ⟨#[]⟩]), 5) := by kernel_rfl
theorem SlK.en {w : World} {A : Option Addr} {n c j : Nat} {l : List (Dt × Va)} {y : Dt × Va} (h : SlK enN 5 w (.slice A n c) l) (hj : l[j]? = some y) : ∃ g o, A = some ⟨g, o, none⟩ ∧ g < w.heap.size ∧ w.rangeAt g (o + j * 5) (enN y) := by
  obtain ⟨A', c', hv', _, hcells⟩ := h
  obtain ⟨g, o, rfl, hgl, hcell⟩ := hcells (fun e => by rw [e] at hj; cases hj)
  injection hv' with e1 e2 e3
  exact ⟨g, o, e1, hgl, hcell j y hj⟩
theorem at_ItP (g o c n k : Nat) (h : k < n) (w : World) : (Instr.indexAt 42 (.slice (some ⟨g, o, none⟩) n c) (.int .i64 k)).run Try.prog w = .ok (.pointer (some ⟨g, o + k * 6, none⟩)) w := by
  have h2 : (k : Int) < n := by omega
  go_simp
theorem SlK.it {w : World} {A : Option Addr} {n c j : Nat} {l : List (El × Value)} {y : El × Value} (h : SlK enI 6 w (.slice A n c) l) (hj : l[j]? = some y) : ∃ g o, A = some ⟨g, o, none⟩ ∧ g < w.heap.size ∧ w.rangeAt g (o + j * 6) (enI y) := by
  obtain ⟨A', c', hv', _, hcells⟩ := h
  obtain ⟨g, o, rfl, hgl, hcell⟩ := hcells (fun e => by rw [e] at hj; cases hj)
  injection hv' with e1 e2 e3
  exact ⟨g, o, e1, hgl, hcell j y hj⟩

set_option maxRecDepth 100000 in
set_option maxHeartbeats 16000000 in
theorem sputs_walk (xa xb : El) (L : List (El × Value)) (A : Option Addr) (N c : Nat) (w : World) (hs : SlK enI 6 w (.slice A N c) L) (hN : L.length = N)
    (hI : ∀ y ∈ L, ∃ l A N c, y.2 = .slice A N c ∧ SlK enN 5 w (.slice A N c) l ∧ l.length = N ∧ ItFit y l) (hw : CutOk w) :
    Calls Try.prog 5 #[.slice A N c, eE xa, eE xb] w (Law w) := by
  have HN := Lib.hid hN
  have HI0 := Lib.hid hI
  have HZi := Lib.hid (zero_of_info zeroIt).1
  have HZn := Lib.hid (zero_of_info zeroEn).1
  obtain ⟨p, hp⟩ : ∃ p, w.heap.size = p := ⟨_, rfl⟩
  obtain ⟨w0, hw0⟩ : ∃ w0, w0 = (w.alloc (.cells #[.int .i64 xa.k, .string xa.a, .string xa.b, .string xa.c, .string xa.d] 35)).alloc (.cells #[.int .i64 xb.k, .string xb.a, .string xb.b, .string xb.c, .string xb.d] 35) := ⟨_, rfl⟩
  have hb0 : Below w.heap.size w w0 := by rw [hw0]; exact ((Below.refl _ _).alloc (Nat.le_refl _) _).alloc (by simp) _
  have HEa := Lib.hid (show Blk w0 p 35 #[.int .i64 xa.k, .string xa.a, .string xa.b, .string xa.c, .string xa.d] by rw [hw0, ← hp]; exact (Blk.new w _ _).alloc _)
  have HEb := Lib.hid (show Blk w0 (p + 1) 35 #[.int .i64 xb.k, .string xb.a, .string xb.b, .string xb.c, .string xb.d] by
    rw [hw0, ← hp]
    have := Blk.new (w.alloc (.cells #[.int .i64 xa.k, .string xa.a, .string xa.b, .string xa.c, .string xa.d] 35)) 35 #[.int .i64 xb.k, .string xb.a, .string xb.b, .string xb.c, .string xb.d]
    simpa using this)
  have HS := Lib.hid hs
  have HCw := Lib.hid (hw.below hb0)
  have HCo := Lib.hid hw
  have HB0 := Lib.hid hb0
  have HX0 := Lib.hid hw0
  have HP := Lib.hid hp
  clear hs hN hI hw hb0 hw0
  unfold eE elV
  go_enter Try.func5, Try.ntmps5
  go_upto_region 1 with fail
  rw [← HX0.out]
  first | rw [hp] | skip
  clear hp
  go_wp2_with fail
  refine (fixed7 w0 HCw.out).mono ?_
  rintro e w1 ⟨rfl, hb⟩
  have HB1 := Lib.hid (HB0.out.trans (hb.mono HB0.out.size))
  have HQ1 := Lib.hid hb
  clear hb
  by_cases h20 : 20 < N
  · go_wp2
    go_ret
    exact ⟨rfl, HB1.out⟩
  · go_wp2_with fail
    refine (new_any w1).mono ?_
    rintro e w2 ⟨rfl, hw2⟩
    obtain ⟨sa, hsa⟩ : ∃ sa, w1.heap.size = sa := ⟨_, rfl⟩
    have hs2 : w2.heap.size = sa + 1 := by rw [hw2, ← hsa]; simp
    have hb2 : Below w1.heap.size w1 w2 := by rw [hw2]; exact (Below.refl _ _).alloc (Nat.le_refl _) _
    obtain ⟨w3, hw3⟩ : ∃ w3, w3 = w2.alloc (.map #[] 0) := ⟨_, rfl⟩
    have hb3 : Below w2.heap.size w2 w3 := by rw [hw3]; exact (Below.refl _ _).alloc (Nat.le_refl _) _
    have ha : StAt w3 sa (sa + 2) [] := by
      have := new_at w1 (sa + 2)
      rw [hsa, ← hw2] at this
      exact this.keep hb3
    have hm : MapIs eE eSl w3 (sa + 1) [] := by rw [hw3, ← hs2]; exact MapIs.made _ _ w2
    rw [hsa]
    have HSa := Lib.hid ha
    have HMa := Lib.hid hm
    have HW3 := Lib.hid hw3
    have HS3 := Lib.hid (show w3.heap.size = sa + 2 by rw [hw3]; simp [hs2])
    have HB3 := Lib.hid (HB1.out.trans ((hb2.trans (hb3.mono hb2.size)).mono HB1.out.size))
    have HQ3 := Lib.hid (HQ1.out.trans ((hb2.trans (hb3.mono hb2.size)).mono HQ1.out.size))
    have HWa := Lib.hid (show w.heap.size ≤ sa by rw [← hsa]; exact HB1.out.size)
    have HPs := Lib.hid (show p + 1 < sa by rw [← hsa]; exact Nat.lt_of_lt_of_le HEb.out.lt HQ1.out.size)
    have HS2 := Lib.hid hs2
    clear hw2 hs2 hb2 hb3 ha hm hsa
    go_upto_region 7 with (first
      | (refine wpList_val (o := ⟨some 25, _, _, _, _, _⟩) rfl (.map (some w2.heap.size)) (w2.alloc (.map #[] 0)) (run_makeMap_op rfl) ?_)
      | fail)
    try rw [← HW3.out]
    try rw [HS2.out]
    go_wp2_with fail
    try rw [← HW3.out]
    clear HW3 HS2
    go_loopw [28] (fun v28 wr => ∃ (j : Nat) (σ : List (El × List (Dt × Va))) (M : List (El × (Option Addr × Nat × Nat))), v28 = .int .i64 j ∧ j ≤ N ∧ StAt wr sa (sa + 2) σ ∧ MapIs eE eSl wr (sa + 1) M ∧ RelP w σ M ∧ Below sa w3 wr ∧ sa + 2 ≤ wr.heap.size) (fun v28 _ => N - (intOf v28).toNat)
    case atStart => exact ⟨0, [], [], by first | rfl | simp, Nat.zero_le _, HSa.out, HMa.out, fun y => ⟨fun _ => rfl, fun s h => by cases h⟩, Below.refl _ _, by have := HS3.out; omega⟩
    case round =>
      obtain ⟨j, σ, M, rfl, hj, hst, hmp, hrl, hbw, hsz⟩ := hrel
      obtain ⟨wo, rfl⟩ : ∃ wo, wo = wr := ⟨_, rfl⟩
      clear HSa HMa
      by_cases hlt : j < N
      · obtain ⟨y, hy⟩ : ∃ y, L[j]? = some y := ⟨L[j]'(by rw [HN.out]; exact hlt), List.getElem?_eq_getElem _⟩
        have HBw := Lib.hid (show Below w.heap.size w wo from HB3.out.trans (hbw.mono HWa.out))
        obtain ⟨g, o, rfl, hgl, hcy⟩ := (HS.out.below HBw.out).it hy
        obtain ⟨l, A1, N1, c1, hy2, hl1, hlN, hfit⟩ := HI0.out y (List.mem_of_getElem? hy)
        obtain ⟨x, yv⟩ := y
        dsimp only at hy2
        subst hy2
        have HL1 := Lib.hid hl1
        have HLN := Lib.hid hlN
        have HFit := Lib.hid hfit
        have HSt := Lib.hid hst
        have HMp := Lib.hid hmp
        have HRl := Lib.hid hrl
        have HBs := Lib.hid hbw
        have HSz := Lib.hid hsz
        have HCy := Lib.hid hcy
        have HAt := Lib.hid (at_ItP g o c N j hlt wo)
        have HAl := Lib.hid fun c => World.setRow_alloc_new wo #[.int .i64 0, .string ⟨#[]⟩, .string ⟨#[]⟩, .string ⟨#[]⟩, .string ⟨#[]⟩, .slice none 0 0] c 46
        have HZz := Lib.hid (show Blk (wo.alloc (.cells #[.int .i64 0, .string ⟨#[]⟩, .string ⟨#[]⟩, .string ⟨#[]⟩, .string ⟨#[]⟩, .slice none 0 0] 46)) wo.heap.size 46 #[.int .i64 0, .string ⟨#[]⟩, .string ⟨#[]⟩, .string ⟨#[]⟩, .string ⟨#[]⟩, .slice none 0 0] from Blk.new _ _ _)
        obtain ⟨Y, hY⟩ : ∃ Y, Y = wo.alloc (.cells (enI (x, .slice A1 N1 c1)).toArray 46) := ⟨_, rfl⟩
        have hbY : Below wo.heap.size wo Y := by rw [hY]; exact (Below.refl _ _).alloc (Nat.le_refl _) _
        have HBY := Lib.hid (show Blk Y wo.heap.size 46 (enI (x, .slice A1 N1 c1)).toArray by rw [hY]; exact Blk.new _ _ _)
        have HYe := Lib.hid hY
        have HWY := Lib.hid (HBw.out.trans (hbY.mono HBw.out.size))
        have HSY := Lib.hid (HSt.out.keep hbY)
        have HSYb := Lib.hid (show Below sa w3 Y from HBs.out.trans (hbY.mono (by have := HSz.out; omega)))
        have HMY := Lib.hid (HMp.out.same (hbY.block (sa + 1) (by have := HSz.out; omega)))
        have HbY := Lib.hid hbY
        have HJn := Lib.hid hlt
        have HYz := Lib.hid (show sa + 2 < Y.heap.size from Nat.lt_of_le_of_lt HSz.out HBY.out.lt)
        have hw := IntWalk.i64_in ((j : Int) + 1) (by omega)
        have HWj := Lib.hid hw
        clear hl1 hlN hfit hst hmp hrl hbw hsz hcy hY hbY hy hgl hw
        have hz := HZi.out
        go_upto_region 10 with (first
          | (refine wpList_val (o := ⟨some 30, _, _, _, _, _⟩) rfl (.pointer (some ⟨g, o + j * 6, none⟩)) wo (run_indexAddr_op rfl rfl rfl HAt.out) ?_)
          | (refine wpList_load_midif rfl 46 (.tmp 30) rfl g (o + j * 6) rfl (enI (x, .slice A1 N1 c1)) _ HCy.out Try.underlying46 rfl (by kernel_rfl) ?_)
          | (refine wpList_store_row (o := ⟨none, _, _, _, _, _⟩) rfl 46 (.tmp 10) (.tmp 31) rfl wo.heap.size (enI (x, .slice A1 N1 c1)).toArray rfl rfl _ _ HZz.out (by kernel_rfl) rfl (by simp [enI, Value.oneCell']) ?_; rw [HAl.out, ← HYe.out])
          | fail)
        clear hz
        obtain ⟨b10, hb10⟩ : ∃ b10, wo.heap.size = b10 := ⟨_, rfl⟩
        have HB10 := Lib.hid hb10
        rw [hb10] at HBY ⊢
        clear hb10
        have k1 : Y.cell? ⟨b10, 1, none⟩ = some (.string x.a) := (Blk.cell HBY.out 1).trans rfl
        have k2 : Y.cell? ⟨b10, 2, none⟩ = some (.string x.b) := (Blk.cell HBY.out 2).trans rfl
        have k3 : Y.cell? ⟨b10, 3, none⟩ = some (.string x.c) := (Blk.cell HBY.out 3).trans rfl
        have k4 : Y.cell? ⟨b10, 4, none⟩ = some (.string x.d) := (Blk.cell HBY.out 4).trans rfl
        have k5 : Y.cell? ⟨b10, 5, none⟩ = some (.slice A1 N1 c1) := (Blk.cell HBY.out 5).trans rfl
        obtain ⟨f1, f2, f3, f4, _, _⟩ := HFit.out
        dsimp only at f1 f2 f3 f4
        have hw1 := IntWalk.i64_in ((x.a.size : Int) + (x.b.size : Int)) (by omega)
        have hw2 := IntWalk.i64_in ((x.a.size : Int) + (x.b.size : Int) + (x.c.size : Int)) (by omega)
        have hw3 := IntWalk.i64_in ((x.a.size : Int) + (x.b.size : Int) + (x.c.size : Int) + (x.d.size : Int)) (by omega)
        by_cases hn20 : 20 < N1
        · clear f1 f2 f3 f4
          have hd : decide ((20 : Int) < (N1 : Int)) = true := decide_eq_true (by omega)
          go_wp2
          go_ret
          exact ⟨rfl, HWY.out⟩
        · have hd : decide ((20 : Int) < (N1 : Int)) = false := decide_eq_false (by omega)
          by_cases hs300 : 300 < (x.a.size : Int) + (x.b.size : Int) + (x.c.size : Int) + (x.d.size : Int)
          · have hd2 : decide (300 < (x.a.size : Int) + (x.b.size : Int) + (x.c.size : Int) + (x.d.size : Int)) = true := by simpa using hs300
            clear f1 f2 f3 f4
            go_wp2
            go_ret
            exact ⟨rfl, HWY.out⟩
          · have hd2 : decide (300 < (x.a.size : Int) + (x.b.size : Int) + (x.c.size : Int) + (x.d.size : Int)) = false := by simpa using hs300
            have HLx := Lib.hid (show x.a.size ≤ 300 ∧ x.b.size ≤ 300 ∧ x.c.size ≤ 300 ∧ x.d.size ≤ 300 by omega)
            have HN20 := Lib.hid hn20
            clear f1 f2 f3 f4 hs300 hn20
            go_upto_region 12 with fail
            clear hw1 hw2 hw3 hd hd2 k1 k2 k3 k4
            have HR0 := Lib.hid (show Y.rangeAt b10 0 (enL x) from World.rangeAt_of_block (C := (enI (x, .slice A1 N1 c1)).toArray) HBY.out 0 5)
            go_wp2_with (first
              | (refine wpList_load_midif rfl 35 (.tmp 58) rfl b10 0 rfl (enL x) _ HR0.out Try.underlying35 rfl (by kernel_rfl) ?_)
              | fail)
            refine (refelem_any x.k x.a x.b x.c x.d Y (by have := HLx.out; omega) (by have := HLx.out; omega) (by have := HLx.out; omega) (by have := HLx.out; omega)).mono ?_
            rintro e w5 ⟨rfl, hb5⟩
            have he0 : elemB x.k x.a.data.toList x.b.data.toList x.c.data.toList x.d.data.toList = okL x l 0 := (okL_zero x l).symm
            rw [he0]
            have HW5 := Lib.hid (HWY.out.trans (hb5.mono HWY.out.size))
            have HB5 := Lib.hid hb5
            have k5 : w5.cell? ⟨b10, 5, none⟩ = some (.slice A1 N1 c1) := (Blk.cell (HBY.out.below hb5 HBY.out.lt) 5).trans rfl
            clear hb5 he0 HR0
            go_wp2_with fail
            clear k5
            go_loopw [11, 64] (fun v11 v64 wr => ∃ k : Nat, v64 = .int .i64 k ∧ k ≤ N1 ∧ v11 = .bool (okL x l k) ∧ Below Y.heap.size Y wr) (fun _ v64 _ => N1 - (intOf v64).toNat)
            case atStart => exact ⟨0, by first | rfl | simp, Nat.zero_le _, rfl, HB5.out⟩
            case round =>
              obtain ⟨k, rfl, hk, rfl, hbk⟩ := hrel
              obtain ⟨wk, rfl⟩ : ∃ wk, wk = wr := ⟨_, rfl⟩
              have HBk := Lib.hid hbk
              by_cases hlk : k < N1
              · obtain ⟨q, hq⟩ : ∃ q, l[k]? = some q := ⟨l[k]'(by rw [HLN.out]; exact hlk), List.getElem?_eq_getElem _⟩
                have hWk : Below w.heap.size w wk := HWY.out.trans (hbk.mono HWY.out.size)
                obtain ⟨ge, oe, rfl, hge, hre⟩ := (HL1.out.below hWk).en hq
                have HQk := Lib.hid hq
                have HRe := Lib.hid hre
                have HAe := Lib.hid (at_N ge oe c1 N1 k hlk wk)
                have HAl2 := Lib.hid fun c => World.setRow_alloc_new wk #[.int .i64 0, .int .i64 0, .int .i64 0, .int .i64 0, .string ⟨#[]⟩] c 48
                have HZ2 := Lib.hid (show Blk (wk.alloc (.cells #[.int .i64 0, .int .i64 0, .int .i64 0, .int .i64 0, .string ⟨#[]⟩] 48)) wk.heap.size 48 #[.int .i64 0, .int .i64 0, .int .i64 0, .int .i64 0, .string ⟨#[]⟩] from Blk.new _ _ _)
                obtain ⟨Z, hZ⟩ : ∃ Z, Z = wk.alloc (.cells (enN q).toArray 48) := ⟨_, rfl⟩
                have hbZ : Below wk.heap.size wk Z := by rw [hZ]; exact (Below.refl _ _).alloc (Nat.le_refl _) _
                have HQZ := Lib.hid (show Blk Z wk.heap.size 48 (enN q).toArray by rw [hZ]; exact Blk.new _ _ _)
                have HIZ := Lib.hid (Blk.below (HBY.out.below hbk HBY.out.lt) hbZ (HBY.out.below hbk HBY.out.lt).lt)
                have HZe2 := Lib.hid hZ
                have HBZ := Lib.hid (hbk.trans (hbZ.mono hbk.size))
                have HLZ := Lib.hid (show SlK enN 5 Z (.slice (some ⟨ge, oe, none⟩) N1 c1) l from HL1.out.below (hWk.trans (hbZ.mono hWk.size)))
                have hw := IntWalk.i64_in ((k : Int) + 1) (by have := HN20.out; omega)
                have HWk := Lib.hid hw
                obtain ⟨ok, hok⟩ : ∃ ok, okL x l k = ok := ⟨_, rfl⟩
                have HOk := Lib.hid hok
                rw [hok]
                clear hq hre hge hZ hbZ hbk hWk hw hok
                have hz := HZn.out
                go_upto_region 17 with (first
                  | (refine wpList_val (o := ⟨some 67, _, _, _, _, _⟩) rfl (.pointer (some ⟨ge, oe + k * 5, none⟩)) wk (run_indexAddr_op rfl rfl rfl HAe.out) ?_)
                  | (refine wpList_load_midif rfl 48 (.tmp 67) rfl ge (oe + k * 5) rfl (enN q) _ HRe.out Try.underlying48 rfl (by kernel_rfl) ?_)
                  | (refine wpList_store_row (o := ⟨none, _, _, _, _, _⟩) rfl 48 (.tmp 13) (.tmp 68) rfl wk.heap.size (enN q).toArray rfl rfl _ _ HZ2.out (by kernel_rfl) rfl (by simp [enN, Value.oneCell']) ?_; rw [HAl2.out, ← HZe2.out])
                  | fail)
                clear hz
                obtain ⟨b13, hb13⟩ : ∃ b13, wk.heap.size = b13 := ⟨_, rfl⟩
                rw [hb13] at HQZ ⊢
                clear hb13
                try simp only [Act.put]
                have k0 : Z.cell? ⟨b10, 0, none⟩ = some (.int .i64 x.k) := (Blk.cell HIZ.out 0).trans rfl
                obtain ⟨op, hop⟩ : ∃ op : Int, op = if 4 ≤ x.k then 3 else 1 := ⟨_, rfl⟩
                go_cut [72] (fun t wx => t = .bool (decide (4 ≤ x.k)) ∧ Z = wx)
                case first =>
                  go_wp2
                  go_meet
                  exact ⟨rfl, rfl⟩
                case rest =>
                obtain ⟨ht, hw⟩ := hcut
                subst ht hw
                apply_assumption
                go_cut [14] (fun t wx => t = .int .i64 op ∧ Z = wx)
                case first =>
                  by_cases h4 : 4 ≤ x.k
                  · have hd : decide (4 ≤ x.k) = true := by simpa using h4
                    go_wp2
                    go_meet
                    exact ⟨by rw [hop, if_pos h4], rfl⟩
                  · have hd : decide (4 ≤ x.k) = false := by simpa using h4
                    go_wp2
                    go_meet
                    exact ⟨by rw [hop, if_neg (by omega)], rfl⟩
                case rest =>
                  obtain ⟨ht, hw⟩ := hcut
                  subst ht hw
                  have HOp := Lib.hid hop
                  clear k0 hop
                  have m0 : Z.cell? ⟨b13, 0, none⟩ = some (.int .i64 q.1.r) := (Blk.cell HQZ.out 0).trans rfl
                  have m1 : Z.cell? ⟨b13, 1, none⟩ = some (.int .i64 q.1.c) := (Blk.cell HQZ.out 1).trans rfl
                  go_upto_region 19 with fail
                  go_cut [15] (fun t wx => t = .bool (dotB q.1.r q.1.c) ∧ Z = wx)
                  case first =>
                    by_cases h1 : 0 ≤ q.1.r
                    · have d1 : decide (0 ≤ q.1.r) = true := by simpa using h1
                      by_cases h2 : q.1.r < 16
                      · have d2 : decide (q.1.r < 16) = true := by simpa using h2
                        by_cases h3 : 1 ≤ q.1.c
                        · have d3 : decide (1 ≤ q.1.c) = true := by simpa using h3
                          have HR := Lib.hid (show decide (q.1.c ≤ 1048576) = dotB q.1.r q.1.c by unfold dotB; exact decide_eq_decide.2 ⟨fun h => ⟨h1, h2, h3, h⟩, fun h => h.2.2.2⟩)
                          clear h1 h2 h3
                          go_wp2
                          go_meet
                          exact ⟨by rw [← HR.out], rfl⟩
                        · have d3 : decide (1 ≤ q.1.c) = false := by simpa using h3
                          have HR := Lib.hid (show dotB q.1.r q.1.c = false by unfold dotB; exact decide_eq_false (by omega))
                          clear h1 h2 h3
                          go_wp2
                          go_meet
                          exact ⟨by rw [HR.out], rfl⟩
                      · have d2 : decide (q.1.r < 16) = false := by simpa using h2
                        have HR := Lib.hid (show dotB q.1.r q.1.c = false by unfold dotB; exact decide_eq_false (by omega))
                        clear h1 h2
                        go_wp2
                        go_meet
                        exact ⟨by rw [HR.out], rfl⟩
                    · have d1 : decide (0 ≤ q.1.r) = false := by simpa using h1
                      have HR := Lib.hid (show dotB q.1.r q.1.c = false by unfold dotB; exact decide_eq_false (by omega))
                      clear h1
                      go_wp2
                      go_meet
                      exact ⟨by rw [HR.out], rfl⟩
                  case rest =>
                    obtain ⟨ht, hw⟩ := hcut
                    subst ht hw
                    clear m0 m1
                    obtain ⟨dt, hdt⟩ : ∃ dt, dotB q.1.r q.1.c = dt := ⟨_, rfl⟩
                    have HDt := Lib.hid hdt
                    rw [hdt]
                    clear hdt
                    go_upto_region 20 with fail
                    have HT4 := Lib.hid (show ∀ W : World, Below Z.heap.size Z W → W.cell? ⟨b13, 4, none⟩ = some (.string q.2.t) from fun W hI => (Blk.cell (HQZ.out.below hI HQZ.out.lt) 4).trans rfl)
                    have HI0r := Lib.hid (show ∀ W : World, Below Z.heap.size Z W → W.rangeAt b10 0 (enL x) from fun W hI => World.rangeAt_of_block (C := (enI (x, .slice (some ⟨ge, oe, none⟩) N1 c1)).toArray) (HIZ.out.below hI HIZ.out.lt) 0 5)
                    have HQ2r := Lib.hid (show ∀ W : World, Below Z.heap.size Z W → W.rangeAt b13 2 [.int .i64 q.2.k, .int .i64 q.2.n, .string q.2.t] from fun W hI => World.rangeAt_of_block (C := (enN q).toArray) (HQZ.out.below hI HQZ.out.lt) 2 3)
                    have HQ0r := Lib.hid (show ∀ W : World, Below Z.heap.size Z W → W.rangeAt b13 0 [.int .i64 q.1.r, .int .i64 q.1.c] from fun W hI => World.rangeAt_of_block (C := (enN q).toArray) (HQZ.out.below hI HQZ.out.lt) 0 2)
                    have HI5 := Lib.hid (show ∀ W : World, Below Z.heap.size Z W → W.cell? ⟨b10, 5, none⟩ = some (.slice (some ⟨ge, oe, none⟩) N1 c1) from fun W hI => (Blk.cell (HIZ.out.below hI HIZ.out.lt) 5).trans rfl)
                    have hkn := HN20.out
                    cases ok
                    · have HR := Lib.hid (show okL x l (k + 1) = false by rw [okL_next, HOk.out]; rfl)
                      refine wp_region_any (by kernel_rfl) ?_
                      refine Lt.wpAny_late (fun i uq _ => uq = ([.bool false, .bool false, undef, undef, undef, undef, undef, .bool false, .bool false, undef, .bool false, .bool false, undef, undef, undef, undef, undef, undef, undef, .bool false, .bool false, undef, undef, undef, undef, undef, undef, undef, undef, undef, undef, undef, undef, undef, undef, .bool false, .bool false] : List Value).getD i undef) _ Z (by kernel_rfl) (by kernel_rfl) (by kernel_rfl) (fun i v w w' _ h => h) ?_ ?_
                      · refine ⟨?_, ?_, ?_, ?_, ?_, ?_, ?_, ?_, ?_, ?_, ?_, ?_, ?_, ?_, ?_, ?_, ?_, ?_, ?_, ?_, ?_, ?_, ?_, ?_, ?_, ?_, ?_, ?_, ?_, ?_, ?_, ?_, ?_, ?_, ?_, ?_, ?_, trivial⟩
                        · intro a W hI hun haft hi
                          have e11 : a.eval (.tmp 11) = .bool false := hun 11 (by kernel_rfl)
                          exact b_same hi hI rfl _ (run_move_op rfl e11) rfl
                        · intro a W hI hun haft hi
                          have f0 : a.eval (.tmp 95) = .bool false := haft ⟨0, .data⟩ (by simp) rfl _ _ rfl rfl
                          exact b_same hi hI rfl _ (run_move_op rfl f0) rfl
                        · intro a W hI hun haft hi
                          have fg : a.eval (.tmp 96) = .bool false := haft ⟨1, .guard⟩ (by simp) rfl _ _ rfl rfl
                          exact b_skip hi hI (guard_no rfl rfl rfl (.inl fg)) rfl
                        · intro a W hI hun haft hi
                          have fg : a.eval (.tmp 96) = .bool false := haft ⟨1, .guard⟩ (by simp) rfl _ _ rfl rfl
                          exact b_skip hi hI (guard_no rfl rfl rfl (.inl fg)) rfl
                        · intro a W hI hun haft hi
                          have fg : a.eval (.tmp 96) = .bool false := haft ⟨1, .guard⟩ (by simp) rfl _ _ rfl rfl
                          exact b_skip hi hI (guard_no rfl rfl rfl (.inl fg)) rfl
                        · intro a W hI hun haft hi
                          have fg : a.eval (.tmp 96) = .bool false := haft ⟨1, .guard⟩ (by simp) rfl _ _ rfl rfl
                          exact b_skip hi hI (guard_no rfl rfl rfl (.inl fg)) rfl
                        · intro a W hI hun haft hi
                          have fg : a.eval (.tmp 96) = .bool false := haft ⟨1, .guard⟩ (by simp) rfl _ _ rfl rfl
                          exact b_skip hi hI (guard_no rfl rfl rfl (.inl fg)) rfl
                        · intro a W hI hun haft hi
                          have f1 : a.eval (.tmp 96) = .bool false := haft ⟨1, .data⟩ (by simp) rfl _ _ rfl rfl
                          have f6 : a.eval (.tmp 101) = undef := haft ⟨6, .data⟩ (by simp) rfl _ _ rfl rfl
                          exact b_same hi hI rfl _ (run_pick_op (b := false) rfl f1 f6 rfl) rfl
                        · intro a W hI hun haft hi
                          have f7 : a.eval (.tmp 102) = .bool false := haft ⟨7, .data⟩ (by simp) rfl _ _ rfl rfl
                          exact b_same hi hI rfl _ (run_move_op rfl f7) rfl
                        · intro a W hI hun haft hi
                          have fg : a.eval (.tmp 103) = .bool false := haft ⟨8, .guard⟩ (by simp) rfl _ _ rfl rfl
                          exact b_skip hi hI (guard_no rfl rfl rfl (.inl fg)) rfl
                        · intro a W hI hun haft hi
                          have f8 : a.eval (.tmp 103) = .bool false := haft ⟨8, .data⟩ (by simp) rfl _ _ rfl rfl
                          have f9 : a.eval (.tmp 104) = undef := haft ⟨9, .data⟩ (by simp) rfl _ _ rfl rfl
                          exact b_same hi hI rfl _ (run_pick_op (b := false) rfl f8 f9 rfl) rfl
                        · intro a W hI hun haft hi
                          have f10 : a.eval (.tmp 105) = .bool false := haft ⟨10, .data⟩ (by simp) rfl _ _ rfl rfl
                          exact b_same hi hI rfl _ (run_move_op rfl f10) rfl
                        · intro a W hI hun haft hi
                          have fg : a.eval (.tmp 106) = .bool false := haft ⟨11, .guard⟩ (by simp) rfl _ _ rfl rfl
                          exact b_skip hi hI (guard_no rfl rfl rfl (.inl fg)) rfl
                        · intro a W hI hun haft hi
                          have fg : a.eval (.tmp 106) = .bool false := haft ⟨11, .guard⟩ (by simp) rfl _ _ rfl rfl
                          exact b_skip hi hI (guard_no rfl rfl rfl (.inl fg)) rfl
                        · intro a W hI hun haft hi
                          have fg : a.eval (.tmp 106) = .bool false := haft ⟨11, .guard⟩ (by simp) rfl _ _ rfl rfl
                          exact b_skip hi hI (guard_no rfl rfl rfl (.inl fg)) rfl
                        · intro a W hI hun haft hi
                          have fg : a.eval (.tmp 106) = .bool false := haft ⟨11, .guard⟩ (by simp) rfl _ _ rfl rfl
                          exact b_skip hi hI (guard_no rfl rfl rfl (.inl fg)) rfl
                        · intro a W hI hun haft hi
                          have fg : a.eval (.tmp 106) = .bool false := haft ⟨11, .guard⟩ (by simp) rfl _ _ rfl rfl
                          exact b_skip hi hI (guard_no rfl rfl rfl (.inl fg)) rfl
                        · intro a W hI hun haft hi
                          have fg : a.eval (.tmp 106) = .bool false := haft ⟨11, .guard⟩ (by simp) rfl _ _ rfl rfl
                          exact b_skip hi hI (guard_no rfl rfl rfl (.inl fg)) rfl
                        · intro a W hI hun haft hi
                          have fg : a.eval (.tmp 106) = .bool false := haft ⟨11, .guard⟩ (by simp) rfl _ _ rfl rfl
                          exact b_skip hi hI (guard_no rfl rfl rfl (.inl fg)) rfl
                        · intro a W hI hun haft hi
                          have f11 : a.eval (.tmp 106) = .bool false := haft ⟨11, .data⟩ (by simp) rfl _ _ rfl rfl
                          have f18 : a.eval (.tmp 113) = undef := haft ⟨18, .data⟩ (by simp) rfl _ _ rfl rfl
                          exact b_same hi hI rfl _ (run_pick_op (b := false) rfl f11 f18 rfl) rfl
                        · intro a W hI hun haft hi
                          have f19 : a.eval (.tmp 114) = .bool false := haft ⟨19, .data⟩ (by simp) rfl _ _ rfl rfl
                          exact b_same hi hI rfl _ (run_move_op rfl f19) rfl
                        · intro a W hI hun haft hi
                          have fg : a.eval (.tmp 115) = .bool false := haft ⟨20, .guard⟩ (by simp) rfl _ _ rfl rfl
                          exact b_skip hi hI (guard_no rfl rfl rfl (.inl fg)) rfl
                        · intro a W hI hun haft hi
                          have fg : a.eval (.tmp 115) = .bool false := haft ⟨20, .guard⟩ (by simp) rfl _ _ rfl rfl
                          exact b_skip hi hI (guard_no rfl rfl rfl (.inl fg)) rfl
                        · intro a W hI hun haft hi
                          have fg : a.eval (.tmp 115) = .bool false := haft ⟨20, .guard⟩ (by simp) rfl _ _ rfl rfl
                          exact b_skip hi hI (guard_no rfl rfl rfl (.inl fg)) rfl
                        · intro a W hI hun haft hi
                          have fg : a.eval (.tmp 118) = undef := haft ⟨23, .guard⟩ (by simp) rfl _ _ rfl rfl
                          exact b_skip hi hI (guard_no rfl rfl rfl (.inr fg)) rfl
                        · intro a W hI hun haft hi
                          have fg : a.eval (.tmp 118) = undef := haft ⟨23, .guard⟩ (by simp) rfl _ _ rfl rfl
                          exact b_skip hi hI (guard_no rfl rfl rfl (.inr fg)) rfl
                        · intro a W hI hun haft hi
                          have fg : a.eval (.tmp 118) = undef := haft ⟨23, .guard⟩ (by simp) rfl _ _ rfl rfl
                          exact b_skip hi hI (guard_no rfl rfl rfl (.inr fg)) rfl
                        · intro a W hI hun haft hi
                          have fg : a.eval (.tmp 118) = undef := haft ⟨23, .guard⟩ (by simp) rfl _ _ rfl rfl
                          exact b_skip hi hI (guard_no rfl rfl rfl (.inr fg)) rfl
                        · intro a W hI hun haft hi
                          have fg : a.eval (.tmp 118) = undef := haft ⟨23, .guard⟩ (by simp) rfl _ _ rfl rfl
                          exact b_skip hi hI (guard_no rfl rfl rfl (.inr fg)) rfl
                        · intro a W hI hun haft hi
                          have fg : a.eval (.tmp 118) = undef := haft ⟨23, .guard⟩ (by simp) rfl _ _ rfl rfl
                          exact b_skip hi hI (guard_no rfl rfl rfl (.inr fg)) rfl
                        · intro a W hI hun haft hi
                          have fg : a.eval (.tmp 118) = undef := haft ⟨23, .guard⟩ (by simp) rfl _ _ rfl rfl
                          exact b_skip hi hI (guard_no rfl rfl rfl (.inr fg)) rfl
                        · intro a W hI hun haft hi
                          have fg : a.eval (.tmp 118) = undef := haft ⟨23, .guard⟩ (by simp) rfl _ _ rfl rfl
                          exact b_skip hi hI (guard_no rfl rfl rfl (.inr fg)) rfl
                        · intro a W hI hun haft hi
                          have fg : a.eval (.tmp 118) = undef := haft ⟨23, .guard⟩ (by simp) rfl _ _ rfl rfl
                          exact b_skip hi hI (guard_no rfl rfl rfl (.inr fg)) rfl
                        · intro a W hI hun haft hi
                          have fg : a.eval (.tmp 118) = undef := haft ⟨23, .guard⟩ (by simp) rfl _ _ rfl rfl
                          exact b_skip hi hI (guard_no rfl rfl rfl (.inr fg)) rfl
                        · intro a W hI hun haft hi
                          have fg : a.eval (.tmp 115) = .bool false := haft ⟨20, .guard⟩ (by simp) rfl _ _ rfl rfl
                          exact b_skip hi hI (guard_no rfl rfl rfl (.inl fg)) rfl
                        · intro a W hI hun haft hi
                          have f20 : a.eval (.tmp 115) = .bool false := haft ⟨20, .data⟩ (by simp) rfl _ _ rfl rfl
                          have f34 : a.eval (.tmp 129) = undef := haft ⟨34, .data⟩ (by simp) rfl _ _ rfl rfl
                          exact b_same hi hI rfl _ (run_pick_op (b := false) rfl f20 f34 rfl) rfl
                        · intro a W hI hun haft hi
                          have f35 : a.eval (.tmp 130) = .bool false := haft ⟨35, .data⟩ (by simp) rfl _ _ rfl rfl
                          exact b_same hi hI rfl _ (run_assign_op rfl f35) rfl
                      · intro vals W hI hp
                        have hl36 : vals 36 = .bool false := hp 36 (by decide)
                        have HI := Lib.hid hI
                        clear hp hI
                        simp only [layN, List.size_toArray, List.length_cons, List.length_nil, List.range, List.range.loop, if_true, List.getElem?_toArray, List.getElem?_cons_zero, List.getElem?_cons_succ, Act.put, List.setIfInBounds_toArray, List.set_cons_zero, List.set_cons_succ, Nat.zero_add, Nat.reduceAdd, hl36]
                        clear hl36
                        have HBX := Lib.hid (HBZ.out.trans (HI.out.mono HBZ.out.size))
                        have hw := HWk.out
                        clear HI
                        go_wp2
                        go_roundw
                        case rel =>
                          first
                            | exact ⟨k + 1, by go_num, by omega, by rw [HR.out], HBX.out⟩
                            | (repeat apply Exists.intro (α := Value)
                               refine And.intro ?rl ?fr
                               case fr => repeat' (first | apply And.intro | rfl)
                               case rl => exact ⟨k + 1, by go_num, by omega, by rw [HR.out], HBX.out⟩)
                        case measure => simp [intOf] <;> omega
                    · cases ha : decide (((q.2.t.size : Nat) : Int) ≤ 300)
                      · have HA := Lib.hid ha
                        have HR := Lib.hid (show okL x l (k + 1) = false by
                          rw [okL_next, HOk.out, Bool.true_and]
                          exact okE_no HQk.out (.inr (by
                            cases hf : fit7B x q.2
                            · rfl
                            · have h1 := fit_len hf
                              have h2 := of_decide_eq_false ha
                              omega)))
                        clear ha
                        refine wp_region_any (by kernel_rfl) ?_
                        refine Lt.wpAny_late (fun i uq _ => uq = ([.bool true, .bool true, .pointer (some ⟨b13, 2, none⟩), .pointer (some ⟨b13, 4, none⟩), .string q.2.t, .int .i64 (q.2.t.size : Nat), .bool false, .bool false, .bool false, undef, .bool false, .bool false, undef, undef, undef, undef, undef, undef, undef, .bool false, .bool false, undef, undef, undef, undef, undef, undef, undef, undef, undef, undef, undef, undef, undef, undef, .bool false, .bool false] : List Value).getD i undef) _ Z (by kernel_rfl) (by kernel_rfl) (by kernel_rfl) (fun i v w w' _ h => h) ?_ ?_
                        · refine ⟨?_, ?_, ?_, ?_, ?_, ?_, ?_, ?_, ?_, ?_, ?_, ?_, ?_, ?_, ?_, ?_, ?_, ?_, ?_, ?_, ?_, ?_, ?_, ?_, ?_, ?_, ?_, ?_, ?_, ?_, ?_, ?_, ?_, ?_, ?_, ?_, ?_, trivial⟩
                          · intro a W hI hun haft hi
                            have e11 : a.eval (.tmp 11) = .bool true := hun 11 (by kernel_rfl)
                            exact b_same hi hI rfl _ (run_move_op rfl e11) rfl
                          · intro a W hI hun haft hi
                            have f0 : a.eval (.tmp 95) = .bool true := haft ⟨0, .data⟩ (by simp) rfl _ _ rfl rfl
                            exact b_same hi hI rfl _ (run_move_op rfl f0) rfl
                          · intro a W hI hun haft hi
                            have fg : a.eval (.tmp 96) = .bool true := haft ⟨1, .guard⟩ (by simp) rfl _ _ rfl rfl
                            have e13 : a.eval (.tmp 13) = .pointer (some ⟨b13, 0, none⟩) := hun 13 (by kernel_rfl)
                            exact b_same hi hI (guard_ok rfl rfl rfl fg) _ (run_fieldAddr_any rfl e13 (at_entry1 _ 0 _)) rfl
                          · intro a W hI hun haft hi
                            have fg : a.eval (.tmp 96) = .bool true := haft ⟨1, .guard⟩ (by simp) rfl _ _ rfl rfl
                            have f2 : a.eval (.tmp 97) = .pointer (some ⟨b13, 2, none⟩) := haft ⟨2, .data⟩ (by simp) rfl _ _ rfl rfl
                            exact b_same hi hI (guard_ok rfl rfl rfl fg) _ (run_fieldAddr_any rfl f2 (at_value2 _ 2 _)) rfl
                          · intro a W hI hun haft hi
                            have fg : a.eval (.tmp 96) = .bool true := haft ⟨1, .guard⟩ (by simp) rfl _ _ rfl rfl
                            have f3 : a.eval (.tmp 98) = .pointer (some ⟨b13, 4, none⟩) := haft ⟨3, .data⟩ (by simp) rfl _ _ rfl rfl
                            exact b_same hi hI (guard_ok rfl rfl rfl fg) _ (run_loadstr_op rfl f3 Try.underlying9 (HT4.out W hI)) rfl
                          · intro a W hI hun haft hi
                            have fg : a.eval (.tmp 96) = .bool true := haft ⟨1, .guard⟩ (by simp) rfl _ _ rfl rfl
                            have f4 : a.eval (.tmp 99) = .string q.2.t := haft ⟨4, .data⟩ (by simp) rfl _ _ rfl rfl
                            exact b_same hi hI (guard_ok rfl rfl rfl fg) _ (run_lenstr_op rfl Try.underlying9 f4) rfl
                          · intro a W hI hun haft hi
                            have fg : a.eval (.tmp 96) = .bool true := haft ⟨1, .guard⟩ (by simp) rfl _ _ rfl rfl
                            have f5 : a.eval (.tmp 100) = .int .i64 (q.2.t.size : Nat) := haft ⟨5, .data⟩ (by simp) rfl _ _ rfl rfl
                            exact b_same hi hI (guard_ok rfl rfl rfl fg) (.bool false) (run_bin_op rfl f5 rfl (by kernel_rfl) (run_lei HA.out W)) rfl
                          · intro a W hI hun haft hi
                            have f1 : a.eval (.tmp 96) = .bool true := haft ⟨1, .data⟩ (by simp) rfl _ _ rfl rfl
                            have f6 : a.eval (.tmp 101) = .bool false := haft ⟨6, .data⟩ (by simp) rfl _ _ rfl rfl
                            exact b_same hi hI rfl _ (run_pick_op (b := true) rfl f1 f6 rfl) rfl
                          · intro a W hI hun haft hi
                            have f7 : a.eval (.tmp 102) = .bool false := haft ⟨7, .data⟩ (by simp) rfl _ _ rfl rfl
                            exact b_same hi hI rfl _ (run_move_op rfl f7) rfl
                          · intro a W hI hun haft hi
                            have fg : a.eval (.tmp 103) = .bool false := haft ⟨8, .guard⟩ (by simp) rfl _ _ rfl rfl
                            exact b_skip hi hI (guard_no rfl rfl rfl (.inl fg)) rfl
                          · intro a W hI hun haft hi
                            have f8 : a.eval (.tmp 103) = .bool false := haft ⟨8, .data⟩ (by simp) rfl _ _ rfl rfl
                            have f9 : a.eval (.tmp 104) = undef := haft ⟨9, .data⟩ (by simp) rfl _ _ rfl rfl
                            exact b_same hi hI rfl _ (run_pick_op (b := false) rfl f8 f9 rfl) rfl
                          · intro a W hI hun haft hi
                            have f10 : a.eval (.tmp 105) = .bool false := haft ⟨10, .data⟩ (by simp) rfl _ _ rfl rfl
                            exact b_same hi hI rfl _ (run_move_op rfl f10) rfl
                          · intro a W hI hun haft hi
                            have fg : a.eval (.tmp 106) = .bool false := haft ⟨11, .guard⟩ (by simp) rfl _ _ rfl rfl
                            exact b_skip hi hI (guard_no rfl rfl rfl (.inl fg)) rfl
                          · intro a W hI hun haft hi
                            have fg : a.eval (.tmp 106) = .bool false := haft ⟨11, .guard⟩ (by simp) rfl _ _ rfl rfl
                            exact b_skip hi hI (guard_no rfl rfl rfl (.inl fg)) rfl
                          · intro a W hI hun haft hi
                            have fg : a.eval (.tmp 106) = .bool false := haft ⟨11, .guard⟩ (by simp) rfl _ _ rfl rfl
                            exact b_skip hi hI (guard_no rfl rfl rfl (.inl fg)) rfl
                          · intro a W hI hun haft hi
                            have fg : a.eval (.tmp 106) = .bool false := haft ⟨11, .guard⟩ (by simp) rfl _ _ rfl rfl
                            exact b_skip hi hI (guard_no rfl rfl rfl (.inl fg)) rfl
                          · intro a W hI hun haft hi
                            have fg : a.eval (.tmp 106) = .bool false := haft ⟨11, .guard⟩ (by simp) rfl _ _ rfl rfl
                            exact b_skip hi hI (guard_no rfl rfl rfl (.inl fg)) rfl
                          · intro a W hI hun haft hi
                            have fg : a.eval (.tmp 106) = .bool false := haft ⟨11, .guard⟩ (by simp) rfl _ _ rfl rfl
                            exact b_skip hi hI (guard_no rfl rfl rfl (.inl fg)) rfl
                          · intro a W hI hun haft hi
                            have fg : a.eval (.tmp 106) = .bool false := haft ⟨11, .guard⟩ (by simp) rfl _ _ rfl rfl
                            exact b_skip hi hI (guard_no rfl rfl rfl (.inl fg)) rfl
                          · intro a W hI hun haft hi
                            have f11 : a.eval (.tmp 106) = .bool false := haft ⟨11, .data⟩ (by simp) rfl _ _ rfl rfl
                            have f18 : a.eval (.tmp 113) = undef := haft ⟨18, .data⟩ (by simp) rfl _ _ rfl rfl
                            exact b_same hi hI rfl _ (run_pick_op (b := false) rfl f11 f18 rfl) rfl
                          · intro a W hI hun haft hi
                            have f19 : a.eval (.tmp 114) = .bool false := haft ⟨19, .data⟩ (by simp) rfl _ _ rfl rfl
                            exact b_same hi hI rfl _ (run_move_op rfl f19) rfl
                          · intro a W hI hun haft hi
                            have fg : a.eval (.tmp 115) = .bool false := haft ⟨20, .guard⟩ (by simp) rfl _ _ rfl rfl
                            exact b_skip hi hI (guard_no rfl rfl rfl (.inl fg)) rfl
                          · intro a W hI hun haft hi
                            have fg : a.eval (.tmp 115) = .bool false := haft ⟨20, .guard⟩ (by simp) rfl _ _ rfl rfl
                            exact b_skip hi hI (guard_no rfl rfl rfl (.inl fg)) rfl
                          · intro a W hI hun haft hi
                            have fg : a.eval (.tmp 115) = .bool false := haft ⟨20, .guard⟩ (by simp) rfl _ _ rfl rfl
                            exact b_skip hi hI (guard_no rfl rfl rfl (.inl fg)) rfl
                          · intro a W hI hun haft hi
                            have fg : a.eval (.tmp 118) = undef := haft ⟨23, .guard⟩ (by simp) rfl _ _ rfl rfl
                            exact b_skip hi hI (guard_no rfl rfl rfl (.inr fg)) rfl
                          · intro a W hI hun haft hi
                            have fg : a.eval (.tmp 118) = undef := haft ⟨23, .guard⟩ (by simp) rfl _ _ rfl rfl
                            exact b_skip hi hI (guard_no rfl rfl rfl (.inr fg)) rfl
                          · intro a W hI hun haft hi
                            have fg : a.eval (.tmp 118) = undef := haft ⟨23, .guard⟩ (by simp) rfl _ _ rfl rfl
                            exact b_skip hi hI (guard_no rfl rfl rfl (.inr fg)) rfl
                          · intro a W hI hun haft hi
                            have fg : a.eval (.tmp 118) = undef := haft ⟨23, .guard⟩ (by simp) rfl _ _ rfl rfl
                            exact b_skip hi hI (guard_no rfl rfl rfl (.inr fg)) rfl
                          · intro a W hI hun haft hi
                            have fg : a.eval (.tmp 118) = undef := haft ⟨23, .guard⟩ (by simp) rfl _ _ rfl rfl
                            exact b_skip hi hI (guard_no rfl rfl rfl (.inr fg)) rfl
                          · intro a W hI hun haft hi
                            have fg : a.eval (.tmp 118) = undef := haft ⟨23, .guard⟩ (by simp) rfl _ _ rfl rfl
                            exact b_skip hi hI (guard_no rfl rfl rfl (.inr fg)) rfl
                          · intro a W hI hun haft hi
                            have fg : a.eval (.tmp 118) = undef := haft ⟨23, .guard⟩ (by simp) rfl _ _ rfl rfl
                            exact b_skip hi hI (guard_no rfl rfl rfl (.inr fg)) rfl
                          · intro a W hI hun haft hi
                            have fg : a.eval (.tmp 118) = undef := haft ⟨23, .guard⟩ (by simp) rfl _ _ rfl rfl
                            exact b_skip hi hI (guard_no rfl rfl rfl (.inr fg)) rfl
                          · intro a W hI hun haft hi
                            have fg : a.eval (.tmp 118) = undef := haft ⟨23, .guard⟩ (by simp) rfl _ _ rfl rfl
                            exact b_skip hi hI (guard_no rfl rfl rfl (.inr fg)) rfl
                          · intro a W hI hun haft hi
                            have fg : a.eval (.tmp 118) = undef := haft ⟨23, .guard⟩ (by simp) rfl _ _ rfl rfl
                            exact b_skip hi hI (guard_no rfl rfl rfl (.inr fg)) rfl
                          · intro a W hI hun haft hi
                            have fg : a.eval (.tmp 115) = .bool false := haft ⟨20, .guard⟩ (by simp) rfl _ _ rfl rfl
                            exact b_skip hi hI (guard_no rfl rfl rfl (.inl fg)) rfl
                          · intro a W hI hun haft hi
                            have f20 : a.eval (.tmp 115) = .bool false := haft ⟨20, .data⟩ (by simp) rfl _ _ rfl rfl
                            have f34 : a.eval (.tmp 129) = undef := haft ⟨34, .data⟩ (by simp) rfl _ _ rfl rfl
                            exact b_same hi hI rfl _ (run_pick_op (b := false) rfl f20 f34 rfl) rfl
                          · intro a W hI hun haft hi
                            have f35 : a.eval (.tmp 130) = .bool false := haft ⟨35, .data⟩ (by simp) rfl _ _ rfl rfl
                            exact b_same hi hI rfl _ (run_assign_op rfl f35) rfl
                        · intro vals W hI hp
                          have hl36 : vals 36 = .bool false := hp 36 (by decide)
                          have HI := Lib.hid hI
                          clear hp hI
                          simp only [layN, List.size_toArray, List.length_cons, List.length_nil, List.range, List.range.loop, if_true, List.getElem?_toArray, List.getElem?_cons_zero, List.getElem?_cons_succ, Act.put, List.setIfInBounds_toArray, List.set_cons_zero, List.set_cons_succ, Nat.zero_add, Nat.reduceAdd, hl36]
                          clear hl36
                          have HBX := Lib.hid (HBZ.out.trans (HI.out.mono HBZ.out.size))
                          have hw := HWk.out
                          clear HI
                          go_wp2
                          go_roundw
                          case rel =>
                            first
                              | exact ⟨k + 1, by go_num, by omega, by rw [HR.out], HBX.out⟩
                              | (repeat apply Exists.intro (α := Value)
                                 refine And.intro ?rl ?fr
                                 case fr => repeat' (first | apply And.intro | rfl)
                                 case rl => exact ⟨k + 1, by go_num, by omega, by rw [HR.out], HBX.out⟩)
                          case measure => simp [intOf] <;> omega
                      · have HA := Lib.hid ha
                        clear ha
                        cases dt
                        · have HR := Lib.hid (show okL x l (k + 1) = false by rw [okL_next, HOk.out, Bool.true_and]; exact okE_no HQk.out (.inl HDt.out))
                          refine wp_region_any (by kernel_rfl) ?_
                          refine Lt.wpAny_late (fun i uq _ => uq = ([.bool true, .bool true, .pointer (some ⟨b13, 2, none⟩), .pointer (some ⟨b13, 4, none⟩), .string q.2.t, .int .i64 (q.2.t.size : Nat), .bool true, .bool true, .bool true, .bool false, .bool false, .bool false, undef, undef, undef, undef, undef, undef, undef, .bool false, .bool false, undef, undef, undef, undef, undef, undef, undef, undef, undef, undef, undef, undef, undef, undef, .bool false, .bool false] : List Value).getD i undef) _ Z (by kernel_rfl) (by kernel_rfl) (by kernel_rfl) (fun i v w w' _ h => h) ?_ ?_
                          · refine ⟨?_, ?_, ?_, ?_, ?_, ?_, ?_, ?_, ?_, ?_, ?_, ?_, ?_, ?_, ?_, ?_, ?_, ?_, ?_, ?_, ?_, ?_, ?_, ?_, ?_, ?_, ?_, ?_, ?_, ?_, ?_, ?_, ?_, ?_, ?_, ?_, ?_, trivial⟩
                            · intro a W hI hun haft hi
                              have e11 : a.eval (.tmp 11) = .bool true := hun 11 (by kernel_rfl)
                              exact b_same hi hI rfl _ (run_move_op rfl e11) rfl
                            · intro a W hI hun haft hi
                              have f0 : a.eval (.tmp 95) = .bool true := haft ⟨0, .data⟩ (by simp) rfl _ _ rfl rfl
                              exact b_same hi hI rfl _ (run_move_op rfl f0) rfl
                            · intro a W hI hun haft hi
                              have fg : a.eval (.tmp 96) = .bool true := haft ⟨1, .guard⟩ (by simp) rfl _ _ rfl rfl
                              have e13 : a.eval (.tmp 13) = .pointer (some ⟨b13, 0, none⟩) := hun 13 (by kernel_rfl)
                              exact b_same hi hI (guard_ok rfl rfl rfl fg) _ (run_fieldAddr_any rfl e13 (at_entry1 _ 0 _)) rfl
                            · intro a W hI hun haft hi
                              have fg : a.eval (.tmp 96) = .bool true := haft ⟨1, .guard⟩ (by simp) rfl _ _ rfl rfl
                              have f2 : a.eval (.tmp 97) = .pointer (some ⟨b13, 2, none⟩) := haft ⟨2, .data⟩ (by simp) rfl _ _ rfl rfl
                              exact b_same hi hI (guard_ok rfl rfl rfl fg) _ (run_fieldAddr_any rfl f2 (at_value2 _ 2 _)) rfl
                            · intro a W hI hun haft hi
                              have fg : a.eval (.tmp 96) = .bool true := haft ⟨1, .guard⟩ (by simp) rfl _ _ rfl rfl
                              have f3 : a.eval (.tmp 98) = .pointer (some ⟨b13, 4, none⟩) := haft ⟨3, .data⟩ (by simp) rfl _ _ rfl rfl
                              exact b_same hi hI (guard_ok rfl rfl rfl fg) _ (run_loadstr_op rfl f3 Try.underlying9 (HT4.out W hI)) rfl
                            · intro a W hI hun haft hi
                              have fg : a.eval (.tmp 96) = .bool true := haft ⟨1, .guard⟩ (by simp) rfl _ _ rfl rfl
                              have f4 : a.eval (.tmp 99) = .string q.2.t := haft ⟨4, .data⟩ (by simp) rfl _ _ rfl rfl
                              exact b_same hi hI (guard_ok rfl rfl rfl fg) _ (run_lenstr_op rfl Try.underlying9 f4) rfl
                            · intro a W hI hun haft hi
                              have fg : a.eval (.tmp 96) = .bool true := haft ⟨1, .guard⟩ (by simp) rfl _ _ rfl rfl
                              have f5 : a.eval (.tmp 100) = .int .i64 (q.2.t.size : Nat) := haft ⟨5, .data⟩ (by simp) rfl _ _ rfl rfl
                              exact b_same hi hI (guard_ok rfl rfl rfl fg) (.bool true) (run_bin_op rfl f5 rfl (by kernel_rfl) (run_lei HA.out W)) rfl
                            · intro a W hI hun haft hi
                              have f1 : a.eval (.tmp 96) = .bool true := haft ⟨1, .data⟩ (by simp) rfl _ _ rfl rfl
                              have f6 : a.eval (.tmp 101) = .bool true := haft ⟨6, .data⟩ (by simp) rfl _ _ rfl rfl
                              exact b_same hi hI rfl _ (run_pick_op (b := true) rfl f1 f6 rfl) rfl
                            · intro a W hI hun haft hi
                              have f7 : a.eval (.tmp 102) = .bool true := haft ⟨7, .data⟩ (by simp) rfl _ _ rfl rfl
                              exact b_same hi hI rfl _ (run_move_op rfl f7) rfl
                            · intro a W hI hun haft hi
                              have fg : a.eval (.tmp 103) = .bool true := haft ⟨8, .guard⟩ (by simp) rfl _ _ rfl rfl
                              have e15 : a.eval (.tmp 15) = .bool false := hun 15 (by kernel_rfl)
                              exact b_same hi hI (guard_ok rfl rfl rfl fg) _ (run_move_op rfl e15) rfl
                            · intro a W hI hun haft hi
                              have f8 : a.eval (.tmp 103) = .bool true := haft ⟨8, .data⟩ (by simp) rfl _ _ rfl rfl
                              have f9 : a.eval (.tmp 104) = .bool false := haft ⟨9, .data⟩ (by simp) rfl _ _ rfl rfl
                              exact b_same hi hI rfl _ (run_pick_op (b := true) rfl f8 f9 rfl) rfl
                            · intro a W hI hun haft hi
                              have f10 : a.eval (.tmp 105) = .bool false := haft ⟨10, .data⟩ (by simp) rfl _ _ rfl rfl
                              exact b_same hi hI rfl _ (run_move_op rfl f10) rfl
                            · intro a W hI hun haft hi
                              have fg : a.eval (.tmp 106) = .bool false := haft ⟨11, .guard⟩ (by simp) rfl _ _ rfl rfl
                              exact b_skip hi hI (guard_no rfl rfl rfl (.inl fg)) rfl
                            · intro a W hI hun haft hi
                              have fg : a.eval (.tmp 106) = .bool false := haft ⟨11, .guard⟩ (by simp) rfl _ _ rfl rfl
                              exact b_skip hi hI (guard_no rfl rfl rfl (.inl fg)) rfl
                            · intro a W hI hun haft hi
                              have fg : a.eval (.tmp 106) = .bool false := haft ⟨11, .guard⟩ (by simp) rfl _ _ rfl rfl
                              exact b_skip hi hI (guard_no rfl rfl rfl (.inl fg)) rfl
                            · intro a W hI hun haft hi
                              have fg : a.eval (.tmp 106) = .bool false := haft ⟨11, .guard⟩ (by simp) rfl _ _ rfl rfl
                              exact b_skip hi hI (guard_no rfl rfl rfl (.inl fg)) rfl
                            · intro a W hI hun haft hi
                              have fg : a.eval (.tmp 106) = .bool false := haft ⟨11, .guard⟩ (by simp) rfl _ _ rfl rfl
                              exact b_skip hi hI (guard_no rfl rfl rfl (.inl fg)) rfl
                            · intro a W hI hun haft hi
                              have fg : a.eval (.tmp 106) = .bool false := haft ⟨11, .guard⟩ (by simp) rfl _ _ rfl rfl
                              exact b_skip hi hI (guard_no rfl rfl rfl (.inl fg)) rfl
                            · intro a W hI hun haft hi
                              have fg : a.eval (.tmp 106) = .bool false := haft ⟨11, .guard⟩ (by simp) rfl _ _ rfl rfl
                              exact b_skip hi hI (guard_no rfl rfl rfl (.inl fg)) rfl
                            · intro a W hI hun haft hi
                              have f11 : a.eval (.tmp 106) = .bool false := haft ⟨11, .data⟩ (by simp) rfl _ _ rfl rfl
                              have f18 : a.eval (.tmp 113) = undef := haft ⟨18, .data⟩ (by simp) rfl _ _ rfl rfl
                              exact b_same hi hI rfl _ (run_pick_op (b := false) rfl f11 f18 rfl) rfl
                            · intro a W hI hun haft hi
                              have f19 : a.eval (.tmp 114) = .bool false := haft ⟨19, .data⟩ (by simp) rfl _ _ rfl rfl
                              exact b_same hi hI rfl _ (run_move_op rfl f19) rfl
                            · intro a W hI hun haft hi
                              have fg : a.eval (.tmp 115) = .bool false := haft ⟨20, .guard⟩ (by simp) rfl _ _ rfl rfl
                              exact b_skip hi hI (guard_no rfl rfl rfl (.inl fg)) rfl
                            · intro a W hI hun haft hi
                              have fg : a.eval (.tmp 115) = .bool false := haft ⟨20, .guard⟩ (by simp) rfl _ _ rfl rfl
                              exact b_skip hi hI (guard_no rfl rfl rfl (.inl fg)) rfl
                            · intro a W hI hun haft hi
                              have fg : a.eval (.tmp 115) = .bool false := haft ⟨20, .guard⟩ (by simp) rfl _ _ rfl rfl
                              exact b_skip hi hI (guard_no rfl rfl rfl (.inl fg)) rfl
                            · intro a W hI hun haft hi
                              have fg : a.eval (.tmp 118) = undef := haft ⟨23, .guard⟩ (by simp) rfl _ _ rfl rfl
                              exact b_skip hi hI (guard_no rfl rfl rfl (.inr fg)) rfl
                            · intro a W hI hun haft hi
                              have fg : a.eval (.tmp 118) = undef := haft ⟨23, .guard⟩ (by simp) rfl _ _ rfl rfl
                              exact b_skip hi hI (guard_no rfl rfl rfl (.inr fg)) rfl
                            · intro a W hI hun haft hi
                              have fg : a.eval (.tmp 118) = undef := haft ⟨23, .guard⟩ (by simp) rfl _ _ rfl rfl
                              exact b_skip hi hI (guard_no rfl rfl rfl (.inr fg)) rfl
                            · intro a W hI hun haft hi
                              have fg : a.eval (.tmp 118) = undef := haft ⟨23, .guard⟩ (by simp) rfl _ _ rfl rfl
                              exact b_skip hi hI (guard_no rfl rfl rfl (.inr fg)) rfl
                            · intro a W hI hun haft hi
                              have fg : a.eval (.tmp 118) = undef := haft ⟨23, .guard⟩ (by simp) rfl _ _ rfl rfl
                              exact b_skip hi hI (guard_no rfl rfl rfl (.inr fg)) rfl
                            · intro a W hI hun haft hi
                              have fg : a.eval (.tmp 118) = undef := haft ⟨23, .guard⟩ (by simp) rfl _ _ rfl rfl
                              exact b_skip hi hI (guard_no rfl rfl rfl (.inr fg)) rfl
                            · intro a W hI hun haft hi
                              have fg : a.eval (.tmp 118) = undef := haft ⟨23, .guard⟩ (by simp) rfl _ _ rfl rfl
                              exact b_skip hi hI (guard_no rfl rfl rfl (.inr fg)) rfl
                            · intro a W hI hun haft hi
                              have fg : a.eval (.tmp 118) = undef := haft ⟨23, .guard⟩ (by simp) rfl _ _ rfl rfl
                              exact b_skip hi hI (guard_no rfl rfl rfl (.inr fg)) rfl
                            · intro a W hI hun haft hi
                              have fg : a.eval (.tmp 118) = undef := haft ⟨23, .guard⟩ (by simp) rfl _ _ rfl rfl
                              exact b_skip hi hI (guard_no rfl rfl rfl (.inr fg)) rfl
                            · intro a W hI hun haft hi
                              have fg : a.eval (.tmp 118) = undef := haft ⟨23, .guard⟩ (by simp) rfl _ _ rfl rfl
                              exact b_skip hi hI (guard_no rfl rfl rfl (.inr fg)) rfl
                            · intro a W hI hun haft hi
                              have fg : a.eval (.tmp 115) = .bool false := haft ⟨20, .guard⟩ (by simp) rfl _ _ rfl rfl
                              exact b_skip hi hI (guard_no rfl rfl rfl (.inl fg)) rfl
                            · intro a W hI hun haft hi
                              have f20 : a.eval (.tmp 115) = .bool false := haft ⟨20, .data⟩ (by simp) rfl _ _ rfl rfl
                              have f34 : a.eval (.tmp 129) = undef := haft ⟨34, .data⟩ (by simp) rfl _ _ rfl rfl
                              exact b_same hi hI rfl _ (run_pick_op (b := false) rfl f20 f34 rfl) rfl
                            · intro a W hI hun haft hi
                              have f35 : a.eval (.tmp 130) = .bool false := haft ⟨35, .data⟩ (by simp) rfl _ _ rfl rfl
                              exact b_same hi hI rfl _ (run_assign_op rfl f35) rfl
                          · intro vals W hI hp
                            have hl36 : vals 36 = .bool false := hp 36 (by decide)
                            have HI := Lib.hid hI
                            clear hp hI
                            simp only [layN, List.size_toArray, List.length_cons, List.length_nil, List.range, List.range.loop, if_true, List.getElem?_toArray, List.getElem?_cons_zero, List.getElem?_cons_succ, Act.put, List.setIfInBounds_toArray, List.set_cons_zero, List.set_cons_succ, Nat.zero_add, Nat.reduceAdd, hl36]
                            clear hl36
                            have HBX := Lib.hid (HBZ.out.trans (HI.out.mono HBZ.out.size))
                            have hw := HWk.out
                            clear HI
                            go_wp2
                            go_roundw
                            case rel =>
                              first
                                | exact ⟨k + 1, by go_num, by omega, by rw [HR.out], HBX.out⟩
                                | (repeat apply Exists.intro (α := Value)
                                   refine And.intro ?rl ?fr
                                   case fr => repeat' (first | apply And.intro | rfl)
                                   case rl => exact ⟨k + 1, by go_num, by omega, by rw [HR.out], HBX.out⟩)
                            case measure => simp [intOf] <;> omega
                        · have HTy := Lib.hid (show Tiny (evX x q.2) by
                            have h1 := HLx.out
                            have h2 := of_decide_eq_true HA.out
                            exact ⟨by show x.a.size ≤ _; omega, by show x.b.size ≤ _; omega, by show x.c.size ≤ _; omega, by show x.d.size ≤ _; omega, by show q.2.t.size ≤ _; omega⟩)
                          have HOp2 := Lib.hid (show op = (evX x q.2).op by rw [HOp.out]; exact op_is HOk.out)
                          cases hf : fit7B x q.2
                          · have HFb := Lib.hid hf
                            have HR := Lib.hid (show okL x l (k + 1) = false by rw [okL_next, HOk.out, Bool.true_and]; exact okE_no HQk.out (.inr hf))
                            clear hf
                            refine wp_region_any (by kernel_rfl) ?_
                            refine Lt.wpAny_late (fun i uq _ => uq = ([.bool true, .bool true, .pointer (some ⟨b13, 2, none⟩), .pointer (some ⟨b13, 4, none⟩), .string q.2.t, .int .i64 (q.2.t.size : Nat), .bool true, .bool true, .bool true, .bool true, .bool true, .bool true, .int .i64 op, .pointer (some ⟨b10, 0, none⟩), eE x, .pointer (some ⟨b13, 2, none⟩), eV q.2, .agg #[.int .i64 op, .int .i64 x.k, .string x.a, .string x.b, .string x.c, .string x.d, .int .i64 q.2.k, .int .i64 q.2.n, .string q.2.t], .bool false, .bool false, .bool false, undef, undef, undef, undef, undef, undef, undef, undef, undef, undef, undef, undef, undef, undef, .bool false, .bool false] : List Value).getD i undef) _ Z (by kernel_rfl) (by kernel_rfl) (by kernel_rfl) (fun i v w w' _ h => h) ?_ ?_
                            · refine ⟨?_, ?_, ?_, ?_, ?_, ?_, ?_, ?_, ?_, ?_, ?_, ?_, ?_, ?_, ?_, ?_, ?_, ?_, ?_, ?_, ?_, ?_, ?_, ?_, ?_, ?_, ?_, ?_, ?_, ?_, ?_, ?_, ?_, ?_, ?_, ?_, ?_, trivial⟩
                              · intro a W hI hun haft hi
                                have e11 : a.eval (.tmp 11) = .bool true := hun 11 (by kernel_rfl)
                                exact b_same hi hI rfl _ (run_move_op rfl e11) rfl
                              · intro a W hI hun haft hi
                                have f0 : a.eval (.tmp 95) = .bool true := haft ⟨0, .data⟩ (by simp) rfl _ _ rfl rfl
                                exact b_same hi hI rfl _ (run_move_op rfl f0) rfl
                              · intro a W hI hun haft hi
                                have fg : a.eval (.tmp 96) = .bool true := haft ⟨1, .guard⟩ (by simp) rfl _ _ rfl rfl
                                have e13 : a.eval (.tmp 13) = .pointer (some ⟨b13, 0, none⟩) := hun 13 (by kernel_rfl)
                                exact b_same hi hI (guard_ok rfl rfl rfl fg) _ (run_fieldAddr_any rfl e13 (at_entry1 _ 0 _)) rfl
                              · intro a W hI hun haft hi
                                have fg : a.eval (.tmp 96) = .bool true := haft ⟨1, .guard⟩ (by simp) rfl _ _ rfl rfl
                                have f2 : a.eval (.tmp 97) = .pointer (some ⟨b13, 2, none⟩) := haft ⟨2, .data⟩ (by simp) rfl _ _ rfl rfl
                                exact b_same hi hI (guard_ok rfl rfl rfl fg) _ (run_fieldAddr_any rfl f2 (at_value2 _ 2 _)) rfl
                              · intro a W hI hun haft hi
                                have fg : a.eval (.tmp 96) = .bool true := haft ⟨1, .guard⟩ (by simp) rfl _ _ rfl rfl
                                have f3 : a.eval (.tmp 98) = .pointer (some ⟨b13, 4, none⟩) := haft ⟨3, .data⟩ (by simp) rfl _ _ rfl rfl
                                exact b_same hi hI (guard_ok rfl rfl rfl fg) _ (run_loadstr_op rfl f3 Try.underlying9 (HT4.out W hI)) rfl
                              · intro a W hI hun haft hi
                                have fg : a.eval (.tmp 96) = .bool true := haft ⟨1, .guard⟩ (by simp) rfl _ _ rfl rfl
                                have f4 : a.eval (.tmp 99) = .string q.2.t := haft ⟨4, .data⟩ (by simp) rfl _ _ rfl rfl
                                exact b_same hi hI (guard_ok rfl rfl rfl fg) _ (run_lenstr_op rfl Try.underlying9 f4) rfl
                              · intro a W hI hun haft hi
                                have fg : a.eval (.tmp 96) = .bool true := haft ⟨1, .guard⟩ (by simp) rfl _ _ rfl rfl
                                have f5 : a.eval (.tmp 100) = .int .i64 (q.2.t.size : Nat) := haft ⟨5, .data⟩ (by simp) rfl _ _ rfl rfl
                                exact b_same hi hI (guard_ok rfl rfl rfl fg) (.bool true) (run_bin_op rfl f5 rfl (by kernel_rfl) (run_lei HA.out W)) rfl
                              · intro a W hI hun haft hi
                                have f1 : a.eval (.tmp 96) = .bool true := haft ⟨1, .data⟩ (by simp) rfl _ _ rfl rfl
                                have f6 : a.eval (.tmp 101) = .bool true := haft ⟨6, .data⟩ (by simp) rfl _ _ rfl rfl
                                exact b_same hi hI rfl _ (run_pick_op (b := true) rfl f1 f6 rfl) rfl
                              · intro a W hI hun haft hi
                                have f7 : a.eval (.tmp 102) = .bool true := haft ⟨7, .data⟩ (by simp) rfl _ _ rfl rfl
                                exact b_same hi hI rfl _ (run_move_op rfl f7) rfl
                              · intro a W hI hun haft hi
                                have fg : a.eval (.tmp 103) = .bool true := haft ⟨8, .guard⟩ (by simp) rfl _ _ rfl rfl
                                have e15 : a.eval (.tmp 15) = .bool true := hun 15 (by kernel_rfl)
                                exact b_same hi hI (guard_ok rfl rfl rfl fg) _ (run_move_op rfl e15) rfl
                              · intro a W hI hun haft hi
                                have f8 : a.eval (.tmp 103) = .bool true := haft ⟨8, .data⟩ (by simp) rfl _ _ rfl rfl
                                have f9 : a.eval (.tmp 104) = .bool true := haft ⟨9, .data⟩ (by simp) rfl _ _ rfl rfl
                                exact b_same hi hI rfl _ (run_pick_op (b := true) rfl f8 f9 rfl) rfl
                              · intro a W hI hun haft hi
                                have f10 : a.eval (.tmp 105) = .bool true := haft ⟨10, .data⟩ (by simp) rfl _ _ rfl rfl
                                exact b_same hi hI rfl _ (run_move_op rfl f10) rfl
                              · intro a W hI hun haft hi
                                have fg : a.eval (.tmp 106) = .bool true := haft ⟨11, .guard⟩ (by simp) rfl _ _ rfl rfl
                                have e14 : a.eval (.tmp 14) = .int .i64 op := hun 14 (by kernel_rfl)
                                exact b_same hi hI (guard_ok rfl rfl rfl fg) _ (run_move_op rfl e14) rfl
                              · intro a W hI hun haft hi
                                have fg : a.eval (.tmp 106) = .bool true := haft ⟨11, .guard⟩ (by simp) rfl _ _ rfl rfl
                                have e10 : a.eval (.tmp 10) = .pointer (some ⟨b10, 0, none⟩) := hun 10 (by kernel_rfl)
                                exact b_same hi hI (guard_ok rfl rfl rfl fg) _ (run_fieldAddr_any rfl e10 (at_item0 _ 0 _)) rfl
                              · intro a W hI hun haft hi
                                have fg : a.eval (.tmp 106) = .bool true := haft ⟨11, .guard⟩ (by simp) rfl _ _ rfl rfl
                                have f13 : a.eval (.tmp 108) = .pointer (some ⟨b10, 0, none⟩) := haft ⟨13, .data⟩ (by simp) rfl _ _ rfl rfl
                                exact b_same hi hI (guard_ok rfl rfl rfl fg) _ (run_loadmid_op rfl f13 (HI0r.out W hI) Try.underlying35 rfl (by kernel_rfl)) rfl
                              · intro a W hI hun haft hi
                                have fg : a.eval (.tmp 106) = .bool true := haft ⟨11, .guard⟩ (by simp) rfl _ _ rfl rfl
                                have e13 : a.eval (.tmp 13) = .pointer (some ⟨b13, 0, none⟩) := hun 13 (by kernel_rfl)
                                exact b_same hi hI (guard_ok rfl rfl rfl fg) _ (run_fieldAddr_any rfl e13 (at_entry1 _ 0 _)) rfl
                              · intro a W hI hun haft hi
                                have fg : a.eval (.tmp 106) = .bool true := haft ⟨11, .guard⟩ (by simp) rfl _ _ rfl rfl
                                have f15 : a.eval (.tmp 110) = .pointer (some ⟨b13, 2, none⟩) := haft ⟨15, .data⟩ (by simp) rfl _ _ rfl rfl
                                exact b_same hi hI (guard_ok rfl rfl rfl fg) _ (run_loadmid_op rfl f15 (HQ2r.out W hI) Try.underlying37 rfl (by kernel_rfl)) rfl
                              · intro a W hI hun haft hi
                                have fg : a.eval (.tmp 106) = .bool true := haft ⟨11, .guard⟩ (by simp) rfl _ _ rfl rfl
                                have f12 : a.eval (.tmp 107) = .int .i64 op := haft ⟨12, .data⟩ (by simp) rfl _ _ rfl rfl
                                have f14 : a.eval (.tmp 109) = eE x := haft ⟨14, .data⟩ (by simp) rfl _ _ rfl rfl
                                have f16 : a.eval (.tmp 111) = eV q.2 := haft ⟨16, .data⟩ (by simp) rfl _ _ rfl rfl
                                exact b_same hi hI (guard_ok rfl rfl rfl fg) _ (run_build_op (vs := #[(0, .int .i64 op), (1, eE x), (2, eV q.2)]) rfl (by simp only [List.map_toArray, List.map_cons, List.map_nil, f12, f14, f16] <;> rfl) (by kernel_rfl)) rfl
                              · intro a W hI hun haft hi
                                have fg : a.eval (.tmp 106) = .bool true := haft ⟨11, .guard⟩ (by simp) rfl _ _ rfl rfl
                                have f17 : a.eval (.tmp 112) = .agg #[.int .i64 op, .int .i64 x.k, .string x.a, .string x.b, .string x.c, .string x.d, .int .i64 q.2.k, .int .i64 q.2.n, .string q.2.t] := haft ⟨17, .data⟩ (by simp) rfl _ _ rfl rfl
                                refine b_call hi hI (guard_ok rfl rfl rfl fg) _ _ (run_call_op (args := #[.agg #[.int .i64 op, .int .i64 x.k, .string x.a, .string x.b, .string x.c, .string x.d, .int .i64 q.2.k, .int .i64 q.2.n, .string q.2.t]]) rfl (by simp [f17]) (by kernel_rfl)) ?_
                                exact (chg_is x q.2 op false HOp2.out HFb.out HTy.out W).mono fun e w' H => ⟨_, H.1, rfl, H.2⟩
                              · intro a W hI hun haft hi
                                have f11 : a.eval (.tmp 106) = .bool true := haft ⟨11, .data⟩ (by simp) rfl _ _ rfl rfl
                                have f18 : a.eval (.tmp 113) = .bool false := haft ⟨18, .data⟩ (by simp) rfl _ _ rfl rfl
                                exact b_same hi hI rfl _ (run_pick_op (b := true) rfl f11 f18 rfl) rfl
                              · intro a W hI hun haft hi
                                have f19 : a.eval (.tmp 114) = .bool false := haft ⟨19, .data⟩ (by simp) rfl _ _ rfl rfl
                                exact b_same hi hI rfl _ (run_move_op rfl f19) rfl
                              · intro a W hI hun haft hi
                                have fg : a.eval (.tmp 115) = .bool false := haft ⟨20, .guard⟩ (by simp) rfl _ _ rfl rfl
                                exact b_skip hi hI (guard_no rfl rfl rfl (.inl fg)) rfl
                              · intro a W hI hun haft hi
                                have fg : a.eval (.tmp 115) = .bool false := haft ⟨20, .guard⟩ (by simp) rfl _ _ rfl rfl
                                exact b_skip hi hI (guard_no rfl rfl rfl (.inl fg)) rfl
                              · intro a W hI hun haft hi
                                have fg : a.eval (.tmp 115) = .bool false := haft ⟨20, .guard⟩ (by simp) rfl _ _ rfl rfl
                                exact b_skip hi hI (guard_no rfl rfl rfl (.inl fg)) rfl
                              · intro a W hI hun haft hi
                                have fg : a.eval (.tmp 118) = undef := haft ⟨23, .guard⟩ (by simp) rfl _ _ rfl rfl
                                exact b_skip hi hI (guard_no rfl rfl rfl (.inr fg)) rfl
                              · intro a W hI hun haft hi
                                have fg : a.eval (.tmp 118) = undef := haft ⟨23, .guard⟩ (by simp) rfl _ _ rfl rfl
                                exact b_skip hi hI (guard_no rfl rfl rfl (.inr fg)) rfl
                              · intro a W hI hun haft hi
                                have fg : a.eval (.tmp 118) = undef := haft ⟨23, .guard⟩ (by simp) rfl _ _ rfl rfl
                                exact b_skip hi hI (guard_no rfl rfl rfl (.inr fg)) rfl
                              · intro a W hI hun haft hi
                                have fg : a.eval (.tmp 118) = undef := haft ⟨23, .guard⟩ (by simp) rfl _ _ rfl rfl
                                exact b_skip hi hI (guard_no rfl rfl rfl (.inr fg)) rfl
                              · intro a W hI hun haft hi
                                have fg : a.eval (.tmp 118) = undef := haft ⟨23, .guard⟩ (by simp) rfl _ _ rfl rfl
                                exact b_skip hi hI (guard_no rfl rfl rfl (.inr fg)) rfl
                              · intro a W hI hun haft hi
                                have fg : a.eval (.tmp 118) = undef := haft ⟨23, .guard⟩ (by simp) rfl _ _ rfl rfl
                                exact b_skip hi hI (guard_no rfl rfl rfl (.inr fg)) rfl
                              · intro a W hI hun haft hi
                                have fg : a.eval (.tmp 118) = undef := haft ⟨23, .guard⟩ (by simp) rfl _ _ rfl rfl
                                exact b_skip hi hI (guard_no rfl rfl rfl (.inr fg)) rfl
                              · intro a W hI hun haft hi
                                have fg : a.eval (.tmp 118) = undef := haft ⟨23, .guard⟩ (by simp) rfl _ _ rfl rfl
                                exact b_skip hi hI (guard_no rfl rfl rfl (.inr fg)) rfl
                              · intro a W hI hun haft hi
                                have fg : a.eval (.tmp 118) = undef := haft ⟨23, .guard⟩ (by simp) rfl _ _ rfl rfl
                                exact b_skip hi hI (guard_no rfl rfl rfl (.inr fg)) rfl
                              · intro a W hI hun haft hi
                                have fg : a.eval (.tmp 118) = undef := haft ⟨23, .guard⟩ (by simp) rfl _ _ rfl rfl
                                exact b_skip hi hI (guard_no rfl rfl rfl (.inr fg)) rfl
                              · intro a W hI hun haft hi
                                have fg : a.eval (.tmp 115) = .bool false := haft ⟨20, .guard⟩ (by simp) rfl _ _ rfl rfl
                                exact b_skip hi hI (guard_no rfl rfl rfl (.inl fg)) rfl
                              · intro a W hI hun haft hi
                                have f20 : a.eval (.tmp 115) = .bool false := haft ⟨20, .data⟩ (by simp) rfl _ _ rfl rfl
                                have f34 : a.eval (.tmp 129) = undef := haft ⟨34, .data⟩ (by simp) rfl _ _ rfl rfl
                                exact b_same hi hI rfl _ (run_pick_op (b := false) rfl f20 f34 rfl) rfl
                              · intro a W hI hun haft hi
                                have f35 : a.eval (.tmp 130) = .bool false := haft ⟨35, .data⟩ (by simp) rfl _ _ rfl rfl
                                exact b_same hi hI rfl _ (run_assign_op rfl f35) rfl
                            · intro vals W hI hp
                              have hl36 : vals 36 = .bool false := hp 36 (by decide)
                              have HI := Lib.hid hI
                              clear hp hI
                              simp only [layN, List.size_toArray, List.length_cons, List.length_nil, List.range, List.range.loop, if_true, List.getElem?_toArray, List.getElem?_cons_zero, List.getElem?_cons_succ, Act.put, List.setIfInBounds_toArray, List.set_cons_zero, List.set_cons_succ, Nat.zero_add, Nat.reduceAdd, hl36]
                              clear hl36
                              have HBX := Lib.hid (HBZ.out.trans (HI.out.mono HBZ.out.size))
                              have hw := HWk.out
                              clear HI
                              go_wp2
                              go_roundw
                              case rel =>
                                first
                                  | exact ⟨k + 1, by go_num, by omega, by rw [HR.out], HBX.out⟩
                                  | (repeat apply Exists.intro (α := Value)
                                     refine And.intro ?rl ?fr
                                     case fr => repeat' (first | apply And.intro | rfl)
                                     case rl => exact ⟨k + 1, by go_num, by omega, by rw [HR.out], HBX.out⟩)
                              case measure => simp [intOf] <;> omega
                          · have HFb := Lib.hid hf
                            clear hf
                            rcases Nat.eq_zero_or_pos k with h0 | h0
                            · subst h0
                              have HKz := Lib.hid (show decide ((0 : Nat) = 0) = true from rfl)
                              have HR := Lib.hid (show okL x l (0 + 1) = true by rw [okL_next, HOk.out, Bool.true_and, okE_zero HQk.out, HDt.out, HFb.out]; rfl)
                              refine wp_region_any (by kernel_rfl) ?_
                              refine Lt.wpAny_late (fun i uq _ => uq = ([.bool true, .bool true, .pointer (some ⟨b13, 2, none⟩), .pointer (some ⟨b13, 4, none⟩), .string q.2.t, .int .i64 (q.2.t.size : Nat), .bool true, .bool true, .bool true, .bool true, .bool true, .bool true, .int .i64 op, .pointer (some ⟨b10, 0, none⟩), eE x, .pointer (some ⟨b13, 2, none⟩), eV q.2, .agg #[.int .i64 op, .int .i64 x.k, .string x.a, .string x.b, .string x.c, .string x.d, .int .i64 q.2.k, .int .i64 q.2.n, .string q.2.t], .bool true, .bool true, .bool true, .int .i64 ((0 : Nat) : Int), .bool true, .bool true, undef, undef, undef, undef, undef, undef, undef, undef, undef, undef, .bool true, .bool true, .bool true] : List Value).getD i undef) _ Z (by kernel_rfl) (by kernel_rfl) (by kernel_rfl) (fun i v w w' _ h => h) ?_ ?_
                              · refine ⟨?_, ?_, ?_, ?_, ?_, ?_, ?_, ?_, ?_, ?_, ?_, ?_, ?_, ?_, ?_, ?_, ?_, ?_, ?_, ?_, ?_, ?_, ?_, ?_, ?_, ?_, ?_, ?_, ?_, ?_, ?_, ?_, ?_, ?_, ?_, ?_, ?_, trivial⟩
                                · intro a W hI hun haft hi
                                  have e11 : a.eval (.tmp 11) = .bool true := hun 11 (by kernel_rfl)
                                  exact b_same hi hI rfl _ (run_move_op rfl e11) rfl
                                · intro a W hI hun haft hi
                                  have f0 : a.eval (.tmp 95) = .bool true := haft ⟨0, .data⟩ (by simp) rfl _ _ rfl rfl
                                  exact b_same hi hI rfl _ (run_move_op rfl f0) rfl
                                · intro a W hI hun haft hi
                                  have fg : a.eval (.tmp 96) = .bool true := haft ⟨1, .guard⟩ (by simp) rfl _ _ rfl rfl
                                  have e13 : a.eval (.tmp 13) = .pointer (some ⟨b13, 0, none⟩) := hun 13 (by kernel_rfl)
                                  exact b_same hi hI (guard_ok rfl rfl rfl fg) _ (run_fieldAddr_any rfl e13 (at_entry1 _ 0 _)) rfl
                                · intro a W hI hun haft hi
                                  have fg : a.eval (.tmp 96) = .bool true := haft ⟨1, .guard⟩ (by simp) rfl _ _ rfl rfl
                                  have f2 : a.eval (.tmp 97) = .pointer (some ⟨b13, 2, none⟩) := haft ⟨2, .data⟩ (by simp) rfl _ _ rfl rfl
                                  exact b_same hi hI (guard_ok rfl rfl rfl fg) _ (run_fieldAddr_any rfl f2 (at_value2 _ 2 _)) rfl
                                · intro a W hI hun haft hi
                                  have fg : a.eval (.tmp 96) = .bool true := haft ⟨1, .guard⟩ (by simp) rfl _ _ rfl rfl
                                  have f3 : a.eval (.tmp 98) = .pointer (some ⟨b13, 4, none⟩) := haft ⟨3, .data⟩ (by simp) rfl _ _ rfl rfl
                                  exact b_same hi hI (guard_ok rfl rfl rfl fg) _ (run_loadstr_op rfl f3 Try.underlying9 (HT4.out W hI)) rfl
                                · intro a W hI hun haft hi
                                  have fg : a.eval (.tmp 96) = .bool true := haft ⟨1, .guard⟩ (by simp) rfl _ _ rfl rfl
                                  have f4 : a.eval (.tmp 99) = .string q.2.t := haft ⟨4, .data⟩ (by simp) rfl _ _ rfl rfl
                                  exact b_same hi hI (guard_ok rfl rfl rfl fg) _ (run_lenstr_op rfl Try.underlying9 f4) rfl
                                · intro a W hI hun haft hi
                                  have fg : a.eval (.tmp 96) = .bool true := haft ⟨1, .guard⟩ (by simp) rfl _ _ rfl rfl
                                  have f5 : a.eval (.tmp 100) = .int .i64 (q.2.t.size : Nat) := haft ⟨5, .data⟩ (by simp) rfl _ _ rfl rfl
                                  exact b_same hi hI (guard_ok rfl rfl rfl fg) (.bool true) (run_bin_op rfl f5 rfl (by kernel_rfl) (run_lei HA.out W)) rfl
                                · intro a W hI hun haft hi
                                  have f1 : a.eval (.tmp 96) = .bool true := haft ⟨1, .data⟩ (by simp) rfl _ _ rfl rfl
                                  have f6 : a.eval (.tmp 101) = .bool true := haft ⟨6, .data⟩ (by simp) rfl _ _ rfl rfl
                                  exact b_same hi hI rfl _ (run_pick_op (b := true) rfl f1 f6 rfl) rfl
                                · intro a W hI hun haft hi
                                  have f7 : a.eval (.tmp 102) = .bool true := haft ⟨7, .data⟩ (by simp) rfl _ _ rfl rfl
                                  exact b_same hi hI rfl _ (run_move_op rfl f7) rfl
                                · intro a W hI hun haft hi
                                  have fg : a.eval (.tmp 103) = .bool true := haft ⟨8, .guard⟩ (by simp) rfl _ _ rfl rfl
                                  have e15 : a.eval (.tmp 15) = .bool true := hun 15 (by kernel_rfl)
                                  exact b_same hi hI (guard_ok rfl rfl rfl fg) _ (run_move_op rfl e15) rfl
                                · intro a W hI hun haft hi
                                  have f8 : a.eval (.tmp 103) = .bool true := haft ⟨8, .data⟩ (by simp) rfl _ _ rfl rfl
                                  have f9 : a.eval (.tmp 104) = .bool true := haft ⟨9, .data⟩ (by simp) rfl _ _ rfl rfl
                                  exact b_same hi hI rfl _ (run_pick_op (b := true) rfl f8 f9 rfl) rfl
                                · intro a W hI hun haft hi
                                  have f10 : a.eval (.tmp 105) = .bool true := haft ⟨10, .data⟩ (by simp) rfl _ _ rfl rfl
                                  exact b_same hi hI rfl _ (run_move_op rfl f10) rfl
                                · intro a W hI hun haft hi
                                  have fg : a.eval (.tmp 106) = .bool true := haft ⟨11, .guard⟩ (by simp) rfl _ _ rfl rfl
                                  have e14 : a.eval (.tmp 14) = .int .i64 op := hun 14 (by kernel_rfl)
                                  exact b_same hi hI (guard_ok rfl rfl rfl fg) _ (run_move_op rfl e14) rfl
                                · intro a W hI hun haft hi
                                  have fg : a.eval (.tmp 106) = .bool true := haft ⟨11, .guard⟩ (by simp) rfl _ _ rfl rfl
                                  have e10 : a.eval (.tmp 10) = .pointer (some ⟨b10, 0, none⟩) := hun 10 (by kernel_rfl)
                                  exact b_same hi hI (guard_ok rfl rfl rfl fg) _ (run_fieldAddr_any rfl e10 (at_item0 _ 0 _)) rfl
                                · intro a W hI hun haft hi
                                  have fg : a.eval (.tmp 106) = .bool true := haft ⟨11, .guard⟩ (by simp) rfl _ _ rfl rfl
                                  have f13 : a.eval (.tmp 108) = .pointer (some ⟨b10, 0, none⟩) := haft ⟨13, .data⟩ (by simp) rfl _ _ rfl rfl
                                  exact b_same hi hI (guard_ok rfl rfl rfl fg) _ (run_loadmid_op rfl f13 (HI0r.out W hI) Try.underlying35 rfl (by kernel_rfl)) rfl
                                · intro a W hI hun haft hi
                                  have fg : a.eval (.tmp 106) = .bool true := haft ⟨11, .guard⟩ (by simp) rfl _ _ rfl rfl
                                  have e13 : a.eval (.tmp 13) = .pointer (some ⟨b13, 0, none⟩) := hun 13 (by kernel_rfl)
                                  exact b_same hi hI (guard_ok rfl rfl rfl fg) _ (run_fieldAddr_any rfl e13 (at_entry1 _ 0 _)) rfl
                                · intro a W hI hun haft hi
                                  have fg : a.eval (.tmp 106) = .bool true := haft ⟨11, .guard⟩ (by simp) rfl _ _ rfl rfl
                                  have f15 : a.eval (.tmp 110) = .pointer (some ⟨b13, 2, none⟩) := haft ⟨15, .data⟩ (by simp) rfl _ _ rfl rfl
                                  exact b_same hi hI (guard_ok rfl rfl rfl fg) _ (run_loadmid_op rfl f15 (HQ2r.out W hI) Try.underlying37 rfl (by kernel_rfl)) rfl
                                · intro a W hI hun haft hi
                                  have fg : a.eval (.tmp 106) = .bool true := haft ⟨11, .guard⟩ (by simp) rfl _ _ rfl rfl
                                  have f12 : a.eval (.tmp 107) = .int .i64 op := haft ⟨12, .data⟩ (by simp) rfl _ _ rfl rfl
                                  have f14 : a.eval (.tmp 109) = eE x := haft ⟨14, .data⟩ (by simp) rfl _ _ rfl rfl
                                  have f16 : a.eval (.tmp 111) = eV q.2 := haft ⟨16, .data⟩ (by simp) rfl _ _ rfl rfl
                                  exact b_same hi hI (guard_ok rfl rfl rfl fg) _ (run_build_op (vs := #[(0, .int .i64 op), (1, eE x), (2, eV q.2)]) rfl (by simp only [List.map_toArray, List.map_cons, List.map_nil, f12, f14, f16] <;> rfl) (by kernel_rfl)) rfl
                                · intro a W hI hun haft hi
                                  have fg : a.eval (.tmp 106) = .bool true := haft ⟨11, .guard⟩ (by simp) rfl _ _ rfl rfl
                                  have f17 : a.eval (.tmp 112) = .agg #[.int .i64 op, .int .i64 x.k, .string x.a, .string x.b, .string x.c, .string x.d, .int .i64 q.2.k, .int .i64 q.2.n, .string q.2.t] := haft ⟨17, .data⟩ (by simp) rfl _ _ rfl rfl
                                  refine b_call hi hI (guard_ok rfl rfl rfl fg) _ _ (run_call_op (args := #[.agg #[.int .i64 op, .int .i64 x.k, .string x.a, .string x.b, .string x.c, .string x.d, .int .i64 q.2.k, .int .i64 q.2.n, .string q.2.t]]) rfl (by simp [f17]) (by kernel_rfl)) ?_
                                  exact (chg_is x q.2 op true HOp2.out HFb.out HTy.out W).mono fun e w' H => ⟨_, H.1, rfl, H.2⟩
                                · intro a W hI hun haft hi
                                  have f11 : a.eval (.tmp 106) = .bool true := haft ⟨11, .data⟩ (by simp) rfl _ _ rfl rfl
                                  have f18 : a.eval (.tmp 113) = .bool true := haft ⟨18, .data⟩ (by simp) rfl _ _ rfl rfl
                                  exact b_same hi hI rfl _ (run_pick_op (b := true) rfl f11 f18 rfl) rfl
                                · intro a W hI hun haft hi
                                  have f19 : a.eval (.tmp 114) = .bool true := haft ⟨19, .data⟩ (by simp) rfl _ _ rfl rfl
                                  exact b_same hi hI rfl _ (run_move_op rfl f19) rfl
                                · intro a W hI hun haft hi
                                  have fg : a.eval (.tmp 115) = .bool true := haft ⟨20, .guard⟩ (by simp) rfl _ _ rfl rfl
                                  have e12 : a.eval (.tmp 12) = .int .i64 ((0 : Nat) : Int) := hun 12 (by kernel_rfl)
                                  exact b_same hi hI (guard_ok rfl rfl rfl fg) _ (run_move_op rfl e12) rfl
                                · intro a W hI hun haft hi
                                  have fg : a.eval (.tmp 115) = .bool true := haft ⟨20, .guard⟩ (by simp) rfl _ _ rfl rfl
                                  have f21 : a.eval (.tmp 116) = .int .i64 ((0 : Nat) : Int) := haft ⟨21, .data⟩ (by simp) rfl _ _ rfl rfl
                                  exact b_same hi hI (guard_ok rfl rfl rfl fg) (.bool true) (run_bin_op rfl f21 rfl (by kernel_rfl) (run_eqz7 HKz.out W)) rfl
                                · intro a W hI hun haft hi
                                  have fg : a.eval (.tmp 115) = .bool true := haft ⟨20, .guard⟩ (by simp) rfl _ _ rfl rfl
                                  have f22 : a.eval (.tmp 117) = .bool true := haft ⟨22, .data⟩ (by simp) rfl _ _ rfl rfl
                                  exact b_same hi hI (guard_ok rfl rfl rfl fg) _ (run_move_op rfl f22) rfl
                                · intro a W hI hun haft hi
                                  have fg : a.eval (.tmp 118) = .bool true := haft ⟨23, .guard⟩ (by simp) rfl _ _ rfl rfl
                                  exact b_skip hi hI (guard_no rfl rfl rfl (.inl fg)) rfl
                                · intro a W hI hun haft hi
                                  have fg : a.eval (.tmp 118) = .bool true := haft ⟨23, .guard⟩ (by simp) rfl _ _ rfl rfl
                                  exact b_skip hi hI (guard_no rfl rfl rfl (.inl fg)) rfl
                                · intro a W hI hun haft hi
                                  have fg : a.eval (.tmp 118) = .bool true := haft ⟨23, .guard⟩ (by simp) rfl _ _ rfl rfl
                                  exact b_skip hi hI (guard_no rfl rfl rfl (.inl fg)) rfl
                                · intro a W hI hun haft hi
                                  have fg : a.eval (.tmp 118) = .bool true := haft ⟨23, .guard⟩ (by simp) rfl _ _ rfl rfl
                                  exact b_skip hi hI (guard_no rfl rfl rfl (.inl fg)) rfl
                                · intro a W hI hun haft hi
                                  have fg : a.eval (.tmp 118) = .bool true := haft ⟨23, .guard⟩ (by simp) rfl _ _ rfl rfl
                                  exact b_skip hi hI (guard_no rfl rfl rfl (.inl fg)) rfl
                                · intro a W hI hun haft hi
                                  have fg : a.eval (.tmp 118) = .bool true := haft ⟨23, .guard⟩ (by simp) rfl _ _ rfl rfl
                                  exact b_skip hi hI (guard_no rfl rfl rfl (.inl fg)) rfl
                                · intro a W hI hun haft hi
                                  have fg : a.eval (.tmp 118) = .bool true := haft ⟨23, .guard⟩ (by simp) rfl _ _ rfl rfl
                                  exact b_skip hi hI (guard_no rfl rfl rfl (.inl fg)) rfl
                                · intro a W hI hun haft hi
                                  have fg : a.eval (.tmp 118) = .bool true := haft ⟨23, .guard⟩ (by simp) rfl _ _ rfl rfl
                                  exact b_skip hi hI (guard_no rfl rfl rfl (.inl fg)) rfl
                                · intro a W hI hun haft hi
                                  have fg : a.eval (.tmp 118) = .bool true := haft ⟨23, .guard⟩ (by simp) rfl _ _ rfl rfl
                                  exact b_skip hi hI (guard_no rfl rfl rfl (.inl fg)) rfl
                                · intro a W hI hun haft hi
                                  have fg : a.eval (.tmp 118) = .bool true := haft ⟨23, .guard⟩ (by simp) rfl _ _ rfl rfl
                                  exact b_skip hi hI (guard_no rfl rfl rfl (.inl fg)) rfl
                                · intro a W hI hun haft hi
                                  have fg : a.eval (.tmp 115) = .bool true := haft ⟨20, .guard⟩ (by simp) rfl _ _ rfl rfl
                                  have f23 : a.eval (.tmp 118) = .bool true := haft ⟨23, .data⟩ (by simp) rfl _ _ rfl rfl
                                  have f33 : a.eval (.tmp 128) = undef := haft ⟨33, .data⟩ (by simp) rfl _ _ rfl rfl
                                  exact b_same hi hI (guard_ok rfl rfl rfl fg) _ (run_pick_op (b := true) rfl f23 rfl f33) rfl
                                · intro a W hI hun haft hi
                                  have f20 : a.eval (.tmp 115) = .bool true := haft ⟨20, .data⟩ (by simp) rfl _ _ rfl rfl
                                  have f34 : a.eval (.tmp 129) = .bool true := haft ⟨34, .data⟩ (by simp) rfl _ _ rfl rfl
                                  exact b_same hi hI rfl _ (run_pick_op (b := true) rfl f20 f34 rfl) rfl
                                · intro a W hI hun haft hi
                                  have f35 : a.eval (.tmp 130) = .bool true := haft ⟨35, .data⟩ (by simp) rfl _ _ rfl rfl
                                  exact b_same hi hI rfl _ (run_assign_op rfl f35) rfl
                              · intro vals W hI hp
                                have hl36 : vals 36 = .bool true := hp 36 (by decide)
                                have HI := Lib.hid hI
                                clear hp hI
                                simp only [layN, List.size_toArray, List.length_cons, List.length_nil, List.range, List.range.loop, if_true, List.getElem?_toArray, List.getElem?_cons_zero, List.getElem?_cons_succ, Act.put, List.setIfInBounds_toArray, List.set_cons_zero, List.set_cons_succ, Nat.zero_add, Nat.reduceAdd, hl36]
                                clear hl36
                                have HBX := Lib.hid (HBZ.out.trans (HI.out.mono HBZ.out.size))
                                have hw := HWk.out
                                clear HI
                                go_wp2
                                go_roundw
                                case rel =>
                                  first
                                    | exact ⟨0 + 1, by go_num, by omega, by rw [HR.out], HBX.out⟩
                                    | (repeat apply Exists.intro (α := Value)
                                       refine And.intro ?rl ?fr
                                       case fr => repeat' (first | apply And.intro | rfl)
                                       case rl => exact ⟨0 + 1, by go_num, by omega, by rw [HR.out], HBX.out⟩)
                                case measure => simp [intOf] <;> omega
                            · obtain ⟨ka, rfl⟩ : ∃ ka, k = ka + 1 := ⟨k - 1, by omega⟩
                              obtain ⟨p0, hp0⟩ : ∃ p0, l[ka]? = some p0 := ⟨l[ka]'(by have := HLN.out; omega), List.getElem?_eq_getElem _⟩
                              have HKz := Lib.hid (show decide (ka + 1 = 0) = false from decide_eq_false (by omega))
                              have HPr := Lib.hid (show ∀ W : World, Below Z.heap.size Z W → W.rangeAt ge (oe + ka * 5) [.int .i64 p0.1.r, .int .i64 p0.1.c] from fun W hI => by
                                obtain ⟨g', o', h1, _, h2⟩ := (HLZ.out.below hI).en hp0
                                injection h1 with h1
                                injection h1 with h1 h3 _
                                subst h1 h3
                                intro i u hu
                                have hi2 : i < 2 := by have := (List.getElem?_eq_some_iff.1 hu).1; simpa using this
                                exact h2 i u (by rw [← hu]; rcases i with _ | _ | i <;> first | rfl | omega))
                              cases hfs : firstB p0.1 q.1
                              · have HFs := Lib.hid hfs
                                have HR := Lib.hid (show okL x l (ka + 1 + 1) = false by rw [okL_next, HOk.out, Bool.true_and, okE_succ HQk.out hp0, HDt.out, HFb.out, hfs]; rfl)
                                clear hfs hp0
                                refine wp_region_any (by kernel_rfl) ?_
                                refine Lt.wpAny_late (fun i uq _ => uq = ([.bool true, .bool true, .pointer (some ⟨b13, 2, none⟩), .pointer (some ⟨b13, 4, none⟩), .string q.2.t, .int .i64 (q.2.t.size : Nat), .bool true, .bool true, .bool true, .bool true, .bool true, .bool true, .int .i64 op, .pointer (some ⟨b10, 0, none⟩), eE x, .pointer (some ⟨b13, 2, none⟩), eV q.2, .agg #[.int .i64 op, .int .i64 x.k, .string x.a, .string x.b, .string x.c, .string x.d, .int .i64 q.2.k, .int .i64 q.2.n, .string q.2.t], .bool true, .bool true, .bool true, .int .i64 ((ka + 1 : Nat) : Int), .bool false, .bool false, .pointer (some ⟨b10, 5, none⟩), .slice (some ⟨ge, oe, none⟩) N1 c1, .int .i64 ((ka + 1 : Nat) : Int), .int .i64 (ka : Nat), .pointer (some ⟨ge, oe + ka * 5, none⟩), .pointer (some ⟨ge, oe + ka * 5, none⟩), eD p0.1, .pointer (some ⟨b13, 0, none⟩), eD q.1, .bool false, .bool false, .bool false, .bool false] : List Value).getD i undef) _ Z (by kernel_rfl) (by kernel_rfl) (by kernel_rfl) (fun i v w w' _ h => h) ?_ ?_
                                · refine ⟨?_, ?_, ?_, ?_, ?_, ?_, ?_, ?_, ?_, ?_, ?_, ?_, ?_, ?_, ?_, ?_, ?_, ?_, ?_, ?_, ?_, ?_, ?_, ?_, ?_, ?_, ?_, ?_, ?_, ?_, ?_, ?_, ?_, ?_, ?_, ?_, ?_, trivial⟩
                                  · intro a W hI hun haft hi
                                    have e11 : a.eval (.tmp 11) = .bool true := hun 11 (by kernel_rfl)
                                    exact b_same hi hI rfl _ (run_move_op rfl e11) rfl
                                  · intro a W hI hun haft hi
                                    have f0 : a.eval (.tmp 95) = .bool true := haft ⟨0, .data⟩ (by simp) rfl _ _ rfl rfl
                                    exact b_same hi hI rfl _ (run_move_op rfl f0) rfl
                                  · intro a W hI hun haft hi
                                    have fg : a.eval (.tmp 96) = .bool true := haft ⟨1, .guard⟩ (by simp) rfl _ _ rfl rfl
                                    have e13 : a.eval (.tmp 13) = .pointer (some ⟨b13, 0, none⟩) := hun 13 (by kernel_rfl)
                                    exact b_same hi hI (guard_ok rfl rfl rfl fg) _ (run_fieldAddr_any rfl e13 (at_entry1 _ 0 _)) rfl
                                  · intro a W hI hun haft hi
                                    have fg : a.eval (.tmp 96) = .bool true := haft ⟨1, .guard⟩ (by simp) rfl _ _ rfl rfl
                                    have f2 : a.eval (.tmp 97) = .pointer (some ⟨b13, 2, none⟩) := haft ⟨2, .data⟩ (by simp) rfl _ _ rfl rfl
                                    exact b_same hi hI (guard_ok rfl rfl rfl fg) _ (run_fieldAddr_any rfl f2 (at_value2 _ 2 _)) rfl
                                  · intro a W hI hun haft hi
                                    have fg : a.eval (.tmp 96) = .bool true := haft ⟨1, .guard⟩ (by simp) rfl _ _ rfl rfl
                                    have f3 : a.eval (.tmp 98) = .pointer (some ⟨b13, 4, none⟩) := haft ⟨3, .data⟩ (by simp) rfl _ _ rfl rfl
                                    exact b_same hi hI (guard_ok rfl rfl rfl fg) _ (run_loadstr_op rfl f3 Try.underlying9 (HT4.out W hI)) rfl
                                  · intro a W hI hun haft hi
                                    have fg : a.eval (.tmp 96) = .bool true := haft ⟨1, .guard⟩ (by simp) rfl _ _ rfl rfl
                                    have f4 : a.eval (.tmp 99) = .string q.2.t := haft ⟨4, .data⟩ (by simp) rfl _ _ rfl rfl
                                    exact b_same hi hI (guard_ok rfl rfl rfl fg) _ (run_lenstr_op rfl Try.underlying9 f4) rfl
                                  · intro a W hI hun haft hi
                                    have fg : a.eval (.tmp 96) = .bool true := haft ⟨1, .guard⟩ (by simp) rfl _ _ rfl rfl
                                    have f5 : a.eval (.tmp 100) = .int .i64 (q.2.t.size : Nat) := haft ⟨5, .data⟩ (by simp) rfl _ _ rfl rfl
                                    exact b_same hi hI (guard_ok rfl rfl rfl fg) (.bool true) (run_bin_op rfl f5 rfl (by kernel_rfl) (run_lei HA.out W)) rfl
                                  · intro a W hI hun haft hi
                                    have f1 : a.eval (.tmp 96) = .bool true := haft ⟨1, .data⟩ (by simp) rfl _ _ rfl rfl
                                    have f6 : a.eval (.tmp 101) = .bool true := haft ⟨6, .data⟩ (by simp) rfl _ _ rfl rfl
                                    exact b_same hi hI rfl _ (run_pick_op (b := true) rfl f1 f6 rfl) rfl
                                  · intro a W hI hun haft hi
                                    have f7 : a.eval (.tmp 102) = .bool true := haft ⟨7, .data⟩ (by simp) rfl _ _ rfl rfl
                                    exact b_same hi hI rfl _ (run_move_op rfl f7) rfl
                                  · intro a W hI hun haft hi
                                    have fg : a.eval (.tmp 103) = .bool true := haft ⟨8, .guard⟩ (by simp) rfl _ _ rfl rfl
                                    have e15 : a.eval (.tmp 15) = .bool true := hun 15 (by kernel_rfl)
                                    exact b_same hi hI (guard_ok rfl rfl rfl fg) _ (run_move_op rfl e15) rfl
                                  · intro a W hI hun haft hi
                                    have f8 : a.eval (.tmp 103) = .bool true := haft ⟨8, .data⟩ (by simp) rfl _ _ rfl rfl
                                    have f9 : a.eval (.tmp 104) = .bool true := haft ⟨9, .data⟩ (by simp) rfl _ _ rfl rfl
                                    exact b_same hi hI rfl _ (run_pick_op (b := true) rfl f8 f9 rfl) rfl
                                  · intro a W hI hun haft hi
                                    have f10 : a.eval (.tmp 105) = .bool true := haft ⟨10, .data⟩ (by simp) rfl _ _ rfl rfl
                                    exact b_same hi hI rfl _ (run_move_op rfl f10) rfl
                                  · intro a W hI hun haft hi
                                    have fg : a.eval (.tmp 106) = .bool true := haft ⟨11, .guard⟩ (by simp) rfl _ _ rfl rfl
                                    have e14 : a.eval (.tmp 14) = .int .i64 op := hun 14 (by kernel_rfl)
                                    exact b_same hi hI (guard_ok rfl rfl rfl fg) _ (run_move_op rfl e14) rfl
                                  · intro a W hI hun haft hi
                                    have fg : a.eval (.tmp 106) = .bool true := haft ⟨11, .guard⟩ (by simp) rfl _ _ rfl rfl
                                    have e10 : a.eval (.tmp 10) = .pointer (some ⟨b10, 0, none⟩) := hun 10 (by kernel_rfl)
                                    exact b_same hi hI (guard_ok rfl rfl rfl fg) _ (run_fieldAddr_any rfl e10 (at_item0 _ 0 _)) rfl
                                  · intro a W hI hun haft hi
                                    have fg : a.eval (.tmp 106) = .bool true := haft ⟨11, .guard⟩ (by simp) rfl _ _ rfl rfl
                                    have f13 : a.eval (.tmp 108) = .pointer (some ⟨b10, 0, none⟩) := haft ⟨13, .data⟩ (by simp) rfl _ _ rfl rfl
                                    exact b_same hi hI (guard_ok rfl rfl rfl fg) _ (run_loadmid_op rfl f13 (HI0r.out W hI) Try.underlying35 rfl (by kernel_rfl)) rfl
                                  · intro a W hI hun haft hi
                                    have fg : a.eval (.tmp 106) = .bool true := haft ⟨11, .guard⟩ (by simp) rfl _ _ rfl rfl
                                    have e13 : a.eval (.tmp 13) = .pointer (some ⟨b13, 0, none⟩) := hun 13 (by kernel_rfl)
                                    exact b_same hi hI (guard_ok rfl rfl rfl fg) _ (run_fieldAddr_any rfl e13 (at_entry1 _ 0 _)) rfl
                                  · intro a W hI hun haft hi
                                    have fg : a.eval (.tmp 106) = .bool true := haft ⟨11, .guard⟩ (by simp) rfl _ _ rfl rfl
                                    have f15 : a.eval (.tmp 110) = .pointer (some ⟨b13, 2, none⟩) := haft ⟨15, .data⟩ (by simp) rfl _ _ rfl rfl
                                    exact b_same hi hI (guard_ok rfl rfl rfl fg) _ (run_loadmid_op rfl f15 (HQ2r.out W hI) Try.underlying37 rfl (by kernel_rfl)) rfl
                                  · intro a W hI hun haft hi
                                    have fg : a.eval (.tmp 106) = .bool true := haft ⟨11, .guard⟩ (by simp) rfl _ _ rfl rfl
                                    have f12 : a.eval (.tmp 107) = .int .i64 op := haft ⟨12, .data⟩ (by simp) rfl _ _ rfl rfl
                                    have f14 : a.eval (.tmp 109) = eE x := haft ⟨14, .data⟩ (by simp) rfl _ _ rfl rfl
                                    have f16 : a.eval (.tmp 111) = eV q.2 := haft ⟨16, .data⟩ (by simp) rfl _ _ rfl rfl
                                    exact b_same hi hI (guard_ok rfl rfl rfl fg) _ (run_build_op (vs := #[(0, .int .i64 op), (1, eE x), (2, eV q.2)]) rfl (by simp only [List.map_toArray, List.map_cons, List.map_nil, f12, f14, f16] <;> rfl) (by kernel_rfl)) rfl
                                  · intro a W hI hun haft hi
                                    have fg : a.eval (.tmp 106) = .bool true := haft ⟨11, .guard⟩ (by simp) rfl _ _ rfl rfl
                                    have f17 : a.eval (.tmp 112) = .agg #[.int .i64 op, .int .i64 x.k, .string x.a, .string x.b, .string x.c, .string x.d, .int .i64 q.2.k, .int .i64 q.2.n, .string q.2.t] := haft ⟨17, .data⟩ (by simp) rfl _ _ rfl rfl
                                    refine b_call hi hI (guard_ok rfl rfl rfl fg) _ _ (run_call_op (args := #[.agg #[.int .i64 op, .int .i64 x.k, .string x.a, .string x.b, .string x.c, .string x.d, .int .i64 q.2.k, .int .i64 q.2.n, .string q.2.t]]) rfl (by simp [f17]) (by kernel_rfl)) ?_
                                    exact (chg_is x q.2 op true HOp2.out HFb.out HTy.out W).mono fun e w' H => ⟨_, H.1, rfl, H.2⟩
                                  · intro a W hI hun haft hi
                                    have f11 : a.eval (.tmp 106) = .bool true := haft ⟨11, .data⟩ (by simp) rfl _ _ rfl rfl
                                    have f18 : a.eval (.tmp 113) = .bool true := haft ⟨18, .data⟩ (by simp) rfl _ _ rfl rfl
                                    exact b_same hi hI rfl _ (run_pick_op (b := true) rfl f11 f18 rfl) rfl
                                  · intro a W hI hun haft hi
                                    have f19 : a.eval (.tmp 114) = .bool true := haft ⟨19, .data⟩ (by simp) rfl _ _ rfl rfl
                                    exact b_same hi hI rfl _ (run_move_op rfl f19) rfl
                                  · intro a W hI hun haft hi
                                    have fg : a.eval (.tmp 115) = .bool true := haft ⟨20, .guard⟩ (by simp) rfl _ _ rfl rfl
                                    have e12 : a.eval (.tmp 12) = .int .i64 ((ka + 1 : Nat) : Int) := hun 12 (by kernel_rfl)
                                    exact b_same hi hI (guard_ok rfl rfl rfl fg) _ (run_move_op rfl e12) rfl
                                  · intro a W hI hun haft hi
                                    have fg : a.eval (.tmp 115) = .bool true := haft ⟨20, .guard⟩ (by simp) rfl _ _ rfl rfl
                                    have f21 : a.eval (.tmp 116) = .int .i64 ((ka + 1 : Nat) : Int) := haft ⟨21, .data⟩ (by simp) rfl _ _ rfl rfl
                                    exact b_same hi hI (guard_ok rfl rfl rfl fg) (.bool false) (run_bin_op rfl f21 rfl (by kernel_rfl) (run_eqz7 HKz.out W)) rfl
                                  · intro a W hI hun haft hi
                                    have fg : a.eval (.tmp 115) = .bool true := haft ⟨20, .guard⟩ (by simp) rfl _ _ rfl rfl
                                    have f22 : a.eval (.tmp 117) = .bool false := haft ⟨22, .data⟩ (by simp) rfl _ _ rfl rfl
                                    exact b_same hi hI (guard_ok rfl rfl rfl fg) _ (run_move_op rfl f22) rfl
                                  · intro a W hI hun haft hi
                                    have fg : a.eval (.tmp 118) = .bool false := haft ⟨23, .guard⟩ (by simp) rfl _ _ rfl rfl
                                    have e10 : a.eval (.tmp 10) = .pointer (some ⟨b10, 0, none⟩) := hun 10 (by kernel_rfl)
                                    exact b_same hi hI (guard_ok rfl rfl rfl fg) _ (run_fieldAddr_any rfl e10 (at_item1 _ 0 _)) rfl
                                  · intro a W hI hun haft hi
                                    have fg : a.eval (.tmp 118) = .bool false := haft ⟨23, .guard⟩ (by simp) rfl _ _ rfl rfl
                                    have f24 : a.eval (.tmp 119) = .pointer (some ⟨b10, 5, none⟩) := haft ⟨24, .data⟩ (by simp) rfl _ _ rfl rfl
                                    exact b_same hi hI (guard_ok rfl rfl rfl fg) _ (run_loadsl_op rfl f24 Try.underlying44 (HI5.out W hI)) rfl
                                  · intro a W hI hun haft hi
                                    have fg : a.eval (.tmp 118) = .bool false := haft ⟨23, .guard⟩ (by simp) rfl _ _ rfl rfl
                                    have e12 : a.eval (.tmp 12) = .int .i64 ((ka + 1 : Nat) : Int) := hun 12 (by kernel_rfl)
                                    exact b_same hi hI (guard_ok rfl rfl rfl fg) _ (run_move_op rfl e12) rfl
                                  · intro a W hI hun haft hi
                                    have fg : a.eval (.tmp 118) = .bool false := haft ⟨23, .guard⟩ (by simp) rfl _ _ rfl rfl
                                    have f26 : a.eval (.tmp 121) = .int .i64 ((ka + 1 : Nat) : Int) := haft ⟨26, .data⟩ (by simp) rfl _ _ rfl rfl
                                    exact b_same hi hI (guard_ok rfl rfl rfl fg) _ (run_bin_op rfl f26 rfl (by kernel_rfl) (sub1_P ka (by omega) W)) rfl
                                  · intro a W hI hun haft hi
                                    have fg : a.eval (.tmp 118) = .bool false := haft ⟨23, .guard⟩ (by simp) rfl _ _ rfl rfl
                                    have f25 : a.eval (.tmp 120) = .slice (some ⟨ge, oe, none⟩) N1 c1 := haft ⟨25, .data⟩ (by simp) rfl _ _ rfl rfl
                                    have f27 : a.eval (.tmp 122) = .int .i64 (ka : Nat) := haft ⟨27, .data⟩ (by simp) rfl _ _ rfl rfl
                                    exact b_same hi hI (guard_ok rfl rfl rfl fg) _ (run_indexAddr_op rfl f25 f27 (at_N ge oe c1 N1 ka (by omega) W)) rfl
                                  · intro a W hI hun haft hi
                                    have fg : a.eval (.tmp 118) = .bool false := haft ⟨23, .guard⟩ (by simp) rfl _ _ rfl rfl
                                    have f28 : a.eval (.tmp 123) = .pointer (some ⟨ge, oe + ka * 5, none⟩) := haft ⟨28, .data⟩ (by simp) rfl _ _ rfl rfl
                                    exact b_same hi hI (guard_ok rfl rfl rfl fg) _ (run_fieldAddr_any rfl f28 (at_entry0 _ _ _)) rfl
                                  · intro a W hI hun haft hi
                                    have fg : a.eval (.tmp 118) = .bool false := haft ⟨23, .guard⟩ (by simp) rfl _ _ rfl rfl
                                    have f29 : a.eval (.tmp 124) = .pointer (some ⟨ge, oe + ka * 5, none⟩) := haft ⟨29, .data⟩ (by simp) rfl _ _ rfl rfl
                                    exact b_same hi hI (guard_ok rfl rfl rfl fg) _ (run_loadmid_op rfl f29 (HPr.out W hI) Try.underlying33 rfl (by kernel_rfl)) rfl
                                  · intro a W hI hun haft hi
                                    have fg : a.eval (.tmp 118) = .bool false := haft ⟨23, .guard⟩ (by simp) rfl _ _ rfl rfl
                                    have e13 : a.eval (.tmp 13) = .pointer (some ⟨b13, 0, none⟩) := hun 13 (by kernel_rfl)
                                    exact b_same hi hI (guard_ok rfl rfl rfl fg) _ (run_fieldAddr_any rfl e13 (at_entry0 _ 0 _)) rfl
                                  · intro a W hI hun haft hi
                                    have fg : a.eval (.tmp 118) = .bool false := haft ⟨23, .guard⟩ (by simp) rfl _ _ rfl rfl
                                    have f31 : a.eval (.tmp 126) = .pointer (some ⟨b13, 0, none⟩) := haft ⟨31, .data⟩ (by simp) rfl _ _ rfl rfl
                                    exact b_same hi hI (guard_ok rfl rfl rfl fg) _ (run_loadmid_op rfl f31 (HQ0r.out W hI) Try.underlying33 rfl (by kernel_rfl)) rfl
                                  · intro a W hI hun haft hi
                                    have fg : a.eval (.tmp 118) = .bool false := haft ⟨23, .guard⟩ (by simp) rfl _ _ rfl rfl
                                    have f30 : a.eval (.tmp 125) = eD p0.1 := haft ⟨30, .data⟩ (by simp) rfl _ _ rfl rfl
                                    have f32 : a.eval (.tmp 127) = eD q.1 := haft ⟨32, .data⟩ (by simp) rfl _ _ rfl rfl
                                    refine b_call hi hI (guard_ok rfl rfl rfl fg) _ _ (run_call_op (args := #[eD p0.1, eD q.1]) rfl (by simp [f30, f32]) (by kernel_rfl)) ?_
                                    exact (first_is p0.1 q.1 false HFs.out W).mono fun e w' H => ⟨_, H.1, rfl, H.2⟩
                                  · intro a W hI hun haft hi
                                    have fg : a.eval (.tmp 115) = .bool true := haft ⟨20, .guard⟩ (by simp) rfl _ _ rfl rfl
                                    have f23 : a.eval (.tmp 118) = .bool false := haft ⟨23, .data⟩ (by simp) rfl _ _ rfl rfl
                                    have f33 : a.eval (.tmp 128) = .bool false := haft ⟨33, .data⟩ (by simp) rfl _ _ rfl rfl
                                    exact b_same hi hI (guard_ok rfl rfl rfl fg) _ (run_pick_op (b := false) rfl f23 rfl f33) rfl
                                  · intro a W hI hun haft hi
                                    have f20 : a.eval (.tmp 115) = .bool true := haft ⟨20, .data⟩ (by simp) rfl _ _ rfl rfl
                                    have f34 : a.eval (.tmp 129) = .bool false := haft ⟨34, .data⟩ (by simp) rfl _ _ rfl rfl
                                    exact b_same hi hI rfl _ (run_pick_op (b := true) rfl f20 f34 rfl) rfl
                                  · intro a W hI hun haft hi
                                    have f35 : a.eval (.tmp 130) = .bool false := haft ⟨35, .data⟩ (by simp) rfl _ _ rfl rfl
                                    exact b_same hi hI rfl _ (run_assign_op rfl f35) rfl
                                · intro vals W hI hp
                                  have hl36 : vals 36 = .bool false := hp 36 (by decide)
                                  have HI := Lib.hid hI
                                  clear hp hI
                                  simp only [layN, List.size_toArray, List.length_cons, List.length_nil, List.range, List.range.loop, if_true, List.getElem?_toArray, List.getElem?_cons_zero, List.getElem?_cons_succ, Act.put, List.setIfInBounds_toArray, List.set_cons_zero, List.set_cons_succ, Nat.zero_add, Nat.reduceAdd, hl36]
                                  clear hl36
                                  have HBX := Lib.hid (HBZ.out.trans (HI.out.mono HBZ.out.size))
                                  have hw := HWk.out
                                  clear HI
                                  go_wp2
                                  go_roundw
                                  case rel =>
                                    first
                                      | exact ⟨ka + 1 + 1, by go_num, by omega, by rw [HR.out], HBX.out⟩
                                      | (repeat apply Exists.intro (α := Value)
                                         refine And.intro ?rl ?fr
                                         case fr => repeat' (first | apply And.intro | rfl)
                                         case rl => exact ⟨ka + 1 + 1, by go_num, by omega, by rw [HR.out], HBX.out⟩)
                                  case measure => simp [intOf] <;> omega
                              · have HFs := Lib.hid hfs
                                have HR := Lib.hid (show okL x l (ka + 1 + 1) = true by rw [okL_next, HOk.out, Bool.true_and, okE_succ HQk.out hp0, HDt.out, HFb.out, hfs]; rfl)
                                clear hfs hp0
                                refine wp_region_any (by kernel_rfl) ?_
                                refine Lt.wpAny_late (fun i uq _ => uq = ([.bool true, .bool true, .pointer (some ⟨b13, 2, none⟩), .pointer (some ⟨b13, 4, none⟩), .string q.2.t, .int .i64 (q.2.t.size : Nat), .bool true, .bool true, .bool true, .bool true, .bool true, .bool true, .int .i64 op, .pointer (some ⟨b10, 0, none⟩), eE x, .pointer (some ⟨b13, 2, none⟩), eV q.2, .agg #[.int .i64 op, .int .i64 x.k, .string x.a, .string x.b, .string x.c, .string x.d, .int .i64 q.2.k, .int .i64 q.2.n, .string q.2.t], .bool true, .bool true, .bool true, .int .i64 ((ka + 1 : Nat) : Int), .bool false, .bool false, .pointer (some ⟨b10, 5, none⟩), .slice (some ⟨ge, oe, none⟩) N1 c1, .int .i64 ((ka + 1 : Nat) : Int), .int .i64 (ka : Nat), .pointer (some ⟨ge, oe + ka * 5, none⟩), .pointer (some ⟨ge, oe + ka * 5, none⟩), eD p0.1, .pointer (some ⟨b13, 0, none⟩), eD q.1, .bool true, .bool true, .bool true, .bool true] : List Value).getD i undef) _ Z (by kernel_rfl) (by kernel_rfl) (by kernel_rfl) (fun i v w w' _ h => h) ?_ ?_
                                · refine ⟨?_, ?_, ?_, ?_, ?_, ?_, ?_, ?_, ?_, ?_, ?_, ?_, ?_, ?_, ?_, ?_, ?_, ?_, ?_, ?_, ?_, ?_, ?_, ?_, ?_, ?_, ?_, ?_, ?_, ?_, ?_, ?_, ?_, ?_, ?_, ?_, ?_, trivial⟩
                                  · intro a W hI hun haft hi
                                    have e11 : a.eval (.tmp 11) = .bool true := hun 11 (by kernel_rfl)
                                    exact b_same hi hI rfl _ (run_move_op rfl e11) rfl
                                  · intro a W hI hun haft hi
                                    have f0 : a.eval (.tmp 95) = .bool true := haft ⟨0, .data⟩ (by simp) rfl _ _ rfl rfl
                                    exact b_same hi hI rfl _ (run_move_op rfl f0) rfl
                                  · intro a W hI hun haft hi
                                    have fg : a.eval (.tmp 96) = .bool true := haft ⟨1, .guard⟩ (by simp) rfl _ _ rfl rfl
                                    have e13 : a.eval (.tmp 13) = .pointer (some ⟨b13, 0, none⟩) := hun 13 (by kernel_rfl)
                                    exact b_same hi hI (guard_ok rfl rfl rfl fg) _ (run_fieldAddr_any rfl e13 (at_entry1 _ 0 _)) rfl
                                  · intro a W hI hun haft hi
                                    have fg : a.eval (.tmp 96) = .bool true := haft ⟨1, .guard⟩ (by simp) rfl _ _ rfl rfl
                                    have f2 : a.eval (.tmp 97) = .pointer (some ⟨b13, 2, none⟩) := haft ⟨2, .data⟩ (by simp) rfl _ _ rfl rfl
                                    exact b_same hi hI (guard_ok rfl rfl rfl fg) _ (run_fieldAddr_any rfl f2 (at_value2 _ 2 _)) rfl
                                  · intro a W hI hun haft hi
                                    have fg : a.eval (.tmp 96) = .bool true := haft ⟨1, .guard⟩ (by simp) rfl _ _ rfl rfl
                                    have f3 : a.eval (.tmp 98) = .pointer (some ⟨b13, 4, none⟩) := haft ⟨3, .data⟩ (by simp) rfl _ _ rfl rfl
                                    exact b_same hi hI (guard_ok rfl rfl rfl fg) _ (run_loadstr_op rfl f3 Try.underlying9 (HT4.out W hI)) rfl
                                  · intro a W hI hun haft hi
                                    have fg : a.eval (.tmp 96) = .bool true := haft ⟨1, .guard⟩ (by simp) rfl _ _ rfl rfl
                                    have f4 : a.eval (.tmp 99) = .string q.2.t := haft ⟨4, .data⟩ (by simp) rfl _ _ rfl rfl
                                    exact b_same hi hI (guard_ok rfl rfl rfl fg) _ (run_lenstr_op rfl Try.underlying9 f4) rfl
                                  · intro a W hI hun haft hi
                                    have fg : a.eval (.tmp 96) = .bool true := haft ⟨1, .guard⟩ (by simp) rfl _ _ rfl rfl
                                    have f5 : a.eval (.tmp 100) = .int .i64 (q.2.t.size : Nat) := haft ⟨5, .data⟩ (by simp) rfl _ _ rfl rfl
                                    exact b_same hi hI (guard_ok rfl rfl rfl fg) (.bool true) (run_bin_op rfl f5 rfl (by kernel_rfl) (run_lei HA.out W)) rfl
                                  · intro a W hI hun haft hi
                                    have f1 : a.eval (.tmp 96) = .bool true := haft ⟨1, .data⟩ (by simp) rfl _ _ rfl rfl
                                    have f6 : a.eval (.tmp 101) = .bool true := haft ⟨6, .data⟩ (by simp) rfl _ _ rfl rfl
                                    exact b_same hi hI rfl _ (run_pick_op (b := true) rfl f1 f6 rfl) rfl
                                  · intro a W hI hun haft hi
                                    have f7 : a.eval (.tmp 102) = .bool true := haft ⟨7, .data⟩ (by simp) rfl _ _ rfl rfl
                                    exact b_same hi hI rfl _ (run_move_op rfl f7) rfl
                                  · intro a W hI hun haft hi
                                    have fg : a.eval (.tmp 103) = .bool true := haft ⟨8, .guard⟩ (by simp) rfl _ _ rfl rfl
                                    have e15 : a.eval (.tmp 15) = .bool true := hun 15 (by kernel_rfl)
                                    exact b_same hi hI (guard_ok rfl rfl rfl fg) _ (run_move_op rfl e15) rfl
                                  · intro a W hI hun haft hi
                                    have f8 : a.eval (.tmp 103) = .bool true := haft ⟨8, .data⟩ (by simp) rfl _ _ rfl rfl
                                    have f9 : a.eval (.tmp 104) = .bool true := haft ⟨9, .data⟩ (by simp) rfl _ _ rfl rfl
                                    exact b_same hi hI rfl _ (run_pick_op (b := true) rfl f8 f9 rfl) rfl
                                  · intro a W hI hun haft hi
                                    have f10 : a.eval (.tmp 105) = .bool true := haft ⟨10, .data⟩ (by simp) rfl _ _ rfl rfl
                                    exact b_same hi hI rfl _ (run_move_op rfl f10) rfl
                                  · intro a W hI hun haft hi
                                    have fg : a.eval (.tmp 106) = .bool true := haft ⟨11, .guard⟩ (by simp) rfl _ _ rfl rfl
                                    have e14 : a.eval (.tmp 14) = .int .i64 op := hun 14 (by kernel_rfl)
                                    exact b_same hi hI (guard_ok rfl rfl rfl fg) _ (run_move_op rfl e14) rfl
                                  · intro a W hI hun haft hi
                                    have fg : a.eval (.tmp 106) = .bool true := haft ⟨11, .guard⟩ (by simp) rfl _ _ rfl rfl
                                    have e10 : a.eval (.tmp 10) = .pointer (some ⟨b10, 0, none⟩) := hun 10 (by kernel_rfl)
                                    exact b_same hi hI (guard_ok rfl rfl rfl fg) _ (run_fieldAddr_any rfl e10 (at_item0 _ 0 _)) rfl
                                  · intro a W hI hun haft hi
                                    have fg : a.eval (.tmp 106) = .bool true := haft ⟨11, .guard⟩ (by simp) rfl _ _ rfl rfl
                                    have f13 : a.eval (.tmp 108) = .pointer (some ⟨b10, 0, none⟩) := haft ⟨13, .data⟩ (by simp) rfl _ _ rfl rfl
                                    exact b_same hi hI (guard_ok rfl rfl rfl fg) _ (run_loadmid_op rfl f13 (HI0r.out W hI) Try.underlying35 rfl (by kernel_rfl)) rfl
                                  · intro a W hI hun haft hi
                                    have fg : a.eval (.tmp 106) = .bool true := haft ⟨11, .guard⟩ (by simp) rfl _ _ rfl rfl
                                    have e13 : a.eval (.tmp 13) = .pointer (some ⟨b13, 0, none⟩) := hun 13 (by kernel_rfl)
                                    exact b_same hi hI (guard_ok rfl rfl rfl fg) _ (run_fieldAddr_any rfl e13 (at_entry1 _ 0 _)) rfl
                                  · intro a W hI hun haft hi
                                    have fg : a.eval (.tmp 106) = .bool true := haft ⟨11, .guard⟩ (by simp) rfl _ _ rfl rfl
                                    have f15 : a.eval (.tmp 110) = .pointer (some ⟨b13, 2, none⟩) := haft ⟨15, .data⟩ (by simp) rfl _ _ rfl rfl
                                    exact b_same hi hI (guard_ok rfl rfl rfl fg) _ (run_loadmid_op rfl f15 (HQ2r.out W hI) Try.underlying37 rfl (by kernel_rfl)) rfl
                                  · intro a W hI hun haft hi
                                    have fg : a.eval (.tmp 106) = .bool true := haft ⟨11, .guard⟩ (by simp) rfl _ _ rfl rfl
                                    have f12 : a.eval (.tmp 107) = .int .i64 op := haft ⟨12, .data⟩ (by simp) rfl _ _ rfl rfl
                                    have f14 : a.eval (.tmp 109) = eE x := haft ⟨14, .data⟩ (by simp) rfl _ _ rfl rfl
                                    have f16 : a.eval (.tmp 111) = eV q.2 := haft ⟨16, .data⟩ (by simp) rfl _ _ rfl rfl
                                    exact b_same hi hI (guard_ok rfl rfl rfl fg) _ (run_build_op (vs := #[(0, .int .i64 op), (1, eE x), (2, eV q.2)]) rfl (by simp only [List.map_toArray, List.map_cons, List.map_nil, f12, f14, f16] <;> rfl) (by kernel_rfl)) rfl
                                  · intro a W hI hun haft hi
                                    have fg : a.eval (.tmp 106) = .bool true := haft ⟨11, .guard⟩ (by simp) rfl _ _ rfl rfl
                                    have f17 : a.eval (.tmp 112) = .agg #[.int .i64 op, .int .i64 x.k, .string x.a, .string x.b, .string x.c, .string x.d, .int .i64 q.2.k, .int .i64 q.2.n, .string q.2.t] := haft ⟨17, .data⟩ (by simp) rfl _ _ rfl rfl
                                    refine b_call hi hI (guard_ok rfl rfl rfl fg) _ _ (run_call_op (args := #[.agg #[.int .i64 op, .int .i64 x.k, .string x.a, .string x.b, .string x.c, .string x.d, .int .i64 q.2.k, .int .i64 q.2.n, .string q.2.t]]) rfl (by simp [f17]) (by kernel_rfl)) ?_
                                    exact (chg_is x q.2 op true HOp2.out HFb.out HTy.out W).mono fun e w' H => ⟨_, H.1, rfl, H.2⟩
                                  · intro a W hI hun haft hi
                                    have f11 : a.eval (.tmp 106) = .bool true := haft ⟨11, .data⟩ (by simp) rfl _ _ rfl rfl
                                    have f18 : a.eval (.tmp 113) = .bool true := haft ⟨18, .data⟩ (by simp) rfl _ _ rfl rfl
                                    exact b_same hi hI rfl _ (run_pick_op (b := true) rfl f11 f18 rfl) rfl
                                  · intro a W hI hun haft hi
                                    have f19 : a.eval (.tmp 114) = .bool true := haft ⟨19, .data⟩ (by simp) rfl _ _ rfl rfl
                                    exact b_same hi hI rfl _ (run_move_op rfl f19) rfl
                                  · intro a W hI hun haft hi
                                    have fg : a.eval (.tmp 115) = .bool true := haft ⟨20, .guard⟩ (by simp) rfl _ _ rfl rfl
                                    have e12 : a.eval (.tmp 12) = .int .i64 ((ka + 1 : Nat) : Int) := hun 12 (by kernel_rfl)
                                    exact b_same hi hI (guard_ok rfl rfl rfl fg) _ (run_move_op rfl e12) rfl
                                  · intro a W hI hun haft hi
                                    have fg : a.eval (.tmp 115) = .bool true := haft ⟨20, .guard⟩ (by simp) rfl _ _ rfl rfl
                                    have f21 : a.eval (.tmp 116) = .int .i64 ((ka + 1 : Nat) : Int) := haft ⟨21, .data⟩ (by simp) rfl _ _ rfl rfl
                                    exact b_same hi hI (guard_ok rfl rfl rfl fg) (.bool false) (run_bin_op rfl f21 rfl (by kernel_rfl) (run_eqz7 HKz.out W)) rfl
                                  · intro a W hI hun haft hi
                                    have fg : a.eval (.tmp 115) = .bool true := haft ⟨20, .guard⟩ (by simp) rfl _ _ rfl rfl
                                    have f22 : a.eval (.tmp 117) = .bool false := haft ⟨22, .data⟩ (by simp) rfl _ _ rfl rfl
                                    exact b_same hi hI (guard_ok rfl rfl rfl fg) _ (run_move_op rfl f22) rfl
                                  · intro a W hI hun haft hi
                                    have fg : a.eval (.tmp 118) = .bool false := haft ⟨23, .guard⟩ (by simp) rfl _ _ rfl rfl
                                    have e10 : a.eval (.tmp 10) = .pointer (some ⟨b10, 0, none⟩) := hun 10 (by kernel_rfl)
                                    exact b_same hi hI (guard_ok rfl rfl rfl fg) _ (run_fieldAddr_any rfl e10 (at_item1 _ 0 _)) rfl
                                  · intro a W hI hun haft hi
                                    have fg : a.eval (.tmp 118) = .bool false := haft ⟨23, .guard⟩ (by simp) rfl _ _ rfl rfl
                                    have f24 : a.eval (.tmp 119) = .pointer (some ⟨b10, 5, none⟩) := haft ⟨24, .data⟩ (by simp) rfl _ _ rfl rfl
                                    exact b_same hi hI (guard_ok rfl rfl rfl fg) _ (run_loadsl_op rfl f24 Try.underlying44 (HI5.out W hI)) rfl
                                  · intro a W hI hun haft hi
                                    have fg : a.eval (.tmp 118) = .bool false := haft ⟨23, .guard⟩ (by simp) rfl _ _ rfl rfl
                                    have e12 : a.eval (.tmp 12) = .int .i64 ((ka + 1 : Nat) : Int) := hun 12 (by kernel_rfl)
                                    exact b_same hi hI (guard_ok rfl rfl rfl fg) _ (run_move_op rfl e12) rfl
                                  · intro a W hI hun haft hi
                                    have fg : a.eval (.tmp 118) = .bool false := haft ⟨23, .guard⟩ (by simp) rfl _ _ rfl rfl
                                    have f26 : a.eval (.tmp 121) = .int .i64 ((ka + 1 : Nat) : Int) := haft ⟨26, .data⟩ (by simp) rfl _ _ rfl rfl
                                    exact b_same hi hI (guard_ok rfl rfl rfl fg) _ (run_bin_op rfl f26 rfl (by kernel_rfl) (sub1_P ka (by omega) W)) rfl
                                  · intro a W hI hun haft hi
                                    have fg : a.eval (.tmp 118) = .bool false := haft ⟨23, .guard⟩ (by simp) rfl _ _ rfl rfl
                                    have f25 : a.eval (.tmp 120) = .slice (some ⟨ge, oe, none⟩) N1 c1 := haft ⟨25, .data⟩ (by simp) rfl _ _ rfl rfl
                                    have f27 : a.eval (.tmp 122) = .int .i64 (ka : Nat) := haft ⟨27, .data⟩ (by simp) rfl _ _ rfl rfl
                                    exact b_same hi hI (guard_ok rfl rfl rfl fg) _ (run_indexAddr_op rfl f25 f27 (at_N ge oe c1 N1 ka (by omega) W)) rfl
                                  · intro a W hI hun haft hi
                                    have fg : a.eval (.tmp 118) = .bool false := haft ⟨23, .guard⟩ (by simp) rfl _ _ rfl rfl
                                    have f28 : a.eval (.tmp 123) = .pointer (some ⟨ge, oe + ka * 5, none⟩) := haft ⟨28, .data⟩ (by simp) rfl _ _ rfl rfl
                                    exact b_same hi hI (guard_ok rfl rfl rfl fg) _ (run_fieldAddr_any rfl f28 (at_entry0 _ _ _)) rfl
                                  · intro a W hI hun haft hi
                                    have fg : a.eval (.tmp 118) = .bool false := haft ⟨23, .guard⟩ (by simp) rfl _ _ rfl rfl
                                    have f29 : a.eval (.tmp 124) = .pointer (some ⟨ge, oe + ka * 5, none⟩) := haft ⟨29, .data⟩ (by simp) rfl _ _ rfl rfl
                                    exact b_same hi hI (guard_ok rfl rfl rfl fg) _ (run_loadmid_op rfl f29 (HPr.out W hI) Try.underlying33 rfl (by kernel_rfl)) rfl
                                  · intro a W hI hun haft hi
                                    have fg : a.eval (.tmp 118) = .bool false := haft ⟨23, .guard⟩ (by simp) rfl _ _ rfl rfl
                                    have e13 : a.eval (.tmp 13) = .pointer (some ⟨b13, 0, none⟩) := hun 13 (by kernel_rfl)
                                    exact b_same hi hI (guard_ok rfl rfl rfl fg) _ (run_fieldAddr_any rfl e13 (at_entry0 _ 0 _)) rfl
                                  · intro a W hI hun haft hi
                                    have fg : a.eval (.tmp 118) = .bool false := haft ⟨23, .guard⟩ (by simp) rfl _ _ rfl rfl
                                    have f31 : a.eval (.tmp 126) = .pointer (some ⟨b13, 0, none⟩) := haft ⟨31, .data⟩ (by simp) rfl _ _ rfl rfl
                                    exact b_same hi hI (guard_ok rfl rfl rfl fg) _ (run_loadmid_op rfl f31 (HQ0r.out W hI) Try.underlying33 rfl (by kernel_rfl)) rfl
                                  · intro a W hI hun haft hi
                                    have fg : a.eval (.tmp 118) = .bool false := haft ⟨23, .guard⟩ (by simp) rfl _ _ rfl rfl
                                    have f30 : a.eval (.tmp 125) = eD p0.1 := haft ⟨30, .data⟩ (by simp) rfl _ _ rfl rfl
                                    have f32 : a.eval (.tmp 127) = eD q.1 := haft ⟨32, .data⟩ (by simp) rfl _ _ rfl rfl
                                    refine b_call hi hI (guard_ok rfl rfl rfl fg) _ _ (run_call_op (args := #[eD p0.1, eD q.1]) rfl (by simp [f30, f32]) (by kernel_rfl)) ?_
                                    exact (first_is p0.1 q.1 true HFs.out W).mono fun e w' H => ⟨_, H.1, rfl, H.2⟩
                                  · intro a W hI hun haft hi
                                    have fg : a.eval (.tmp 115) = .bool true := haft ⟨20, .guard⟩ (by simp) rfl _ _ rfl rfl
                                    have f23 : a.eval (.tmp 118) = .bool false := haft ⟨23, .data⟩ (by simp) rfl _ _ rfl rfl
                                    have f33 : a.eval (.tmp 128) = .bool true := haft ⟨33, .data⟩ (by simp) rfl _ _ rfl rfl
                                    exact b_same hi hI (guard_ok rfl rfl rfl fg) _ (run_pick_op (b := false) rfl f23 rfl f33) rfl
                                  · intro a W hI hun haft hi
                                    have f20 : a.eval (.tmp 115) = .bool true := haft ⟨20, .data⟩ (by simp) rfl _ _ rfl rfl
                                    have f34 : a.eval (.tmp 129) = .bool true := haft ⟨34, .data⟩ (by simp) rfl _ _ rfl rfl
                                    exact b_same hi hI rfl _ (run_pick_op (b := true) rfl f20 f34 rfl) rfl
                                  · intro a W hI hun haft hi
                                    have f35 : a.eval (.tmp 130) = .bool true := haft ⟨35, .data⟩ (by simp) rfl _ _ rfl rfl
                                    exact b_same hi hI rfl _ (run_assign_op rfl f35) rfl
                                · intro vals W hI hp
                                  have hl36 : vals 36 = .bool true := hp 36 (by decide)
                                  have HI := Lib.hid hI
                                  clear hp hI
                                  simp only [layN, List.size_toArray, List.length_cons, List.length_nil, List.range, List.range.loop, if_true, List.getElem?_toArray, List.getElem?_cons_zero, List.getElem?_cons_succ, Act.put, List.setIfInBounds_toArray, List.set_cons_zero, List.set_cons_succ, Nat.zero_add, Nat.reduceAdd, hl36]
                                  clear hl36
                                  have HBX := Lib.hid (HBZ.out.trans (HI.out.mono HBZ.out.size))
                                  have hw := HWk.out
                                  clear HI
                                  go_wp2
                                  go_roundw
                                  case rel =>
                                    first
                                      | exact ⟨ka + 1 + 1, by go_num, by omega, by rw [HR.out], HBX.out⟩
                                      | (repeat apply Exists.intro (α := Value)
                                         refine And.intro ?rl ?fr
                                         case fr => repeat' (first | apply And.intro | rfl)
                                         case rl => exact ⟨ka + 1 + 1, by go_num, by omega, by rw [HR.out], HBX.out⟩)
                                  case measure => simp [intOf] <;> omega
              · have hR0 : okL x l k = rightI x l := by rw [show k = N1 by omega, ← HLN.out]; exact okL_full x l
                have hwk : Below w.heap.size w wk := HWY.out.trans (hbk.mono HWY.out.size)
                have HWk := Lib.hid hwk
                have HIk := Lib.hid (show Blk wk b10 46 #[.int .i64 x.k, .string x.a, .string x.b, .string x.c, .string x.d, .slice A1 N1 c1] from HBY.out.below hbk HBY.out.lt)
                have HOk := Lib.hid (show Below wo.heap.size wo wk from HbY.out.trans (hbk.mono HbY.out.size))
                have HMk := Lib.hid (HMY.out.same (hbk.block (sa + 1) (by have := HYz.out; omega)))
                have HSk := Lib.hid (show Below sa w3 wk from HSYb.out.trans (hbk.mono (by have := HYz.out; omega)))
                have HXl := Lib.hid (show LenE x from ⟨by have := HLx.out; omega, by have := HLx.out; omega, by have := HLx.out; omega, by have := HLx.out; omega⟩)
                have HNs := Lib.hid (show N1 ≤ 1000000 by have := HN20.out; omega)
                have HLs := Lib.hid (show l.length ≤ 20 by have := HN20.out; have := HLN.out; omega)
                have HPz := Lib.hid (show w.heap.size ≤ sa + 2 by have := HWa.out; omega)
                rw [hR0]
                clear hR0 hwk hbk
                cases hr : rightI x l
                · have HRr := Lib.hid hr
                  clear hr
                  go_wp2_with (first
                    | (refine wpList_load_if rfl 46 (.tmp 10) rfl b10 rfl _ _ _ _ HIk.out Try.underlying46 rfl (by kernel_rfl) ?_)
                    | fail)
                  refine (put_false HSt.out HOk.out HSz.out x l A1 N1 c1 HL1.out HWk.out HWa.out HPz.out HLN.out HNs.out HXl.out HFit.out.2.2.2.2.2 (HCo.out.below HWk.out) HRr.out).mono ?_
                  rintro e w6 ⟨rfl, hst6, hkp6, hit6⟩
                  have HSt6 := Lib.hid hst6
                  have HB6 := Lib.hid (show Below w.heap.size w w6 from HWk.out.trans (hkp6.below HWa.out HPz.out HWk.out.size))
                  have HI6 := Lib.hid (show Blk w6 b10 46 #[.int .i64 x.k, .string x.a, .string x.b, .string x.c, .string x.d, .slice A1 N1 c1] from (hit6 b10 (by rw [HB10.out]; exact Nat.le_refl _) HIk.out.lt).trans HIk.out)
                  have HM6 := Lib.hid (HMk.out.same (hkp6.same HMk.out.lt (by omega) (by omega)))
                  have HSb6 := Lib.hid (show Below sa w3 w6 from HSk.out.trans (hkp6.below (Nat.le_refl _) (by omega) (by have := HIk.out.lt; have := HSz.out; have := HB10.out; omega)))
                  clear hst6 hkp6 hit6
                  have HRl6 := HRl
                  obtain ⟨A2, n2, c2, l2, hg2, hs2, hn2, hl2, he2, hp2⟩ := HRl6.out.at_ x
                  have HG2 := Lib.hid hg2
                  have HS2 := Lib.hid hs2
                  have HN2 := Lib.hid hn2
                  have HE2 := Lib.hid he2
                  have HL2 := Lib.hid hl2
                  have HP2 := Lib.hid hp2
                  have HR6 := Lib.hid (show w6.rangeAt b10 0 (enL x) from World.rangeAt_of_block (C := #[.int .i64 x.k, .string x.a, .string x.b, .string x.c, .string x.d, .slice A1 N1 c1]) HI6.out 0 5)
                  clear hg2 hs2 hn2 he2 hl2 hp2
                  go_wp2_with (first
                    | (refine wpList_load_midif rfl 35 (.tmp 145) rfl b10 0 rfl (enL x) _ HR6.out Try.underlying35 rfl (by kernel_rfl) ?_)
                    | fail)
                  refine (entries_there HSt6.out x l2 n2 HN2.out HE2.out HL2.out HP2.out).mono ?_
                  rintro e w8 ⟨A3, c3, rfl, ho8, hb8⟩
                  have HO8 := Lib.hid ho8
                  have HB8 := Lib.hid hb8
                  have HM8 := Lib.hid (HM6.out.same (hb8.block (sa + 1) HM6.out.lt))
                  have HI8 := Lib.hid (show Blk w8 b10 46 #[.int .i64 x.k, .string x.a, .string x.b, .string x.c, .string x.d, .slice A1 N1 c1] from HI6.out.below hb8 HI6.out.lt)
                  have HW8 := Lib.hid (HB6.out.trans (hb8.mono HB6.out.size))
                  have HSb8 := Lib.hid (show Below sa w3 w8 from HSb6.out.trans (hb8.mono (by have := HI6.out.lt; have := HSz.out; have := HB10.out; omega)))
                  have HR8 := Lib.hid (show w8.rangeAt b10 0 (enL x) from World.rangeAt_of_block (C := #[.int .i64 x.k, .string x.a, .string x.b, .string x.c, .string x.d, .slice A1 N1 c1]) HI8.out 0 5)
                  clear ho8 hb8
                  go_upto_region 29 with (first
                    | (refine wpList_load_midif rfl 35 (.tmp 151) rfl b10 0 rfl (enL x) _ HR8.out Try.underlying35 rfl (by kernel_rfl) ?_)
                    | (refine wpList_val (o := ⟨some 153, _, _, _, _, _⟩) rfl (.slice A2 n2 c2) w8 (run_lookup_op rfl rfl rfl (look_M HM8.out x (A2, n2, c2) HG2.out)) ?_)
                    | fail)
                  go_wp2_with fail
                  go_loopw [158] (fun v158 wr => ∃ ii : Nat, v158 = .int .i64 ii ∧ ii ≤ n2 ∧ Below w8.heap.size w8 wr) (fun v158 _ => n2 - (intOf v158).toNat)
                  case atStart => exact ⟨0, by first | rfl | simp, Nat.zero_le _, Below.refl _ _⟩
                  case round =>
                    obtain ⟨ii, rfl, hi0, hbi⟩ := hrel
                    obtain ⟨wi, rfl⟩ : ∃ wi, wi = wr := ⟨_, rfl⟩
                    have HBj := Lib.hid hbi
                    clear hbi
                    by_cases hlt3 : ii < n2
                    · obtain ⟨y, hy⟩ : ∃ y, l2[ii]? = some y := ⟨l2[ii]'(by rw [HN2.out]; exact hlt3), List.getElem?_eq_getElem _⟩
                      obtain ⟨g3, rfl, _, hg3, he3⟩ := HO8.out.at_ enN_len hy
                      obtain ⟨g4, o4, rfl, hg4, he4⟩ := (HS2.out.below HW8.out).en hy
                      have HY1 : Hid (∀ W, Below w8.heap.size w8 W → W.rangeAt g3 (ii * 5) (enN y)) := Lib.hid fun W h => rangeAt_below he3 hg3 h
                      have HY2 : Hid (∀ W, Below w8.heap.size w8 W → W.rangeAt g4 (o4 + ii * 5) (enN y)) := Lib.hid fun W h => rangeAt_below he4 hg4 h
                      have HML : Hid (∀ W, Below w8.heap.size w8 W → (Instr.lookup 55 (.map (some (sa + 1))) (eE x) false).run Try.prog W = .ok (.slice (some ⟨g4, o4, none⟩) n2 c2) W) := Lib.hid fun W h => look_M (HM8.out.same (h.block (sa + 1) HM8.out.lt)) x (some ⟨g4, o4, none⟩, n2, c2) HG2.out
                      have HIe : Hid (∀ W, Below w8.heap.size w8 W → W.rangeAt b10 0 (enL x)) := Lib.hid fun W h => World.rangeAt_of_block (C := #[.int .i64 x.k, .string x.a, .string x.b, .string x.c, .string x.d, .slice A1 N1 c1]) (HI8.out.below h HI8.out.lt) 0 5
                      clear hy hg3 he3 hg4 he4
                      go_upto_region 32 with fail
                      try simp only [Act.put]
                      refine wp_region_any (by kernel_rfl) ?_
                      refine wpAny_below (fun i uq _ => uq = ([.slice (some ⟨g3, 0, none⟩) n2 c3, .int .i64 ii, .pointer (some ⟨g3, ii * 5, none⟩), enV y.1 y.2, .map (some (sa + 1)), .pointer (some ⟨b10, 0, none⟩), eE x, .slice (some ⟨g4, o4, none⟩) n2 c2, .int .i64 ii, .pointer (some ⟨g4, o4 + ii * 5, none⟩), enV y.1 y.2, .bool false] : List Value).getD i undef) _ wi (by kernel_rfl) (by kernel_rfl) (by kernel_rfl) (fun i v w w' _ h => h) ?_ ?_
                      · refine ⟨?_, ?_, ?_, ?_, ?_, ?_, ?_, ?_, ?_, ?_, ?_, ?_, trivial⟩
                        · intro a W hI hun haft hi
                          have e16 : a.eval (.tmp 16) = .slice (some ⟨g3, 0, none⟩) n2 c3 := hun 16 (by kernel_rfl)
                          exact b_same hi hI rfl _ (run_move_op rfl e16) rfl
                        · intro a W hI hun haft hi
                          have e17 : a.eval (.tmp 17) = .int .i64 ii := hun 17 (by kernel_rfl)
                          exact b_same hi hI rfl _ (run_move_op rfl e17) rfl
                        · intro a W hI hun haft hi
                          have f0 : a.eval (.tmp 161) = .slice (some ⟨g3, 0, none⟩) n2 c3 := haft ⟨0, .data⟩ (by simp) rfl _ _ rfl rfl
                          have f1 : a.eval (.tmp 162) = .int .i64 ii := haft ⟨1, .data⟩ (by simp) rfl _ _ rfl rfl
                          exact b_same hi hI rfl _ (run_indexAddr_op rfl f0 f1 (at_N0 g3 c3 n2 ii hlt3 _)) rfl
                        · intro a W hI hun haft hi
                          have f2 : a.eval (.tmp 163) = .pointer (some ⟨g3, ii * 5, none⟩) := haft ⟨2, .data⟩ (by simp) rfl _ _ rfl rfl
                          exact b_same hi hI rfl _ (run_loadmid_op rfl f2 (HY1.out W (HBj.out.trans (hI.mono HBj.out.size))) Try.underlying48 rfl (by kernel_rfl)) rfl
                        · intro a W hI hun haft hi
                          have e8 : a.eval (.tmp 8) = .map (some (sa + 1)) := hun 8 (by kernel_rfl)
                          exact b_same hi hI rfl _ (run_move_op rfl e8) rfl
                        · intro a W hI hun haft hi
                          have e10 : a.eval (.tmp 10) = .pointer (some ⟨b10, 0, none⟩) := hun 10 (by kernel_rfl)
                          exact b_same hi hI rfl _ (run_fieldAddr_any rfl e10 (at_item0 _ 0 _)) rfl
                        · intro a W hI hun haft hi
                          have f5 : a.eval (.tmp 166) = .pointer (some ⟨b10, 0, none⟩) := haft ⟨5, .data⟩ (by simp) rfl _ _ rfl rfl
                          exact b_same hi hI rfl _ (run_loadmid_op rfl f5 (HIe.out W (HBj.out.trans (hI.mono HBj.out.size))) Try.underlying35 rfl (by kernel_rfl)) rfl
                        · intro a W hI hun haft hi
                          have f4 : a.eval (.tmp 165) = .map (some (sa + 1)) := haft ⟨4, .data⟩ (by simp) rfl _ _ rfl rfl
                          have f6 : a.eval (.tmp 167) = eE x := haft ⟨6, .data⟩ (by simp) rfl _ _ rfl rfl
                          exact b_same hi hI rfl _ (run_lookup_op rfl f4 f6 (HML.out W (HBj.out.trans (hI.mono HBj.out.size)))) rfl
                        · intro a W hI hun haft hi
                          have e17 : a.eval (.tmp 17) = .int .i64 ii := hun 17 (by kernel_rfl)
                          exact b_same hi hI rfl _ (run_move_op rfl e17) rfl
                        · intro a W hI hun haft hi
                          have f7 : a.eval (.tmp 168) = .slice (some ⟨g4, o4, none⟩) n2 c2 := haft ⟨7, .data⟩ (by simp) rfl _ _ rfl rfl
                          have f8 : a.eval (.tmp 169) = .int .i64 ii := haft ⟨8, .data⟩ (by simp) rfl _ _ rfl rfl
                          exact b_same hi hI rfl _ (run_indexAddr_op rfl f7 f8 (at_N g4 o4 c2 n2 ii hlt3 _)) rfl
                        · intro a W hI hun haft hi
                          have f9 : a.eval (.tmp 170) = .pointer (some ⟨g4, o4 + ii * 5, none⟩) := haft ⟨9, .data⟩ (by simp) rfl _ _ rfl rfl
                          exact b_same hi hI rfl _ (run_loadmid_op rfl f9 (HY2.out W (HBj.out.trans (hI.mono HBj.out.size))) Try.underlying48 rfl (by kernel_rfl)) rfl
                        · intro a W hI hun haft hi
                          have f3 : a.eval (.tmp 164) = enV y.1 y.2 := haft ⟨3, .data⟩ (by simp) rfl _ _ rfl rfl
                          have f10 : a.eval (.tmp 171) = enV y.1 y.2 := haft ⟨10, .data⟩ (by simp) rfl _ _ rfl rfl
                          exact b_same hi hI rfl (.bool false) (run_bin_op rfl f3 f10 (by kernel_rfl) (ne_N y.1 y.2 _)) rfl
                      · intro vals W hI hp
                        have hl11 : vals 11 = .bool false := hp 11 (by decide)
                        have HI := Lib.hid hI
                        clear hp hI
                        simp only [layN, List.size_toArray, List.length_cons, List.length_nil, List.range, List.range.loop, if_true, List.getElem?_toArray, List.getElem?_cons_zero, List.getElem?_cons_succ, Act.put, List.setIfInBounds_toArray, List.set_cons_zero, List.set_cons_succ, Nat.zero_add, Nat.reduceAdd, hl11]
                        clear hl11
                        have HBk := Lib.hid (HBj.out.trans (HI.out.mono HBj.out.size))
                        clear HI
                        have hl2 := HL2.out
                        have hn2 := HN2.out
                        have hw := IntWalk.i64_in ((ii : Int) + 1) (by omega)
                        have hjm : ¬ 9223372036854775807 < ii + 1 := by omega
                        clear hl2 hn2
                        go_wp2
                        go_roundw
                        case rel => exact ⟨ii + 1, by go_num, by omega, HBk.out⟩
                        case measure => simp [intOf] <;> omega
                    · have hw := HWj.out
                      have HStE := Lib.hid ((HSt6.out.keep HB8.out).keep HBj.out)
                      have HME := Lib.hid (HM8.out.same (HBj.out.block (sa + 1) HM8.out.lt))
                      have HSE := Lib.hid (show Below sa w3 wi from HSb8.out.trans (HBj.out.mono (by have := HI8.out.lt; have := HSz.out; have := HB10.out; omega)))
                      have HZE := Lib.hid (show sa + 2 ≤ wi.heap.size by have := HI8.out.lt; have := HBj.out.size; have := HSz.out; have := HB10.out; omega)
                      have hj1 : j + 1 ≤ N := HJn.out
                      have HJ1 := Lib.hid hj1
                      clear hj1
                      go_wp2
                      go_roundw
                      case rel => exact ⟨j + 1, σ, M, by go_num, HJ1.out, HStE.out, HME.out, HRl6.out, HSE.out, HZE.out⟩
                      case measure => have := HJn.out; simp [intOf] <;> omega
                · have HRr := Lib.hid hr
                  clear hr
                  go_wp2_with (first
                    | (refine wpList_load_if rfl 46 (.tmp 10) rfl b10 rfl _ _ _ _ HIk.out Try.underlying46 rfl (by kernel_rfl) ?_)
                    | fail)
                  refine (put_true HSt.out HOk.out HSz.out x l A1 N1 c1 HL1.out HWk.out HWa.out HPz.out HLN.out HNs.out HXl.out HFit.out.2.2.2.2.2 (HCo.out.below HWk.out) HRr.out).mono ?_
                  rintro e w6 ⟨rfl, hst6, hkp6, hit6⟩
                  have HSt6 := Lib.hid hst6
                  have HB6 := Lib.hid (show Below w.heap.size w w6 from HWk.out.trans (hkp6.below HWa.out HPz.out HWk.out.size))
                  have HI6 := Lib.hid (show Blk w6 b10 46 #[.int .i64 x.k, .string x.a, .string x.b, .string x.c, .string x.d, .slice A1 N1 c1] from (hit6 b10 (by rw [HB10.out]; exact Nat.le_refl _) HIk.out.lt).trans HIk.out)
                  have HM6 := Lib.hid (HMk.out.same (hkp6.same HMk.out.lt (by omega) (by omega)))
                  have HSb6 := Lib.hid (show Below sa w3 w6 from HSk.out.trans (hkp6.below (Nat.le_refl _) (by omega) (by have := HIk.out.lt; have := HSz.out; have := HB10.out; omega)))
                  clear hst6 hkp6 hit6
                  obtain ⟨w7, hmu, hm7, hbut7, hz7, _⟩ := put_run HM6.out keyE Try.underlying55 x ((A1, N1, c1) : Option Addr × Nat × Nat)
                  have HMu := Lib.hid hmu
                  have HM7 := Lib.hid hm7
                  have HSt7 := Lib.hid (HSt6.out.beside hbut7 (by omega) (by omega))
                  have HI7 := Lib.hid (show Blk w7 b10 46 #[.int .i64 x.k, .string x.a, .string x.b, .string x.c, .string x.d, .slice A1 N1 c1] from (hbut7.block b10 HI6.out.lt (fun e => by have := Option.some.inj e; have := HSz.out; have := HB10.out; omega)).trans HI6.out)
                  have HB7 := Lib.hid (show Below w.heap.size w w7 from HB6.out.trans (but_below hbut7 (by have := HWa.out; omega) HB6.out.size))
                  have HSb7 := Lib.hid (show Below sa w3 w7 from HSb6.out.trans (but_below hbut7 (by omega) (by have := HI6.out.lt; have := HSz.out; have := HB10.out; omega)))
                  have HRl7 := Lib.hid (HRl.out.put HL1.out HLN.out HLs.out HRr.out)
                  have HR6 := Lib.hid (show w6.rangeAt b10 0 (enL x) from World.rangeAt_of_block (C := #[.int .i64 x.k, .string x.a, .string x.b, .string x.c, .string x.d, .slice A1 N1 c1]) HI6.out 0 5)
                  have k5 : w6.cell? ⟨b10, 5, none⟩ = some (.slice A1 N1 c1) := (Blk.cell HI6.out 5).trans rfl
                  clear hmu hm7 hbut7 hz7
                  go_upto_region 26 with (first
                    | (refine wpList_load_midif rfl 35 (.tmp 140) rfl b10 0 rfl (enL x) _ HR6.out Try.underlying35 rfl (by kernel_rfl) ?_)
                    | (refine wpList_act (o := ⟨none, _, _, _, _, _⟩) rfl w7 (run_mapUpdate_op rfl rfl rfl rfl HMu.out) ?_)
                    | fail)
                  clear k5
                  obtain ⟨A2, n2, c2, l2, hg2, hs2, hn2, hl2, he2, hp2⟩ := HRl7.out.at_ x
                  have HG2 := Lib.hid hg2
                  have HS2 := Lib.hid hs2
                  have HN2 := Lib.hid hn2
                  have HE2 := Lib.hid he2
                  have HL2 := Lib.hid hl2
                  have HP2 := Lib.hid hp2
                  have HR7 := Lib.hid (show w7.rangeAt b10 0 (enL x) from World.rangeAt_of_block (C := #[.int .i64 x.k, .string x.a, .string x.b, .string x.c, .string x.d, .slice A1 N1 c1]) HI7.out 0 5)
                  clear hg2 hs2 hn2 he2 hl2 hp2
                  go_wp2_with (first
                    | (refine wpList_load_midif rfl 35 (.tmp 145) rfl b10 0 rfl (enL x) _ HR7.out Try.underlying35 rfl (by kernel_rfl) ?_)
                    | fail)
                  refine (entries_there HSt7.out x l2 n2 HN2.out HE2.out HL2.out HP2.out).mono ?_
                  rintro e w8 ⟨A3, c3, rfl, ho8, hb8⟩
                  have HO8 := Lib.hid ho8
                  have HB8 := Lib.hid hb8
                  have HM8 := Lib.hid (HM7.out.same (hb8.block (sa + 1) HM7.out.lt))
                  have HI8 := Lib.hid (show Blk w8 b10 46 #[.int .i64 x.k, .string x.a, .string x.b, .string x.c, .string x.d, .slice A1 N1 c1] from HI7.out.below hb8 HI7.out.lt)
                  have HW8 := Lib.hid (HB7.out.trans (hb8.mono HB7.out.size))
                  have HSb8 := Lib.hid (show Below sa w3 w8 from HSb7.out.trans (hb8.mono (by have := HI7.out.lt; have := HSz.out; have := HB10.out; omega)))
                  have HR8 := Lib.hid (show w8.rangeAt b10 0 (enL x) from World.rangeAt_of_block (C := #[.int .i64 x.k, .string x.a, .string x.b, .string x.c, .string x.d, .slice A1 N1 c1]) HI8.out 0 5)
                  clear ho8 hb8
                  go_upto_region 29 with (first
                    | (refine wpList_load_midif rfl 35 (.tmp 151) rfl b10 0 rfl (enL x) _ HR8.out Try.underlying35 rfl (by kernel_rfl) ?_)
                    | (refine wpList_val (o := ⟨some 153, _, _, _, _, _⟩) rfl (.slice A2 n2 c2) w8 (run_lookup_op rfl rfl rfl (look_M HM8.out x (A2, n2, c2) HG2.out)) ?_)
                    | fail)
                  go_wp2_with fail
                  go_loopw [158] (fun v158 wr => ∃ ii : Nat, v158 = .int .i64 ii ∧ ii ≤ n2 ∧ Below w8.heap.size w8 wr) (fun v158 _ => n2 - (intOf v158).toNat)
                  case atStart => exact ⟨0, by first | rfl | simp, Nat.zero_le _, Below.refl _ _⟩
                  case round =>
                    obtain ⟨ii, rfl, hi0, hbi⟩ := hrel
                    obtain ⟨wi, rfl⟩ : ∃ wi, wi = wr := ⟨_, rfl⟩
                    have HBj := Lib.hid hbi
                    clear hbi
                    by_cases hlt3 : ii < n2
                    · obtain ⟨y, hy⟩ : ∃ y, l2[ii]? = some y := ⟨l2[ii]'(by rw [HN2.out]; exact hlt3), List.getElem?_eq_getElem _⟩
                      obtain ⟨g3, rfl, _, hg3, he3⟩ := HO8.out.at_ enN_len hy
                      obtain ⟨g4, o4, rfl, hg4, he4⟩ := (HS2.out.below HW8.out).en hy
                      have HY1 : Hid (∀ W, Below w8.heap.size w8 W → W.rangeAt g3 (ii * 5) (enN y)) := Lib.hid fun W h => rangeAt_below he3 hg3 h
                      have HY2 : Hid (∀ W, Below w8.heap.size w8 W → W.rangeAt g4 (o4 + ii * 5) (enN y)) := Lib.hid fun W h => rangeAt_below he4 hg4 h
                      have HML : Hid (∀ W, Below w8.heap.size w8 W → (Instr.lookup 55 (.map (some (sa + 1))) (eE x) false).run Try.prog W = .ok (.slice (some ⟨g4, o4, none⟩) n2 c2) W) := Lib.hid fun W h => look_M (HM8.out.same (h.block (sa + 1) HM8.out.lt)) x (some ⟨g4, o4, none⟩, n2, c2) HG2.out
                      have HIe : Hid (∀ W, Below w8.heap.size w8 W → W.rangeAt b10 0 (enL x)) := Lib.hid fun W h => World.rangeAt_of_block (C := #[.int .i64 x.k, .string x.a, .string x.b, .string x.c, .string x.d, .slice A1 N1 c1]) (HI8.out.below h HI8.out.lt) 0 5
                      clear hy hg3 he3 hg4 he4
                      go_upto_region 32 with fail
                      try simp only [Act.put]
                      refine wp_region_any (by kernel_rfl) ?_
                      refine wpAny_below (fun i uq _ => uq = ([.slice (some ⟨g3, 0, none⟩) n2 c3, .int .i64 ii, .pointer (some ⟨g3, ii * 5, none⟩), enV y.1 y.2, .map (some (sa + 1)), .pointer (some ⟨b10, 0, none⟩), eE x, .slice (some ⟨g4, o4, none⟩) n2 c2, .int .i64 ii, .pointer (some ⟨g4, o4 + ii * 5, none⟩), enV y.1 y.2, .bool false] : List Value).getD i undef) _ wi (by kernel_rfl) (by kernel_rfl) (by kernel_rfl) (fun i v w w' _ h => h) ?_ ?_
                      · refine ⟨?_, ?_, ?_, ?_, ?_, ?_, ?_, ?_, ?_, ?_, ?_, ?_, trivial⟩
                        · intro a W hI hun haft hi
                          have e16 : a.eval (.tmp 16) = .slice (some ⟨g3, 0, none⟩) n2 c3 := hun 16 (by kernel_rfl)
                          exact b_same hi hI rfl _ (run_move_op rfl e16) rfl
                        · intro a W hI hun haft hi
                          have e17 : a.eval (.tmp 17) = .int .i64 ii := hun 17 (by kernel_rfl)
                          exact b_same hi hI rfl _ (run_move_op rfl e17) rfl
                        · intro a W hI hun haft hi
                          have f0 : a.eval (.tmp 161) = .slice (some ⟨g3, 0, none⟩) n2 c3 := haft ⟨0, .data⟩ (by simp) rfl _ _ rfl rfl
                          have f1 : a.eval (.tmp 162) = .int .i64 ii := haft ⟨1, .data⟩ (by simp) rfl _ _ rfl rfl
                          exact b_same hi hI rfl _ (run_indexAddr_op rfl f0 f1 (at_N0 g3 c3 n2 ii hlt3 _)) rfl
                        · intro a W hI hun haft hi
                          have f2 : a.eval (.tmp 163) = .pointer (some ⟨g3, ii * 5, none⟩) := haft ⟨2, .data⟩ (by simp) rfl _ _ rfl rfl
                          exact b_same hi hI rfl _ (run_loadmid_op rfl f2 (HY1.out W (HBj.out.trans (hI.mono HBj.out.size))) Try.underlying48 rfl (by kernel_rfl)) rfl
                        · intro a W hI hun haft hi
                          have e8 : a.eval (.tmp 8) = .map (some (sa + 1)) := hun 8 (by kernel_rfl)
                          exact b_same hi hI rfl _ (run_move_op rfl e8) rfl
                        · intro a W hI hun haft hi
                          have e10 : a.eval (.tmp 10) = .pointer (some ⟨b10, 0, none⟩) := hun 10 (by kernel_rfl)
                          exact b_same hi hI rfl _ (run_fieldAddr_any rfl e10 (at_item0 _ 0 _)) rfl
                        · intro a W hI hun haft hi
                          have f5 : a.eval (.tmp 166) = .pointer (some ⟨b10, 0, none⟩) := haft ⟨5, .data⟩ (by simp) rfl _ _ rfl rfl
                          exact b_same hi hI rfl _ (run_loadmid_op rfl f5 (HIe.out W (HBj.out.trans (hI.mono HBj.out.size))) Try.underlying35 rfl (by kernel_rfl)) rfl
                        · intro a W hI hun haft hi
                          have f4 : a.eval (.tmp 165) = .map (some (sa + 1)) := haft ⟨4, .data⟩ (by simp) rfl _ _ rfl rfl
                          have f6 : a.eval (.tmp 167) = eE x := haft ⟨6, .data⟩ (by simp) rfl _ _ rfl rfl
                          exact b_same hi hI rfl _ (run_lookup_op rfl f4 f6 (HML.out W (HBj.out.trans (hI.mono HBj.out.size)))) rfl
                        · intro a W hI hun haft hi
                          have e17 : a.eval (.tmp 17) = .int .i64 ii := hun 17 (by kernel_rfl)
                          exact b_same hi hI rfl _ (run_move_op rfl e17) rfl
                        · intro a W hI hun haft hi
                          have f7 : a.eval (.tmp 168) = .slice (some ⟨g4, o4, none⟩) n2 c2 := haft ⟨7, .data⟩ (by simp) rfl _ _ rfl rfl
                          have f8 : a.eval (.tmp 169) = .int .i64 ii := haft ⟨8, .data⟩ (by simp) rfl _ _ rfl rfl
                          exact b_same hi hI rfl _ (run_indexAddr_op rfl f7 f8 (at_N g4 o4 c2 n2 ii hlt3 _)) rfl
                        · intro a W hI hun haft hi
                          have f9 : a.eval (.tmp 170) = .pointer (some ⟨g4, o4 + ii * 5, none⟩) := haft ⟨9, .data⟩ (by simp) rfl _ _ rfl rfl
                          exact b_same hi hI rfl _ (run_loadmid_op rfl f9 (HY2.out W (HBj.out.trans (hI.mono HBj.out.size))) Try.underlying48 rfl (by kernel_rfl)) rfl
                        · intro a W hI hun haft hi
                          have f3 : a.eval (.tmp 164) = enV y.1 y.2 := haft ⟨3, .data⟩ (by simp) rfl _ _ rfl rfl
                          have f10 : a.eval (.tmp 171) = enV y.1 y.2 := haft ⟨10, .data⟩ (by simp) rfl _ _ rfl rfl
                          exact b_same hi hI rfl (.bool false) (run_bin_op rfl f3 f10 (by kernel_rfl) (ne_N y.1 y.2 _)) rfl
                      · intro vals W hI hp
                        have hl11 : vals 11 = .bool false := hp 11 (by decide)
                        have HI := Lib.hid hI
                        clear hp hI
                        simp only [layN, List.size_toArray, List.length_cons, List.length_nil, List.range, List.range.loop, if_true, List.getElem?_toArray, List.getElem?_cons_zero, List.getElem?_cons_succ, Act.put, List.setIfInBounds_toArray, List.set_cons_zero, List.set_cons_succ, Nat.zero_add, Nat.reduceAdd, hl11]
                        clear hl11
                        have HBk := Lib.hid (HBj.out.trans (HI.out.mono HBj.out.size))
                        clear HI
                        have hl2 := HL2.out
                        have hn2 := HN2.out
                        have hw := IntWalk.i64_in ((ii : Int) + 1) (by omega)
                        have hjm : ¬ 9223372036854775807 < ii + 1 := by omega
                        clear hl2 hn2
                        go_wp2
                        go_roundw
                        case rel => exact ⟨ii + 1, by go_num, by omega, HBk.out⟩
                        case measure => simp [intOf] <;> omega
                    · have hw := HWj.out
                      have HStE := Lib.hid ((HSt7.out.keep HB8.out).keep HBj.out)
                      have HME := Lib.hid (HM8.out.same (HBj.out.block (sa + 1) HM8.out.lt))
                      have HSE := Lib.hid (show Below sa w3 wi from HSb8.out.trans (HBj.out.mono (by have := HI8.out.lt; have := HSz.out; have := HB10.out; omega)))
                      have HZE := Lib.hid (show sa + 2 ≤ wi.heap.size by have := HI8.out.lt; have := HBj.out.size; have := HSz.out; have := HB10.out; omega)
                      have hj1 : j + 1 ≤ N := HJn.out
                      have HJ1 := Lib.hid hj1
                      clear hj1
                      go_wp2
                      go_roundw
                      case rel => exact ⟨j + 1, putI x l σ, putL x (A1, N1, c1) M, by go_num, HJ1.out, HStE.out, HME.out, HRl7.out, HSE.out, HZE.out⟩
                      case measure => have := HJn.out; simp [intOf] <;> omega
      · have HA1 := Lib.hid (show Blk wo p 35 #[.int .i64 xa.k, .string xa.a, .string xa.b, .string xa.c, .string xa.d] from (HEa.out.below HQ3.out HEa.out.lt).below hbw (by have := HPs.out; omega))
        have HB1 := Lib.hid (show Blk wo (p + 1) 35 #[.int .i64 xb.k, .string xb.a, .string xb.b, .string xb.c, .string xb.d] from (HEb.out.below HQ3.out HEb.out.lt).below hbw (by have := HPs.out; omega))
        have HW1 := Lib.hid (show Below w.heap.size w wo from HB3.out.trans (hbw.mono HWa.out))
        clear hst hmp hrl hbw hsz
        go_wp2_with (first
          | (refine wpList_load_if rfl 35 (.tmp 4) rfl p rfl _ _ _ _ HA1.out Try.underlying35 rfl (by kernel_rfl) ?_)
          | (refine wpList_load_if rfl 35 (.tmp 5) rfl (p + 1) rfl _ _ _ _ HB1.out Try.underlying35 rfl (by kernel_rfl) ?_)
          | fail)
        cases h1 : lessB xa xb
        · refine (less_is xa xb false h1 wo).mono ?_
          rintro e w5 ⟨rfl, hb5⟩
          have HA5 := Lib.hid (HA1.out.below hb5 HA1.out.lt)
          have HB5 := Lib.hid (HB1.out.below hb5 HB1.out.lt)
          have HW5 := Lib.hid (HW1.out.trans (hb5.mono HW1.out.size))
          clear hb5
          go_wp2_with (first
            | (refine wpList_load_if rfl 35 (.tmp 4) rfl p rfl _ _ _ _ HA5.out Try.underlying35 rfl (by kernel_rfl) ?_)
            | (refine wpList_load_if rfl 35 (.tmp 5) rfl (p + 1) rfl _ _ _ _ HB5.out Try.underlying35 rfl (by kernel_rfl) ?_)
            | fail)
          cases h2 : lessB xb xa
          · refine (less_is xb xa false h2 w5).mono ?_
            rintro e w6 ⟨rfl, hb6⟩
            have HZ := Lib.hid (show cfE xa xb = 0 by rw [cfE_sign, h1, h2]; rfl)
            have HA6 := Lib.hid (HA5.out.below hb6 HA5.out.lt)
            have HB6 := Lib.hid (HB5.out.below hb6 HB5.out.lt)
            have HW6 := Lib.hid (HW5.out.trans (hb6.mono HW5.out.size))
            clear hb6
            clear h1 h2
            go_wp2_with (first
              | (refine wpList_load_if rfl 35 (.tmp 4) rfl p rfl _ _ _ _ HA6.out Try.underlying35 rfl (by kernel_rfl) ?_)
              | (refine wpList_load_if rfl 35 (.tmp 5) rfl (p + 1) rfl _ _ _ _ HB6.out Try.underlying35 rfl (by kernel_rfl) ?_)
              | fail)
            refine (order_any xa xb _).mono ?_
            rintro e w7 ⟨rfl, hg7⟩
            have HW7 := Lib.hid (HW6.out.trans (hg7.below.mono HW6.out.size))
            clear hg7
            rw [HZ.out]
            go_wp2
            go_ret
            exact ⟨rfl, HW7.out⟩
          · refine (less_is xb xa true h2 w5).mono ?_
            rintro e w6 ⟨rfl, hb6⟩
            have HZ := Lib.hid (show cfE xa xb = 1 by rw [cfE_sign, h1, h2]; rfl)
            have HA6 := Lib.hid (HA5.out.below hb6 HA5.out.lt)
            have HB6 := Lib.hid (HB5.out.below hb6 HB5.out.lt)
            have HW6 := Lib.hid (HW5.out.trans (hb6.mono HW5.out.size))
            clear hb6
            clear h1 h2
            go_wp2_with (first
              | (refine wpList_load_if rfl 35 (.tmp 4) rfl p rfl _ _ _ _ HA6.out Try.underlying35 rfl (by kernel_rfl) ?_)
              | (refine wpList_load_if rfl 35 (.tmp 5) rfl (p + 1) rfl _ _ _ _ HB6.out Try.underlying35 rfl (by kernel_rfl) ?_)
              | fail)
            refine (order_any xa xb _).mono ?_
            rintro e w7 ⟨rfl, hg7⟩
            have HW7 := Lib.hid (HW6.out.trans (hg7.below.mono HW6.out.size))
            clear hg7
            rw [HZ.out]
            go_wp2
            go_ret
            exact ⟨rfl, HW7.out⟩
        · refine (less_is xa xb true h1 wo).mono ?_
          rintro e w5 ⟨rfl, hb5⟩
          have HZ := Lib.hid (show cfE xa xb = -1 by rw [cfE_sign, h1]; rfl)
          have HA5 := Lib.hid (HA1.out.below hb5 HA1.out.lt)
          have HB5 := Lib.hid (HB1.out.below hb5 HB1.out.lt)
          have HW5 := Lib.hid (HW1.out.trans (hb5.mono HW1.out.size))
          clear hb5
          clear h1
          go_wp2_with (first
            | (refine wpList_load_if rfl 35 (.tmp 4) rfl p rfl _ _ _ _ HA5.out Try.underlying35 rfl (by kernel_rfl) ?_)
            | (refine wpList_load_if rfl 35 (.tmp 5) rfl (p + 1) rfl _ _ _ _ HB5.out Try.underlying35 rfl (by kernel_rfl) ?_)
            | fail)
          refine (order_any xa xb _).mono ?_
          rintro e w7 ⟨rfl, hg7⟩
          have HW7 := Lib.hid (HW5.out.trans (hg7.below.mono HW5.out.size))
          clear hg7
          rw [HZ.out]
          go_wp2
          go_ret
          exact ⟨rfl, HW7.out⟩

end Go.Proofs.Ytojhloaleefieaa
