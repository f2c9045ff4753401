/-
  hedgerowlaw09.AcceptOrder: the walk. Conditions: lengths.
-/
import Derived.Test.YtmhechlfpaciiaaJAoOps
import Derived.Deep.DeepCutAuto
namespace Go.Proofs.Ytmhechlfpaciiaa
open Go.RowKit Go.MapKept Go.Sort

/-- What stands ahead of the outer loop's round i: what is newer than G has turned alone, and the sums of the first i events are there. -/
structure OrdI (w2 : World) (G N i : Nat) (d : Array Ev) (ss : List Int) (W : World) : Prop where
  below : Below G w2 W
  row : OwnK encN G 3 1 W (.slice (some ⟨G, 0, none⟩) N N) ss
  len : ss.length = N
  done : ∀ k, k < i → ss[k]? = some (sumN d[k]!.p 16)
  rest : ∀ k, i ≤ k → k < N → ss[k]? = some 0
theorem OrdI.keep {w2 W W' : World} {G N i : Nat} {d : Array Ev} {ss : List Int} (h : OrdI w2 G N i d ss W) (hG : G ≤ W.heap.size) (hb : Below W.heap.size W W') : OrdI w2 G N i d ss W' :=
  ⟨h.below.trans (hb.mono hG), h.row.keep hb, h.len, h.done, h.rest⟩
/-- The same within the round of event i, whose sum is s as yet. -/
structure OrdK (w2 : World) (G N i : Nat) (d : Array Ev) (ss : List Int) (s : Int) (W : World) : Prop where
  below : Below G w2 W
  row : OwnK encN G 3 1 W (.slice (some ⟨G, 0, none⟩) N N) ss
  len : ss.length = N
  done : ∀ k, k < i → ss[k]? = some (sumN d[k]!.p 16)
  now : ss[i]? = some s
  rest : ∀ k, i < k → k < N → ss[k]? = some 0
theorem OrdK.keep {w2 W W' : World} {G N i : Nat} {d : Array Ev} {ss : List Int} {s : Int} (h : OrdK w2 G N i d ss s W) (hG : G ≤ W.heap.size) (hb : Below W.heap.size W W') : OrdK w2 G N i d ss s W' :=
  ⟨h.below.trans (hb.mono hG), h.row.keep hb, h.len, h.done, h.now, h.rest⟩
theorem OrdI.enter {w2 W : World} {G N i : Nat} {d : Array Ev} {ss : List Int} (h : OrdI w2 G N i d ss W) (hi : i < N) : OrdK w2 G N i d ss 0 W :=
  ⟨h.below, h.row, h.len, h.done, h.rest i (Nat.le_refl _) hi, fun k h1 h2 => h.rest k (Nat.le_of_lt h1) h2⟩
theorem OrdK.leave {w2 W : World} {G N i : Nat} {d : Array Ev} {ss : List Int} (h : OrdK w2 G N i d ss (sumN d[i]!.p 16) W) : OrdI w2 G N (i + 1) d ss W :=
  ⟨h.below, h.row, h.len, fun k hk => by
    by_cases e : k = i
    · subst e; exact h.now
    · exact h.done k (by omega), fun k h1 h2 => h.rest k (by omega) h2⟩
theorem OrdK.cell {w2 W : World} {G N i : Nat} {d : Array Ev} {ss : List Int} {s : Int} (h : OrdK w2 G N i d ss s W) : W.cell? ⟨G, i, none⟩ = some (.int .i64 s) := by
  obtain ⟨g2, hA, _, _, hr⟩ := h.row.at_ encN_len h.now
  injection hA with hA
  injection hA with hA
  subst hA
  have := hr 0 _ rfl
  rwa [Nat.add_zero, Nat.mul_one] at this
theorem below_sc {B : Nat} {w W : World} (h : Below B w W) (g o : Nat) (vs : List Value) (hg : B ≤ g) : Below B w (W.setCells g o vs) :=
  ⟨(os_sc g vs o W).trans h.os, (tape_sc g vs o W).trans h.tape, (out_sc g vs o W).trans h.output, by rw [size_sc]; exact h.size, fun k hk => (heap_sc g k (by omega) vs o W).trans (h.block k hk)⟩
theorem OrdK.store {w2 W : World} {G N i : Nat} {d : Array Ev} {ss : List Int} {s : Int} (h : OrdK w2 G N i d ss s W) (hi : i < N) (s' : Int) : W.there G i 1 ∧ OrdK w2 G N i d (ss.set i s') s' (W.setCells G i (encN s')) := by
  obtain ⟨h1, h2, _⟩ := h.row.put_ encN_len (by decide) (j := i) (by rw [h.len]; exact hi) s'
  rw [Nat.mul_one] at h1 h2
  refine ⟨h1, below_sc h.below G i _ (Nat.le_refl _), h2, by rw [List.length_set]; exact h.len, fun k hk => ?_, ?_, fun k h3 h4 => ?_⟩
  · rw [List.getElem?_set_ne (by omega)]; exact h.done k hk
  · rw [List.getElem?_set_self (by rw [h.len]; exact hi)]
  · rw [List.getElem?_set_ne (by omega)]; exact h.rest k h3 h4
theorem run_minI_op {P : Program} {o : Oper} {ρ : Operand → Value} {w : World} {x y : Operand} {t t' : TypeId} {a b : Int} (ho : o.op = .call { callee := .builtin .min, args := #[x, y], argTypes := #[t, t'] }) (hx : ρ x = .int .i64 a) (hy : ρ y = .int .i64 b) : (execOp ρ o).run P w = .ok (.value (.int .i64 (min a b))) w := by
  unfold execOp
  have hr := Lib.run_min_ints (P := P) w #[t, t'] o.type .i64 .i64 a b
  simp only [ho, resolve, invoke, builtin, Sem.run_bind, Sem.run_pure, Result.andThen_ok, List.map_toArray, List.map_cons, List.map_nil, hx, hy, hr]
theorem run_storeI_op {P : Program} {o : Oper} {ρ : Operand → Value} {w : World} {ty : TypeId} {x y : Operand} {g k : Nat} {v : Int} (ho : o.op = .store ty x y) (hx : ρ x = .pointer (some ⟨g, k, none⟩)) (hy : ρ y = .int .i64 v) (hi : (P.info? ty).map (·.size) = some 1) (ht : w.there g k 1) :
    (execOp ρ o).run P w = .ok .skip (w.setCells g k (encN v)) := by
  obtain ⟨h1, h2⟩ := ht 0 (by decide)
  rw [Nat.add_zero] at h1 h2
  obtain ⟨u, hc⟩ := Option.isSome_iff_exists.1 h1
  cases hq : P.info? ty with
  | none => simp [hq] at hi
  | some i =>
    have hs : i.size = 1 := by simpa [hq] using hi
    have h2' : (storeVar ty ⟨g, k, none⟩ (.int .i64 v)).run P w = .ok () (w.setCell ⟨g, k, none⟩ (.int .i64 v)) := by
      have hcs : (Value.int .i64 v).cells = #[.int .i64 v] := rfl
      simp [storeVar, hcs, sizeOf, typeInfo, hq, hs, storeCells, run_store P _ _ (.int .i64 v) _ rfl, Addr.add_zero', hc, h2, Result.andThen]
    unfold execOp
    simp only [ho, hx, hy, Instr.storeAt, Instr.sureAddr, Sem.run_bind, Sem.run_pure, Result.andThen_ok, h2']
    rfl
theorem addI (a b c : Int) (e : a + b = c) (h1 : 0 ≤ c) (h2 : c ≤ 9223372036854775807) (w : World) : (binOp .add 3 (.int .i64 a) (.int .i64 b)).run Try.prog w = .ok (.int .i64 c) w := by
  subst e
  have hi := IntWalk.i64_in (a + b) (by omega)
  go_simp
theorem subI (a b c : Int) (e : a - b = c) (h1 : 0 ≤ c) (h2 : c ≤ 9223372036854775807) (w : World) : (binOp .sub 3 (.int .i64 a) (.int .i64 b)).run Try.prog w = .ok (.int .i64 c) w := by
  subst e
  have hi := IntWalk.i64_in (a - b) (by omega)
  go_simp
theorem sumN_idle {f : Nat → Int} {k : Nat} (h : ¬ 0 < f k) : sumN f (k + 1) = sumN f k := by
  have h1 := sumN_in f k
  show sumN f k + min (max (f k) 0) (4611686018427387904 - sumN f k) = sumN f k
  omega
theorem sumN_more {f : Nat → Int} {k : Nat} (h : 0 < f k) : sumN f (k + 1) = min (sumN f k + min (f k) (4611686018427387904 - sumN f k)) 4611686018427387904 := by
  have h1 := sumN_in f k
  show sumN f k + min (max (f k) 0) (4611686018427387904 - sumN f k) = _
  omega
theorem few_is9o (l : List Ev) (A : Option Addr) (N c : Nat) (hN : l.length = N) (hN2 : N ≤ 4611686018427387903) (hf : ∀ e ∈ l, Fit e) (b : Bool) (h : few9B l = b) (w : World) (hs : SlK encE 27 w (.slice A N c) l) :
    Calls Try.prog 27 #[.slice A N c] w (Gives w (.bool b)) := by
  have := few9_any l A N c w hs hN hN2 hf; rwa [h] at this
theorem toList_at {d : Array Ev} {N i : Nat} (hN : d.size = N) (hi : i < N) : d.toList[i]? = some d[i]! := by
  have hi2 : i < d.size := by omega
  rw [Array.getElem?_toList, Array.getElem?_eq_getElem hi2, getElem!_pos d i hi2]
theorem at_evd (g q : Nat) (w : World) : (Instr.fieldAt 39 (.pointer (some ⟨g, q, none⟩)) 0).run Try.prog w = .ok (.pointer (some ⟨g, q, none⟩)) w := by go_simp
theorem at_dd0 (g q : Nat) (w : World) : (Instr.fieldAt 33 (.pointer (some ⟨g, q, none⟩)) 0).run Try.prog w = .ok (.pointer (some ⟨g, q, none⟩)) w := by go_simp
theorem at_dd1 (g : Nat) (w : World) : (Instr.fieldAt 33 (.pointer (some ⟨g, 0, none⟩)) 1).run Try.prog w = .ok (.pointer (some ⟨g, 1, none⟩)) w := by go_simp
theorem infoDt : (Try.prog.info? 33).map (fun i => (i.zero, i.size)) = some (some (.agg #[.int .i64 0, .int .i64 0]), 2) := by kernel_rfl
theorem sizeDtO : (Try.prog.info? 33).map (·.size) = some 2 := by kernel_rfl
def dtC (e : Ev) : Array Value := #[.int .i64 e.r, .int .i64 e.c]
theorem dtC_one (e : Ev) : ((dtC e).all fun x => x.oneCell') = true := by kernel_rfl
theorem run_allocD_op {o : Oper} {ρ : Operand → Value} {w : World} (ho : o.op = .alloc 33) : (execOp ρ o).run Try.prog w = .ok (.value (.pointer (some ⟨w.heap.size, 0, none⟩))) (w.alloc (.cells #[.int .i64 0, .int .i64 0] 33)) := by
  have hz := (zero_of_info infoDt).1
  unfold execOp
  simp only [ho]
  go_simp
theorem eq_isO (a b : Int) (q : Bool) (h : (a == b) = q) (w : World) : (binOp .eql 3 (.int .i64 a) (.int .i64 b)).run Try.prog w = .ok (.bool q) w := by
  subst h; go_simp
theorem dt_range {w : World} {g o : Nat} {e : Ev} (h : w.rangeAt g o (encE e)) : w.rangeAt g o [.int .i64 e.r, .int .i64 e.c] := by
  intro k v hk
  match k, hk with
  | 0, hk => exact h 0 v hk
  | 1, hk => exact h 1 v hk
  | k + 2, hk => simp at hk
theorem OrdI.cell {w2 W : World} {G N i : Nat} {d : Array Ev} {ss : List Int} (h : OrdI w2 G N i d ss W) {k : Nat} {s : Int} (hk : ss[k]? = some s) : W.cell? ⟨G, k, none⟩ = some (.int .i64 s) := by
  obtain ⟨g2, hA, _, _, hr⟩ := h.row.at_ encN_len hk
  injection hA with hA
  injection hA with hA
  subst hA
  have := hr 0 _ rfl
  rwa [Nat.add_zero, Nat.mul_one] at this
theorem range_keep {w W : World} {g o : Nat} {cs : List Value} (h : w.rangeAt g o cs) (hg : g < w.heap.size) (hb : Below w.heap.size w W) : W.rangeAt g o cs := fun k v hk => (World.cell?_of_block (hb.block g hg)).trans (h k v hk)

set_option maxRecDepth 100000 in
set_option maxHeartbeats 4000000 in
theorem order_walk (l : List Ev) (A : Option Addr) (N c : Nat) (w : World) (hs : SlK encE 27 w (.slice A N c) l) (hN : l.length = N) (hN2 : N ≤ 4611686018427387903) (hf : ∀ e ∈ l, Fit e) (hw : CutOk w) :
    Calls Try.prog 8 #[.slice A N c] w (Law w) := by
  have HS := Lib.hid hs
  have HN := Lib.hid hN
  have HC := Lib.hid hw
  have HFw := Lib.hid (few_is9o l A N c hN hN2 hf)
  clear hs hN hN2 hf hw
  cases hfew : few9B l
  · have HFe := Lib.hid (HFw.out false hfew)
    clear hfew HFw
    go_enter Try.func8, Try.ntmps8
    go_wp2_with fail
    refine (fixed9 w HC.out).mono ?_
    rintro e w1 ⟨rfl, hb⟩
    have HB1 := Lib.hid hb
    clear hb
    go_wp2_with fail
    refine (HFe.out w1 (HS.out.below HB1.out)).mono ?_
    rintro e w2 ⟨rfl, hb⟩
    have HB2 := Lib.hid (HB1.out.trans (hb.mono HB1.out.size))
    clear hb
    go_wp2
    go_ret
    exact ⟨rfl, HB2.out⟩
  · have HFe := Lib.hid (HFw.out true hfew)
    have H80 := Lib.hid (show N ≤ 80 by
      unfold few9B at hfew
      simp only [Bool.and_eq_true, decide_eq_true_eq] at hfew
      rw [← HN.out]; exact hfew.2)
    have HZe := Lib.hid (zero_of_info zeroE).1
    clear hfew HFw
    go_enter Try.func8, Try.ntmps8
    go_wp2_with fail
    refine (fixed9 w HC.out).mono ?_
    rintro e w1 ⟨rfl, hb⟩
    have HB1 := Lib.hid hb
    clear hb
    go_wp2_with fail
    refine (HFe.out w1 (HS.out.below HB1.out)).mono ?_
    rintro e w1b ⟨rfl, hb⟩
    have HB1b := Lib.hid (HB1.out.trans (hb.mono HB1.out.size))
    clear hb
    go_wp2_with fail
    refine (sortW_any l A N c w1b (HS.out.below HB1b.out) HN.out (by have := H80.out; omega)).mono ?_
    rintro e w2 ⟨A', c', d, rfl, hsd, hsz, hb, hp, hso⟩
    have HSd := Lib.hid hsd
    have HSz := Lib.hid hsz
    have HB2 := Lib.hid (HB1b.out.trans (hb.mono HB1b.out.size))
    have HPe := Lib.hid hp
    have HSo := Lib.hid hso
    have HSl := Lib.hid (HS.out.below HB2.out)
    clear hsd hsz hb hp hso
    obtain ⟨w3, hr3, ho3, hb3⟩ := make_ints w2 N (by have := H80.out; omega)
    have HR3 := Lib.hid hr3
    obtain ⟨G, hG⟩ : ∃ G, w2.heap.size = G := ⟨_, rfl⟩
    rw [hG] at ho3 hb3 HR3
    have HG := Lib.hid hG
    have HI0 := Lib.hid (show OrdI w2 G N 0 d (List.replicate N 0) w3 from ⟨hb3, ho3, List.length_replicate, fun k h => absurd h (Nat.not_lt_zero k), fun k _ h => by rw [List.getElem?_replicate]; simp [h]⟩)
    clear hr3 ho3 hb3 hG
    go_wp2_with (first
      | (refine wpList_val (o := ⟨some 31, _, _, _, _, _⟩) rfl (.slice (some ⟨G, 0, none⟩) N N) w3 (run_makeI_op rfl rfl rfl HR3.out) ?_)
      | fail)
    go_loopw [34] (fun v34 wr => ∃ (i : Nat) (ss : List Int), v34 = .int .i64 (i : Nat) ∧ i ≤ N ∧ OrdI w2 G N i d ss wr) (fun v34 _ => N - (intOf v34).toNat)
    case atStart => exact ⟨0, _, rfl, Nat.zero_le _, HI0.out⟩
    case round =>
      obtain ⟨i, ss, rfl, hi, hI⟩ := hrel
      obtain ⟨wo, rfl⟩ : ∃ wo, wo = wr := ⟨_, rfl⟩
      have HI := Lib.hid hI
      clear hI HI0
      by_cases hlt : i < N
      case neg =>
        go_wp2
        go_ret
        exact ⟨rfl, HB2.out.trans (HI.out.below.mono (by have := HB2.out.size; have := HG.out; omega))⟩
      obtain ⟨e, he⟩ : ∃ e, d[i]! = e := ⟨_, rfl⟩
      have HE := Lib.hid he
      have hat := toList_at HSz.out hlt
      rw [he] at hat
      have hGs : G ≤ wo.heap.size := by have := HI.out.below.size; have := HG.out; omega
      obtain ⟨g, o, hA', _, hce⟩ := (HSd.out.below (by rw [HG.out]; exact HI.out.below)).ev hat
      have HA' := Lib.hid hA'
      have HCe := Lib.hid hce
      have HAt := Lib.hid (show (Instr.indexAt 22 (.slice A' N c') (.int .i64 ((i : Nat) : Int))).run Try.prog wo = .ok (.pointer (some ⟨g, o + i * 27, none⟩)) wo by rw [hA']; exact at_Ev g o c' N i hlt wo)
      have HAl := Lib.hid fun cs => World.setRow_alloc_new wo (evC ev0) cs 39
      have HZz := Lib.hid (show Blk (wo.alloc (.cells (evC ev0) 39)) wo.heap.size 39 (evC ev0) from Blk.new _ _ _)
      obtain ⟨X, hX⟩ : ∃ X, X = wo.alloc (.cells (evC e) 39) := ⟨_, rfl⟩
      have hbX : Below wo.heap.size wo X := by rw [hX]; exact (Below.refl _ _).alloc (Nat.le_refl _) _
      have HBX := Lib.hid (show EB X wo.heap.size e by rw [hX]; exact Blk.new _ _ _)
      obtain ⟨q, hq⟩ : ∃ q, wo.heap.size = q := ⟨_, rfl⟩
      have HXe := Lib.hid hX
      have HIX := Lib.hid (HI.out.keep hGs hbX)
      have HGX := Lib.hid (Nat.le_trans hGs hbX.size)
      rw [hq] at HBX HZz HAl
      have HQ := Lib.hid hq
      have HLt := Lib.hid hlt
      clear hX hbX hce hA' hat he hGs hq hi
      have hz := HZe.out
      go_wp2_with (first
        | (refine wpList_val (o := ⟨some 37, _, _, _, _, _⟩) rfl (.pointer (some ⟨g, o + i * 27, none⟩)) wo (run_indexAddr_op rfl rfl rfl HAt.out) ?_)
        | (refine' wpList_load_midif ?q1 39 (.tmp 37) ?q2 g (o + i * 27) ?q3 (encE e) _ ?q4 Try.underlying39 ?q5 ?q6 ?_; (case q2 => rfl); (case q1 => rfl); (case q3 => rfl); (case q4 => exact HCe.out); (case q5 => rfl); (case q6 => exact (sizeE e)))
        | (rw [HQ.out]; refine wpList_store_row (o := ⟨none, _, _, _, _, _⟩) rfl 39 (.tmp 6) (.tmp 38) rfl q (evC e) rfl rfl _ _ HZz.out (sizeE e) rfl (by kernel_rfl) ?_; rw [HAl.out, ← HXe.out])
        | fail)
      clear hz hlt
      go_loopw [7, 41] (fun v7 v41 wr => ∃ j : Nat, v41 = .int .i64 (j : Nat) ∧ j ≤ N ∧ v7 = .int .i64 (cntE e (l.take j) : Nat) ∧ Below X.heap.size X wr) (fun _ v41 _ => N - (intOf v41).toNat)
      case atStart => exact ⟨0, rfl, Nat.zero_le _, rfl, Below.refl _ _⟩
      case round =>
        obtain ⟨j, rfl, hj, rfl, hbw⟩ := hrel
        obtain ⟨wi, rfl⟩ : ∃ wi, wi = wr := ⟨_, rfl⟩
        have HBw := Lib.hid hbw
        clear hbw
        by_cases hlt : j < N
        case pos =>
          as_aux_lemma =>
          have hG2 : G ≤ wi.heap.size := Nat.le_trans HGX.out HBw.out.size
          have hbl2 : Below w2.heap.size w2 wi := by rw [HG.out]; exact HIX.out.below.trans (HBw.out.mono HGX.out)
          obtain ⟨x, hx⟩ : ∃ x, l[j]? = some x := ⟨l[j]'(by rw [HN.out]; exact hlt), List.getElem?_eq_getElem _⟩
          obtain ⟨g1, o1, hA1, _, hce⟩ := (HSl.out.below hbl2).ev hx
          have HA1 := Lib.hid hA1
          have HCe1 := Lib.hid hce
          have HAt1 := Lib.hid (show (Instr.indexAt 22 (.slice A N c) (.int .i64 ((j : Nat) : Int))).run Try.prog wi = .ok (.pointer (some ⟨g1, o1 + j * 27, none⟩)) wi by rw [hA1]; exact at_Ev g1 o1 c N j hlt wi)
          obtain ⟨r, hr⟩ : ∃ r, wi.heap.size = r := ⟨_, rfl⟩
          obtain ⟨Y, hY⟩ : ∃ Y, Y = wi.alloc (.cells (evC x) 39) := ⟨_, rfl⟩
          have hbY : Below wi.heap.size wi Y := by rw [hY]; exact (Below.refl _ _).alloc (Nat.le_refl _) _
          have HBY := Lib.hid (show EB Y r x by rw [hY, ← hr]; exact Blk.new _ _ _)
          have HEY := Lib.hid (show EB Y q e from EB.keep (Blk.below HBX.out HBw.out (Blk.lt HBX.out)) hbY)
          have HBY2 := Lib.hid (show Below X.heap.size X Y from HBw.out.trans (hbY.mono HBw.out.size))
          have HAl1 := Lib.hid fun cs => World.setRow_alloc_new wi (evC ev0) cs 39
          have HZ1 := Lib.hid (show Blk (wi.alloc (.cells (evC ev0) 39)) r 39 (evC ev0) from by rw [← hr]; exact Blk.new _ _ _)
          rw [hr] at HAl1
          have HYe := Lib.hid hY
          have HRr := Lib.hid hr
          obtain ⟨u, hu⟩ : ∃ u, eqEv x e = u := ⟨_, rfl⟩
          have HU := Lib.hid hu
          obtain ⟨K, hK⟩ : ∃ K, cntE e (l.take j) = K := ⟨_, rfl⟩
          have HNx := Lib.hid (cntE_next (e := e) hx)
          rw [hK, hu] at HNx
          have HKl := Lib.hid (show K ≤ 80 by rw [← hK]; exact Nat.le_trans (cntE_le _ _) (by rw [List.length_take]; have := H80.out; omega))
          obtain ⟨j1, hj1⟩ : ∃ j1, j + 1 = j1 := ⟨_, rfl⟩
          have HJ1 := Lib.hid (And.intro hj1 hlt)
          rw [hK]
          clear hG2 hbl2 hx hA1 hce hr hY hbY hu hK hj1 hj
          have hz := HZe.out
          cases u
          · go_wp2_with (first
              | (refine wpList_val (o := ⟨some 43, _, _, _, _, _⟩) rfl (.pointer (some ⟨g1, o1 + j * 27, none⟩)) wi (run_indexAddr_op rfl rfl rfl HAt1.out) ?_)
              | (refine' wpList_load_midif ?q1 39 (.tmp 43) ?q2 g1 (o1 + j * 27) ?q3 (encE x) _ ?q4 Try.underlying39 ?q5 ?q6 ?_; (case q2 => rfl); (case q1 => rfl); (case q3 => rfl); (case q4 => exact HCe1.out); (case q5 => rfl); (case q6 => exact (sizeE x)))
              | (rw [HRr.out]; refine wpList_store_row (o := ⟨none, _, _, _, _, _⟩) rfl 39 (.tmp 10) (.tmp 44) rfl r (evC x) rfl rfl _ _ HZ1.out (sizeE x) rfl (by kernel_rfl) ?_; rw [HAl1.out, ← HYe.out])
              | (refine' wpList_load_if ?q1 39 (.tmp 10) ?q2 r ?q3 _ _ _ _ ?q4 Try.underlying39 ?q5 ?q6 ?_; (case q2 => rfl); (case q1 => rfl); (case q3 => rfl); (case q4 => exact HBY.out); (case q5 => rfl); (case q6 => exact (sizeE x)))
              | (refine' wpList_load_if ?q1 39 (.tmp 6) ?q2 q ?q3 _ _ _ _ ?q4 Try.underlying39 ?q5 ?q6 ?_; (case q2 => rfl); (case q1 => rfl); (case q3 => rfl); (case q4 => exact HEY.out); (case q5 => rfl); (case q6 => exact (sizeE e)))
              | (refine wpList_val (o := ⟨some 47, _, _, _, _, _⟩) rfl (.bool false) Y (run_bin_op rfl rfl rfl (run_eqGuard_agg _ _ _ _ _ _ _ (by kernel_rfl)) (run_eql_q HU.out Y)) ?_)
              | (refine wpList_val (o := ⟨some 50, _, _, _, _, _⟩) rfl (.int .i64 ((j1 : Nat) : Int)) _ (run_bin_op rfl rfl rfl (guardI _ _ _ _ _ _ _) (add_h j 1 j1 HJ1.out.1 (by have := HJ1.out; have := H80.out; omega) _)) ?_)
              | fail)
            clear hz hlt
            go_roundw
            case rel => exact ⟨j1, rfl, by have := HJ1.out; omega, by rw [← HJ1.out.1, HNx.out]; rfl, HBY2.out⟩
            case measure => have := HJ1.out; simp [intOf] <;> omega
          · obtain ⟨K1, hK1⟩ : ∃ K1, K + 1 = K1 := ⟨_, rfl⟩
            have HK1 := Lib.hid hK1
            clear hK1
            go_wp2_with (first
              | (refine wpList_val (o := ⟨some 43, _, _, _, _, _⟩) rfl (.pointer (some ⟨g1, o1 + j * 27, none⟩)) wi (run_indexAddr_op rfl rfl rfl HAt1.out) ?_)
              | (refine' wpList_load_midif ?q1 39 (.tmp 43) ?q2 g1 (o1 + j * 27) ?q3 (encE x) _ ?q4 Try.underlying39 ?q5 ?q6 ?_; (case q2 => rfl); (case q1 => rfl); (case q3 => rfl); (case q4 => exact HCe1.out); (case q5 => rfl); (case q6 => exact (sizeE x)))
              | (rw [HRr.out]; refine wpList_store_row (o := ⟨none, _, _, _, _, _⟩) rfl 39 (.tmp 10) (.tmp 44) rfl r (evC x) rfl rfl _ _ HZ1.out (sizeE x) rfl (by kernel_rfl) ?_; rw [HAl1.out, ← HYe.out])
              | (refine' wpList_load_if ?q1 39 (.tmp 10) ?q2 r ?q3 _ _ _ _ ?q4 Try.underlying39 ?q5 ?q6 ?_; (case q2 => rfl); (case q1 => rfl); (case q3 => rfl); (case q4 => exact HBY.out); (case q5 => rfl); (case q6 => exact (sizeE x)))
              | (refine' wpList_load_if ?q1 39 (.tmp 6) ?q2 q ?q3 _ _ _ _ ?q4 Try.underlying39 ?q5 ?q6 ?_; (case q2 => rfl); (case q1 => rfl); (case q3 => rfl); (case q4 => exact HEY.out); (case q5 => rfl); (case q6 => exact (sizeE e)))
              | (refine wpList_val (o := ⟨some 47, _, _, _, _, _⟩) rfl (.bool true) Y (run_bin_op rfl rfl rfl (run_eqGuard_agg _ _ _ _ _ _ _ (by kernel_rfl)) (run_eql_q HU.out Y)) ?_)
              | (refine wpList_val (o := ⟨some 49, _, _, _, _, _⟩) rfl (.int .i64 ((K1 : Nat) : Int)) _ (run_bin_op rfl rfl rfl (guardI _ _ _ _ _ _ _) (add_h K 1 K1 HK1.out (by have := HK1.out; have := HKl.out; omega) _)) ?_)
              | (refine wpList_val (o := ⟨some 50, _, _, _, _, _⟩) rfl (.int .i64 ((j1 : Nat) : Int)) _ (run_bin_op rfl rfl rfl (guardI _ _ _ _ _ _ _) (add_h j 1 j1 HJ1.out.1 (by have := HJ1.out; have := H80.out; omega) _)) ?_)
              | fail)
            clear hz hlt
            go_roundw
            case rel => exact ⟨j1, rfl, by have := HJ1.out; omega, by rw [← HJ1.out.1, HNx.out, ← HK1.out]; rfl, HBY2.out⟩
            case measure => have := HJ1.out; simp [intOf] <;> omega
        have hjN : j = N := by omega
        subst hjN
        rw [List.take_of_length_le (Nat.le_of_eq HN.out)]
        go_wp2_with fail
        clear hlt hj
        go_loopw [8, 53] (fun v8 v53 wr => ∃ j' : Nat, v53 = .int .i64 (j' : Nat) ∧ j' ≤ j ∧ v8 = .int .i64 (cntE e (d.toList.take j') : Nat) ∧ Below X.heap.size X wr) (fun _ v53 _ => j - (intOf v53).toNat)
        case atStart => exact ⟨0, rfl, Nat.zero_le _, rfl, HBw.out⟩
        case round =>
          obtain ⟨j', rfl, hj, rfl, hbw⟩ := hrel
          obtain ⟨wi, rfl⟩ : ∃ wi, wi = wr := ⟨_, rfl⟩
          have HBw := Lib.hid hbw
          clear hbw
          by_cases hlt : j' < j
          case pos =>
            as_aux_lemma =>
            have hG2 : G ≤ wi.heap.size := Nat.le_trans HGX.out HBw.out.size
            have hbl2 : Below w2.heap.size w2 wi := by rw [HG.out]; exact HIX.out.below.trans (HBw.out.mono HGX.out)
            obtain ⟨x, hx⟩ : ∃ x, d.toList[j']? = some x := ⟨_, toList_at HSz.out hlt⟩
            obtain ⟨g1, o1, hA1, _, hce⟩ := (HSd.out.below hbl2).ev hx
            have HA1 := Lib.hid hA1
            have HCe1 := Lib.hid hce
            have HAt1 := Lib.hid (show (Instr.indexAt 22 (.slice A' j c') (.int .i64 ((j' : Nat) : Int))).run Try.prog wi = .ok (.pointer (some ⟨g1, o1 + j' * 27, none⟩)) wi by rw [hA1]; exact at_Ev g1 o1 c' j j' hlt wi)
            obtain ⟨r, hr⟩ : ∃ r, wi.heap.size = r := ⟨_, rfl⟩
            obtain ⟨Y, hY⟩ : ∃ Y, Y = wi.alloc (.cells (evC x) 39) := ⟨_, rfl⟩
            have hbY : Below wi.heap.size wi Y := by rw [hY]; exact (Below.refl _ _).alloc (Nat.le_refl _) _
            have HBY := Lib.hid (show EB Y r x by rw [hY, ← hr]; exact Blk.new _ _ _)
            have HEY := Lib.hid (show EB Y q e from EB.keep (Blk.below HBX.out HBw.out (Blk.lt HBX.out)) hbY)
            have HBY2 := Lib.hid (show Below X.heap.size X Y from HBw.out.trans (hbY.mono HBw.out.size))
            have HAl1 := Lib.hid fun cs => World.setRow_alloc_new wi (evC ev0) cs 39
            have HZ1 := Lib.hid (show Blk (wi.alloc (.cells (evC ev0) 39)) r 39 (evC ev0) from by rw [← hr]; exact Blk.new _ _ _)
            rw [hr] at HAl1
            have HYe := Lib.hid hY
            have HRr := Lib.hid hr
            obtain ⟨u, hu⟩ : ∃ u, eqEv x e = u := ⟨_, rfl⟩
            have HU := Lib.hid hu
            obtain ⟨K, hK⟩ : ∃ K, cntE e (d.toList.take j') = K := ⟨_, rfl⟩
            have HNx := Lib.hid (cntE_next (e := e) hx)
            rw [hK, hu] at HNx
            have HKl := Lib.hid (show K ≤ 80 by rw [← hK]; exact Nat.le_trans (cntE_le _ _) (by rw [List.length_take]; have := H80.out; omega))
            obtain ⟨j1, hj1⟩ : ∃ j1, j' + 1 = j1 := ⟨_, rfl⟩
            have HJ1 := Lib.hid (And.intro hj1 hlt)
            rw [hK]
            clear hG2 hbl2 hx hA1 hce hr hY hbY hu hK hj1 hj
            have hz := HZe.out
            cases u
            · go_wp2_with (first
                | (refine wpList_val (o := ⟨some 55, _, _, _, _, _⟩) rfl (.pointer (some ⟨g1, o1 + j' * 27, none⟩)) wi (run_indexAddr_op rfl rfl rfl HAt1.out) ?_)
                | (refine' wpList_load_midif ?q1 39 (.tmp 55) ?q2 g1 (o1 + j' * 27) ?q3 (encE x) _ ?q4 Try.underlying39 ?q5 ?q6 ?_; (case q2 => rfl); (case q1 => rfl); (case q3 => rfl); (case q4 => exact HCe1.out); (case q5 => rfl); (case q6 => exact (sizeE x)))
                | (rw [HRr.out]; refine wpList_store_row (o := ⟨none, _, _, _, _, _⟩) rfl 39 (.tmp 12) (.tmp 56) rfl r (evC x) rfl rfl _ _ HZ1.out (sizeE x) rfl (by kernel_rfl) ?_; rw [HAl1.out, ← HYe.out])
                | (refine' wpList_load_if ?q1 39 (.tmp 12) ?q2 r ?q3 _ _ _ _ ?q4 Try.underlying39 ?q5 ?q6 ?_; (case q2 => rfl); (case q1 => rfl); (case q3 => rfl); (case q4 => exact HBY.out); (case q5 => rfl); (case q6 => exact (sizeE x)))
                | (refine' wpList_load_if ?q1 39 (.tmp 6) ?q2 q ?q3 _ _ _ _ ?q4 Try.underlying39 ?q5 ?q6 ?_; (case q2 => rfl); (case q1 => rfl); (case q3 => rfl); (case q4 => exact HEY.out); (case q5 => rfl); (case q6 => exact (sizeE e)))
                | (refine wpList_val (o := ⟨some 59, _, _, _, _, _⟩) rfl (.bool false) Y (run_bin_op rfl rfl rfl (run_eqGuard_agg _ _ _ _ _ _ _ (by kernel_rfl)) (run_eql_q HU.out Y)) ?_)
                | (refine wpList_val (o := ⟨some 62, _, _, _, _, _⟩) rfl (.int .i64 ((j1 : Nat) : Int)) _ (run_bin_op rfl rfl rfl (guardI _ _ _ _ _ _ _) (add_h j' 1 j1 HJ1.out.1 (by have := HJ1.out; have := H80.out; omega) _)) ?_)
                | fail)
              clear hz hlt
              go_roundw
              case rel => exact ⟨j1, rfl, by have := HJ1.out; omega, by rw [← HJ1.out.1, HNx.out]; rfl, HBY2.out⟩
              case measure => have := HJ1.out; simp [intOf] <;> omega
            · obtain ⟨K1, hK1⟩ : ∃ K1, K + 1 = K1 := ⟨_, rfl⟩
              have HK1 := Lib.hid hK1
              clear hK1
              go_wp2_with (first
                | (refine wpList_val (o := ⟨some 55, _, _, _, _, _⟩) rfl (.pointer (some ⟨g1, o1 + j' * 27, none⟩)) wi (run_indexAddr_op rfl rfl rfl HAt1.out) ?_)
                | (refine' wpList_load_midif ?q1 39 (.tmp 55) ?q2 g1 (o1 + j' * 27) ?q3 (encE x) _ ?q4 Try.underlying39 ?q5 ?q6 ?_; (case q2 => rfl); (case q1 => rfl); (case q3 => rfl); (case q4 => exact HCe1.out); (case q5 => rfl); (case q6 => exact (sizeE x)))
                | (rw [HRr.out]; refine wpList_store_row (o := ⟨none, _, _, _, _, _⟩) rfl 39 (.tmp 12) (.tmp 56) rfl r (evC x) rfl rfl _ _ HZ1.out (sizeE x) rfl (by kernel_rfl) ?_; rw [HAl1.out, ← HYe.out])
                | (refine' wpList_load_if ?q1 39 (.tmp 12) ?q2 r ?q3 _ _ _ _ ?q4 Try.underlying39 ?q5 ?q6 ?_; (case q2 => rfl); (case q1 => rfl); (case q3 => rfl); (case q4 => exact HBY.out); (case q5 => rfl); (case q6 => exact (sizeE x)))
                | (refine' wpList_load_if ?q1 39 (.tmp 6) ?q2 q ?q3 _ _ _ _ ?q4 Try.underlying39 ?q5 ?q6 ?_; (case q2 => rfl); (case q1 => rfl); (case q3 => rfl); (case q4 => exact HEY.out); (case q5 => rfl); (case q6 => exact (sizeE e)))
                | (refine wpList_val (o := ⟨some 59, _, _, _, _, _⟩) rfl (.bool true) Y (run_bin_op rfl rfl rfl (run_eqGuard_agg _ _ _ _ _ _ _ (by kernel_rfl)) (run_eql_q HU.out Y)) ?_)
                | (refine wpList_val (o := ⟨some 61, _, _, _, _, _⟩) rfl (.int .i64 ((K1 : Nat) : Int)) _ (run_bin_op rfl rfl rfl (guardI _ _ _ _ _ _ _) (add_h K 1 K1 HK1.out (by have := HK1.out; have := HKl.out; omega) _)) ?_)
                | (refine wpList_val (o := ⟨some 62, _, _, _, _, _⟩) rfl (.int .i64 ((j1 : Nat) : Int)) _ (run_bin_op rfl rfl rfl (guardI _ _ _ _ _ _ _) (add_h j' 1 j1 HJ1.out.1 (by have := HJ1.out; have := H80.out; omega) _)) ?_)
                | fail)
              clear hz hlt
              go_roundw
              case rel => exact ⟨j1, rfl, by have := HJ1.out; omega, by rw [← HJ1.out.1, HNx.out, ← HK1.out]; rfl, HBY2.out⟩
              case measure => have := HJ1.out; simp [intOf] <;> omega
          have hjj : j' = j := by omega
          subst hjj
          rw [List.take_of_length_le (Nat.le_of_eq (by rw [Array.length_toList]; exact HSz.out)), perm_cnt HPe.out HN.out e]
          have HEi := Lib.hid (show EB wi q e from Blk.below HBX.out HBw.out (Blk.lt HBX.out))
          have HIi := Lib.hid (HIX.out.keep HGX.out HBw.out)
          have HGi := Lib.hid (show G < q ∧ q < wi.heap.size from ⟨by have := (HI.out.row.lt G rfl).2; have := HQ.out; omega, Blk.lt HEi.out⟩)
          clear hlt hj
          go_wp2_with (first
            | (refine' wpList_load_midif ?q1 27 (.tmp 63) ?q2 q 2 ?q3 _ _ ?q4 Try.underlying27 ?q5 ?q6 ?_; (case q2 => rfl); (case q1 => rfl); (case q3 => rfl); (case q4 => exact HEi.out.past); (case q5 => rfl); (case q6 => exact (sizeV _)))
            | fail)
          clear HIX HBX
          obtain ⟨K, hK⟩ : ∃ K, cntE e l = K := ⟨_, rfl⟩
          rw [hK]
          clear hK
          have HK0 := Lib.hid (HIi.out.enter HLt.out)
          go_loopw [65] (fun v65 wr => ∃ (k : Nat) (ss' : List Int), v65 = .int .i64 (k : Nat) ∧ k ≤ 16 ∧ OrdK w2 G j' i d ss' (sumN e.p k) wr ∧ EB wr q e) (fun v65 _ => 16 - (intOf v65).toNat)
          case atStart => exact ⟨0, ss, rfl, Nat.zero_le _, HK0.out, HEi.out⟩
          case round =>
            obtain ⟨k, ss', rfl, hk, hok, heb⟩ := hrel
            obtain ⟨wk, rfl⟩ : ∃ wk, wk = wr := ⟨_, rfl⟩
            have HOk := Lib.hid hok
            have HEk := Lib.hid heb
            have HGk := Lib.hid (show G ≤ wk.heap.size by have := Blk.lt heb; have := HGi.out; omega)
            clear hok heb HK0 HEi HIi
            by_cases hlt : k < 16
            case pos =>
              as_aux_lemma =>
              have hx := index_V e.p k hlt wk
              obtain ⟨k1, hk1⟩ : ∃ k1, k + 1 = k1 := ⟨_, rfl⟩
              have HK1 := Lib.hid (And.intro hk1 hlt)
              clear hk1 hk
              by_cases hn : 0 < e.p k
              case neg =>
                have HSame := Lib.hid (sumN_idle hn)
                generalize e.p k = n at *
                go_wp2_with (first
                  | (refine wpList_val (o := ⟨some 86, _, _, _, _, _⟩) rfl (.int .i64 ((k1 : Nat) : Int)) _ (run_bin_op rfl rfl rfl (guardI _ _ _ _ _ _ _) (add_h k 1 k1 HK1.out.1 (by have := HK1.out; omega) _)) ?_)
                  | fail)
                go_roundw
                case rel => exact ⟨k1, ss', rfl, by have := HK1.out; omega, by rw [← HK1.out.1, HSame.out]; exact HOk.out, HEk.out⟩
                case measure => have := HK1.out; simp [intOf] <;> omega
              have HMore := Lib.hid (sumN_more hn)
              have HSn := Lib.hid (sumN_in e.p k)
              obtain ⟨n, hn2⟩ : ∃ n, e.p k = n := ⟨_, rfl⟩
              obtain ⟨S, hS⟩ : ∃ S, sumN e.p k = S := ⟨_, rfl⟩
              rw [hn2] at hx hn HMore
              rw [hS] at HSn HOk HMore
              obtain ⟨m1, hm1⟩ : ∃ m1, 4611686018427387904 - S = m1 := ⟨_, rfl⟩
              obtain ⟨m2, hm2⟩ : ∃ m2, min n m1 = m2 := ⟨_, rfl⟩
              obtain ⟨m3, hm3⟩ : ∃ m3, S + m2 = m3 := ⟨_, rfl⟩
              obtain ⟨m4, hm4⟩ : ∃ m4, min m3 4611686018427387904 = m4 := ⟨_, rfl⟩
              have HM := Lib.hid (show 0 ≤ S ∧ S ≤ 4611686018427387904 ∧ 0 < n ∧ 4611686018427387904 - S = m1 ∧ min n m1 = m2 ∧ S + m2 = m3 ∧ min m3 4611686018427387904 = m4 from ⟨HSn.out.1, HSn.out.2, hn, hm1, hm2, hm3, hm4⟩)
              have HNew := Lib.hid (show sumN e.p (k + 1) = m4 by rw [HMore.out, hm1, hm2, hm3, hm4])
              clear hm1 hm2 hm3 hm4 HMore HSn hS hn2
              go_upto_region 29 with fail
              clear hn hx
              refine wp_region_any (by kernel_rfl) ?_
              refine wpAny_last (fun iq uq _ => uq = ([(.slice (some ⟨G, 0, none⟩) j' j' : Value), .int .i64 ((i : Nat) : Int), .slice (some ⟨G, 0, none⟩) j' j', .int .i64 ((i : Nat) : Int), .pointer (some ⟨G, i, none⟩), .int .i64 S, .int .i64 n, .slice (some ⟨G, 0, none⟩) j' j', .int .i64 ((i : Nat) : Int), .pointer (some ⟨G, i, none⟩), .int .i64 S, .int .i64 m1, .int .i64 m2, .int .i64 m3, .int .i64 m4, .pointer (some ⟨G, i, none⟩), undef] : List Value).getD iq undef) _ wk 16 _ (fun vals wq => (∀ jq, jq < 16 → vals jq = ([(.slice (some ⟨G, 0, none⟩) j' j' : Value), .int .i64 ((i : Nat) : Int), .slice (some ⟨G, 0, none⟩) j' j', .int .i64 ((i : Nat) : Int), .pointer (some ⟨G, i, none⟩), .int .i64 S, .int .i64 n, .slice (some ⟨G, 0, none⟩) j' j', .int .i64 ((i : Nat) : Int), .pointer (some ⟨G, i, none⟩), .int .i64 S, .int .i64 m1, .int .i64 m2, .int .i64 m3, .int .i64 m4, .pointer (some ⟨G, i, none⟩), undef] : List Value).getD jq undef) ∧ (OrdK w2 G j' i d (ss'.set i m4) m4 wq ∧ EB wq q e)) (by kernel_rfl) rfl (by kernel_rfl) (by kernel_rfl) (by kernel_rfl) (by kernel_rfl) (fun i v w w' _ h => h) ?_ ?_ ?_
              · refine ⟨?_, ?_, ?_, ?_, ?_, ?_, ?_, ?_, ?_, ?_, ?_, ?_, ?_, ?_, ?_, ?_, fun h => absurd h (Nat.lt_irrefl _), trivial⟩
                · intro _ ac W hI hun haft hi
                  have e4 : ac.eval (.tmp 4) = .slice (some ⟨G, 0, none⟩) j' j' := hun 4 (by kernel_rfl)
                  exact b_same hi hI rfl _ (run_move_op rfl e4) rfl
                · intro _ ac W hI hun haft hi
                  have e5 : ac.eval (.tmp 5) = .int .i64 ((i : Nat) : Int) := hun 5 (by kernel_rfl)
                  exact b_same hi hI rfl _ (run_move_op rfl e5) rfl
                · intro _ ac W hI hun haft hi
                  have e4 : ac.eval (.tmp 4) = .slice (some ⟨G, 0, none⟩) j' j' := hun 4 (by kernel_rfl)
                  exact b_same hi hI rfl _ (run_move_op rfl e4) rfl
                · intro _ ac W hI hun haft hi
                  have e5 : ac.eval (.tmp 5) = .int .i64 ((i : Nat) : Int) := hun 5 (by kernel_rfl)
                  exact b_same hi hI rfl _ (run_move_op rfl e5) rfl
                · intro _ ac W hI hun haft hi
                  have f2 : ac.eval (.tmp 72) = .slice (some ⟨G, 0, none⟩) j' j' := haft ⟨2, .data⟩ (by simp) rfl _ _ rfl rfl
                  have f3 : ac.eval (.tmp 73) = .int .i64 ((i : Nat) : Int) := haft ⟨3, .data⟩ (by simp) rfl _ _ rfl rfl
                  exact b_same hi hI rfl _ (run_indexAddr_op rfl f2 f3 (at_IN G j' j' i HLt.out W)) rfl
                · intro _ ac W hI hun haft hi
                  have f4 : ac.eval (.tmp 74) = .pointer (some ⟨G, i, none⟩) := haft ⟨4, .data⟩ (by simp) rfl _ _ rfl rfl
                  exact b_same hi hI rfl _ (run_loadint_op rfl f4 Try.underlying3 (HOk.out.keep HGk.out hI).cell) rfl
                · intro _ ac W hI hun haft hi
                  have e14 : ac.eval (.tmp 14) = .int .i64 n := hun 14 (by kernel_rfl)
                  exact b_same hi hI rfl _ (run_move_op rfl e14) rfl
                · intro _ ac W hI hun haft hi
                  have e4 : ac.eval (.tmp 4) = .slice (some ⟨G, 0, none⟩) j' j' := hun 4 (by kernel_rfl)
                  exact b_same hi hI rfl _ (run_move_op rfl e4) rfl
                · intro _ ac W hI hun haft hi
                  have e5 : ac.eval (.tmp 5) = .int .i64 ((i : Nat) : Int) := hun 5 (by kernel_rfl)
                  exact b_same hi hI rfl _ (run_move_op rfl e5) rfl
                · intro _ ac W hI hun haft hi
                  have f7 : ac.eval (.tmp 77) = .slice (some ⟨G, 0, none⟩) j' j' := haft ⟨7, .data⟩ (by simp) rfl _ _ rfl rfl
                  have f8 : ac.eval (.tmp 78) = .int .i64 ((i : Nat) : Int) := haft ⟨8, .data⟩ (by simp) rfl _ _ rfl rfl
                  exact b_same hi hI rfl _ (run_indexAddr_op rfl f7 f8 (at_IN G j' j' i HLt.out W)) rfl
                · intro _ ac W hI hun haft hi
                  have f9 : ac.eval (.tmp 79) = .pointer (some ⟨G, i, none⟩) := haft ⟨9, .data⟩ (by simp) rfl _ _ rfl rfl
                  exact b_same hi hI rfl _ (run_loadint_op rfl f9 Try.underlying3 (HOk.out.keep HGk.out hI).cell) rfl
                · intro _ ac W hI hun haft hi
                  have f10 : ac.eval (.tmp 80) = .int .i64 S := haft ⟨10, .data⟩ (by simp) rfl _ _ rfl rfl
                  exact b_same hi hI rfl _ (run_bin_op rfl rfl f10 (guardI _ _ _ _ _ _ _) (subI 4611686018427387904 S m1 HM.out.2.2.2.1 (by have := HM.out; omega) (by have := HM.out; omega) W)) rfl
                · intro _ ac W hI hun haft hi
                  have f6 : ac.eval (.tmp 76) = .int .i64 n := haft ⟨6, .data⟩ (by simp) rfl _ _ rfl rfl
                  have f11 : ac.eval (.tmp 81) = .int .i64 m1 := haft ⟨11, .data⟩ (by simp) rfl _ _ rfl rfl
                  exact b_same hi hI rfl _ ((run_minI_op rfl f6 f11).trans (by rw [HM.out.2.2.2.2.1]; rfl)) rfl
                · intro _ ac W hI hun haft hi
                  have f5 : ac.eval (.tmp 75) = .int .i64 S := haft ⟨5, .data⟩ (by simp) rfl _ _ rfl rfl
                  have f12 : ac.eval (.tmp 82) = .int .i64 m2 := haft ⟨12, .data⟩ (by simp) rfl _ _ rfl rfl
                  exact b_same hi hI rfl _ (run_bin_op rfl f5 f12 (guardI _ _ _ _ _ _ _) (addI S m2 m3 HM.out.2.2.2.2.2.1 (by have := HM.out; omega) (by have := HM.out; omega) W)) rfl
                · intro _ ac W hI hun haft hi
                  have f13 : ac.eval (.tmp 83) = .int .i64 m3 := haft ⟨13, .data⟩ (by simp) rfl _ _ rfl rfl
                  exact b_same hi hI rfl _ ((run_minI_op rfl f13 rfl).trans (by rw [HM.out.2.2.2.2.2.2]; rfl)) rfl
                · intro _ ac W hI hun haft hi
                  have f0 : ac.eval (.tmp 70) = .slice (some ⟨G, 0, none⟩) j' j' := haft ⟨0, .data⟩ (by simp) rfl _ _ rfl rfl
                  have f1 : ac.eval (.tmp 71) = .int .i64 ((i : Nat) : Int) := haft ⟨1, .data⟩ (by simp) rfl _ _ rfl rfl
                  exact b_same hi hI rfl _ (run_indexAddr_op rfl f0 f1 (at_IN G j' j' i HLt.out W)) rfl
              · intro vals ac W hI hun hsl hp
                have f15 : ac.eval (.tmp 85) = .pointer (some ⟨G, i, none⟩) := (hsl 15 _ _ rfl (by decide) rfl).trans (hp 15 (by decide))
                have f14 : ac.eval (.tmp 84) = .int .i64 m4 := (hsl 14 _ _ rfl (by decide) rfl).trans (hp 14 (by decide))
                obtain ⟨q1, q2⟩ := (HOk.out.keep HGk.out hI).store HLt.out m4
                exact l_skip rfl rfl _ (run_storeI_op rfl f15 f14 (by kernel_rfl) q1) ⟨_, rfl, fun vals' hv hv2 => ⟨fun jq hjq => (hv jq hjq).trans (hp jq hjq), q2, (heap_sc G q (by have := HGi.out; omega) _ _ W).trans (HEk.out.keep hI)⟩⟩
              · rintro vals W ⟨hv, hJ⟩
                have HJ2 := Lib.hid hJ.1
                have HE2 := Lib.hid hJ.2
                clear hv hJ
                simp only [layN, List.size_toArray, List.length_cons, List.length_nil, List.range, List.range.loop, if_true, List.getElem?_toArray, List.getElem?_cons_zero, List.getElem?_cons_succ, Act.put, List.setIfInBounds_toArray, List.set_cons_zero, List.set_cons_succ, Nat.zero_add, Nat.reduceAdd, Nat.zero_add]
                go_wp2_with (first
                  | (refine wpList_val (o := ⟨some 86, _, _, _, _, _⟩) rfl (.int .i64 ((k1 : Nat) : Int)) _ (run_bin_op rfl rfl rfl (guardI _ _ _ _ _ _ _) (add_h k 1 k1 HK1.out.1 (by have := HK1.out; omega) _)) ?_)
                  | fail)
                go_roundw
                case rel => exact ⟨k1, ss'.set i m4, rfl, by have := HK1.out; omega, by rw [← HK1.out.1, HNew.out]; exact HJ2.out, HE2.out⟩
                case measure => have := HK1.out; simp [intOf] <;> omega
            have hk16 : k = 16 := by omega
            subst hk16
            have HLv := Lib.hid (show OrdI w2 G j' (i + 1) d ss' wk from OrdK.leave (by rw [HE.out]; exact HOk.out))
            clear hlt hk
            obtain ⟨i1, hi1⟩ : ∃ i1, i + 1 = i1 := ⟨_, rfl⟩
            rw [hi1] at HLv
            have HI1 := Lib.hid (And.intro hi1 HLt.out)
            clear hi1
            have hkk : (((K : Nat) : Int) != ((K : Nat) : Int)) = false := by simp
            by_cases h0 : i = 0
            case pos =>
              as_aux_lemma =>
              subst h0
              go_wp2_with (first
                | (refine wpList_val (o := ⟨some 143, _, _, _, _, _⟩) rfl (.int .i64 ((i1 : Nat) : Int)) _ (run_bin_op rfl rfl rfl (guardI _ _ _ _ _ _ _) (add_h 0 1 i1 HI1.out.1 (by have := HI1.out; have := H80.out; omega) _)) ?_)
                | fail)
              go_roundw
              case rel => exact ⟨i1, ss', rfl, by have := HI1.out; omega, HLv.out⟩
              case measure => have := HI1.out; simp [intOf] <;> omega
            go_upto_region 34 with fail
            clear hkk
            obtain ⟨h, hh⟩ : ∃ h, i - 1 = h := ⟨_, rfl⟩
            have HH := Lib.hid (show h + 1 = i ∧ i < j' ∧ j' ≤ 80 from ⟨by omega, HLt.out, H80.out⟩)
            clear hh h0
            have hbl : Below w2.heap.size w2 wk := by rw [HG.out]; exact HOk.out.below
            obtain ⟨x, hx⟩ : ∃ x, d[h]! = x := ⟨_, rfl⟩
            have hat := toList_at HSz.out (show h < j' by have := HH.out; omega)
            rw [hx] at hat
            obtain ⟨gx, ox, hAx, hgx, hcx⟩ := (HSd.out.below hbl).ev hat
            have HX := Lib.hid hx
            have HAx := Lib.hid (show ∀ W, (Instr.indexAt 22 (.slice A' j' c') (.int .i64 ((h : Nat) : Int))).run Try.prog W = .ok (.pointer (some ⟨gx, ox + h * 27, none⟩)) W from fun W => by rw [hAx]; exact at_Ev gx ox c' j' h (by have := HH.out; omega) W)
            have HCx := Lib.hid (show ∀ W, Below wk.heap.size wk W → W.rangeAt gx (ox + h * 27) [.int .i64 x.r, .int .i64 x.c] from fun W hW => range_keep (dt_range hcx) hgx hW)
            have HSp := Lib.hid (sorted_pair HSo.out (show 0 < i by have := HH.out; omega) HLt.out)
            have HD1 := Lib.hid (HLv.out.done h (by have := HH.out; have := HI1.out; omega))
            have HD2 := Lib.hid (HLv.out.done i (by have := HI1.out; omega))
            rw [hx] at HD1
            rw [HE.out] at HD2
            rw [show i - 1 = h by have := HH.out; omega, hx, HE.out] at HSp
            obtain ⟨sa, hsa⟩ : ∃ sa, sumN x.p 16 = sa := ⟨_, rfl⟩
            obtain ⟨sb, hsb⟩ : ∃ sb, sumN e.p 16 = sb := ⟨_, rfl⟩
            rw [hsa] at HD1 HSp
            rw [hsb] at HD2 HSp
            clear hbl hx hat hAx hgx hcx hsa hsb
            refine wp_region_any (by kernel_rfl) ?_
            refine wpAny_boxes (fun iq uq => cond (Nat.ble 8 iq) True (uq = ([(.slice A' j' c' : Value), .int .i64 ((i : Nat) : Int), .int .i64 ((h : Nat) : Int), .pointer (some ⟨gx, ox + h * 27, none⟩), .pointer (some ⟨gx, ox + h * 27, none⟩), .agg (dtC x), .pointer (some ⟨q, 0, none⟩), .agg (dtC e)] : List Value).getD iq undef)) _ wk 8 9 10 11 _ _ _ _ 15 16 33 33 #[.int .i64 0, .int .i64 0] #[.int .i64 0, .int .i64 0] (dtC x) (dtC e) rfl rfl rfl rfl rfl rfl rfl rfl (by decide) ⟨⟨8, .data⟩, by simp, rfl, rfl⟩ ⟨⟨9, .data⟩, by simp, rfl, rfl⟩ (by kernel_rfl) (by kernel_rfl) (by kernel_rfl) (fun _ => ⟨trivial, trivial, trivial, trivial⟩) (fun _ => ⟨rfl, rfl, rfl, rfl⟩) (fun _ _ => run_allocD_op rfl) (fun _ _ => run_allocD_op rfl) ?_ ?_ ?_ ?_
            · intro ac W g hg hd hB
              have f5 : ac.eval (.tmp 97) = .agg (dtC x) := hd ⟨5, .data⟩ (by simp) rfl _ _ rfl rfl
              exact run_storerow_op rfl hg f5 hB sizeDtO rfl (dtC_one _)
            · intro ac W g hg hd hB
              have f7 : ac.eval (.tmp 99) = .agg (dtC e) := hd ⟨7, .data⟩ (by simp) rfl _ _ rfl rfl
              exact run_storerow_op rfl hg f7 hB sizeDtO rfl (dtC_one _)
            · refine ⟨?_, ?_, ?_, ?_, ?_, ?_, ?_, ?_, ?_, ?_, ?_, ?_, trivial⟩
              · intro _ _ _ _ ac W hI hun haft hi
                have e3 : ac.eval (.tmp 3) = .slice A' j' c' := hun 3 (by kernel_rfl)
                exact wpOp_val hi rfl (.slice A' j' c') W (run_move_op rfl e3) ⟨⟨_, rfl, rfl⟩, rfl⟩
              · intro _ _ _ _ ac W hI hun haft hi
                have e5 : ac.eval (.tmp 5) = .int .i64 ((i : Nat) : Int) := hun 5 (by kernel_rfl)
                exact wpOp_val hi rfl (.int .i64 ((i : Nat) : Int)) W (run_move_op rfl e5) ⟨⟨_, rfl, rfl⟩, rfl⟩
              · intro _ _ _ _ ac W hI hun haft hi
                have f1 : ac.eval (.tmp 93) = .int .i64 ((i : Nat) : Int) := haft ⟨1, .data⟩ (by simp) rfl _ _ rfl rfl
                exact wpOp_val hi rfl (.int .i64 ((h : Nat) : Int)) W (run_bin_op rfl f1 rfl (guardI _ _ _ _ _ _ _) (sub_h i 1 h (by have := HH.out; omega) (by have := HH.out; omega) (by have := HH.out; omega) W)) ⟨⟨_, rfl, rfl⟩, rfl⟩
              · intro _ _ _ _ ac W hI hun haft hi
                have f0 : ac.eval (.tmp 92) = .slice A' j' c' := haft ⟨0, .data⟩ (by simp) rfl _ _ rfl rfl
                have f2 : ac.eval (.tmp 94) = .int .i64 ((h : Nat) : Int) := haft ⟨2, .data⟩ (by simp) rfl _ _ rfl rfl
                exact wpOp_val hi rfl (.pointer (some ⟨gx, ox + h * 27, none⟩)) W (run_indexAddr_op rfl f0 f2 (HAx.out W)) ⟨⟨_, rfl, rfl⟩, rfl⟩
              · intro _ _ _ _ ac W hI hun haft hi
                have f3 : ac.eval (.tmp 95) = .pointer (some ⟨gx, ox + h * 27, none⟩) := haft ⟨3, .data⟩ (by simp) rfl _ _ rfl rfl
                exact wpOp_val hi rfl (.pointer (some ⟨gx, ox + h * 27, none⟩)) W (run_fieldAddr_any rfl f3 (at_evd gx (ox + h * 27) W)) ⟨⟨_, rfl, rfl⟩, rfl⟩
              · intro _ _ _ _ ac W hI hun haft hi
                have f4 : ac.eval (.tmp 96) = .pointer (some ⟨gx, ox + h * 27, none⟩) := haft ⟨4, .data⟩ (by simp) rfl _ _ rfl rfl
                exact wpOp_val hi rfl (.agg (dtC x)) W (run_loadmid_op rfl f4 (HCx.out W hI) Try.underlying33 rfl sizeDtO) ⟨⟨_, rfl, rfl⟩, rfl⟩
              · intro _ _ _ _ ac W hI hun haft hi
                have e6 : ac.eval (.tmp 6) = .pointer (some ⟨q, 0, none⟩) := hun 6 (by kernel_rfl)
                exact wpOp_val hi rfl (.pointer (some ⟨q, 0, none⟩)) W (run_fieldAddr_any rfl e6 (at_evd q 0 W)) ⟨⟨_, rfl, rfl⟩, rfl⟩
              · intro _ _ _ _ ac W hI hun haft hi
                have f6 : ac.eval (.tmp 98) = .pointer (some ⟨q, 0, none⟩) := haft ⟨6, .data⟩ (by simp) rfl _ _ rfl rfl
                exact wpOp_val hi rfl (.agg (dtC e)) W (run_loadmid_op rfl f6 (EB.dot (HEk.out.keep hI)) Try.underlying33 rfl sizeDtO) ⟨⟨_, rfl, rfl⟩, rfl⟩
              · intro h1 _ _ _; exact absurd rfl h1
              · intro _ h1 _ _; exact absurd rfl h1
              · intro _ _ h1 _; exact absurd rfl h1
              · intro _ _ _ h1; exact absurd rfl h1
            intro vals wd g8 g9 hv8 hv9 _ _ _ hbd hB8 hB9
            have HB8 := Lib.hid hB8
            have HB9 := Lib.hid hB9
            have HLd := Lib.hid (HLv.out.keep HGk.out hbd)
            have HGd := Lib.hid (Nat.le_trans HGk.out hbd.size)
            clear hbd hB8 hB9
            simp only [layN, List.size_toArray, List.length_cons, List.length_nil, List.range, List.range.loop, if_true, List.getElem?_toArray, List.getElem?_cons_zero, List.getElem?_cons_succ, Act.put, List.setIfInBounds_toArray, List.set_cons_zero, List.set_cons_succ, Nat.zero_add, Nat.reduceAdd, hv8, hv9]
            clear hv8 hv9
            go_upto_region 35 with fail
            have HQ9 := Lib.hid (show decide (sb < sa) = false from decide_eq_false HSp.out.1)
            obtain ⟨u, hu⟩ : ∃ u, (sa == sb) = u := ⟨_, rfl⟩
            have HU := Lib.hid hu
            obtain ⟨v, hv⟩ : ∃ v, (x.r == e.r) = v := ⟨_, rfl⟩
            have HV := Lib.hid hv
            have HQ26 := Lib.hid (show u = true → decide (e.r < x.r) = false from fun h1 => decide_eq_false (HSp.out.2 (by rw [h1] at hu; exact eq_of_beq hu)).1)
            have HQ38 := Lib.hid (show u = true → v = true → decide (e.c < x.c) = false from fun h1 h2 => decide_eq_false ((HSp.out.2 (by rw [h1] at hu; exact eq_of_beq hu)).2 (by rw [h2] at hv; exact eq_of_beq hv)))
            clear hu hv
            refine wp_region_any (by kernel_rfl) ?_
            refine wpAny_below (fun iq uq _ => uq = ([(.slice (some ⟨G, 0, none⟩) j' j' : Value), .int .i64 ((i : Nat) : Int), .int .i64 ((h : Nat) : Int), .pointer (some ⟨G, h, none⟩), .int .i64 sa, .slice (some ⟨G, 0, none⟩) j' j', .int .i64 ((i : Nat) : Int), .pointer (some ⟨G, i, none⟩), .int .i64 sb, .bool false, .bool false, .slice (some ⟨G, 0, none⟩) j' j', .int .i64 ((i : Nat) : Int), .int .i64 ((h : Nat) : Int), .pointer (some ⟨G, h, none⟩), .int .i64 sa, .slice (some ⟨G, 0, none⟩) j' j', .int .i64 ((i : Nat) : Int), .pointer (some ⟨G, i, none⟩), .int .i64 sb, .bool u, .bool u, vB (u) (.pointer (some ⟨g8, 0, none⟩)), vB (u) (.int .i64 x.r), vB (u) (.pointer (some ⟨g9, 0, none⟩)), vB (u) (.int .i64 e.r), vB (u) (.bool false), vB (u) (.bool false), vB (u) (.pointer (some ⟨g8, 0, none⟩)), vB (u) (.int .i64 x.r), vB (u) (.pointer (some ⟨g9, 0, none⟩)), vB (u) (.int .i64 e.r), vB (u) (.bool v), vB (u) (.bool v), vB (u && v) (.pointer (some ⟨g8, 1, none⟩)), vB (u && v) (.int .i64 x.c), vB (u && v) (.pointer (some ⟨g9, 1, none⟩)), vB (u && v) (.int .i64 e.c), vB (u && v) (.bool false), vB (u) (.bool false), vB (u) (.bool false), .bool false, .bool false] : List Value).getD iq undef) _ wd (by kernel_rfl) (by kernel_rfl) (by kernel_rfl) (fun i v w w' _ h => h) ?_ ?_
            · refine ⟨?_, ?_, ?_, ?_, ?_, ?_, ?_, ?_, ?_, ?_, ?_, ?_, ?_, ?_, ?_, ?_, ?_, ?_, ?_, ?_, ?_, ?_, ?_, ?_, ?_, ?_, ?_, ?_, ?_, ?_, ?_, ?_, ?_, ?_, ?_, ?_, ?_, ?_, ?_, ?_, ?_, ?_, ?_, trivial⟩
              · intro ac W hI hun haft hi
                have e4 : ac.eval (.tmp 4) = .slice (some ⟨G, 0, none⟩) j' j' := hun 4 (by kernel_rfl)
                exact b_same hi hI rfl _ (run_move_op rfl e4) rfl
              · intro ac W hI hun haft hi
                have e5 : ac.eval (.tmp 5) = .int .i64 ((i : Nat) : Int) := hun 5 (by kernel_rfl)
                exact b_same hi hI rfl _ (run_move_op rfl e5) rfl
              · intro ac W hI hun haft hi
                have f1 : ac.eval (.tmp 101) = .int .i64 ((i : Nat) : Int) := haft ⟨1, .data⟩ (by simp) rfl _ _ rfl rfl
                exact b_same hi hI rfl _ (run_bin_op rfl f1 rfl (guardI _ _ _ _ _ _ _) (sub_h i 1 h (by have := HH.out; omega) (by have := HH.out; omega) (by have := HH.out; omega) W)) rfl
              · intro ac W hI hun haft hi
                have f0 : ac.eval (.tmp 100) = .slice (some ⟨G, 0, none⟩) j' j' := haft ⟨0, .data⟩ (by simp) rfl _ _ rfl rfl
                have f2 : ac.eval (.tmp 102) = .int .i64 ((h : Nat) : Int) := haft ⟨2, .data⟩ (by simp) rfl _ _ rfl rfl
                exact b_same hi hI rfl _ (run_indexAddr_op rfl f0 f2 (at_IN G j' j' h (by have := HH.out; omega) W)) rfl
              · intro ac W hI hun haft hi
                have f3 : ac.eval (.tmp 103) = .pointer (some ⟨G, h, none⟩) := haft ⟨3, .data⟩ (by simp) rfl _ _ rfl rfl
                exact b_same hi hI rfl _ (run_loadint_op rfl f3 Try.underlying3 ((HLd.out.keep HGd.out hI).cell HD1.out)) rfl
              · intro ac W hI hun haft hi
                have e4 : ac.eval (.tmp 4) = .slice (some ⟨G, 0, none⟩) j' j' := hun 4 (by kernel_rfl)
                exact b_same hi hI rfl _ (run_move_op rfl e4) rfl
              · intro ac W hI hun haft hi
                have e5 : ac.eval (.tmp 5) = .int .i64 ((i : Nat) : Int) := hun 5 (by kernel_rfl)
                exact b_same hi hI rfl _ (run_move_op rfl e5) rfl
              · intro ac W hI hun haft hi
                have f5 : ac.eval (.tmp 105) = .slice (some ⟨G, 0, none⟩) j' j' := haft ⟨5, .data⟩ (by simp) rfl _ _ rfl rfl
                have f6 : ac.eval (.tmp 106) = .int .i64 ((i : Nat) : Int) := haft ⟨6, .data⟩ (by simp) rfl _ _ rfl rfl
                exact b_same hi hI rfl _ (run_indexAddr_op rfl f5 f6 (at_IN G j' j' i (by have := HH.out; omega) W)) rfl
              · intro ac W hI hun haft hi
                have f7 : ac.eval (.tmp 107) = .pointer (some ⟨G, i, none⟩) := haft ⟨7, .data⟩ (by simp) rfl _ _ rfl rfl
                exact b_same hi hI rfl _ (run_loadint_op rfl f7 Try.underlying3 ((HLd.out.keep HGd.out hI).cell HD2.out)) rfl
              · intro ac W hI hun haft hi
                have f4 : ac.eval (.tmp 104) = .int .i64 sa := haft ⟨4, .data⟩ (by simp) rfl _ _ rfl rfl
                have f8 : ac.eval (.tmp 108) = .int .i64 sb := haft ⟨8, .data⟩ (by simp) rfl _ _ rfl rfl
                exact b_same hi hI rfl _ (run_bin_op rfl f4 f8 (guardI _ _ _ _ _ _ _) (gt_isS sa sb false HQ9.out W)) rfl
              · intro ac W hI hun haft hi
                have f9 : ac.eval (.tmp 109) = .bool false := haft ⟨9, .data⟩ (by simp) rfl _ _ rfl rfl
                exact b_same hi hI rfl _ (run_move_op rfl f9) rfl
              · intro ac W hI hun haft hi
                have fg : ac.eval (.tmp 110) = .bool false := haft ⟨10, .guard⟩ (by simp) rfl _ _ rfl rfl
                have e4 : ac.eval (.tmp 4) = .slice (some ⟨G, 0, none⟩) j' j' := hun 4 (by kernel_rfl)
                exact b_same hi hI (guard_ok rfl rfl rfl fg) _ (run_move_op rfl e4) rfl
              · intro ac W hI hun haft hi
                have fg : ac.eval (.tmp 110) = .bool false := haft ⟨10, .guard⟩ (by simp) rfl _ _ rfl rfl
                have e5 : ac.eval (.tmp 5) = .int .i64 ((i : Nat) : Int) := hun 5 (by kernel_rfl)
                exact b_same hi hI (guard_ok rfl rfl rfl fg) _ (run_move_op rfl e5) rfl
              · intro ac W hI hun haft hi
                have fg : ac.eval (.tmp 110) = .bool false := haft ⟨10, .guard⟩ (by simp) rfl _ _ rfl rfl
                have f12 : ac.eval (.tmp 112) = .int .i64 ((i : Nat) : Int) := haft ⟨12, .data⟩ (by simp) rfl _ _ rfl rfl
                exact b_same hi hI (guard_ok rfl rfl rfl fg) _ (run_bin_op rfl f12 rfl (guardI _ _ _ _ _ _ _) (sub_h i 1 h (by have := HH.out; omega) (by have := HH.out; omega) (by have := HH.out; omega) W)) rfl
              · intro ac W hI hun haft hi
                have fg : ac.eval (.tmp 110) = .bool false := haft ⟨10, .guard⟩ (by simp) rfl _ _ rfl rfl
                have f11 : ac.eval (.tmp 111) = .slice (some ⟨G, 0, none⟩) j' j' := haft ⟨11, .data⟩ (by simp) rfl _ _ rfl rfl
                have f13 : ac.eval (.tmp 113) = .int .i64 ((h : Nat) : Int) := haft ⟨13, .data⟩ (by simp) rfl _ _ rfl rfl
                exact b_same hi hI (guard_ok rfl rfl rfl fg) _ (run_indexAddr_op rfl f11 f13 (at_IN G j' j' h (by have := HH.out; omega) W)) rfl
              · intro ac W hI hun haft hi
                have fg : ac.eval (.tmp 110) = .bool false := haft ⟨10, .guard⟩ (by simp) rfl _ _ rfl rfl
                have f14 : ac.eval (.tmp 114) = .pointer (some ⟨G, h, none⟩) := haft ⟨14, .data⟩ (by simp) rfl _ _ rfl rfl
                exact b_same hi hI (guard_ok rfl rfl rfl fg) _ (run_loadint_op rfl f14 Try.underlying3 ((HLd.out.keep HGd.out hI).cell HD1.out)) rfl
              · intro ac W hI hun haft hi
                have fg : ac.eval (.tmp 110) = .bool false := haft ⟨10, .guard⟩ (by simp) rfl _ _ rfl rfl
                have e4 : ac.eval (.tmp 4) = .slice (some ⟨G, 0, none⟩) j' j' := hun 4 (by kernel_rfl)
                exact b_same hi hI (guard_ok rfl rfl rfl fg) _ (run_move_op rfl e4) rfl
              · intro ac W hI hun haft hi
                have fg : ac.eval (.tmp 110) = .bool false := haft ⟨10, .guard⟩ (by simp) rfl _ _ rfl rfl
                have e5 : ac.eval (.tmp 5) = .int .i64 ((i : Nat) : Int) := hun 5 (by kernel_rfl)
                exact b_same hi hI (guard_ok rfl rfl rfl fg) _ (run_move_op rfl e5) rfl
              · intro ac W hI hun haft hi
                have fg : ac.eval (.tmp 110) = .bool false := haft ⟨10, .guard⟩ (by simp) rfl _ _ rfl rfl
                have f16 : ac.eval (.tmp 116) = .slice (some ⟨G, 0, none⟩) j' j' := haft ⟨16, .data⟩ (by simp) rfl _ _ rfl rfl
                have f17 : ac.eval (.tmp 117) = .int .i64 ((i : Nat) : Int) := haft ⟨17, .data⟩ (by simp) rfl _ _ rfl rfl
                exact b_same hi hI (guard_ok rfl rfl rfl fg) _ (run_indexAddr_op rfl f16 f17 (at_IN G j' j' i (by have := HH.out; omega) W)) rfl
              · intro ac W hI hun haft hi
                have fg : ac.eval (.tmp 110) = .bool false := haft ⟨10, .guard⟩ (by simp) rfl _ _ rfl rfl
                have f18 : ac.eval (.tmp 118) = .pointer (some ⟨G, i, none⟩) := haft ⟨18, .data⟩ (by simp) rfl _ _ rfl rfl
                exact b_same hi hI (guard_ok rfl rfl rfl fg) _ (run_loadint_op rfl f18 Try.underlying3 ((HLd.out.keep HGd.out hI).cell HD2.out)) rfl
              · intro ac W hI hun haft hi
                have fg : ac.eval (.tmp 110) = .bool false := haft ⟨10, .guard⟩ (by simp) rfl _ _ rfl rfl
                have f15 : ac.eval (.tmp 115) = .int .i64 sa := haft ⟨15, .data⟩ (by simp) rfl _ _ rfl rfl
                have f19 : ac.eval (.tmp 119) = .int .i64 sb := haft ⟨19, .data⟩ (by simp) rfl _ _ rfl rfl
                exact b_same hi hI (guard_ok rfl rfl rfl fg) _ (run_bin_op rfl f15 f19 (guardI _ _ _ _ _ _ _) (eq_isO sa sb _ HU.out W)) rfl
              · intro ac W hI hun haft hi
                have fg : ac.eval (.tmp 110) = .bool false := haft ⟨10, .guard⟩ (by simp) rfl _ _ rfl rfl
                have f20 : ac.eval (.tmp 120) = .bool u := haft ⟨20, .data⟩ (by simp) rfl _ _ rfl rfl
                exact b_same hi hI (guard_ok rfl rfl rfl fg) _ (run_move_op rfl f20) rfl
              · intro ac W hI hun haft hi
                have fg : ac.eval (.tmp 121) = .bool u := haft ⟨21, .guard⟩ (by simp) rfl _ _ rfl rfl
                have e15 : ac.eval (.tmp 15) = .pointer (some ⟨g8, 0, none⟩) := hun 15 (by kernel_rfl)
                cases u
                case false => exact b_skip hi hI (guard_no rfl rfl rfl (.inl fg)) rfl
                case true =>
                  exact b_same hi hI (guard_ok rfl rfl rfl fg) _ (run_fieldAddr_any rfl e15 (at_dd0 g8 0 W)) rfl
              · intro ac W hI hun haft hi
                have fg : ac.eval (.tmp 121) = .bool u := haft ⟨21, .guard⟩ (by simp) rfl _ _ rfl rfl
                have f22 : ac.eval (.tmp 122) = vB (u) (.pointer (some ⟨g8, 0, none⟩)) := haft ⟨22, .data⟩ (by simp) rfl _ _ rfl rfl
                cases u
                case false => exact b_skip hi hI (guard_no rfl rfl rfl (.inl fg)) rfl
                case true =>
                  exact b_same hi hI (guard_ok rfl rfl rfl fg) _ (run_loadint_op rfl f22 Try.underlying3 ((Blk.cell (Blk.below HB8.out hI (Blk.lt HB8.out)) 0).trans rfl)) rfl
              · intro ac W hI hun haft hi
                have fg : ac.eval (.tmp 121) = .bool u := haft ⟨21, .guard⟩ (by simp) rfl _ _ rfl rfl
                have e16 : ac.eval (.tmp 16) = .pointer (some ⟨g9, 0, none⟩) := hun 16 (by kernel_rfl)
                cases u
                case false => exact b_skip hi hI (guard_no rfl rfl rfl (.inl fg)) rfl
                case true =>
                  exact b_same hi hI (guard_ok rfl rfl rfl fg) _ (run_fieldAddr_any rfl e16 (at_dd0 g9 0 W)) rfl
              · intro ac W hI hun haft hi
                have fg : ac.eval (.tmp 121) = .bool u := haft ⟨21, .guard⟩ (by simp) rfl _ _ rfl rfl
                have f24 : ac.eval (.tmp 124) = vB (u) (.pointer (some ⟨g9, 0, none⟩)) := haft ⟨24, .data⟩ (by simp) rfl _ _ rfl rfl
                cases u
                case false => exact b_skip hi hI (guard_no rfl rfl rfl (.inl fg)) rfl
                case true =>
                  exact b_same hi hI (guard_ok rfl rfl rfl fg) _ (run_loadint_op rfl f24 Try.underlying3 ((Blk.cell (Blk.below HB9.out hI (Blk.lt HB9.out)) 0).trans rfl)) rfl
              · intro ac W hI hun haft hi
                have fg : ac.eval (.tmp 121) = .bool u := haft ⟨21, .guard⟩ (by simp) rfl _ _ rfl rfl
                have f23 : ac.eval (.tmp 123) = vB (u) (.int .i64 x.r) := haft ⟨23, .data⟩ (by simp) rfl _ _ rfl rfl
                have f25 : ac.eval (.tmp 125) = vB (u) (.int .i64 e.r) := haft ⟨25, .data⟩ (by simp) rfl _ _ rfl rfl
                cases u
                case false => exact b_skip hi hI (guard_no rfl rfl rfl (.inl fg)) rfl
                case true =>
                  exact b_same hi hI (guard_ok rfl rfl rfl fg) _ (run_bin_op rfl f23 f25 (guardI _ _ _ _ _ _ _) (gt_isS x.r e.r false (HQ26.out rfl) W)) rfl
              · intro ac W hI hun haft hi
                have fg : ac.eval (.tmp 121) = .bool u := haft ⟨21, .guard⟩ (by simp) rfl _ _ rfl rfl
                have f26 : ac.eval (.tmp 126) = vB (u) (.bool false) := haft ⟨26, .data⟩ (by simp) rfl _ _ rfl rfl
                cases u
                case false => exact b_skip hi hI (guard_no rfl rfl rfl (.inl fg)) rfl
                case true =>
                  exact b_same hi hI (guard_ok rfl rfl rfl fg) _ (run_move_op rfl f26) rfl
              · intro ac W hI hun haft hi
                have fg : ac.eval (.tmp 127) = vB (u) (.bool false) := haft ⟨27, .guard⟩ (by simp) rfl _ _ rfl rfl
                have e15 : ac.eval (.tmp 15) = .pointer (some ⟨g8, 0, none⟩) := hun 15 (by kernel_rfl)
                cases u
                case false => exact b_skip hi hI (guard_no rfl rfl rfl (.inr fg)) rfl
                case true =>
                  exact b_same hi hI (guard_ok rfl rfl rfl fg) _ (run_fieldAddr_any rfl e15 (at_dd0 g8 0 W)) rfl
              · intro ac W hI hun haft hi
                have fg : ac.eval (.tmp 127) = vB (u) (.bool false) := haft ⟨27, .guard⟩ (by simp) rfl _ _ rfl rfl
                have f28 : ac.eval (.tmp 128) = vB (u) (.pointer (some ⟨g8, 0, none⟩)) := haft ⟨28, .data⟩ (by simp) rfl _ _ rfl rfl
                cases u
                case false => exact b_skip hi hI (guard_no rfl rfl rfl (.inr fg)) rfl
                case true =>
                  exact b_same hi hI (guard_ok rfl rfl rfl fg) _ (run_loadint_op rfl f28 Try.underlying3 ((Blk.cell (Blk.below HB8.out hI (Blk.lt HB8.out)) 0).trans rfl)) rfl
              · intro ac W hI hun haft hi
                have fg : ac.eval (.tmp 127) = vB (u) (.bool false) := haft ⟨27, .guard⟩ (by simp) rfl _ _ rfl rfl
                have e16 : ac.eval (.tmp 16) = .pointer (some ⟨g9, 0, none⟩) := hun 16 (by kernel_rfl)
                cases u
                case false => exact b_skip hi hI (guard_no rfl rfl rfl (.inr fg)) rfl
                case true =>
                  exact b_same hi hI (guard_ok rfl rfl rfl fg) _ (run_fieldAddr_any rfl e16 (at_dd0 g9 0 W)) rfl
              · intro ac W hI hun haft hi
                have fg : ac.eval (.tmp 127) = vB (u) (.bool false) := haft ⟨27, .guard⟩ (by simp) rfl _ _ rfl rfl
                have f30 : ac.eval (.tmp 130) = vB (u) (.pointer (some ⟨g9, 0, none⟩)) := haft ⟨30, .data⟩ (by simp) rfl _ _ rfl rfl
                cases u
                case false => exact b_skip hi hI (guard_no rfl rfl rfl (.inr fg)) rfl
                case true =>
                  exact b_same hi hI (guard_ok rfl rfl rfl fg) _ (run_loadint_op rfl f30 Try.underlying3 ((Blk.cell (Blk.below HB9.out hI (Blk.lt HB9.out)) 0).trans rfl)) rfl
              · intro ac W hI hun haft hi
                have fg : ac.eval (.tmp 127) = vB (u) (.bool false) := haft ⟨27, .guard⟩ (by simp) rfl _ _ rfl rfl
                have f29 : ac.eval (.tmp 129) = vB (u) (.int .i64 x.r) := haft ⟨29, .data⟩ (by simp) rfl _ _ rfl rfl
                have f31 : ac.eval (.tmp 131) = vB (u) (.int .i64 e.r) := haft ⟨31, .data⟩ (by simp) rfl _ _ rfl rfl
                cases u
                case false => exact b_skip hi hI (guard_no rfl rfl rfl (.inr fg)) rfl
                case true =>
                  exact b_same hi hI (guard_ok rfl rfl rfl fg) _ (run_bin_op rfl f29 f31 (guardI _ _ _ _ _ _ _) (eq_isO x.r e.r _ HV.out W)) rfl
              · intro ac W hI hun haft hi
                have fg : ac.eval (.tmp 127) = vB (u) (.bool false) := haft ⟨27, .guard⟩ (by simp) rfl _ _ rfl rfl
                have f32 : ac.eval (.tmp 132) = vB (u) (.bool v) := haft ⟨32, .data⟩ (by simp) rfl _ _ rfl rfl
                cases u
                case false => exact b_skip hi hI (guard_no rfl rfl rfl (.inr fg)) rfl
                case true =>
                  exact b_same hi hI (guard_ok rfl rfl rfl fg) _ (run_move_op rfl f32) rfl
              · intro ac W hI hun haft hi
                have fg : ac.eval (.tmp 133) = vB (u) (.bool v) := haft ⟨33, .guard⟩ (by simp) rfl _ _ rfl rfl
                have e15 : ac.eval (.tmp 15) = .pointer (some ⟨g8, 0, none⟩) := hun 15 (by kernel_rfl)
                cases u
                case false => exact b_skip hi hI (guard_no rfl rfl rfl (.inr fg)) rfl
                case true =>
                  cases v
                  case false => exact b_skip hi hI (guard_no rfl rfl rfl (.inl fg)) rfl
                  case true =>
                    exact b_same hi hI (guard_ok rfl rfl rfl fg) _ (run_fieldAddr_any rfl e15 (at_dd1 g8 W)) rfl
              · intro ac W hI hun haft hi
                have fg : ac.eval (.tmp 133) = vB (u) (.bool v) := haft ⟨33, .guard⟩ (by simp) rfl _ _ rfl rfl
                have f34 : ac.eval (.tmp 134) = vB (u && v) (.pointer (some ⟨g8, 1, none⟩)) := haft ⟨34, .data⟩ (by simp) rfl _ _ rfl rfl
                cases u
                case false => exact b_skip hi hI (guard_no rfl rfl rfl (.inr fg)) rfl
                case true =>
                  cases v
                  case false => exact b_skip hi hI (guard_no rfl rfl rfl (.inl fg)) rfl
                  case true =>
                    exact b_same hi hI (guard_ok rfl rfl rfl fg) _ (run_loadint_op rfl f34 Try.underlying3 ((Blk.cell (Blk.below HB8.out hI (Blk.lt HB8.out)) 1).trans rfl)) rfl
              · intro ac W hI hun haft hi
                have fg : ac.eval (.tmp 133) = vB (u) (.bool v) := haft ⟨33, .guard⟩ (by simp) rfl _ _ rfl rfl
                have e16 : ac.eval (.tmp 16) = .pointer (some ⟨g9, 0, none⟩) := hun 16 (by kernel_rfl)
                cases u
                case false => exact b_skip hi hI (guard_no rfl rfl rfl (.inr fg)) rfl
                case true =>
                  cases v
                  case false => exact b_skip hi hI (guard_no rfl rfl rfl (.inl fg)) rfl
                  case true =>
                    exact b_same hi hI (guard_ok rfl rfl rfl fg) _ (run_fieldAddr_any rfl e16 (at_dd1 g9 W)) rfl
              · intro ac W hI hun haft hi
                have fg : ac.eval (.tmp 133) = vB (u) (.bool v) := haft ⟨33, .guard⟩ (by simp) rfl _ _ rfl rfl
                have f36 : ac.eval (.tmp 136) = vB (u && v) (.pointer (some ⟨g9, 1, none⟩)) := haft ⟨36, .data⟩ (by simp) rfl _ _ rfl rfl
                cases u
                case false => exact b_skip hi hI (guard_no rfl rfl rfl (.inr fg)) rfl
                case true =>
                  cases v
                  case false => exact b_skip hi hI (guard_no rfl rfl rfl (.inl fg)) rfl
                  case true =>
                    exact b_same hi hI (guard_ok rfl rfl rfl fg) _ (run_loadint_op rfl f36 Try.underlying3 ((Blk.cell (Blk.below HB9.out hI (Blk.lt HB9.out)) 1).trans rfl)) rfl
              · intro ac W hI hun haft hi
                have fg : ac.eval (.tmp 133) = vB (u) (.bool v) := haft ⟨33, .guard⟩ (by simp) rfl _ _ rfl rfl
                have f35 : ac.eval (.tmp 135) = vB (u && v) (.int .i64 x.c) := haft ⟨35, .data⟩ (by simp) rfl _ _ rfl rfl
                have f37 : ac.eval (.tmp 137) = vB (u && v) (.int .i64 e.c) := haft ⟨37, .data⟩ (by simp) rfl _ _ rfl rfl
                cases u
                case false => exact b_skip hi hI (guard_no rfl rfl rfl (.inr fg)) rfl
                case true =>
                  cases v
                  case false => exact b_skip hi hI (guard_no rfl rfl rfl (.inl fg)) rfl
                  case true =>
                    exact b_same hi hI (guard_ok rfl rfl rfl fg) _ (run_bin_op rfl f35 f37 (guardI _ _ _ _ _ _ _) (gt_isS x.c e.c false (HQ38.out rfl rfl) W)) rfl
              · intro ac W hI hun haft hi
                have fg : ac.eval (.tmp 127) = vB (u) (.bool false) := haft ⟨27, .guard⟩ (by simp) rfl _ _ rfl rfl
                have f33 : ac.eval (.tmp 133) = vB (u) (.bool v) := haft ⟨33, .data⟩ (by simp) rfl _ _ rfl rfl
                have f38 : ac.eval (.tmp 138) = vB (u && v) (.bool false) := haft ⟨38, .data⟩ (by simp) rfl _ _ rfl rfl
                cases u
                case false => exact b_skip hi hI (guard_no rfl rfl rfl (.inr fg)) rfl
                case true =>
                  cases v
                  case true => exact b_same hi hI (guard_ok rfl rfl rfl fg) _ (run_pick_op (b := true) rfl f33 f38 rfl) rfl
                  case false => exact b_same hi hI (guard_ok rfl rfl rfl fg) _ (run_pick_op (b := false) rfl f33 f38 rfl) rfl
              · intro ac W hI hun haft hi
                have fg : ac.eval (.tmp 121) = .bool u := haft ⟨21, .guard⟩ (by simp) rfl _ _ rfl rfl
                have f27 : ac.eval (.tmp 127) = vB (u) (.bool false) := haft ⟨27, .data⟩ (by simp) rfl _ _ rfl rfl
                have f39 : ac.eval (.tmp 139) = vB (u) (.bool false) := haft ⟨39, .data⟩ (by simp) rfl _ _ rfl rfl
                cases u
                case false => exact b_skip hi hI (guard_no rfl rfl rfl (.inl fg)) rfl
                case true =>
                  exact b_same hi hI (guard_ok rfl rfl rfl fg) _ (run_pick_op (b := false) rfl f27 rfl f39) rfl
              · intro ac W hI hun haft hi
                have fg : ac.eval (.tmp 110) = .bool false := haft ⟨10, .guard⟩ (by simp) rfl _ _ rfl rfl
                have f21 : ac.eval (.tmp 121) = .bool u := haft ⟨21, .data⟩ (by simp) rfl _ _ rfl rfl
                have f40 : ac.eval (.tmp 140) = vB (u) (.bool false) := haft ⟨40, .data⟩ (by simp) rfl _ _ rfl rfl
                cases u
                case true => exact b_same hi hI (guard_ok rfl rfl rfl fg) _ (run_pick_op (b := true) rfl f21 f40 rfl) rfl
                case false => exact b_same hi hI (guard_ok rfl rfl rfl fg) _ (run_pick_op (b := false) rfl f21 f40 rfl) rfl
              · intro ac W hI hun haft hi
                have f10 : ac.eval (.tmp 110) = .bool false := haft ⟨10, .data⟩ (by simp) rfl _ _ rfl rfl
                have f41 : ac.eval (.tmp 141) = .bool false := haft ⟨41, .data⟩ (by simp) rfl _ _ rfl rfl
                exact b_same hi hI rfl _ (run_pick_op (b := false) rfl f10 rfl f41) rfl
            · intro vals2 W hI hp
              have h42 : vals2 42 = .bool false := hp 42 (by decide)
              have HLe := Lib.hid (HLd.out.keep HGd.out hI)
              clear hp hI
              simp only [layN, List.size_toArray, List.length_cons, List.length_nil, List.range, List.range.loop, if_true, List.getElem?_toArray, List.getElem?_cons_zero, List.getElem?_cons_succ, Act.put, List.setIfInBounds_toArray, List.set_cons_zero, List.set_cons_succ, Nat.zero_add, Nat.reduceAdd, h42]
              clear h42
              go_wp2_with (first
                | (refine wpList_val (o := ⟨some 143, _, _, _, _, _⟩) rfl (.int .i64 ((i1 : Nat) : Int)) _ (run_bin_op rfl rfl rfl (guardI _ _ _ _ _ _ _) (add_h i 1 i1 HI1.out.1 (by have := HI1.out; have := H80.out; omega) _)) ?_)
                | fail)
              go_roundw
              case rel => exact ⟨i1, ss', rfl, by have := HI1.out; omega, HLe.out⟩
              case measure => have := HI1.out; simp [intOf] <;> omega

end Go.Proofs.Ytmhechlfpaciiaa
