/-
  lex.spelt, lex.right, lex.Is: the contracts, by walks. lex.Text: the contract, by a walk. Conditions: lengths.
-/
import Derived.Test.YtdabanocofimmaaGreatDoorJSlK
import Derived.Test.YtdabanocofimmaaGreatDoorOrder
import Derived.Lib.Join
import Derived.Laws.OwnMore
namespace Go.Proofs.YtdabanocofimmaaGreatDoor
open Go.RowKit

theorem wpList_val {P : Program} {ops : Array Oper} {rest : List Oper} {o : Oper} {a : Act} {w : World} {Q : Exit → Act → World → Prop} (hw : Region.wanted o (yielded ops a.tmps) = true) (v : Value) (w' : World)
    (hr : (execOp a.eval o).run P w = .ok (.value v) w') (h : wpList P ops Q rest (a.put o.dst v) w') : wpList P ops Q (o :: rest) a w :=
  wpList_step fun K hK => by
    rw [if_pos hw]
    unfold Oper.wp
    rw [hr]
    exact hK _ _ h
theorem str_inj {a b : List UInt8} : ((ByteArray.mk a.toArray).toList == (ByteArray.mk b.toArray).toList) = decide (a = b) := by
  rw [Lib.toList_data, Lib.toList_data]
  show (a.toArray.toList == b.toArray.toList) = _
  by_cases h : a = b
  · rw [decide_eq_true h, h]; exact beq_self_eq_true _
  · rw [decide_eq_false h]; exact beq_eq_false_iff_ne.2 (by simpa using h)
theorem run_eql_tk (u t : Lx.Tk) (w : World) : (binOp .eql 43 (tkV u) (tkV t)).run Tryz.prog w = .ok (.bool (decide (u = t))) w := by
  obtain ⟨a, b, c⟩ := u
  obtain ⟨a', b', c'⟩ := t
  unfold tkV
  dsimp only
  have hs := str_inj (a := c) (b := c')
  have hd : decide ((a, b, c) = (a', b', c')) = (decide (a = a') && (decide (b = b') && decide (c = c'))) := by
    rw [Bool.eq_iff_iff]
    simp [Prod.ext_iff]
  rw [hd]
  generalize (ByteArray.mk c.toArray) = X at *
  generalize (ByteArray.mk c'.toArray) = Y at *
  by_cases h1 : a = a'
  · by_cases h2 : b = b'
    · by_cases h3 : c = c'
      · rw [decide_eq_true h3] at hs
        have e1 : (a == a') = true := by rw [h1]; simp
        have e2 : (b == b') = true := by rw [h2]; simp
        rw [decide_eq_true h1, decide_eq_true h2, decide_eq_true h3]
        clear h1 h2 h3 hd
        go_simp
      · rw [decide_eq_false h3] at hs
        have e1 : (a == a') = true := by rw [h1]; simp
        have e2 : (b == b') = true := by rw [h2]; simp
        rw [decide_eq_true h1, decide_eq_true h2, decide_eq_false h3]
        clear h1 h2 h3 hd
        go_simp
    · have e1 : (a == a') = true := by rw [h1]; simp
      have e2 : (b == b') = false := beq_eq_false_iff_ne.2 h2
      rw [decide_eq_true h1, decide_eq_false h2]
      clear h1 h2 hd hs
      go_simp
  · have e1 : (a == a') = false := beq_eq_false_iff_ne.2 h1
    rw [decide_eq_false h1]
    clear h1 hd hs
    go_simp
theorem gd_tk (x y : Operand) (u t : Lx.Tk) (w : World) : (eqGuard .eql 43 x y (tkV u) (tkV t)).run Tryz.prog w = .ok () w := by
  unfold tkV; kernel_rfl

set_option maxRecDepth 100000 in
set_option maxHeartbeats 2000000 in
theorem spelt_any (t : Lx.Tk) (w : World) (hw : WOk w) (ht : t.2.2.length < 4294967281) : Calls Tryz.prog 110 #[tkV t] w (Gives w (.string ⟨(Lx.speltL t).toArray⟩)) := by
  obtain ⟨a, b, c⟩ := t
  have HW := Lib.hid hw
  have HS2 := Lib.hid (fun W hW => string_any 2 b ⟨#[]⟩ W (by decide) hW)
  have HS3 := Lib.hid (fun W hW => string_any 3 0 ⟨c.toArray⟩ W (by rw [size_mk]; exact ht) hW)
  rw [show (ByteArray.mk #[]).data.toList = [] from rfl] at HS2
  rw [show (ByteArray.mk c.toArray).data.toList = c by simp] at HS3
  unfold valV sv at HS2 HS3
  clear hw ht
  by_cases h3 : a = 3
  · have HF := Lib.hid (show Lx.speltL (a, b, c) = textB 2 b [] by unfold Lx.speltL; rw [if_pos h3])
    have e1 : (a == 3) = true := by rw [h3]; rfl
    clear h3
    unfold tkV
    go_enter Tryz.func110, Tryz.ntmps110
    go_wp2_with fail
    refine (HS2.out _ (HW.out.alloc _)).mono ?_
    rintro e w1 ⟨rfl, hb1⟩
    go_wp2
    go_ret
    exact ⟨by rw [HF.out]; rfl, alloc_then hb1⟩
  · have e1 : (a == 3) = false := beq_eq_false_iff_ne.2 h3
    by_cases h4 : a = 4
    · have HF := Lib.hid (show Lx.speltL (a, b, c) = textB 3 0 c by unfold Lx.speltL; rw [if_neg h3, if_pos h4])
      have e2 : (a == 4) = true := by rw [h4]; rfl
      clear h3 h4
      unfold tkV
      go_enter Tryz.func110, Tryz.ntmps110
      go_wp2_with fail
      refine (HS3.out _ (HW.out.alloc _)).mono ?_
      rintro e w1 ⟨rfl, hb1⟩
      go_wp2
      go_ret
      exact ⟨by rw [HF.out]; rfl, alloc_then hb1⟩
    · have HF := Lib.hid (show Lx.speltL (a, b, c) = c by unfold Lx.speltL; rw [if_neg h3, if_neg h4])
      have e2 : (a == 4) = false := beq_eq_false_iff_ne.2 h4
      clear h3 h4
      unfold tkV
      go_enter Tryz.func110, Tryz.ntmps110
      go_wp2
      go_ret
      exact ⟨by rw [HF.out]; rfl, alloc_below _ _⟩

theorem spelt_len (t : Lx.Tk) : (Lx.speltL t).length ≤ 130 + t.2.2.length := by
  unfold Lx.speltL
  have hb : ∀ k n l, (textB k n l).length ≤ 130 := by
    intro k n l
    cases hr : rightB k n l
    · unfold textB; rw [if_neg (by rw [hr]; decide)]; simp
    · exact Lx.text_len k n l hr
  split
  · have := hb 2 t.2.1 []; omega
  · split
    · have := hb 3 0 t.2.2; omega
    · omega

set_option maxRecDepth 100000 in
set_option maxHeartbeats 2000000 in
theorem lright_any (t : Lx.Tk) (w : World) (hw : WOk w) (ht : t.2.2.length < 4294967281) : Calls Tryz.prog 109 #[tkV t] w (Gives w (.bool (Lx.rightT t))) := by
  have HW := Lib.hid hw
  have HSp := Lib.hid (fun W hW => spelt_any t W hW ht)
  have HFi := Lib.hid (fun W hW => lfirst_any ⟨(Lx.speltL t).toArray⟩ W hW (by rw [size_mk]; have := spelt_len t; omega))
  rw [show (ByteArray.mk (Lx.speltL t).toArray).data.toList = Lx.speltL t by simp] at HFi
  have HR : Hid (Lx.rightT t = match Lx.firstO (Lx.speltL t) with | some (u, _) => decide (u = t) | none => false) := Lib.hid rfl
  clear hw ht
  obtain ⟨a, b, c⟩ := t
  cases hf : Lx.firstO (Lx.speltL (a, b, c)) with
  | none =>
    have HF := Lib.hid (show Lx.rightT (a, b, c) = false by rw [HR.out, hf])
    rw [hf] at HFi
    clear hf
    unfold tkV at HSp ⊢
    dsimp only at HSp ⊢
    go_enter Tryz.func109, Tryz.ntmps109
    go_wp2_with fail
    refine (HSp.out _ (HW.out.alloc _)).mono ?_
    rintro e w1 ⟨rfl, hb1⟩
    have k1 := In1.of hb1
    clear hb1
    go_wp2_with fail
    refine (HFi.out _ (HW.out.below k1.below)).mono ?_
    rintro e w2 ⟨rfl, hb2⟩
    have k2 := k1.then_ hb2
    have HB := Lib.hid (k2.below.trans ((alloc_below w2 (.cells #[.int .i64 0, .int .i64 0, .string ⟨#[]⟩] 43)).mono k2.below.size))
    clear hb2 k1 k2
    unfold rdV tkV
    dsimp only
    go_wp2_with fail
    go_ret
    exact ⟨by rw [HF.out]; rfl, HB.out⟩
  | some x =>
    obtain ⟨u, n⟩ := x
    have hn := (Lx.first_text hf).2.1
    obtain ⟨q, hq⟩ : ∃ q, decide (u = (a, b, c)) = q := ⟨_, rfl⟩
    have HF := Lib.hid (show Lx.rightT (a, b, c) = q by rw [HR.out, hf]; exact hq)
    rw [hf] at HFi
    have HEq := Lib.hid (fun W => run_eql_tk u (a, b, c) W)
    rw [hq] at HEq
    have hg : (0 : Int) < (n : Int) := by omega
    clear hf hq
    obtain ⟨ua, ub, uc⟩ := u
    unfold tkV at HSp HEq ⊢
    dsimp only at HSp HEq ⊢
    go_enter Tryz.func109, Tryz.ntmps109
    go_wp2_with fail
    refine (HSp.out _ (HW.out.alloc _)).mono ?_
    rintro e w1 ⟨rfl, hb1⟩
    have k1 := In1.of hb1
    clear hb1
    go_wp2_with fail
    refine (HFi.out _ (HW.out.below k1.below)).mono ?_
    rintro e w2 ⟨rfl, hb2⟩
    have k2 := k1.then_ hb2
    have HB := Lib.hid (k2.below.trans ((alloc_below w2 (.cells #[.int .i64 ua, .int .i64 ub, .string ⟨uc.toArray⟩] 43)).mono k2.below.size))
    obtain ⟨c0, c1, c2, f0, f1, f2, hlt⟩ := k2.three
    clear hb2 k1 k2
    unfold rdV tkV
    dsimp only
    go_wp2_with (first
      | (refine wpList_val (o := ⟨some 16, _, _, _, _, _⟩) rfl (.bool q) _ (run_bin_op rfl rfl rfl (gd_tk _ _ (ua, ub, uc) (a, b, c) _) (HEq.out _)) ?_)
      | fail)
    go_ret
    exact ⟨by rw [HF.out]; rfl, HB.out⟩

end Go.Proofs.YtdabanocofimmaaGreatDoor

namespace Go.Proofs.YtdabanocofimmaaGreatDoor
open Go.RowKit

theorem infoSt : (Tryz.prog.info? 9).map (fun i => (i.zero, i.size, i.bytes)) = some (some (.string ⟨#[]⟩), 1, 16) := by kernel_rfl
/-- A row of texts made anew. -/
theorem make_strs (w : World) (n : Nat) (hn : n ≤ 1000000) : ∃ w' cs, (Instr.makeSlice 30 (.int .i64 (n : Int)) (.int .i64 (n : Int))).run Tryz.prog w = .ok (.slice (some ⟨w.heap.size, 0, none⟩) n n) w' ∧ Blk w' w.heap.size 9 cs ∧ cs.size = n ∧ Below w.heap.size w w' := by
  obtain ⟨i, hi, hz0, hz1, hz2⟩ := info_parts infoSt
  obtain ⟨w', hr, ho, hg⟩ := run_makeSlice_full (P := Tryz.prog) (w := w) w.heap.size 30 9 i _ 1 Tryz.underlying30 hi hz0 hz1 .i64 .i64 n (by omega) (by rw [hz2]; omega) (by unfold maxLen; omega) (Nat.le_refl _)
  rcases ho.2 with ⟨h1, _⟩ | ⟨g, cap, cur, hv, hB, hgb, h1, h2, h3, h4⟩
  · cases h1
  · injection hv with e1 e2 e3
    injection e1 with e1
    injection e1 with e1
    subst e1
    subst e3
    exact ⟨w', cur, hr, hgb, by rw [h3, Nat.mul_one], ⟨hg.os, hg.tape, hg.output, hg.size, fun k hk => hg.block k hk (by simp)⟩⟩
theorem run_makeS_op {P : Program} {o : Oper} {ρ : Operand → Value} {w w' : World} {t : TypeId} {x y : Operand} {vx vy v : Value} (ho : o.op = .makeSlice t x y) (hx : ρ x = vx) (hy : ρ y = vy) (hr : (Instr.makeSlice t vx vy).run P w = .ok v w') : (execOp ρ o).run P w = .ok (.value v) w' := by
  unfold execOp
  simp only [ho, hx, hy, Sem.run_bind, hr, Result.andThen_ok, Sem.run_pure]
theorem at_Tk (g o c n k : Nat) (h : k < n) (w : World) : (Instr.indexAt 25 (.slice (some ⟨g, o, none⟩) n c) (.int .i64 k)).run Tryz.prog w = .ok (.pointer (some ⟨g, o + k * 3, none⟩)) w := by
  have h2 : (k : Int) < n := by omega
  go_simp
theorem at_St (g c n k : Nat) (h : k < n) (w : World) : (Instr.indexAt 30 (.slice (some ⟨g, 0, none⟩) n c) (.int .i64 k)).run Tryz.prog w = .ok (.pointer (some ⟨g, k, none⟩)) w := by
  have h2 : (k : Int) < n := by omega
  go_simp
/-- What Text answers. -/
def textV (L : List Lx.Tk) : Value := if L.all Lx.rightT = true then .tuple #[.string ⟨(Lib.join (L.map Lx.speltL) [32]).toArray⟩, .bool true] else .tuple #[.string ⟨#[]⟩, .bool false]
theorem join_len : ∀ (L : List (List UInt8)) (m : Nat), (∀ x ∈ L, x.length ≤ m) → (Lib.join L [32]).length ≤ L.length * (m + 1)
  | [], _, _ => by simp [Lib.join_nil]
  | x :: r, m, h => by
    rw [Lib.join_cons, List.length_append]
    have h1 := h x (by simp)
    have h2 : (Lib.joinTail [32] r).length ≤ r.length * (m + 1) := by
      unfold Lib.joinTail
      have h3 : ∀ y ∈ r, y.length ≤ m := fun y hy => h y (List.mem_cons_of_mem _ hy)
      clear h h1
      induction r with
      | nil => simp
      | cons y r ih =>
        have e : (y :: r).length * (m + 1) = r.length * (m + 1) + (m + 1) := by rw [List.length_cons, Nat.succ_mul]
        rw [e, List.map_cons, List.flatten_cons, List.length_append, List.length_append, List.length_singleton]
        have := ih (fun z hz => h3 z (List.mem_cons_of_mem _ hz))
        have := h3 y (by simp)
        omega
    rw [List.length_cons, Nat.succ_mul]
    omega

theorem run_indexAddr_op {P : Program} {o : Oper} {ρ : Operand → Value} {w : World} {ty : TypeId} {x y : Operand} {vx vy v : Value} (ho : o.op = .indexAddr ty x y) (hx : ρ x = vx) (hy : ρ y = vy) (hr : (Instr.indexAt ty vx vy).run P w = .ok v w) : (execOp ρ o).run P w = .ok (.value v) w := by
  unfold execOp
  simp only [ho, hx, hy, Sem.run_bind, hr, Result.andThen_ok, Sem.run_pure]
theorem all_take {L : List Lx.Tk} {k : Nat} {t : Lx.Tk} (h : ∀ u ∈ L.take k, Lx.rightT u = true) (ht : L[k]? = some t) (hr : Lx.rightT t = true) : ∀ u ∈ L.take (k + 1), Lx.rightT u = true := by
  intro u hu
  rw [List.take_add_one, ht] at hu
  rcases List.mem_append.1 hu with h1 | h1
  · exact h u h1
  · simp at h1; rw [h1]; exact hr

set_option maxRecDepth 100000 in
set_option maxHeartbeats 2000000 in
theorem lalltext_any (L : List Lx.Tk) (A : Option Addr) (N c : Nat) (w : World) (hs : SlK encT 3 w (.slice A N c) L) (hN : L.length = N) (hN2 : N ≤ 10000) (hf : ∀ t ∈ L, t.2.2.length ≤ 1000000) (hw : WOk w) :
    Calls Tryz.prog 97 #[.slice A N c] w (Gives w (textV L)) := by
  have HS := Lib.hid hs
  have HN := Lib.hid (And.intro hN hN2)
  have HFt := Lib.hid hf
  have HW := Lib.hid hw
  clear hs hN hN2 hf hw
  obtain ⟨w3, cs0, hr3, hB3, hz3, hb3⟩ := make_strs w N (by have := HN.out; omega)
  have HR3 := Lib.hid hr3
  have HB3 := Lib.hid hB3
  have HZ3 := Lib.hid hz3
  have HBe := Lib.hid hb3
  obtain ⟨G, hG⟩ : ∃ G, w.heap.size = G := ⟨_, rfl⟩
  rw [hG] at HR3 HB3 HBe
  have HG := Lib.hid hG
  clear hr3 hB3 hz3 hb3 hG
  go_enter Tryz.func97, Tryz.ntmps97
  go_wp2_with (first
    | (refine wpList_val (o := ⟨some 9, _, _, _, _, _⟩) rfl (.slice (some ⟨G, 0, none⟩) N N) w3 (run_makeS_op rfl rfl rfl HR3.out) ?_)
    | fail)
  go_loopw [12] (fun v12 wr => ∃ (k : Nat) (cs : Array Value), v12 = .int .i64 (k : Nat) ∧ k ≤ N ∧ Below G w wr ∧ Blk wr G 9 cs ∧ cs.size = N ∧ (∀ j t, j < k → L[j]? = some t → cs[j]? = some (.string ⟨(Lx.speltL t).toArray⟩)) ∧ ∀ t ∈ L.take k, Lx.rightT t = true) (fun v12 _ => N - (intOf v12).toNat)
  case atStart => exact ⟨0, cs0, rfl, Nat.zero_le _, HBe.out, HB3.out, HZ3.out, fun j t h => absurd h (Nat.not_lt_zero j), fun t ht => by simp at ht⟩
  case round =>
    obtain ⟨k, cs, rfl, hk, hbr, hbc, hcs, hdone, hright⟩ := hrel
    have HBr := Lib.hid hbr
    have HBc := Lib.hid hbc
    have HCs := Lib.hid hcs
    have HDn := Lib.hid hdone
    have HRi := Lib.hid hright
    have HGr := Lib.hid (show G ≤ wr.heap.size by rw [← HG.out]; exact HBr.out.size)
    clear hbr hbc hcs hdone hright
    by_cases hlt : k < N
    · have hkl : k < L.length := by rw [HN.out.1]; exact hlt
      obtain ⟨t, ht⟩ : ∃ t, L[k]? = some t := ⟨L[k]'hkl, List.getElem?_eq_getElem hkl⟩
      have HT := Lib.hid ht
      obtain ⟨g, o, hA, hgl, hc⟩ := (HS.out.below (by rw [HG.out]; exact HBr.out)).tk ht
      have HAt := Lib.hid (show (Instr.indexAt 25 (.slice A N c) (.int .i64 ((k : Nat) : Int))).run Tryz.prog wr = .ok (.pointer (some ⟨g, o + k * 3, none⟩)) wr by rw [hA]; exact at_Tk g o c N k hlt wr)
      have HLt := Lib.hid (show t.2.2.length ≤ 1000000 from HFt.out t (List.mem_of_getElem? ht))
      have HRt := Lib.hid (fun W hW => lright_any t W hW (by have := HLt.out; omega))
      have HSp := Lib.hid (fun W hW => spelt_any t W hW (by have := HLt.out; omega))
      have HWr := Lib.hid (HW.out.below (by rw [HG.out]; exact HBr.out))
      obtain ⟨ta, tb, tc⟩ := t
      have q0 := hc 0 _ rfl
      have q1 := hc 1 _ rfl
      have q2 := hc 2 _ rfl
      rw [Nat.add_zero] at q0
      obtain ⟨O, hO⟩ : ∃ O, o + k * 3 = O := ⟨_, rfl⟩
      rw [hO] at HAt q0 q1 q2
      obtain ⟨k1, hk1⟩ : ∃ k1, k + 1 = k1 := ⟨_, rfl⟩
      have HK := Lib.hid (And.intro hk1 hlt)
      have hw1 : wrap64 ((k : Int) + 1) = (k1 : Int) := by have := HN.out; rw [IntWalk.wrap64_in _ ⟨by omega, by omega⟩]; omega
      have hkN : (k : Int) < (N : Int) := by omega
      clear ht hA hc hkl hO hk1 hk hlt hgl
      unfold tkV at HRt HSp
      dsimp only at q0 q1 q2 HRt HSp
      cases hr : Lx.rightT (ta, tb, tc) with
      | false =>
        have HF := Lib.hid (show Value.tuple #[.string ⟨#[]⟩, .bool false] = textV L by
          unfold textV
          rw [if_neg]
          intro hall
          rw [List.all_eq_true.1 hall _ (List.mem_of_getElem? HT.out)] at hr
          cases hr)
        rw [hr] at HRt
        clear hr
        go_wp2_with (first
          | (refine wpList_val (o := ⟨some 15, _, _, _, _, _⟩) rfl (.pointer (some ⟨g, O, none⟩)) wr (run_indexAddr_op rfl rfl rfl HAt.out) ?_)
          | fail)
        refine (HRt.out _ (HWr.out.alloc _)).mono ?_
        rintro e w2 ⟨rfl, hb2⟩
        have HBq := Lib.hid (HBr.out.trans ((alloc_then hb2).mono HGr.out))
        clear hb2
        go_wp2_with fail
        go_ret2
        exact ⟨by rw [← HF.out]; rfl, by rw [HG.out]; exact HBq.out⟩
      | true =>
        have HRq := Lib.hid hr
        rw [hr] at HRt
        clear hr
        go_wp2_with (first
          | (refine wpList_val (o := ⟨some 15, _, _, _, _, _⟩) rfl (.pointer (some ⟨g, O, none⟩)) wr (run_indexAddr_op rfl rfl rfl HAt.out) ?_)
          | fail)
        refine (HRt.out _ (HWr.out.alloc _)).mono ?_
        rintro e w2 ⟨rfl, hb2⟩
        have hB2 := Blk.below (Blk.new wr 43 #[.int .i64 ta, .int .i64 tb, .string ⟨tc.toArray⟩]) hb2 (by simp)
        obtain ⟨c0, c1, c2, _, _, _, _⟩ := hB2.three
        have HBq := Lib.hid (alloc_then hb2)
        clear hb2
        go_wp2_with fail
        refine (HSp.out _ (HWr.out.below HBq.out)).mono ?_
        rintro e w4 ⟨rfl, hb4⟩
        have hBq4 := HBq.out.trans (hb4.mono HBq.out.size)
        have hbG := Blk.below HBc.out hBq4 (Blk.lt HBc.out)
        have hcell : w4.cell? ⟨G, k, none⟩ = some (cs[k]'(by rw [HCs.out]; exact HK.out.2)) := by rw [hbG.cell, Array.getElem?_eq_getElem]
        have hfree := hbG.free k
        have HBs := Lib.hid (hbG.set_ k (.string ⟨(Lx.speltL (ta, tb, tc)).toArray⟩))
        have HBb := Lib.hid (HBr.out.trans (hBq4.mono HGr.out))
        have hGlt := Blk.lt hbG
        generalize cs[k]'(by rw [HCs.out]; exact HK.out.2) = old at hcell
        clear hb4 hBq4 hbG c0 c1 c2 hB2
        go_wp2_with (first
          | (refine wpList_val (o := ⟨some 24, _, _, _, _, _⟩) rfl (.pointer (some ⟨G, k, none⟩)) w4 (run_indexAddr_op rfl rfl rfl (at_St G N N k HK.out.2 w4)) ?_)
          | fail)
        go_roundw
        case rel =>
          refine ⟨k1, cs.setIfInBounds k (.string ⟨(Lx.speltL (ta, tb, tc)).toArray⟩), by first | rfl | rw [hw1], by have := HK.out; omega, HBb.out.setCell (Nat.le_refl _) _, HBs.out, by rw [Array.size_setIfInBounds]; exact HCs.out, fun j u hj hu => ?_, ?_⟩
          · by_cases hjk : j = k
            · subst hjk
              rw [HT.out] at hu
              injection hu with hu
              subst hu
              rw [Array.getElem?_setIfInBounds_self_of_lt (by rw [HCs.out]; exact HK.out.2)]
            · rw [Array.getElem?_setIfInBounds_ne (fun e => hjk e.symm)]
              exact HDn.out j u (by have := HK.out; omega) hu
          · rw [← HK.out.1]
            exact all_take HRi.out HT.out HRq.out
        case measure =>
          have := HK.out
          (try rw [hw1])
          show N - (intOf (.int .i64 _)).toNat < N - (intOf (.int .i64 _)).toNat
          simp only [intOf, Int.toNat_natCast]
          omega
    · have hkN : k = N := by omega
      subst hkN
      have hall : L.all Lx.rightT = true := List.all_eq_true.2 fun u hu => HRi.out u (by rw [List.take_of_length_le (by rw [HN.out.1]; exact Nat.le_refl _)]; exact hu)
      have HF := Lib.hid (show Value.tuple #[.string ⟨(Lib.join (L.map Lx.speltL) [32]).toArray⟩, .bool true] = textV L by unfold textV; rw [if_pos hall])
      have hlx : (L.map fun t => (⟨(Lx.speltL t).toArray⟩ : ByteArray)).length = k := by rw [List.length_map]; exact HN.out.1
      have hmap : (L.map fun t => (⟨(Lx.speltL t).toArray⟩ : ByteArray)).map (·.data.toList) = L.map Lx.speltL := by rw [List.map_map]; exact List.map_congr_left fun t _ => by simp
      have HJ := Lib.hid (Tryz.strings_Join G 0 k (L.map fun t => (⟨(Lx.speltL t).toArray⟩ : ByteArray)) ⟨#[32]⟩ wr (fun j x hx => by
        rw [List.getElem?_map] at hx
        cases hu : L[j]? with
        | none => rw [hu] at hx; cases hx
        | some u =>
          rw [hu] at hx
          injection hx with hx
          have hjk : j < k := by
            have := (List.getElem?_eq_some_iff.1 hu).1
            rw [HN.out.1] at this
            exact this
          rw [Nat.zero_add, HBc.out.cell, HDn.out j u hjk hu]
          exact congrArg (fun y => some (Value.string y)) hx) (Blk.lt HBc.out) (by rw [hlx]; have := HN.out; omega) (by rw [hlx]; exact Nat.le_refl _) (by
          rw [hmap]
          have := join_len (L.map Lx.speltL) 1000130 (fun x hx => by
            obtain ⟨t, ht, rfl⟩ := List.mem_map.1 hx
            have := spelt_len t
            have := HFt.out t ht
            omega)
          rw [List.length_map, HN.out.1] at this
          have h2 := HN.out.2
          have h3 : k * (1000130 + 1) ≤ 10000 * (1000130 + 1) := Nat.mul_le_mul_right _ h2
          show (Lib.join _ [32]).length ≤ _
          omega))
      rw [hlx, hmap] at HJ
      rw [show (ByteArray.mk #[32]).data.toList = [32] from rfl] at HJ
      have hkk : ¬ (k : Int) < (k : Int) := by omega
      clear hlx hmap hall hlt hk
      go_wp2_with fail
      refine HJ.out.mono ?_
      rintro e w5 ⟨rfl, hb5⟩
      have HB5 := Lib.hid (HBr.out.trans (hb5.mono HGr.out))
      clear hb5
      go_wp2_with fail
      go_ret2
      exact ⟨by rw [← HF.out]; rfl, by rw [HG.out]; exact HB5.out⟩

end Go.Proofs.YtdabanocofimmaaGreatDoor
