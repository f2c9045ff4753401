/-
  The inner loop of NetPlays: all that is under way is what the row tells (written by gennt4.py). Conditions: none.
-/
import Derived.Test.YtoicncmlmhljmaaNtSit
namespace Go.Proofs.Ytoicncmlmhljmaa
open Go.RowKit

/-- The inner loop. -/
noncomputable def inC : Code := codeAt [1, 1, 1, 1, 1, 0, 1, 0, 0, 1, 1, 0, 0, 1, 1, 1, 1, 1, 1, 1, 1, 1] ((Try.f3.body).getD .skip)
/-- Behind it. -/
def InR (a : Act) (W : World) (a' : Act) (w' : World) : Prop := a'.tmps.size = 243 ∧ a'.defers = [] ∧ a'.tmps.getD 0 undef = a.tmps.getD 0 undef ∧ a'.tmps.getD 1 undef = a.tmps.getD 1 undef ∧ a'.tmps.getD 3 undef = a.tmps.getD 3 undef ∧ a'.tmps.getD 4 undef = a.tmps.getD 4 undef ∧ a'.tmps.getD 5 undef = a.tmps.getD 5 undef ∧ a'.tmps.getD 15 undef = a.tmps.getD 15 undef ∧ a'.tmps.getD 16 undef = a.tmps.getD 16 undef ∧ a'.tmps.getD 17 undef = a.tmps.getD 17 undef ∧ a'.tmps.getD 18 undef = a.tmps.getD 18 undef ∧ a'.tmps.getD 19 undef = a.tmps.getD 19 undef ∧ a'.tmps.getD 20 undef = a.tmps.getD 20 undef ∧ a'.tmps.getD 21 undef = a.tmps.getD 21 undef ∧ a'.tmps.getD 22 undef = a.tmps.getD 22 undef ∧ a'.tmps.getD 23 undef = a.tmps.getD 23 undef ∧ Below W.heap.size W w'

set_option maxRecDepth 100000 in
set_option maxHeartbeats 4000000 in
theorem inner_walk {R R' : Nat} {W : World} {A4 A5 : Option Addr} {c4 c5 : Nat} {L : List Pc} {qs : List (Int × Value)} {a : Act} {Q : Exit → Act → World → Prop} (hs : a.tmps.size = 243) (hd : a.defers = []) (s4 : a.tmps.getD 4 undef = .slice A4 L.length c4)
    (s215 : a.tmps.getD 215 undef = .slice A5 L.length c5) (s216 : a.tmps.getD 216 undef = .int .i64 L.length) (s217 : a.tmps.getD 217 undef = .int .i64 0) (hr : Lr R W (.slice A4 L.length c4) L) (ha : AllIs R' W (.slice A5 L.length c5) qs L) (hL : L.length ≤ 200)
    (hQ : ∀ a' w', InR a W a' w' → Q .normal a' w') : Code.wp Try.prog inC Q a W := by
  obtain ⟨t, rfl, ht⟩ := frame243 a hs hd
  have t4 := (ht 4).symm.trans s4
  have t215 := (ht 215).symm.trans s215
  have t216 := (ht 216).symm.trans s216
  have t217 := (ht 217).symm.trans s217
  rw [t4, t215, t216, t217] at hQ ⊢
  have HQ := Lib.hid hQ
  have HR := Lib.hid hr
  have HAl := Lib.hid ha
  clear hQ hr ha ht t4 t215 t216 t217 s4 s215 s216 s217 hs hd
  conv => arg 2; whnf
  go_wp2_with fail
  go_loopw [217] (fun i wr => ∃ m : Nat, m ≤ L.length ∧ i = .int .i64 m ∧ Below W.heap.size W wr) (fun i _ => L.length - (intOf i).toNat)
  case atStart => exact ⟨0, Nat.zero_le _, rfl, Below.refl _ _⟩
  case round =>
    obtain ⟨m, hm, rfl, hbr⟩ := hrel
    have HBr := Lib.hid hbr
    clear hbr
    by_cases hlt : m < L.length
    · obtain ⟨p, hp⟩ : ∃ p, p = L[m]'hlt := ⟨_, rfl⟩
      have hpm : L[m]? = some p := by rw [hp]; exact List.getElem?_eq_getElem hlt
      obtain ⟨hal1, hal2, hal3⟩ := HAl.out
      have hmq : m < qs.length := by omega
      obtain ⟨x, hx⟩ : ∃ x, x = qs[m]'hmq := ⟨_, rfl⟩
      have hxm : qs[m]? = some x := by rw [hx]; exact List.getElem?_eq_getElem hmq
      obtain ⟨hx1, hx2⟩ := hal3 m p x hpm hxm
      obtain ⟨B9, d9, hv9⟩ := hx2.form
      obtain ⟨A6, c6, h6, _, hx6⟩ := hal1.read encQ_len
      injection h6 with g1 g2 g3
      obtain ⟨b6, o6, hA6, hb6, hc6⟩ := hx6 (fun e => by rw [e] at hmq; cases hmq)
      rw [← g1] at hA6
      subst hA6
      have k0 : W.cell? ⟨b6, o6 + m * 2, none⟩ = some (.int .i64 p.to) := by
        have := hc6 m x hxm 0 (.int .i64 x.1) rfl
        rw [hx1] at this
        exact this
      have k1 : W.cell? ⟨b6, o6 + m * 2 + 1, none⟩ = some (.slice B9 p.b.length d9) := by
        have := hc6 m x hxm 1 x.2 rfl
        rw [hv9] at this
        exact this
      have k0 := (HBr.out.cell (p := ⟨b6, o6 + m * 2, none⟩) hb6).trans k0
      have k1 := (HBr.out.cell (p := ⟨b6, o6 + m * 2 + 1, none⟩) hb6).trans k1
      obtain ⟨A7, c7, h7, _, hx7⟩ := HR.out.at_
      injection h7 with f1 f2 f3
      obtain ⟨r, hA7, _, _, hra⟩ := hx7 m hlt
      rw [← f1] at hA7
      subst hA7
      rw [← hp] at hra
      have hrl : r < W.heap.size := World.block_lt_of_cell? _ _ (hra 0 _ rfl)
      obtain ⟨Y, hY⟩ : ∃ Y, Y = wr.alloc (.cells #[.int .i64 p.to, .slice B9 p.b.length d9] 35) := ⟨_, rfl⟩
      obtain ⟨q9, hq9⟩ : ∃ q9, q9 = wr.heap.size := ⟨_, rfl⟩
      have hYb : Below wr.heap.size wr Y := by rw [hY]; exact (Below.refl _ _).alloc (Nat.le_refl _) _
      have hWY : Below W.heap.size W Y := HBr.out.trans (hYb.mono HBr.out.size)
      have HYb := Lib.hid hYb
      have HB9 := Lib.hid (show Blk Y q9 35 #[.int .i64 p.to, .slice B9 p.b.length d9] by rw [hY, hq9]; exact Blk.new wr _ _)
      have S9 := Lib.hid (show Sl bv Y (.slice B9 p.b.length d9) p.b by rw [← hv9]; exact (hx2.keep hWY).sl)
      have Q0 := Lib.hid ((hWY.cell (p := ⟨r, m * 3, none⟩) hrl).trans (hra 0 _ rfl))
      have Q1 := Lib.hid ((hWY.cell (p := ⟨r, m * 3 + 1, none⟩) hrl).trans (hra 1 _ rfl))
      have HRl := Lib.hid (Nat.lt_of_lt_of_le hrl hWY.size)
      have HM := Lib.hid hlt
      have HMl := Lib.hid (show m + 1 ≤ L.length from hlt)
      have HYe := Lib.hid hY
      have hm9 : m ≤ 200 := by omega
      clear hY hYb hWY hra hx7 f1 f2 f3 hx6 g1 g2 g3 hal1 hal2 hal3 hx1 hx2 hv9 hc6 hxm hx hpm hp hrl hmq
      go_upto_region 49 with fail
      rw [← HYe.out, ← hq9]
      clear k0 k1 hq9
      refine wp_region_any (by kernel_rfl) ?_
      refine wpAny_below (pN ([some (.pointer (some ⟨q9, 0, none⟩)), some (.int .i64 p.to), some (.slice (some ⟨r, 0, none⟩) L.length c4), some (.int .i64 m), some (.pointer (some ⟨r, m * 3, none⟩)), some (.pointer (some ⟨r, m * 3, none⟩)), some (.int .i64 p.to), some (.bool false), some (.bool false), some (.pointer (some ⟨q9, 1, none⟩)), some (.slice B9 p.b.length d9), some (.string ⟨p.b.toArray⟩), some (.slice (some ⟨r, 0, none⟩) L.length c4), some (.int .i64 m), some (.pointer (some ⟨r, m * 3, none⟩)), some (.pointer (some ⟨r, m * 3 + 1, none⟩)), some (.string ⟨p.b.toArray⟩), some (.bool false), some (.bool false)]) (fun _ _ _ => True)) _ Y (by kernel_rfl) (by kernel_rfl) (by kernel_rfl) (pN_keep fun _ _ _ _ _ _ => trivial) ?_ ?_
      · refine ⟨?_, ?_, ?_, ?_, ?_, ?_, ?_, ?_, ?_, ?_, ?_, ?_, ?_, ?_, ?_, ?_, ?_, ?_, ?_, trivial⟩
        · intro a W hI hun haft hi
          have e14 : a.eval (.tmp 14) = .pointer (some ⟨q9, 0, none⟩) := hun 14 (by kernel_rfl)
          exact b_same hi hI rfl _ (run_fieldAddr_any rfl e14 (at_pc0 _ _ _)) rfl
        · intro a W hI hun haft hi
          have f0 : a.eval (.tmp 222) = .pointer (some ⟨q9, 0, none⟩) := haft ⟨0, .data⟩ (by simp) rfl _ _ rfl rfl
          exact b_same hi hI rfl _ (run_load1_op rfl f0 Try.underlying3 rfl ((HB9.out.below hI HB9.out.lt).cell 0)) rfl
        · intro a W hI hun haft hi
          have e4 : a.eval (.tmp 4) = .slice (some ⟨r, 0, none⟩) L.length c4 := hun 4 (by kernel_rfl)
          exact b_same hi hI rfl _ (run_move_op rfl e4) rfl
        · intro a W hI hun haft hi
          have e13 : a.eval (.tmp 13) = .int .i64 m := hun 13 (by kernel_rfl)
          exact b_same hi hI rfl _ (run_move_op rfl e13) rfl
        · intro a W hI hun haft hi
          have f2 : a.eval (.tmp 224) = .slice (some ⟨r, 0, none⟩) L.length c4 := haft ⟨2, .data⟩ (by simp) rfl _ _ rfl rfl
          have f3 : a.eval (.tmp 225) = .int .i64 m := haft ⟨3, .data⟩ (by simp) rfl _ _ rfl rfl
          exact b_same hi hI rfl _ (run_indexAddr_op rfl f2 f3 (at_lrow r L.length c4 m HM.out W)) rfl
        · intro a W hI hun haft hi
          have f4 : a.eval (.tmp 226) = .pointer (some ⟨r, m * 3, none⟩) := haft ⟨4, .data⟩ (by simp) rfl _ _ rfl rfl
          exact b_same hi hI rfl _ (run_fieldAddr_any rfl f4 (at_lp r (m * 3) 0 (by decide) W)) rfl
        · intro a W hI hun haft hi
          have f5 : a.eval (.tmp 227) = .pointer (some ⟨r, m * 3, none⟩) := haft ⟨5, .data⟩ (by simp) rfl _ _ rfl rfl
          exact b_same hi hI rfl _ (run_load1_op rfl f5 Try.underlying3 rfl ((hI.cell (p := ⟨r, m * 3, none⟩) HRl.out).trans Q0.out)) rfl
        · intro a W hI hun haft hi
          have f1 : a.eval (.tmp 223) = .int .i64 p.to := haft ⟨1, .data⟩ (by simp) rfl _ _ rfl rfl
          have f6 : a.eval (.tmp 228) = .int .i64 p.to := haft ⟨6, .data⟩ (by simp) rfl _ _ rfl rfl
          exact b_same hi hI rfl _ (run_bin_op rfl f1 f6 rfl (ne_int _ W)) rfl
        · intro a W hI hun haft hi
          have f7 : a.eval (.tmp 229) = .bool false := haft ⟨7, .data⟩ (by simp) rfl _ _ rfl rfl
          exact b_same hi hI rfl _ (run_move_op rfl f7) rfl
        · intro a W hI hun haft hi
          have g8 : a.eval (.tmp 230) = .bool false := haft ⟨8, .guard⟩ (by simp) rfl _ _ rfl rfl
          have e14 : a.eval (.tmp 14) = .pointer (some ⟨q9, 0, none⟩) := hun 14 (by kernel_rfl)
          exact b_same hi hI (guard_ok rfl rfl rfl g8) _ (run_fieldAddr_any rfl e14 (at_pc1 _ _ _)) rfl
        · intro a W hI hun haft hi
          have g8 : a.eval (.tmp 230) = .bool false := haft ⟨8, .guard⟩ (by simp) rfl _ _ rfl rfl
          have f9 : a.eval (.tmp 231) = .pointer (some ⟨q9, 1, none⟩) := haft ⟨9, .data⟩ (by simp) rfl _ _ rfl rfl
          exact b_same hi hI (guard_ok rfl rfl rfl g8) _ (run_load1_op rfl f9 Try.underlying27 rfl ((HB9.out.below hI HB9.out.lt).cell 1)) rfl
        · intro a W hI hun haft hi
          have g8 : a.eval (.tmp 230) = .bool false := haft ⟨8, .guard⟩ (by simp) rfl _ _ rfl rfl
          have f10 : a.eval (.tmp 232) = .slice B9 p.b.length d9 := haft ⟨10, .data⟩ (by simp) rfl _ _ rfl rfl
          exact b_same hi hI (guard_ok rfl rfl rfl g8) _ (run_convert_op rfl f10 (bytes_str W _ _ (S9.out.below hI))) rfl
        · intro a W hI hun haft hi
          have g8 : a.eval (.tmp 230) = .bool false := haft ⟨8, .guard⟩ (by simp) rfl _ _ rfl rfl
          have e4 : a.eval (.tmp 4) = .slice (some ⟨r, 0, none⟩) L.length c4 := hun 4 (by kernel_rfl)
          exact b_same hi hI (guard_ok rfl rfl rfl g8) _ (run_move_op rfl e4) rfl
        · intro a W hI hun haft hi
          have g8 : a.eval (.tmp 230) = .bool false := haft ⟨8, .guard⟩ (by simp) rfl _ _ rfl rfl
          have e13 : a.eval (.tmp 13) = .int .i64 m := hun 13 (by kernel_rfl)
          exact b_same hi hI (guard_ok rfl rfl rfl g8) _ (run_move_op rfl e13) rfl
        · intro a W hI hun haft hi
          have g8 : a.eval (.tmp 230) = .bool false := haft ⟨8, .guard⟩ (by simp) rfl _ _ rfl rfl
          have f12 : a.eval (.tmp 234) = .slice (some ⟨r, 0, none⟩) L.length c4 := haft ⟨12, .data⟩ (by simp) rfl _ _ rfl rfl
          have f13 : a.eval (.tmp 235) = .int .i64 m := haft ⟨13, .data⟩ (by simp) rfl _ _ rfl rfl
          exact b_same hi hI (guard_ok rfl rfl rfl g8) _ (run_indexAddr_op rfl f12 f13 (at_lrow r L.length c4 m HM.out W)) rfl
        · intro a W hI hun haft hi
          have g8 : a.eval (.tmp 230) = .bool false := haft ⟨8, .guard⟩ (by simp) rfl _ _ rfl rfl
          have f14 : a.eval (.tmp 236) = .pointer (some ⟨r, m * 3, none⟩) := haft ⟨14, .data⟩ (by simp) rfl _ _ rfl rfl
          exact b_same hi hI (guard_ok rfl rfl rfl g8) _ (run_fieldAddr_any rfl f14 (at_lp r (m * 3) 1 (by decide) W)) rfl
        · intro a W hI hun haft hi
          have g8 : a.eval (.tmp 230) = .bool false := haft ⟨8, .guard⟩ (by simp) rfl _ _ rfl rfl
          have f15 : a.eval (.tmp 237) = .pointer (some ⟨r, m * 3 + 1, none⟩) := haft ⟨15, .data⟩ (by simp) rfl _ _ rfl rfl
          exact b_same hi hI (guard_ok rfl rfl rfl g8) _ (run_load1_op rfl f15 Try.underlying9 rfl ((hI.cell (p := ⟨r, m * 3 + 1, none⟩) HRl.out).trans Q1.out)) rfl
        · intro a W hI hun haft hi
          have g8 : a.eval (.tmp 230) = .bool false := haft ⟨8, .guard⟩ (by simp) rfl _ _ rfl rfl
          have f11 : a.eval (.tmp 233) = .string ⟨p.b.toArray⟩ := haft ⟨11, .data⟩ (by simp) rfl _ _ rfl rfl
          have f16 : a.eval (.tmp 238) = .string ⟨p.b.toArray⟩ := haft ⟨16, .data⟩ (by simp) rfl _ _ rfl rfl
          exact b_same hi hI (guard_ok rfl rfl rfl g8) _ (run_bin_op rfl f11 f16 rfl (ne_str _ W)) rfl
        · intro a W hI hun haft hi
          have f8 : a.eval (.tmp 230) = .bool false := haft ⟨8, .data⟩ (by simp) rfl _ _ rfl rfl
          have f17 : a.eval (.tmp 239) = .bool false := haft ⟨17, .data⟩ (by simp) rfl _ _ rfl rfl
          exact b_same hi hI rfl _ (run_pick_op rfl f8 rfl f17) rfl
      · intro vals W5 hI hp
        have hl18 : vals 18 = .bool false := hp 18 (by decide)
        have HI5 := Lib.hid hI
        clear hp hI
        simp only [layN, List.size_toArray, List.length_cons, List.length_nil, List.range, List.range.loop, if_true, List.getElem?_toArray, List.getElem?_cons_zero, List.getElem?_cons_succ, Act.put, List.setIfInBounds_toArray, List.set_cons_zero, List.set_cons_succ, Nat.zero_add, Nat.reduceAdd]
        rw [hl18]
        clear hl18
        go_wp2_with fail
        go_roundw
        case rel => exact ⟨m + 1, HMl.out, by go_num, HBr.out.trans (HYb.out.trans (HI5.out.mono HYb.out.size) |>.mono HBr.out.size)⟩
        case measure => simp [intOf]; omega
    · have hme : m = L.length := by omega
      subst hme
      go_wp2_with fail
      exact HQ.out _ _ ⟨rfl, rfl, rfl, rfl, rfl, rfl, rfl, rfl, rfl, rfl, rfl, rfl, rfl, rfl, rfl, rfl, HBr.out⟩

end Go.Proofs.Ytoicncmlmhljmaa
