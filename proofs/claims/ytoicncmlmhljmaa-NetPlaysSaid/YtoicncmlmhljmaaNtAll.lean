/-
  All: the contracts, by walks. Conditions: lengths.
-/
import Derived.Test.YtoicncmlmhljmaaNtTake
import Derived.Laws.MakeOwn
namespace Go.Proofs.Ytoicncmlmhljmaa
open Go.RowKit

def encQ (x : Int × Value) : List Value := [.int .i64 x.1, x.2]
theorem encQ_len (x : Int × Value) : (encQ x).length = 2 := rfl
theorem infoPc : (Try.prog.info? 35).map (fun i => (i.zero, i.size, i.bytes)) = some (some (.agg #[.int .i64 0, .slice none 0 0]), 2, 32) := by kernel_rfl
theorem make_pc (w : World) (n : Nat) (hn : n ≤ 1000) : ∃ w', (Instr.makeSlice 40 (.int .i64 0) (.int .i64 (n : Int))).run Try.prog w = .ok (.slice (some ⟨w.heap.size, 0, none⟩) 0 n) w' ∧ OwnK encQ w.heap.size 35 2 w' (.slice (some ⟨w.heap.size, 0, none⟩) 0 n) [] ∧ Below w.heap.size w w' := by
  obtain ⟨i, hi, hz0, hz1, hz2⟩ := info_parts infoPc
  obtain ⟨w', hr, ho, hg⟩ := run_make_own (P := Try.prog) w w.heap.size 40 35 i _ 2 Try.underlying40 hi hz0 hz1 .i64 .i64 n (by rw [hz2]; omega) (by unfold maxLen; omega) (Nat.le_refl _)
  exact ⟨w', hr, ho, ⟨hg.os, hg.tape, hg.output, hg.size, fun k hk => hg.block k hk (by simp)⟩⟩
theorem run_make_op {P : Program} {o : Oper} {ρ : Operand → Value} {w w' : World} {t : TypeId} {x y : Operand} {vx vy v : Value} (ho : o.op = .makeSlice t x y) (hx : ρ x = vx) (hy : ρ y = vy) (hr : (Instr.makeSlice t vx vy).run P w = .ok v w') : (execOp ρ o).run P w = .ok (.value v) w' := by
  unfold execOp
  simp only [ho, hx, hy, Sem.run_bind, hr, Result.andThen_ok, Sem.run_pure]
theorem append_pc (R : Nat) (w : World) (v : Value) (qs : List (Int × Value)) (hown : OwnK encQ R 35 2 w v qs) (hR : R ≤ w.heap.size) (t : Int) (B : Option Addr) (n c : Nat) (hn : qs.length ≤ 1000) :
    ∃ v' w', (Builtin.append_ #[40, 40] 40 #[v, .slice (some ⟨w.heap.size, 0, none⟩) 1 1]).run Try.prog (w.alloc (.cells #[.int .i64 t, .slice B n c] 35)) = .ok v' w' ∧ OwnK encQ R 35 2 w' v' (qs ++ [(t, .slice B n c)]) ∧ Below R w w' ∧ ∀ (x : Value) (l : List UInt8) (R' : Nat), Ob R' w x l → Ob R' w' x l := by
  obtain ⟨i, hi, hz0, hz1, hz2⟩ := info_parts infoPc
  have hba : Below w.heap.size w (w.alloc (.cells #[.int .i64 t, .slice B n c] 35)) := (Below.refl _ _).alloc (Nat.le_refl _) _
  have ho1 : OwnK encQ R 35 2 (w.alloc (.cells #[.int .i64 t, .slice B n c] 35)) v qs := own_keep hown fun g hg => hba.block g (Blk.lt (own_blk hown hg).2.choose_spec)
  have hsl : SlK encQ 2 (w.alloc (.cells #[.int .i64 t, .slice B n c] 35)) (.slice (some ⟨w.heap.size, 0, none⟩) 1 1) [(t, .slice B n c)] := by
    refine ⟨_, 1, rfl, Nat.le_refl _, fun _ => ⟨w.heap.size, 0, rfl, by simp, fun j x hj => ?_⟩⟩
    have : j = 0 := by
      have := (List.getElem?_eq_some_iff.1 hj).1
      simpa using this
    subst this
    have : x = (t, .slice B n c) := by simpa using hj.symm
    subst this
    intro i u' hu
    have := (Blk.new w 35 #[.int .i64 t, .slice B n c]).cell i
    rw [show 0 + 0 * 2 + i = i from by omega, this]
    simpa [encQ] using hu
  obtain ⟨v', w', hr, ho, hg⟩ := run_append_K1 (P := Try.prog) encQ_len (by decide) (w.alloc (.cells #[.int .i64 t, .slice B n c] 35)) R 40 40 35 i _ 32 Try.underlying40 hi hz0 hz1 hz2 rfl v qs ho1 _ [(t, .slice B n c)] hsl
    (fun p hp x hx => by
      have : p = (t, .slice B n c) := by simpa using hp
      subst this
      simp only [encQ, List.mem_cons, List.not_mem_nil, or_false] at hx
      rcases hx with rfl | rfl <;> rfl) (by simp; omega) (by simp; omega) (Nat.le_trans hR hba.size)
  refine ⟨v', w', hr, ho, (hba.mono hR).grown hg (Nat.le_trans hR hba.size) (fun k hk => (own_blk ho1 hk).1), fun x l R' hx => ?_⟩
  have hx1 : Ob R' (w.alloc (.cells #[.int .i64 t, .slice B n c] 35)) x l := hx.keep hba
  refine own_keep hx1 fun k hk => hg.block k (Blk.lt (own_blk hx1 hk).2.choose_spec) fun e => ?_
  obtain ⟨_, c1, hb1⟩ := own_blk ho1 e.symm
  obtain ⟨_, c2, hb2⟩ := own_blk hx1 hk
  exact blk_ne hb1 hb2 (by decide) rfl

/-- What All hands back. -/
def AllIs (R : Nat) (w : World) (u : Value) (qs : List (Int × Value)) (l : List Pc) : Prop :=
  OwnK encQ R 35 2 w u qs ∧ qs.length = l.length ∧ ∀ (i : Nat) (p : Pc) (x : Int × Value), l[i]? = some p → qs[i]? = some x → x.1 = p.to ∧ Ob R w x.2 p.b
set_option maxRecDepth 100000 in
set_option maxHeartbeats 2000000 in
theorem nall_any {R g : Nat} {v : Value} {l : List Pc} (w : World) (h : Nt R w g v l) (hl : ∀ p ∈ l, p.b.length ≤ 140737488355328) (hn : l.length ≤ 256) :
    Calls Try.prog 12 #[.pointer (some ⟨g, 0, none⟩)] w fun e w' => ∃ u qs, e = .returned u ∧ AllIs w.heap.size w' u qs l ∧ Below w.heap.size w w' := by
  obtain ⟨A, c, rfl, hx⟩ := h.at_
  obtain ⟨w1, hr1, ho1, hb1⟩ := make_pc w l.length (by omega)
  have c0 := h.blk.cell 0
  have c1 := (h.keep hb1).blk.cell 0
  simp at c0 c1
  have HN := Lib.hid h
  have HL := Lib.hid hl
  have HLen := Lib.hid hn
  have HM := Lib.hid hr1
  have HO := Lib.hid ho1
  have HB := Lib.hid hb1
  clear ho1 hb1 h hx hl hn
  go_enter Try.func12, Try.ntmps12
  go_upto_region 4 with fail
  clear c0 hr1
  go_wp2_with fail
  obtain ⟨H, hH⟩ : ∃ H, H = w.heap.size := ⟨_, rfl⟩
  rw [← hH] at HO ⊢
  have HH := Lib.hid hH
  clear hH HM
  go_loopw [3, 19] (fun u3 i wr => ∃ (j : Nat) (qs : List (Int × Value)), j ≤ l.length ∧ i = .int .i64 j ∧ AllIs H wr u3 qs (l.take j) ∧ Below H w wr) (fun _ i _ => l.length - (intOf i).toNat)
  case atStart => exact ⟨0, [], Nat.zero_le _, rfl, ⟨HO.out, rfl, fun i p x hp => by simp at hp⟩, by rw [HH.out]; exact HB.out⟩
  case round =>
    obtain ⟨j, qs, hj, rfl, ⟨ho3, hqn, hqs⟩, hbw⟩ := hrel
    have hw1r : H ≤ w.heap.size := by rw [HH.out]; exact Nat.le_refl _
    have HO3 := Lib.hid ho3
    have HQN := Lib.hid hqn
    have HQS := Lib.hid hqs
    have HBW := Lib.hid hbw
    have hlj : (l.take j).length = j := by rw [List.length_take]; omega
    rw [hlj] at HQN
    obtain ⟨A3, c3, rfl⟩ : ∃ A3 c3, u3 = .slice A3 j c3 := by
      obtain ⟨A3, c3, h3, _, _⟩ := ho3.read encQ_len
      exact ⟨A3, c3, by rw [h3, hqn, hlj]⟩
    clear ho3 hqn hqs hbw hlj
    by_cases hlt : j < l.length
    · have hN := HN.out.keep (by have := HBW.out; rwa [HH.out] at this)
      obtain ⟨A', c', hv', hx⟩ := hN.at_
      injection hv' with e1 e2 e3
      obtain ⟨r, hA, _, _, hra⟩ := hx j hlt
      rw [← e1] at hA
      subst hA
      obtain ⟨k0, k1, k2⟩ := at_cells hra
      have hob := hN.row l[j] (List.getElem_mem hlt)
      obtain ⟨p, hp⟩ : ∃ p, p = l[j] := ⟨_, rfl⟩
      rw [← hp] at k0 k1 k2 hob
      obtain ⟨B, d, hpv⟩ := hob.form
      rw [hpv] at k1 hob
      obtain ⟨Y, hY⟩ : ∃ Y, Y = wr.alloc (.cells #[.int .i64 p.to, .slice B p.b.length d, .bool p.t] 52) := ⟨_, rfl⟩
      have hYb : Below wr.heap.size wr Y := by rw [hY]; exact (Below.refl _ _).alloc (Nat.le_refl _) _
      obtain ⟨y, hy⟩ : ∃ y, y = wr.heap.size := ⟨_, rfl⟩
      have hBY : Blk Y y 52 #[.int .i64 p.to, .slice B p.b.length d, .bool p.t] := by rw [hY, hy]; exact Blk.new wr _ _
      have y0 := hBY.cell 0
      have y1 := hBY.cell 1
      simp at y0 y1
      have HY := Lib.hid hY
      have HYb := Lib.hid hYb
      have HSl := Lib.hid (hob.keep hYb).sl
      have HPl := Lib.hid (HL.out p (by rw [hp]; exact List.getElem_mem hlt))
      have HP := Lib.hid (show l[j]? = some p by rw [hp]; exact List.getElem?_eq_getElem hlt)
      have HLT := Lib.hid hlt
      have HYq := Lib.hid (show H ≤ wr.heap.size from Nat.le_trans hw1r HBW.out.size)
      have HOY := Lib.hid (own_keep HO3.out fun k hk => hYb.block k (Blk.lt (own_blk HO3.out hk).2.choose_spec) : Y.ownsRow H 35 2 (.slice A3 j c3) qs.length (qs.flatMap encQ))
      clear hob hp hN e1 e2 e3 hx hra hY hYb hBY hpv
      go_upto_region 7 with fail
      rw [← HY.out]
      clear k0 k1 k2
      rw [← hy]
      clear hy
      go_wp2_with fail
      refine (twin_any p.to _ p.b Y HSl.out HPl.out).mono ?_
      rintro e w5 ⟨u, rfl, ho5, hb5⟩
      obtain ⟨B5, d5, rfl⟩ := ho5.form
      have hHY : H ≤ Y.heap.size := Nat.le_trans HYq.out HYb.out.size
      have hH5 : H ≤ w5.heap.size := Nat.le_trans hHY hb5.size
      have ho55 : OwnK encQ H 35 2 w5 (.slice A3 j c3) qs := own_keep HOY.out fun k hk => hb5.block k (Blk.lt (own_blk HOY.out hk).2.choose_spec)
      obtain ⟨v6, w6, hr6, ho6, hb6, hk6⟩ := append_pc H w5 (.slice A3 j c3) qs ho55 hH5 p.to B5 p.b.length d5 (by have := HQN.out; have := HLen.out; omega)
      have HA := Lib.hid hr6
      have HO6 := Lib.hid ho6
      have HK6 := Lib.hid hk6
      have HO5 := Lib.hid (own_base ho5 hHY)
      have HB6 := Lib.hid hb6
      have HB5 := Lib.hid hb5
      clear hr6 ho6 hk6 ho5 hb6 hb5 ho55
      obtain ⟨A6, c6, h6, _, _⟩ := HO6.out.read encQ_len
      subst h6
      obtain ⟨n6, hn6⟩ : ∃ n6, n6 = (qs ++ [(p.to, Value.slice B5 p.b.length d5)]).length := ⟨_, rfl⟩
      rw [← hn6] at HA HO6
      have HN6 := Lib.hid hn6
      have hj9 : j ≤ 256 := by have := HLT.out; have := HLen.out; omega
      clear hn6
      go_wp2_with (first
        | (at_builtin; refine Lib.wpList_append_run (o := ⟨some 28, _, _, _, _, _⟩) _ rfl _ _ _ _ rfl _ _ rfl rfl _ _ HA.out ?_)
        | fail)
      go_roundw
      case rel =>
        refine ⟨j + 1, qs ++ [(p.to, .slice B5 p.b.length d5)], HLT.out, by go_num, ?_, ?_⟩
        · refine ⟨HO6.out, by rw [List.length_append, HQN.out, List.length_take]; have := HLT.out; simp; omega, fun i p' x hp' hx' => ?_⟩
          by_cases hij : i < j
          · rw [List.getElem?_take, if_pos (by omega)] at hp'
            rw [List.getElem?_append_left (by rw [HQN.out]; exact hij)] at hx'
            obtain ⟨h1, h2⟩ := HQS.out i p' x (by rw [List.getElem?_take, if_pos hij]; exact hp') hx'
            exact ⟨h1, HK6.out _ _ _ ((h2.keep HYb.out).keep HB5.out)⟩
          · have hij2 : i = j := by
              have := (List.getElem?_eq_some_iff.1 hp').1
              rw [List.length_take] at this
              omega
            subst hij2
            rw [List.getElem?_take, if_pos (by omega), HP.out] at hp'
            have e7 : (qs ++ [(p.to, Value.slice B5 p.b.length d5)])[i]? = some (p.to, Value.slice B5 p.b.length d5) := by rw [List.getElem?_append_right (by rw [HQN.out]; exact Nat.le_refl _), HQN.out, Nat.sub_self]; rfl
            rw [e7] at hx'
            injection hp' with hp'
            injection hx' with hx'
            subst hp' hx'
            exact ⟨rfl, HK6.out _ _ _ HO5.out⟩
        · exact ((HBW.out.trans (HYb.out.mono HYq.out)).trans (HB5.out.mono hHY)).trans HB6.out
      case measure => simp [intOf]; omega
    · have hje : j = l.length := by omega
      subst hje
      rw [List.take_length] at HQS
      go_wp2
      go_ret
      have a1 := HO3.out
      have a2 := HQS.out
      have a3 := HBW.out
      rw [HH.out] at a1 a2 a3
      exact ⟨_, qs, rfl, ⟨a1, HQN.out, a2⟩, a3⟩

end Go.Proofs.Ytoicncmlmhljmaa
