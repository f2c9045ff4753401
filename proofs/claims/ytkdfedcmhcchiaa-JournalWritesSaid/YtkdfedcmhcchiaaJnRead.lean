/-
  Size, Read: the contracts, by walks. Conditions: bounds on lengths.
-/
import Derived.Test.YtkdfedcmhcchiaaJnRec
import Derived.IntWalk
import Derived.Deep.RegionLaw
namespace Go.Proofs.Ytkdfedcmhcchiaa
open Go.RowKit

theorem sizeJ_nil : sizeJ [] = 0 := rfl
theorem sizeJ_snoc (l : List (UInt8 × List UInt8)) (k : Nat) (hk : k < l.length) : sizeJ (l.take (k + 1)) = sizeJ (l.take k) + (l[k].2.length + 9) := by
  unfold sizeJ
  rw [List.take_succ_eq_append_getElem hk, List.map_append, framesB_append, List.length_append]
  simp [framesB, frameB_length, payJ]
theorem sizeJ_le (l : List (UInt8 × List UInt8)) (k : Nat) : sizeJ (l.take k) ≤ sizeJ l := by
  have e : l.map payJ = (l.take k).map payJ ++ (l.drop k).map payJ := by rw [← List.map_append, List.take_append_drop]
  unfold sizeJ
  rw [e, framesB_append, List.length_append]
  omega

theorem sizeJ_len (l : List (UInt8 × List UInt8)) : l.length ≤ sizeJ l := by
  induction l with
  | nil => exact Nat.zero_le _
  | cons r l ih =>
    unfold sizeJ at *
    rw [List.map_cons, show payJ r :: l.map payJ = [payJ r] ++ l.map payJ from rfl, framesB_append, List.length_append, List.length_cons]
    have : 8 ≤ (framesB [payJ r]).length := by simp [framesB, frameB_length]
    omega

set_option maxHeartbeats 1000000 in
theorem jsize_any (v : Value) (l : List (UInt8 × List UInt8)) (w : World) (h : RecsAt w v l) (hs : sizeJ l ≤ 1000000000) (hb : ∀ r ∈ l, r.2.length + 1 ≤ 1048576) :
    Calls Try.prog 17 #[v] w fun e w' => e = .returned (.int .i64 (sizeJ l)) ∧ Below w.heap.size w w' := by
  have hll := sizeJ_len l
  obtain ⟨A, c, rfl, hlc, hx⟩ := h.at_
  have HX := Lib.hid hx
  clear hx h
  go_enter Try.func17, Try.ntmps17
  go_wp2
  go_loopw [3, 8] (fun s i wr => ∃ k : Nat, k ≤ l.length ∧ i = .int .i64 k ∧ s = .int .i64 (sizeJ (l.take k)) ∧ Below w.heap.size w wr) (fun _ i _ => l.length - (intOf i).toNat)
  case atStart => exact ⟨0, Nat.zero_le _, rfl, rfl, Below.refl _ _⟩
  case round =>
    obtain ⟨k, hk, rfl, rfl, hbw⟩ := hrel
    by_cases hlt : k < l.length
    · obtain ⟨b, o, rfl, hbl, A2, n2, c2, hr, _, hn2⟩ := HX.out k hlt
      have c0 := (hbw.cell (p := ⟨b, o + k * 2 + 0, none⟩) hbl).trans (hr 0 _ rfl)
      have c1 := (hbw.cell (p := ⟨b, o + k * 2 + 1, none⟩) hbl).trans (hr 1 _ rfl)
      have hsn := sizeJ_snoc l k hlt
      have hsl := sizeJ_le l (k + 1)
      have hbk := hb l[k] (List.getElem_mem hlt)
      rw [← hn2] at hsn hbk
      unfold bv at c0
      have HLT := Lib.hid hlt
      generalize hS1 : sizeJ (l.take (k + 1)) = S1 at *
      generalize sizeJ (l.take k) = S0 at *
      have HS1 := Lib.hid hS1
      clear hS1
      have HBW := Lib.hid hbw
      clear hr hbw hn2
      rw [Nat.add_zero] at c0
      generalize l[k].1.toNat = x at *
      go_wp2_with fail
      refine (size_any _ _).mono ?_
      rintro e w' ⟨rfl, rfl⟩
      have hsf : sizeF (1 + (n2 : Int)) = ((n2 + 9 : Nat) : Int) := by unfold sizeF; rw [if_neg (by omega)]; omega
      rw [hsf]
      go_wp2
      go_roundw
      case rel => exact ⟨k + 1, HLT.out, by go_num, by rw [HS1.out, hsn]; go_num, HBW.out.alloc HBW.out.size _⟩
      case measure => have := HLT.out; simp [intOf]; omega
    · have hkk : k = l.length := by omega
      subst hkk
      rw [List.take_length]
      have HBW := Lib.hid hbw
      clear hbw
      go_wp2
      go_ret
      exact ⟨rfl, HBW.out⟩

theorem RowsFrom.at_ {w : World} {base : Nat} {v : Value} {ls : List (List UInt8)} (h : RowsFrom w base v ls) : ∃ A c, v = .slice A ls.length c ∧ ls.length ≤ c ∧ ∀ k (hk : k < ls.length), ∃ b o, A = some ⟨b, o, none⟩ ∧ b < w.heap.size ∧ ∃ A2 n2 c2, w.cell? ⟨b, o + k, none⟩ = some (.slice A2 n2 c2) ∧ Sl bv w (.slice A2 n2 c2) ls[k] ∧ (ls[k] = [] ∨ ∃ b o, A2 = some ⟨b, o, none⟩ ∧ base ≤ b) := by
  obtain ⟨rs, h1, h2, h3⟩ := h
  have hl : rs.length = ls.length := by rw [← h3, List.length_map]
  obtain ⟨A, c, rfl, hlc, hx⟩ := h1.at_
  refine ⟨A, c, by rw [hl], by omega, fun k hk => ?_⟩
  obtain ⟨b, o, hA, hb, hcell⟩ := hx k (by omega)
  have hk' : k < rs.length := by omega
  have := h2 rs[k] (List.getElem_mem hk')
  have e : ls[k] = rs[k].2 := by subst h3; simp
  exact ⟨b, o, hA, hb, _, _, _, hcell k rs[k] (List.getElem?_eq_getElem hk'), by rw [e]; exact this.1, by rw [e]; exact this.2⟩

theorem infoRec : (Try.prog.info? 37).map (fun i => (i.zero, i.size, i.bytes)) = some (some (.agg #[.int .u8 0, .slice none 0 0]), 2, 32) := by kernel_rfl
/-- append of one record onto a slice of the call's own. -/
theorem append_rec (w0 w : World) (v : Value) (rs : List Rj) (ho : OwnK Rj.cells w0.heap.size 37 2 w v rs) (hb : Below w0.heap.size w0 w) (v2 : Value) (r : Rj) (h2 : SlK Rj.cells 2 w v2 [r]) (hn : rs.length ≤ 1000000) :
    ∃ v' w', (Builtin.append_ #[22, 22] 22 #[v, v2]).run Try.prog w = .ok v' w' ∧ OwnK Rj.cells w0.heap.size 37 2 w' v' (rs ++ [r]) ∧ Below w0.heap.size w0 w' := by
  obtain ⟨i0, hi, hz0, hz1, hz2⟩ := info_parts infoRec
  obtain ⟨v', w2, hr, ho2, hg2⟩ := run_append_K (P := Try.prog) Rj.cells_len (by decide) w w0.heap.size 22 22 37 i0 (.agg #[.int .u8 0, .slice none 0 0]) 32 Try.underlying22 hi hz0 hz1 hz2 rfl v rs ho v2 [r] h2 Rj.cells_one (by simp; omega) (by simp; omega) hb.size
  exact ⟨v', w2, hr, ho2, hb.grown hg2 hb.size (fun k hk => (ho.lt k hk).1)⟩

theorem recsJ_step (ps : List (List UInt8)) (e k : Nat) (x : UInt8) (t : List UInt8) (acc : List (UInt8 × List UInt8)) (hk : k < ps.length) (hp : ps[k] = x :: t) (h1 : recsJ ps = acc ++ recsJ (ps.drop k)) (h2 : errJ ps e = errJ (ps.drop k) e) :
    recsJ ps = (acc ++ [(x, t)]) ++ recsJ (ps.drop (k + 1)) ∧ errJ ps e = errJ (ps.drop (k + 1)) e := by
  rw [List.drop_eq_getElem_cons hk, hp] at h1 h2
  exact ⟨by rw [h1]; simp [recsJ], h2⟩
theorem recsJ_stop (ps : List (List UInt8)) (e k : Nat) (acc : List (UInt8 × List UInt8)) (hk : k < ps.length) (hp : ps[k] = []) (h1 : recsJ ps = acc ++ recsJ (ps.drop k)) (h2 : errJ ps e = errJ (ps.drop k) e) :
    recsJ ps = acc ∧ errJ ps e = if e = 0 then 2 else e := by
  rw [List.drop_eq_getElem_cons hk, hp] at h1 h2
  exact ⟨by rw [h1]; simp [recsJ], h2⟩
theorem allF_few (b : List UInt8) : (allF b).1.length ≤ b.length := by
  obtain ⟨h1, h2, _, _⟩ := allF_sound b.length b (Nat.le_refl _)
  have h3 := congrArg List.length h1
  rw [List.length_take, Nat.min_eq_left h2] at h3
  have : ∀ l : List (List UInt8), l.length ≤ (framesB l).length := by
    intro l
    induction l with
    | nil => simp [framesB]
    | cons p l ih =>
      have e : framesB (p :: l) = frameB p ++ framesB l := by simp [framesB]
      rw [e, List.length_append, frameB_length, List.length_cons]; omega
  have := this (allF b).1
  omega

/-- What Read hands back. -/
def ReadIs (w : World) (b : List UInt8) (e : Ending) (w' : World) : Prop := ∃ v, e = .returned (.tuple #[v, .int .i64 ((readJ b).2 : Nat)]) ∧ RecsFrom w' w.heap.size v (readJ b).1 ∧ Below w.heap.size w w'

/-- append as a step of a region that draws, its run known. -/
theorem step_append_run {P : Program} {ops : Array Oper} {o : Oper} {a : Act} {w w' : World} {K : Act → World → Prop} {Q : Exit → Act → World → Prop} {E : Prop} (hgd : o.guard = none) (s x : Operand) (t tn : TypeId)
    (ho : o.op = .call { callee := .builtin .append, args := #[s, x], argTypes := #[t, tn] }) (vs vx v' : Value) (hs : a.eval s = vs) (hx : a.eval x = vx) (hr : (Builtin.append_ #[t, tn] o.type #[vs, vx]).run P w = .ok v' w')
    (h : K (a.put o.dst v') w') : if Region.wanted o (yielded ops a.tmps) = true then Oper.wp P o a w K Q else E := by
  have hw : Region.wanted o (yielded ops a.tmps) = true := by simp [Region.wanted, hgd]
  rw [if_pos hw]
  unfold Oper.wp
  rw [run_append_op ho hs hx hr]
  exact h

set_option maxHeartbeats 2000000 in
theorem jread_any (g : Nat) (v : Value) (b : List UInt8) (s : Nat) (w : World) (h : Dk w g v b s) (hl : b.length ≤ 1000000) : Calls Try.prog 15 #[.pointer (some ⟨g, 0, none⟩)] w (ReadIs w b) := by
  have HD := Lib.hid h
  clear h
  go_enter Try.func15, Try.ntmps15
  go_wp2_with fail
  refine (dbytes_any g v b s w HD.out).mono ?_
  rintro e w1 ⟨v1, rfl, ho1, hb1⟩
  have HS1 := Lib.hid (own_sl ho1)
  have HB1 := Lib.hid hb1
  clear ho1 hb1
  obtain ⟨A1, c1, rfl⟩ := HS1.out.form
  have hfew := allF_few b
  obtain ⟨ps, hps⟩ : ∃ ps, ps = (allF b).1 := ⟨_, rfl⟩
  obtain ⟨er, her⟩ : ∃ er, er = (allF b).2.2 := ⟨_, rfl⟩
  obtain ⟨en, hen⟩ : ∃ en, en = (allF b).2.1 := ⟨_, rfl⟩
  have hall : allF b = (ps, en, er) := by rw [hps, hen, her]
  have hrd : readJ b = (recsJ ps, errJ ps er) := by rw [hps, her]; rfl
  rw [← hps] at hfew
  have HRD := Lib.hid hrd
  have HFA := Lib.hid (fall_any _ b w1 HS1.out (by omega))
  rw [hall] at HFA
  clear hps her hen hall hrd
  go_wp2_with fail
  refine HFA.out.mono ?_
  rintro e w2 ⟨v2, rfl, hr2, hb2⟩
  have HB2 := Lib.hid (HB1.out.trans (hb2.mono HB1.out.size))
  obtain ⟨A2, c2, rfl, hlc2, hx2⟩ := hr2.at_
  have HX2 := Lib.hid hx2
  clear hr2 hb2 hx2 HFA
  go_wp2_with fail
  go_loopw [7, 21] (fun v7 i wr => ∃ (k : Nat) (rs : List Rj), k ≤ ps.length ∧ i = .int .i64 k ∧ rs.length ≤ k ∧ OwnK Rj.cells w2.heap.size 37 2 wr v7 rs ∧ (∀ r ∈ rs, r.Ok w2 ∧ r.From w.heap.size) ∧ Below w2.heap.size w2 wr ∧
    recsJ ps = rs.map Rj.val ++ recsJ (ps.drop k) ∧ errJ ps er = errJ (ps.drop k) er) (fun _ i _ => ps.length - (intOf i).toNat)
  case atStart => exact ⟨0, [], Nat.zero_le _, rfl, Nat.le_refl _, OwnK.nil_ _ _ _ _ _, (fun r hr => by cases hr), Below.refl _ _, rfl, rfl⟩
  case round =>
    obtain ⟨k, rs, hk, rfl, hrk, ho7, hok, hb7, hrec, herr⟩ := hrel
    have HO7 := Lib.hid ho7
    have HOK := Lib.hid hok
    have HB7 := Lib.hid hb7
    have HREC := Lib.hid hrec
    have HERR := Lib.hid herr
    clear ho7 hok hb7 hrec herr
    obtain ⟨A7, c7, rfl⟩ : ∃ A7 c7, u7 = .slice A7 rs.length c7 := by
      rcases HO7.out.2 with ⟨rfl, h0⟩ | ⟨g7, cap, cur, rfl, _⟩
      · exact ⟨none, 0, by rw [h0]⟩
      · exact ⟨_, _, rfl⟩
    by_cases hlt : k < ps.length
    · obtain ⟨b2, o2, rfl, hbl2, A3, n3, c3, hc3, hs3, hfr3⟩ := HX2.out k hlt
      have hk3 := (HB7.out.cell (p := ⟨b2, o2 + k, none⟩) hbl2).trans hc3
      have HLT := Lib.hid hlt
      obtain ⟨pk, hp⟩ : ∃ pk, ps[k]'hlt = pk := ⟨_, rfl⟩
      rw [hp] at hs3 hfr3
      obtain ⟨hn3, hnc3⟩ := Sl.len hs3
      cases pk with
      | nil =>
        have hn30 : n3 = 0 := hn3
        subst hn30
        obtain ⟨q1, q2⟩ := recsJ_stop ps er k _ hlt hp HREC.out HERR.out
        have Q1 := Lib.hid q1
        have Q2 := Lib.hid q2
        clear hn3 hnc3 hc3 q1 q2 hp hs3 hfr3
        have hor := or2_any er wr
        obtain ⟨m, hm⟩ : ∃ m, m = if er = 0 then 2 else er := ⟨_, rfl⟩
        rw [← hm] at hor Q2
        have HOR := Lib.hid hor
        clear hor hm
        go_wp2_with fail
        refine HOR.out.mono ?_
        rintro e w4 ⟨rfl, hb4⟩
        have HB4 := Lib.hid hb4
        clear hb4 HOR
        go_wp2
        go_ret2
        have hbw := HB7.out.trans (HB4.out.mono HB7.out.size)
        refine ⟨_, by rw [HRD.out, Q2.out]; rfl, ?_, HB2.out.trans (hbw.mono HB2.out.size)⟩
        rw [HRD.out, Q1.out]
        exact ⟨rs, (OwnK.read Rj.cells_len HO7.out).below HB4.out, fun r hr => ⟨(HOK.out r hr).1.below hbw, (HOK.out r hr).2⟩, rfl, fun k hk => Nat.le_trans HB2.out.size (HO7.out.lt k hk).1⟩
      | cons x t =>
        obtain ⟨q1, q2⟩ := recsJ_step ps er k x t _ hlt hp HREC.out HERR.out
        have Q1 := Lib.hid q1
        have Q2 := Lib.hid q2
        have hlen3 : n3 = t.length + 1 := hn3
        have hs3' := hs3.lo 1 (by omega)
        obtain ⟨A', c', hv, hlc', hx'⟩ := hs3
        injection hv with e1 e2 e3
        subst e1 e3
        obtain ⟨b3, o3, rfl, hbl3, hcell3⟩ := hx' (by simp)
        have hb3 : w.heap.size ≤ b3 := by
          rcases hfr3 with h0 | ⟨b', o', e, h⟩
          · cases h0
          · injection e with e
            injection e with e _
            have := HB1.out.size
            omega
        have hk0 := (HB7.out.cell (p := ⟨b3, o3 + 0, none⟩) hbl3).trans (hcell3 0 x rfl)
        rw [Nat.add_zero] at hk0
        have hcells : ∀ (A2 : Option Addr), SlK Rj.cells 2 (wr.drew.alloc (.cells #[bv x, .slice A2 (n3 - 1) (c3 - 1)] 37)) (.slice (some ⟨wr.heap.size, 0, none⟩) 1 1) [⟨x, A2, n3 - 1, c3 - 1, t⟩] := by
          intro A2
          refine ⟨_, _, rfl, Nat.le_refl _, fun _ => ⟨wr.heap.size, 0, rfl, (Blk.new wr.drew 37 #[bv x, .slice A2 (n3 - 1) (c3 - 1)]).lt, fun i r hr => ?_⟩⟩
          have hi : i = 0 := by have := (List.getElem?_eq_some_iff.1 hr).1; simpa using this
          subst hi
          have : r = ⟨x, A2, n3 - 1, c3 - 1, t⟩ := by simpa using hr.symm
          subst this
          intro q u hu
          have hc := (Blk.new wr.drew 37 #[bv x, .slice A2 (n3 - 1) (c3 - 1)]).cell (0 + 0 * 2 + q)
          refine Eq.trans hc ?_
          simpa [Rj.cells] using hu
        have happ := fun (A2 : Option Addr) => append_rec w2 (wr.drew.alloc (.cells #[bv x, .slice A2 (n3 - 1) (c3 - 1)] 37)) (.slice A7 rs.length c7) rs (OwnK.same HO7.out fun g hg => Below.heap_alloc wr.drew _ g (HO7.out.lt g hg).2) ((HB7.out.drew).alloc HB7.out.size _) _ _ (hcells A2) (by omega)
        have hdrop : (x :: t).drop 1 = t := rfl
        rw [hdrop] at hs3'
        obtain ⟨A2, hA2⟩ : ∃ A2, A2 = slA (some ⟨b3, o3, none⟩) c3 1 := ⟨_, rfl⟩
        rw [← hA2] at hs3'
        obtain ⟨v8, w8, hr8, ho8, hb8⟩ := happ A2
        have HR8 := Lib.hid hr8
        have HO8 := Lib.hid ho8
        have HB8 := Lib.hid hb8
        have HS3 := Lib.hid hs3'
        obtain ⟨A8, c8, rfl⟩ : ∃ A8 c8, v8 = .slice A8 (rs ++ [(⟨x, A2, n3 - 1, c3 - 1, t⟩ : Rj)]).length c8 := by
          rcases ho8.2 with ⟨rfl, h0⟩ | ⟨g7, cap, cur, rfl, _⟩
          · simp at h0
          · exact ⟨_, _, rfl⟩
        obtain ⟨n8, hn8⟩ : ∃ n8, n8 = (rs ++ [(⟨x, A2, n3 - 1, c3 - 1, t⟩ : Rj)]).length := ⟨_, rfl⟩
        rw [← hn8] at HR8 HO8
        have hn8' : n8 = rs.length + 1 := by rw [hn8]; simp
        have HN8 := Lib.hid hn8'
        have hn0 : (n3 : Int) ≠ 0 := by omega
        have hn00 : ((n3 : Int) == 0) = false := by rw [beq_eq_false_iff_ne]; omega
        have hn1 : (0 : Int) < (n3 : Int) := by omega
        have hn2 : (1 : Int) ≤ (n3 : Int) := by omega
        have hn3p : 0 < n3 := by omega
        have HOK2 : Hid (∀ r ∈ rs ++ [(⟨x, A2, n3 - 1, c3 - 1, t⟩ : Rj)], r.Ok w2 ∧ r.From w.heap.size) := Lib.hid fun r hr => by
          rcases List.mem_append.1 hr with h | h
          · exact HOK.out r h
          · rw [List.mem_singleton] at h
            subst h
            refine ⟨HS3.out, .inr ⟨b3, if c3 = 1 then o3 else o3 + 1, ?_, hb3⟩⟩
            rw [hA2, slA]
            split
            · rfl
            · simp [Addr.add_lit]
        clear hcells happ hr8 ho8 hb8 hs3' hx' hcell3 hn8 hn8' q1 q2 hdrop hp e2 hn3 hlen3 hfr3 hb3
        unfold bv at hk0 HR8
        by_cases hc1 : c3 = 1
        · rw [slA, if_pos hc1] at hA2
          subst hA2
          have hc10 : c3 - 1 = 0 := by omega
          rw [hc10] at HR8 HO8 HOK2
          go_wp2_with fail
          go_region_law (refine step_append_run rfl _ _ _ _ rfl _ _ _ rfl rfl HR8.out ?_)
          go_wp2
          go_roundw
          case rel => exact ⟨k + 1, rs ++ [⟨x, some ⟨b3, o3, none⟩, n3 - 1, 0, t⟩], HLT.out, by go_num, by simp; omega, HO8.out, HOK2.out, HB8.out, by rw [List.map_append]; exact Q1.out, Q2.out⟩
          case measure => simp [intOf]; omega
        · rw [slA, if_neg hc1] at hA2
          simp only [Option.map_some, Addr.add_lit] at hA2
          subst hA2
          go_wp2_with fail
          go_region_law (refine step_append_run rfl _ _ _ _ rfl _ _ _ rfl rfl HR8.out ?_)
          go_wp2
          go_roundw
          case rel => exact ⟨k + 1, rs ++ [⟨x, some ⟨b3, o3 + 1, none⟩, n3 - 1, c3 - 1, t⟩], HLT.out, by go_num, by simp; omega, HO8.out, HOK2.out, HB8.out, by rw [List.map_append]; exact Q1.out, Q2.out⟩
          case measure => simp [intOf]; omega
    · have hkk : k = ps.length := by omega
      subst hkk
      have h1 := HREC.out
      have h2 := HERR.out
      rw [List.drop_length] at h1 h2
      have H1 := Lib.hid h1
      have H2 := Lib.hid h2
      clear h1 h2
      go_wp2
      go_ret2
      refine ⟨_, by rw [HRD.out, H2.out]; rfl, ?_, HB2.out.trans (HB7.out.mono HB2.out.size)⟩
      rw [HRD.out, H1.out]
      exact ⟨rs, OwnK.read Rj.cells_len HO7.out, fun r hr => ⟨(HOK.out r hr).1.below HB7.out, (HOK.out r hr).2⟩, by simp [recsJ], fun k hk => Nat.le_trans HB2.out.size (HO7.out.lt k hk).1⟩

end Go.Proofs.Ytkdfedcmhcchiaa
