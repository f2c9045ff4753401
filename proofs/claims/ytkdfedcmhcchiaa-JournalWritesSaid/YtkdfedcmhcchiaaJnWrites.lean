/-
  hedgerowlaw11.JournalWrites: the walk: for all records the call returns true, and nothing that was there has turned. Conditions: none.
-/
import Derived.Test.YtkdfedcmhcchiaaJnSame
import Derived.Test.YtkdfedcmhcchiaaJnSpoilt
namespace Go.Proofs.Ytkdfedcmhcchiaa
open Go.RowKit

theorem off_ne' {w : World} {B B' n : Nat} {v : Value} {xs : List Value} {r : (Option Addr × Nat × Nat) × List UInt8} (ho : w.ownsRow B 34 1 v n xs) (h : Off w B' r) : ∀ b o, r.1.1 = some ⟨b, o, none⟩ → r.2 ≠ [] → v.ownBlock ≠ some b :=
  off_ne (own_le ho (Nat.zero_le _)) (h.imp id fun ⟨b, o, e, hl, _, hx⟩ => ⟨b, o, e, hl, Nat.zero_le _, hx⟩)
/-- append of one slice, out of a row just laid: and what else lies behind the base stays. -/
theorem append_row2 (base : Nat) (w0 w : World) (v : Value) (ls : List (List UInt8)) (h : RowsOwn w w0.heap.size v ls) (hb : Below w0.heap.size w0 w) (A : Option Addr) (n c : Nat) (l : List UInt8) (hs : Sl bv w (.slice A n c) l) (hoff : Off w w0.heap.size ((A, n, c), l)) (hlen : ls.length + 1 ≤ 1000000000) :
    ∃ v' w', (Builtin.append_ #[42, 42] 42 #[v, .slice (some ⟨w.heap.size, 0, none⟩) 1 1]).run Try.prog (w.alloc (.cells #[.slice A n c] 34)) = .ok v' w' ∧ RowsOwn w' w0.heap.size v' (ls ++ [l]) ∧ Below w0.heap.size w0 w' ∧
      ∀ r, Sl bv w (rv r) r.2 → Off w base r → Sl bv w' (rv r) r.2 ∧ Off w' base r := by
  obtain ⟨i0, hi, hz0, hz1, hz2⟩ := info_parts infoS
  obtain ⟨rs, h1, h2, h3⟩ := h
  have hl : rs.length = ls.length := by rw [← h3, List.length_map]
  have hal : Below w.heap.size w (w.alloc (.cells #[.slice A n c] 34)) := (Below.refl _ _).alloc (Nat.le_refl _) _
  have ho := h1.alloc (.cells #[.slice A n c] 34)
  have hx : Sl rv (w.alloc (.cells #[.slice A n c] 34)) (.slice (some ⟨w.heap.size, 0, none⟩) 1 1) [((A, n, c), l)] := by
    refine ⟨_, _, rfl, Nat.le_refl _, fun _ => ⟨w.heap.size, 0, rfl, by simp, fun j u hu => ?_⟩⟩
    rw [(Blk.new w _ _).cell (0 + j)]
    have hj : j = 0 := by have := (List.getElem?_eq_some_iff.1 hu).1; simp at this; exact this
    subst hj
    simp at hu
    subst hu
    rfl
  obtain ⟨v', w2, hr, ho2, hg2⟩ := run_append_sl (P := Try.prog) (w.alloc (.cells #[.slice A n c] 34)) w0.heap.size 42 42 34 i0 (.slice none 0 0) 24 Try.underlying42 hi hz0 hz1 hz2 rfl _ _ _ ho _ _ hx (fun _ => rfl) (by simp; omega) (by simp; omega) (by have := hb.size; simp; omega)
  have hbw : Below w0.heap.size w0 w2 := (hb.alloc hb.size _).grown hg2 (by have := hb.size; simp; omega) (fun k hk => (ho.lt k hk).1)
  have hstay : ∀ (B : Nat) r, Sl bv w (rv r) r.2 → Off w B r → Sl bv w2 (rv r) r.2 ∧ Off w2 B r := by
    intro B r hsr hor
    have hoa := hor.kept (grownBy_below hal none) (fun _ _ _ _ e => by cases e)
    have hne := off_ne' ho hoa
    exact ⟨(hsr.below hal).grown_ hg2 hne, hoa.kept hg2 hne⟩
  refine ⟨v', w2, hr, ⟨rs ++ [((A, n, c), l)], by rw [List.length_append, List.map_append]; exact ho2, fun r hr => ?_, by simp [h3]⟩, hbw, hstay base⟩
  rcases List.mem_append.1 hr with hr | hr
  · exact hstay _ r (h2 r hr).1 (h2 r hr).2
  · simp at hr
    subst hr
    exact hstay _ _ hs hoff
/-- A row of the call's own lies behind the base. -/
theorem own_off {w : World} {B n : Nat} {v : Value} {l : List UInt8} (h : w.ownsRow B 5 1 v n (bs l)) (hn : n = l.length) : ∃ A c, v = .slice A n c ∧ Off w B ((A, n, c), l) := by
  rcases h.2 with ⟨hv, h0⟩ | ⟨g, cap, cur, hv, hgb, hg, _⟩
  · exact ⟨none, 0, by rw [hv, h0], .inl (List.eq_nil_of_length_eq_zero (show l.length = 0 by omega))⟩
  · exact ⟨_, _, hv, .inr ⟨g, 0, rfl, (Array.getElem?_eq_some_iff.1 hg).1, hgb, cur, _, hg⟩⟩
theorem idx_rec2 (b k n c : Nat) (h : k < n) (w : World) : (Instr.indexAt 41 (.slice (some ⟨b, 0, none⟩) n c) (.int .i64 (k : Int))).run Try.prog w = .ok (.pointer (some ⟨b, k, none⟩)) w := by
  have h1 : (k : Int) < (n : Int) := by omega
  go_simp
theorem RowsFrom.below {w w' : World} {base : Nat} {v : Value} {ls : List (List UInt8)} (h : RowsFrom w base v ls) (hb : Below w.heap.size w w') : RowsFrom w' base v ls := by
  obtain ⟨rs, h1, h2, h3⟩ := h
  exact ⟨rs, h1.below hb, fun r hr => ⟨(h2 r hr).1.below hb, (h2 r hr).2⟩, h3⟩
theorem run_not_op {P : Program} {o : Oper} {ρ : Operand → Value} {w : World} {t : TypeId} {x : Operand} {b : Bool} (ho : o.op = .unOp .not t x) (hx : ρ x = .bool b) : (execOp ρ o).run P w = .ok (.value (.bool !b)) w := by
  unfold execOp
  simp [ho, hx, go_sem]
theorem payL_snoc (l : List (UInt8 × List UInt8)) (k : Nat) (hk : k < l.length) : (l.take (k + 1)).map payJ = (l.take k).map payJ ++ [payJ l[k]] := by
  rw [List.take_succ_eq_append_getElem hk, List.map_append]; rfl

set_option maxRecDepth 100000 in
set_option maxHeartbeats 2000000 in
theorem writes_walk (v1 v2 : Value) (l m : List (UInt8 × List UInt8)) (w : World) (h1 : RecsAt w v1 l) (h2 : RecsAt w v2 m) (hll : l.length ≤ 4611686018427387903) (hlm : m.length ≤ 4611686018427387903) :
    Calls Try.prog 5 #[v1, v2] w (Law w) := by
  have HFX := Lib.hid (jfixed_any w)
  have HR := Lib.hid h1
  have HM := Lib.hid h2
  have HLL := Lib.hid hll
  have HLM := Lib.hid hlm
  obtain ⟨A1, c1, rfl⟩ := h1.form
  obtain ⟨A2, c2, rfl⟩ := h2.form
  clear h1 h2 hll hlm
  go_enter Try.func5, Try.ntmps5
  go_wp2_with fail
  refine HFX.out.mono ?_
  rintro e w1 ⟨rfl, hb1⟩
  have HB1 := Lib.hid hb1
  have HR1 := Lib.hid (HR.out.below hb1)
  have HM1 := Lib.hid (HM.out.below hb1)
  clear hb1
  go_wp2_with fail
  refine (few_any _ l w1 HR1.out HLL.out).mono ?_
  rintro e w2 ⟨rfl, hb2⟩
  have HB2 := Lib.hid (HB1.out.trans (hb2.mono HB1.out.size))
  have HR2 := Lib.hid (HR1.out.below hb2)
  have HM2 := Lib.hid (HM1.out.below hb2)
  clear hb2 HR1 HM1 HB1
  by_cases hfl : fewJ l = true
  · rw [hfl]
    go_wp2_with fail
    refine (few_any _ m w2 HM2.out HLM.out).mono ?_
    rintro e w3 ⟨rfl, hb3⟩
    have HB3 := Lib.hid (HB2.out.trans (hb3.mono HB2.out.size))
    have HR3 := Lib.hid (HR2.out.below hb3)
    have HM3 := Lib.hid (HM2.out.below hb3)
    clear hb3 HR2 HM2 HB2
    by_cases hfm : fewJ m = true
    · rw [hfm]
      have HFL := Lib.hid hfl
      have HFM := Lib.hid hfm
      obtain ⟨g1, g2, g3, g4⟩ := fewJ_spec l hfl
      clear hfl hfm g4 g2
      go_wp2_with fail
      refine (laid_any _ l 0 w3 HR3.out (by omega) (Nat.zero_le _)).mono ?_
      rintro e w4 ⟨g, v4, u4, rfl, hd4, -⟩
      rw [endL_zero] at hd4
      have D4 := Lib.hid (hd4.mono HB3.out)
      clear hd4
      have D5 := Lib.hid (D4.out.alloc (.cells #[.slice A1 l.length c1, .slice A2 m.length c2] 22))
      have hgt : w4.heap.size ≠ g := by have := D4.out.dk.lt; omega
      have HGT := Lib.hid hgt
      have HN5 := Lib.hid (Blk.new w4 22 #[.slice A1 l.length c1, .slice A2 m.length c2])
      clear hgt g1 g3
      go_upto_if 7 with fail
      clear HR3 HM3 HB3
      generalize w4.alloc (.cells #[.slice A1 l.length c1, .slice A2 m.length c2] 22) = w5 at *
      generalize w4.heap.size = gb at *
      go_loopw [35] (fun i wr => ∃ (k : Nat) (vf : Value) (x : List (UInt8 × List UInt8)) (s : Nat), k ≤ 2 ∧ i = .int .i64 k ∧ Dkn w wr g vf (framesB (x.map payJ)) s ∧ x = (if k = 0 then l else m) ∧ Blk wr gb 22 #[.slice A1 l.length c1, .slice A2 m.length c2]) (fun i _ => 2 - (intOf i).toNat)
      case atStart => exact ⟨0, _, l, _, Nat.zero_le _, rfl, D5.out, rfl, HN5.out⟩
      case round =>
        obtain ⟨k, vf, x, s, hk, rfl, hdf, hxe, hbk⟩ := hrel
        generalize wr = wo at *
        have DF := Lib.hid hdf
        have HBK := Lib.hid hbk
        have HXE := Lib.hid hxe
        clear hdf
        by_cases hlt : k < 2
        · have hrow : ∃ Ax cx, wo.cell? ⟨gb, k, none⟩ = some (.slice Ax x.length cx) ∧ RecsAt wo (.slice Ax x.length cx) x ∧ fewJ x = true := by
            have hbw := DF.out.base
            by_cases h0 : k = 0
            · subst h0
              rw [if_pos rfl] at hxe
              subst hxe
              exact ⟨A1, c1, HBK.out.cell 0, HR.out.below hbw, HFL.out⟩
            · have h1 : k = 1 := by omega
              subst h1
              rw [if_neg (by decide)] at hxe
              subst hxe
              exact ⟨A2, c2, HBK.out.cell 1, HM.out.below hbw, HFM.out⟩
          obtain ⟨Ax, cx, hcx, hrx, hfx⟩ := hrow
          obtain ⟨g1, g2, g3, g4⟩ := fewJ_spec x hfx
          have HRX := Lib.hid hrx
          have HG2 := Lib.hid g2
          have HG4 := Lib.hid g4
          have HLT := Lib.hid hlt
          have HCX := Lib.hid hcx
          have HG1 := Lib.hid g1
          have HG3 := Lib.hid g3
          obtain ⟨A', c', hv, hlcx, hx⟩ := hrx.at_
          injection hv with e1 e2 e3
          subst e1 e3
          have HX := Lib.hid hx
          have hlt2 : (k : Int) < 2 := by omega
          clear hrx hx hxe hbk hfx g2 g4 e2 g1 g3
          go_upto_region 11 with fail
          go_wp2_with fail
          clear hcx
          go_loopw [9, 10, 41] (fun u9 u10 i wr => ∃ (j : Nat), j ≤ x.length ∧ i = .int .i64 j ∧ wr.ownsRow wo.heap.size 5 1 u9 (framesB ((x.take j).map payJ)).length (bs (framesB ((x.take j).map payJ))) ∧ RowsOwn wr wo.heap.size u10 ((x.take j).map payJ) ∧ Below wo.heap.size wo wr) (fun _ _ i _ => x.length - (intOf i).toNat)
          case atStart => exact ⟨0, Nat.zero_le _, rfl, World.ownsRow_nil _ _ _ _, RowsOwn.nil _ _, Below.refl _ _⟩
          case round =>
            obtain ⟨j, hj, rfl, ho9, ho10, hbi⟩ := hrel
            have HO9 := Lib.hid ho9
            have HO10 := Lib.hid ho10
            have HBI := Lib.hid hbi
            by_cases hjl : j < x.length
            · obtain ⟨b1, o1, rfl, hbl1, B1, n1, d1, hr1, hs1, -⟩ := HX.out j hjl
              have hsm := HG2.out (x[j]'hjl) (List.getElem_mem hjl)
              have hpl := payL_snoc x j hjl
              have hfs := frames_snoc x j hjl
              have hsz := sizeJ_le x j
              have hsf : sizeJ (x.take j) = (framesB ((x.take j).map payJ)).length := rfl
              obtain ⟨kk, dd, hkd⟩ : ∃ kk dd, x[j]'hjl = (kk, dd) := ⟨_, _, rfl⟩
              rw [hkd] at hr1 hs1 hsm hpl hfs
              simp only [payJ] at hr1 hs1 hsm hpl hfs
              have HPL := Lib.hid hpl
              have HFS := Lib.hid hfs
              obtain ⟨P, hP⟩ : ∃ P, P = (x.take j).map payJ := ⟨_, rfl⟩
              rw [← hP] at ho9 ho10 HO9 HO10 HPL HFS hsf
              have hPl : P.length = j := by rw [hP, List.length_map, List.length_take]; omega
              obtain ⟨FJ, hFJ⟩ : ∃ FJ, FJ = framesB P := ⟨_, rfl⟩
              rw [← hFJ] at ho9 HO9 HFS hsf
              have hfl : FJ.length ≤ 3000 := by have := HG3.out; omega
              have hpl1 : P.length + 1 ≤ 1000000000 := by have := HG1.out; omega
              have HFLJ := Lib.hid hfl
              have HPL1 := Lib.hid hpl1
              have HSM := Lib.hid hsm
              obtain ⟨A10, c10, hv10⟩ := ho10.form
              obtain ⟨A9, c9, hv9, hof9⟩ := own_off ho9 rfl
              subst hv10 hv9
              have HOF9 := Lib.hid hof9
              have k10 := (hbi.cell (p := ⟨b1, o1 + j * 2 + 0, none⟩) hbl1).trans (hr1 0 _ rfl)
              have k11 := (hbi.cell (p := ⟨b1, o1 + j * 2 + 1, none⟩) hbl1).trans (hr1 1 _ rfl)
              rw [Nat.add_zero] at k10
              have hbA : Below wo.heap.size wo (wr.alloc (.cells #[bv kk, .slice B1 n1 d1] 37)) := hbi.alloc hbi.size _
              have hbB : Below wr.heap.size wr (wr.alloc (.cells #[bv kk, .slice B1 n1 d1] 37)) := (Below.refl _ _).alloc (Nat.le_refl _) _
              have HNB := Lib.hid (Blk.new wr 37 #[bv kk, .slice B1 n1 d1])
              have HBA := Lib.hid hbA
              have HBB := Lib.hid hbB
              have HJL := Lib.hid hjl
              have HS1 := Lib.hid (hs1.below hbA)
              clear hr1 hs1 hsm hpl hfs hkd hbA hbB ho9 ho10 hof9 hfl hpl1 hP hPl hFJ hsz hsf hbi
              unfold bv at k10
              go_upto_region 14 with fail
              rw [show Value.int .u8 ((kk.toNat : Nat) : Int) = bv kk from rfl]
              clear k10 k11
              have O9 := Lib.hid (own_at HO9.out (fun k e => HBB.out.block k (HO9.out.lt k e).2) (fun k e => (HO9.out.lt k e).1))
              have R10 := Lib.hid (HO10.out.below HBB.out)
              have OF9 := Lib.hid (HOF9.out.kept (grownBy_below HBB.out none) (fun _ _ _ _ e => by cases e))
              clear HO9 HO10 HOF9 HBB HBI
              generalize wr.alloc (.cells #[bv kk, .slice B1 n1 d1] 37) = W7 at *
              generalize wr.heap.size = gk at *
              have hbC : Below W7.heap.size W7 (W7.alloc (.cells #[bv kk] 5)) := (Below.refl _ _).alloc (Nat.le_refl _) _
              have hwr7 : wo.heap.size ≤ W7.heap.size := HBA.out.size
              obtain ⟨v13, w8, hr13, ho13, hb8⟩ := append_own1 (W7.alloc (.cells #[bv kk] 5)) (.slice (some ⟨W7.heap.size, 0, none⟩) 1 1) kk wo.heap.size (OneB.new W7 kk) (fun k e => by simp [Value.ownBlock] at e; omega) (Nat.le_trans hwr7 hbC.size) (.slice B1 n1 d1) dd (HS1.out.below hbC) (by have := HSM.out; omega)
              have hb78 : Below W7.heap.size W7 w8 := hbC.trans (hb8.mono hbC.size)
              have HR13 := Lib.hid hr13
              obtain ⟨A13, c13, hv13, hof13⟩ := own_off ho13 rfl
              subst hv13
              obtain ⟨p, hp⟩ : ∃ p, p = kk :: dd := ⟨_, rfl⟩
              rw [← hp] at ho13 hof13 HR13 HPL HFS
              have hplen : p.length ≤ 101 := by rw [hp]; have := HSM.out; simp; omega
              have HPN := Lib.hid hplen
              have hs13 : Sl bv w8 (.slice A13 p.length c13) p := own_sl ho13
              have O9' := Lib.hid (own_at O9.out (fun k e => hb78.block k (O9.out.lt k e).2) (fun k e => (O9.out.lt k e).1))
              have hof9' := OF9.out.kept (grownBy_below hb78 none) (fun _ _ _ _ e => by cases e)
              obtain ⟨v10, w9, hr10, ho10, hb9, hst⟩ := append_row2 wo.heap.size wo w8 _ P (R10.out.below hb78) (HBA.out.trans (hb78.mono HBA.out.size)) A13 p.length c13 p hs13 hof13 HPL1.out
              have HR10 := Lib.hid hr10
              have S13 := Lib.hid (hst ((A13, p.length, c13), p) hs13 hof13).1
              have S9 := Lib.hid (hst ((A9, FJ.length, c9), FJ) (own_sl O9'.out) hof9').1
              have HO10 := Lib.hid ho10
              have HB9 := Lib.hid hb9
              have HNB8 := HNB.out
              have e0 := HNB.out.cell 0
              have e1 := HNB.out.cell 1
              have e1' := (HNB.out.below hbC HNB.out.lt).cell 1
              simp at e0 e1 e1'
              unfold bv at e0 e1' HR13
              clear hr13 ho13 hb8 hb78 hs13 hof13 hof9' hr10 ho10 hb9 hst hbC hwr7 hplen hp HNB8 O9 O9' OF9 R10
              go_upto_region 15 with (at_builtin; refine Lib.wpList_append_run (o := ⟨some 50, _, _, _, _, _⟩) _ rfl _ _ _ _ rfl _ _ rfl rfl _ _ HR13.out ?_)
              go_upto_region 16 with (at_builtin; refine Lib.wpList_append_run (o := ⟨some 54, _, _, _, _, _⟩) _ rfl _ _ _ _ rfl _ _ rfl rfl _ _ HR10.out ?_)
              clear e0 e1 e1'
              go_wp2_with fail
              refine (rput_any _ _ FJ p w9 S9.out S13.out (by have := HPN.out; omega) (by have := HFLJ.out; omega)).mono ?_
              rintro e wz ⟨vz, rfl, hoz, hbz⟩
              have HOZ := Lib.hid (own_le hoz HB9.out.size)
              have HBZ := Lib.hid hbz
              have hxl : x.length ≤ 20 := HG1.out
              clear hoz hbz
              go_wp2
              go_roundw
              case rel => exact ⟨j + 1, HJL.out, by go_num, by rw [HFS.out]; exact HOZ.out, by rw [HPL.out]; exact HO10.out.below HBZ.out, HB9.out.trans (HBZ.out.mono HB9.out.size)⟩
              case measure => have := HJL.out; simp [intOf]; omega
            · have hjj : j = x.length := by omega
              subst hjj
              rw [List.take_length] at ho9 ho10
              obtain ⟨A10, c10, hv10⟩ := ho10.form
              rw [List.length_map] at hv10
              subst hv10
              have hfr : readJ (framesB (x.map payJ)) = (x, 0) := readJ_laid x fun p hp => Nat.le_trans (HG4.out p hp) (by decide)
              have hsz : (framesB (x.map payJ)).length = sizeJ x := rfl
              have HSX := Lib.hid (show sizeJ x ≤ 3000 from HG3.out)
              obtain ⟨F, hF⟩ : ∃ F, F = framesB (x.map payJ) := ⟨_, rfl⟩
              rw [← hF] at ho9 hfr hsz
              have DW := Lib.hid (DF.out.below hbi)
              rw [← hF] at DW
              have HSZ := Lib.hid hsz
              have HFR := Lib.hid hfr
              have hlen : F.length ≤ 1000000 := by rw [hsz]; have := HSX.out; omega
              obtain ⟨A9, c9, hv9⟩ := own_form ho9
              subst hv9
              have HS9 := Lib.hid (own_sl ho9)
              have HRW := Lib.hid ho10.rows
              have HRI := Lib.hid (HRX.out.below hbi)
              have HBI := Lib.hid hbi
              have HBKI := Lib.hid (HBK.out.below hbi HBK.out.lt)
              have hread := jread_any g vf F s wr DW.out.dk hlen
              unfold ReadIs at hread
              rw [hfr] at hread
              have HREAD := Lib.hid hread
              have HMI := Lib.hid (HM.out.below DW.out.base)
              clear hread hfr hsz hF ho9 ho10 hbi hlen HO9 HO10
              go_wp2_with fail
              refine HREAD.out.mono ?_
              rintro e wj ⟨v14, rfl, hr14, hbj⟩
              have HR14 := Lib.hid hr14.at
              obtain ⟨A14, c14, hv14⟩ := hr14.at.form
              subst hv14
              have DJ := Lib.hid (DW.out.below hbj)
              have S9 := Lib.hid (HS9.out.below hbj)
              have RW := Lib.hid (HRW.out.below hbj)
              have RI := Lib.hid (HRI.out.below hbj)
              have MI := Lib.hid (HMI.out.below hbj)
              have BK := Lib.hid (HBKI.out.below hbj HBKI.out.lt)
              have HFL3 := Lib.hid (show x.length ≤ 1000000 from by have := HG1.out; omega)
              have HSM3 := Lib.hid (show ∀ r ∈ x, r.2.length ≤ 1000000 from fun r hr => Nat.le_trans (HG2.out r hr) (by decide))
              have HSM4 := Lib.hid (show ∀ r ∈ x, r.2.length + 1 ≤ 1048576 from fun r hr => by have := HG2.out r hr; omega)
              have hnz : ((sizeJ x : Int) != (F.length : Int)) = false := by rw [HSZ.out]; simp
              have HNZ := Lib.hid hnz
              clear hnz hr14 hbj DW HS9 HRW HRI HMI HBKI HREAD
              go_upto_region 19 with fail
              refine wp_region_any (by kernel_rfl) ?_
              refine wpAny_below (fun i => pOfB (([(some (.int .i64 0), none), (some (.bool false), none), (some (.bool false), none), (some (.slice A14 x.length c14), none), (some (.slice A10 x.length c10), none), (some (.bool true), none), (some (.bool false), none), (some (.bool false), none), (some (.bool false), none), (some (.pointer (some ⟨g, 0, none⟩)), none), (none, some (F)), (some (.string ⟨(F).toArray⟩), none), (some (.slice A9 F.length c9), none), (some (.string ⟨(F).toArray⟩), none), (some (.bool false), none), (some (.bool false), none), (some (.bool false), none), (some (.slice Ax x.length cx), none), (some (.int .i64 (sizeJ x)), none), (some (.slice A9 F.length c9), none), (some (.int .i64 F.length), none), (some (.bool false), none), (some (.bool false), none)] : List (Option Value × Option (List UInt8))).getD i (none, none))) _ wj (by kernel_rfl) (by kernel_rfl) (by kernel_rfl) (fun i v w w' => pOfB_stable _ i v w w') ?_ ?_
              · refine ⟨?_, ?_, ?_, ?_, ?_, ?_, ?_, ?_, ?_, ?_, ?_, ?_, ?_, ?_, ?_, ?_, ?_, ?_, ?_, ?_, ?_, ?_, ?_, trivial⟩
                · intro a W hI hun haft hi
                  have e15 : a.eval (.tmp 15) = .int .i64 0 := hun 15 (by kernel_rfl)
                  exact b_same hi hI rfl _ (run_move_op rfl e15) rfl
                · intro a W hI hun haft hi
                  have f0 : a.eval (.tmp 64) = .int .i64 0 := haft ⟨0, .data⟩ (by simp) rfl _ _ rfl rfl
                  exact b_same hi hI rfl (.bool false) (run_bin_op rfl f0 rfl (by go_simp) (run_nee rfl _)) rfl
                · intro a W hI hun haft hi
                  have f1 : a.eval (.tmp 65) = .bool false := haft ⟨1, .data⟩ (by simp) rfl _ _ rfl rfl
                  exact b_same hi hI rfl _ (run_move_op rfl f1) rfl
                · intro a W hI hun haft hi
                  have fg : a.eval (.tmp 66) = .bool false := haft ⟨2, .guard⟩ (by simp) rfl _ _ rfl rfl
                  have e14 : a.eval (.tmp 14) = .slice A14 x.length c14 := hun 14 (by kernel_rfl)
                  exact b_same hi hI (guard_ok rfl rfl rfl fg) _ (run_move_op rfl e14) rfl
                · intro a W hI hun haft hi
                  have fg : a.eval (.tmp 66) = .bool false := haft ⟨2, .guard⟩ (by simp) rfl _ _ rfl rfl
                  have e10 : a.eval (.tmp 10) = .slice A10 x.length c10 := hun 10 (by kernel_rfl)
                  exact b_same hi hI (guard_ok rfl rfl rfl fg) _ (run_move_op rfl e10) rfl
                · intro a W hI hun haft hi
                  have fg : a.eval (.tmp 66) = .bool false := haft ⟨2, .guard⟩ (by simp) rfl _ _ rfl rfl
                  have f3 : a.eval (.tmp 67) = .slice A14 x.length c14 := haft ⟨3, .data⟩ (by simp) rfl _ _ rfl rfl
                  have f4 : a.eval (.tmp 68) = .slice A10 x.length c10 := haft ⟨4, .data⟩ (by simp) rfl _ _ rfl rfl
                  refine b_call hi hI (guard_ok rfl rfl rfl fg) _ _ (run_call_op (args := #[.slice A14 x.length c14, .slice A10 x.length c10]) rfl (by simp [f3, f4]) (by kernel_rfl)) ?_
                  exact (jsame_any _ _ x wo.heap.size W (HR14.out.below hI) (RW.out.below hI) HFL3.out HSM3.out).mono fun e' w' H => ⟨_, H.1, rfl, H.2⟩
                · intro a W hI hun haft hi
                  have fg : a.eval (.tmp 66) = .bool false := haft ⟨2, .guard⟩ (by simp) rfl _ _ rfl rfl
                  have f5 : a.eval (.tmp 69) = .bool true := haft ⟨5, .data⟩ (by simp) rfl _ _ rfl rfl
                  exact b_same hi hI (guard_ok rfl rfl rfl fg) _ (run_not_op rfl f5) rfl
                · intro a W hI hun haft hi
                  have f2 : a.eval (.tmp 66) = .bool false := haft ⟨2, .data⟩ (by simp) rfl _ _ rfl rfl
                  have f6 : a.eval (.tmp 70) = .bool false := haft ⟨6, .data⟩ (by simp) rfl _ _ rfl rfl
                  exact b_same hi hI rfl _ (run_pick_op (b := false) rfl f2 rfl f6) rfl
                · intro a W hI hun haft hi
                  have f7 : a.eval (.tmp 71) = .bool false := haft ⟨7, .data⟩ (by simp) rfl _ _ rfl rfl
                  exact b_same hi hI rfl _ (run_move_op rfl f7) rfl
                · intro a W hI hun haft hi
                  have fg : a.eval (.tmp 72) = .bool false := haft ⟨8, .guard⟩ (by simp) rfl _ _ rfl rfl
                  have e5 : a.eval (.tmp 5) = .pointer (some ⟨g, 0, none⟩) := hun 5 (by kernel_rfl)
                  exact b_same hi hI (guard_ok rfl rfl rfl fg) _ (run_move_op rfl e5) rfl
                · intro a W hI hun haft hi
                  have fg : a.eval (.tmp 72) = .bool false := haft ⟨8, .guard⟩ (by simp) rfl _ _ rfl rfl
                  have f9 : a.eval (.tmp 73) = .pointer (some ⟨g, 0, none⟩) := haft ⟨9, .data⟩ (by simp) rfl _ _ rfl rfl
                  refine b_call hi hI (guard_ok rfl rfl rfl fg) _ _ (run_call_op (args := #[.pointer (some ⟨g, 0, none⟩)]) rfl (by simp [f9]) (by kernel_rfl)) ?_
                  exact (dbytes_any g vf F s W (DJ.out.below hI).dk).mono fun e' w' H => by
                    obtain ⟨v', he, ho, hb⟩ := H
                    exact ⟨v', he, Sl.of_own ho, hb⟩
                · intro a W hI hun haft hi
                  have fg : a.eval (.tmp 72) = .bool false := haft ⟨8, .guard⟩ (by simp) rfl _ _ rfl rfl
                  have f10 : Sl bv W (a.eval (.tmp 74)) (F) := haft ⟨10, .data⟩ (by simp) rfl _ _ rfl rfl
                  exact b_same hi hI (guard_ok rfl rfl rfl fg) _ (run_convert_op rfl rfl (bytes_str W _ _ f10)) rfl
                · intro a W hI hun haft hi
                  have fg : a.eval (.tmp 72) = .bool false := haft ⟨8, .guard⟩ (by simp) rfl _ _ rfl rfl
                  have e9 : a.eval (.tmp 9) = .slice A9 F.length c9 := hun 9 (by kernel_rfl)
                  exact b_same hi hI (guard_ok rfl rfl rfl fg) _ (run_move_op rfl e9) rfl
                · intro a W hI hun haft hi
                  have fg : a.eval (.tmp 72) = .bool false := haft ⟨8, .guard⟩ (by simp) rfl _ _ rfl rfl
                  have f12 : a.eval (.tmp 76) = .slice A9 F.length c9 := haft ⟨12, .data⟩ (by simp) rfl _ _ rfl rfl
                  exact b_same hi hI (guard_ok rfl rfl rfl fg) _ (run_convert_op rfl f12 (bytes_str W _ _ (Sl.below (S9.out) hI))) rfl
                · intro a W hI hun haft hi
                  have fg : a.eval (.tmp 72) = .bool false := haft ⟨8, .guard⟩ (by simp) rfl _ _ rfl rfl
                  have f11 : a.eval (.tmp 75) = .string ⟨(F).toArray⟩ := haft ⟨11, .data⟩ (by simp) rfl _ _ rfl rfl
                  have f13 : a.eval (.tmp 77) = .string ⟨(F).toArray⟩ := haft ⟨13, .data⟩ (by simp) rfl _ _ rfl rfl
                  exact b_same hi hI (guard_ok rfl rfl rfl fg) (.bool false) (run_bin_op rfl f11 f13 (by go_simp) (run_nes _ _)) rfl
                · intro a W hI hun haft hi
                  have f8 : a.eval (.tmp 72) = .bool false := haft ⟨8, .data⟩ (by simp) rfl _ _ rfl rfl
                  have f14 : a.eval (.tmp 78) = .bool false := haft ⟨14, .data⟩ (by simp) rfl _ _ rfl rfl
                  exact b_same hi hI rfl _ (run_pick_op (b := false) rfl f8 rfl f14) rfl
                · intro a W hI hun haft hi
                  have f15 : a.eval (.tmp 79) = .bool false := haft ⟨15, .data⟩ (by simp) rfl _ _ rfl rfl
                  exact b_same hi hI rfl _ (run_move_op rfl f15) rfl
                · intro a W hI hun haft hi
                  have fg : a.eval (.tmp 80) = .bool false := haft ⟨16, .guard⟩ (by simp) rfl _ _ rfl rfl
                  have e8 : a.eval (.tmp 8) = .slice Ax x.length cx := hun 8 (by kernel_rfl)
                  exact b_same hi hI (guard_ok rfl rfl rfl fg) _ (run_move_op rfl e8) rfl
                · intro a W hI hun haft hi
                  have fg : a.eval (.tmp 80) = .bool false := haft ⟨16, .guard⟩ (by simp) rfl _ _ rfl rfl
                  have f17 : a.eval (.tmp 81) = .slice Ax x.length cx := haft ⟨17, .data⟩ (by simp) rfl _ _ rfl rfl
                  refine b_call hi hI (guard_ok rfl rfl rfl fg) _ _ (run_call_op (args := #[.slice Ax x.length cx]) rfl (by simp [f17]) (by kernel_rfl)) ?_
                  exact (jsize_any _ x W (RI.out.below hI) (by have := HSX.out; omega) HSM4.out).mono fun e' w' H => ⟨_, H.1, rfl, H.2⟩
                · intro a W hI hun haft hi
                  have fg : a.eval (.tmp 80) = .bool false := haft ⟨16, .guard⟩ (by simp) rfl _ _ rfl rfl
                  have e9 : a.eval (.tmp 9) = .slice A9 F.length c9 := hun 9 (by kernel_rfl)
                  exact b_same hi hI (guard_ok rfl rfl rfl fg) _ (run_move_op rfl e9) rfl
                · intro a W hI hun haft hi
                  have fg : a.eval (.tmp 80) = .bool false := haft ⟨16, .guard⟩ (by simp) rfl _ _ rfl rfl
                  have f19 : a.eval (.tmp 83) = .slice A9 F.length c9 := haft ⟨19, .data⟩ (by simp) rfl _ _ rfl rfl
                  exact b_same hi hI (guard_ok rfl rfl rfl fg) _ (run_len_op Try.underlying34 rfl f19) rfl
                · intro a W hI hun haft hi
                  have fg : a.eval (.tmp 80) = .bool false := haft ⟨16, .guard⟩ (by simp) rfl _ _ rfl rfl
                  have f18 : a.eval (.tmp 82) = .int .i64 (sizeJ x) := haft ⟨18, .data⟩ (by simp) rfl _ _ rfl rfl
                  have f20 : a.eval (.tmp 84) = .int .i64 F.length := haft ⟨20, .data⟩ (by simp) rfl _ _ rfl rfl
                  exact b_same hi hI (guard_ok rfl rfl rfl fg) (.bool false) (run_bin_op rfl f18 f20 (by go_simp) (run_nei HNZ.out _)) rfl
                · intro a W hI hun haft hi
                  have f16 : a.eval (.tmp 80) = .bool false := haft ⟨16, .data⟩ (by simp) rfl _ _ rfl rfl
                  have f21 : a.eval (.tmp 85) = .bool false := haft ⟨21, .data⟩ (by simp) rfl _ _ rfl rfl
                  exact b_same hi hI rfl _ (run_pick_op (b := false) rfl f16 rfl f21) rfl
              · intro vals W hI hp
                have hl22 : vals 22 = .bool false := hp 22 (by decide)
                have HI := Lib.hid hI
                clear hp hI
                simp only [layN, List.size_toArray, List.length_cons, List.length_nil, List.range, List.range.loop, if_true, List.getElem?_toArray, List.getElem?_cons_zero, List.getElem?_cons_succ, Act.put, List.setIfInBounds_toArray, List.set_cons_zero, List.set_cons_succ, Nat.zero_add, Nat.reduceAdd, hl22]
                clear hl22
                have DQ := Lib.hid (DJ.out.below HI.out)
                have MQ := Lib.hid (MI.out.below HI.out)
                have BQ := Lib.hid (BK.out.below HI.out BK.out.lt)
                have HSXM := Lib.hid (fewJ_spec m HFM.out).2.2.1
                clear HI DJ S9 RW RI MI BK HR14
                generalize W = wq at *
                go_wp2_with fail
                refine (rewrite_any g vf _ F s m wq DQ.out.dk MQ.out (by have := HSXM.out; omega)).mono ?_
                rintro e wt ⟨rfl, vt, hdt, hmt⟩
                have DT := Lib.hid (DQ.out.turn hdt hmt)
                have BT := Lib.hid (hmt.blk DQ.out.dk BQ.out HGT.out (by decide))
                clear hdt hmt
                go_wp2
                go_roundw
                case rel => exact ⟨k + 1, vt, m, _, HLT.out, by go_num, DT.out, by rw [if_neg (by omega)], BT.out⟩
                case measure => have := HLT.out; simp [intOf]; omega
        · have hkk : k = 2 := by omega
          subst hkk
          go_wp2
          go_ret
          exact ⟨rfl, DF.out.base⟩
    · have hfm' : fewJ m = false := by simpa using hfm
      rw [hfm']
      go_wp2
      go_ret
      exact ⟨rfl, HB3.out⟩
  · have hfl' : fewJ l = false := by simpa using hfl
    rw [hfl']
    go_wp2
    go_ret
    exact ⟨rfl, HB2.out⟩

end Go.Proofs.Ytkdfedcmhcchiaa
