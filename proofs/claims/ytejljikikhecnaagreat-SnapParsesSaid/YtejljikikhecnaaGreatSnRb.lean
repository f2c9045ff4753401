/-
  hedgerowref12.Bytes: the contract, by a walk. Conditions: lengths.
-/
import Derived.Test.YtejljikikhecnaaGreatSnIts
import Derived.Test.YtejljikikhecnaaGreatNRq
import Derived.Test.YtejljikikhecnaaGreatSnBytes
namespace Go.Proofs.YtejljikikhecnaaGreat.Ot
open Go.RowKit

def P1 (f : Nat → Int) (I : List (El × List (Dt × Va))) : List UInt8 := pastB f 16 ++ putB I.length
def P2 (f : Nat → Int) (I : List (El × List (Dt × Va))) (k : Nat) : List UInt8 := P1 f I ++ ((I.take k).map fun q => bytesI q.1 q.2).flatten
def P3 (f : Nat → Int) (I : List (El × List (Dt × Va))) (E : List Ev) : List UInt8 := P2 f I I.length ++ putB E.length
def P4 (f : Nat → Int) (I : List (El × List (Dt × Va))) (E : List Ev) (k : Nat) : List UInt8 := P3 f I E ++ ((E.take k).map bytesE).flatten
theorem P4_all (f : Nat → Int) (I : List (El × List (Dt × Va))) (E : List Ev) : P4 f I E E.length = bytesS f I E := by
  unfold P4 P3 P2 P1 bytesS rowIB rowEB
  rw [List.take_length, List.take_length]
  simp only [List.append_assoc]
theorem P2_succ (f : Nat → Int) (I : List (El × List (Dt × Va))) (k : Nat) (hk : k < I.length) : P2 f I (k + 1) = P2 f I k ++ bytesI I[k].1 I[k].2 := by
  unfold P2
  rw [List.take_succ_eq_append_getElem hk]
  simp only [List.map_append, List.map_cons, List.map_nil, List.flatten_append, List.flatten_cons, List.flatten_nil, List.append_nil, List.append_assoc]
theorem P4_succ (f : Nat → Int) (I : List (El × List (Dt × Va))) (E : List Ev) (k : Nat) (hk : k < E.length) : P4 f I E (k + 1) = P4 f I E k ++ bytesE E[k] := by
  unfold P4
  rw [List.take_succ_eq_append_getElem hk]
  simp only [List.map_append, List.map_cons, List.map_nil, List.flatten_append, List.flatten_cons, List.flatten_nil, List.append_nil, List.append_assoc]

def gS (pre : List UInt8) (x : El) : Nat → List UInt8
  | 0 => pre ++ putB x.k
  | 1 => (pre ++ putB x.k) ++ txtB x.a
  | 2 => ((pre ++ putB x.k) ++ txtB x.a) ++ txtB x.b
  | 3 => (((pre ++ putB x.k) ++ txtB x.a) ++ txtB x.b) ++ txtB x.c
  | _ => ((((pre ++ putB x.k) ++ txtB x.a) ++ txtB x.b) ++ txtB x.c) ++ txtB x.d
theorem gS_four (pre : List UInt8) (x : El) : gS pre x 4 = pre ++ bytesX x := by
  simp only [gS, bytesX, s4, s3, s2, s1, List.nil_append, List.append_assoc]
theorem at_Dts (g o c n k : Nat) (h : k < n) (w : World) : (Instr.indexAt 86 (.slice (some ⟨g, o, none⟩) n c) (.int .i64 k)).run Tryz.prog w = .ok (.pointer (some ⟨g, o + k * 2, none⟩)) w := by
  have h2 : (k : Int) < n := by omega
  go_simp
theorem at_Vls (g o c n k : Nat) (h : k < n) (w : World) : (Instr.indexAt 87 (.slice (some ⟨g, o, none⟩) n c) (.int .i64 k)).run Tryz.prog w = .ok (.pointer (some ⟨g, o + k * 3, none⟩)) w := by
  have h2 : (k : Int) < n := by omega
  go_simp
theorem at_v0 (g : Nat) (w : World) : (Instr.fieldAt 47 (.pointer (some ⟨g, 0, none⟩)) 0).run Tryz.prog w = .ok (.pointer (some ⟨g, 0, none⟩)) w := by go_simp
theorem at_v1 (g : Nat) (w : World) : (Instr.fieldAt 47 (.pointer (some ⟨g, 0, none⟩)) 1).run Tryz.prog w = .ok (.pointer (some ⟨g, 1, none⟩)) w := by go_simp
theorem at_v2 (g : Nat) (w : World) : (Instr.fieldAt 47 (.pointer (some ⟨g, 0, none⟩)) 2).run Tryz.prog w = .ok (.pointer (some ⟨g, 2, none⟩)) w := by go_simp
def gD (p : List UInt8) (l : List (Dt × Va)) (m : Nat) : List UInt8 := p ++ putB l.length ++ ((l.take m).map bytesN).flatten
theorem gD_all (p : List UInt8) (l : List (Dt × Va)) : gD p l l.length = p ++ (putB l.length ++ (l.map bytesN).flatten) := by
  unfold gD
  rw [List.take_length, List.append_assoc]
theorem gD_succ (p : List UInt8) (l : List (Dt × Va)) (m : Nat) (hm : m < l.length) : gD p l (m + 1) = gD p l m ++ bytesN l[m] := by
  unfold gD
  rw [List.take_add_one, List.getElem?_eq_getElem hm]
  simp only [Option.toList_some, List.map_append, List.map_cons, List.map_nil, List.flatten_append, List.flatten_cons, List.flatten_nil, List.append_nil, List.append_assoc]
theorem gD_le (p : List UInt8) (l : List (Dt × Va)) (m : Nat) (hm : m < l.length) : (gD p l m).length + (bytesN l[m]).length ≤ p.length + (putB l.length).length + (l.map bytesN).flatten.length := by
  rw [← List.length_append, ← gD_succ p l m hm]
  unfold gD
  have h := congrArg (fun q => (q.map bytesN).flatten.length) (List.take_append_drop (m + 1) l)
  simp only [List.map_append, List.flatten_append, List.length_append] at h ⊢
  omega
theorem txtB_size (s : ByteArray) : s.size ≤ (txtB s).length := by
  unfold txtB
  rw [List.length_append]
  have : s.data.toList.length = s.size := rfl
  omega
theorem gS_len (pre : List UInt8) (x : El) (l : List (Dt × Va)) : (gS pre x 0).length + x.a.size ≤ (pre ++ bytesI x l).length ∧ (gS pre x 1).length + x.b.size ≤ (pre ++ bytesI x l).length ∧ (gS pre x 2).length + x.c.size ≤ (pre ++ bytesI x l).length ∧ (gS pre x 3).length + x.d.size ≤ (pre ++ bytesI x l).length := by
  have ha := txtB_size x.a
  have hb := txtB_size x.b
  have hc := txtB_size x.c
  have hd := txtB_size x.d
  simp only [gS, bytesI, bytesX, s4, s3, s2, s1, List.nil_append, List.length_append]
  omega
set_option maxRecDepth 100000 in
set_option maxHeartbeats 4000000 in
theorem refb12_any {R : Nat} (f : Nat → Int) (I : List (El × List (Dt × Va))) (E : List Ev) (AI AE : Option Addr) (cI cE : Nat) (w : World) (hi : RIts R w (.slice AI I.length cI) I) (he : SlK encE 27 w (.slice AE E.length cE) E)
    (hl2 : ∀ k, (P2 f I k).length ≤ 100000000000000) (hl4 : ∀ k, (P4 f I E k).length ≤ 100000000000000) (hle : ∀ e ∈ E, Lens e) (hn : I.length ≤ 10000 ∧ E.length ≤ 10000) (hq : ∀ q ∈ I, q.2.length ≤ 10000) :
    Calls Tryz.prog 12 #[.agg (vA f), .slice AI I.length cI, .slice AE E.length cE] w (Reads w (bytesS f I E)) := by
  obtain ⟨p, hp⟩ : ∃ p, p = w.heap.size := ⟨_, rfl⟩
  obtain ⟨X, hX⟩ : ∃ X, X = w.alloc (.cells (vA f) 23) := ⟨_, rfl⟩
  have hbX : Below w.heap.size w X := by rw [hX]; exact (Below.refl _ _).alloc (Nat.le_refl _) _
  have HV := Lib.hid (show VB X p f by rw [hX, hp]; exact VB.new_ _ rfl)
  have HI := Lib.hid (hi.keep hbX)
  have HE := Lib.hid (he.below hbX)
  have HbX := Lib.hid hbX
  have HX := Lib.hid hX
  have L2 := Lib.hid hl2
  have L4 := Lib.hid hl4
  have LE := Lib.hid hle
  have HNn := Lib.hid hn
  have LM := Lib.hid hq
  clear hX hbX hi he hl2 hl4 hle hn hq
  go_enter Tryz.func12, Tryz.ntmps12
  go_upto_region 1 with fail
  rw [← HX.out, ← hp]
  clear hp
  go_upto_region 2 with fail
  go_wp2_with (first
    | (refine wpList_load_row rfl 23 (.tmp 3) rfl p rfl _ _ _ _ HV.out Tryz.underlying23 rfl (sizeV _) ?_)
    | fail)
  go_loopw [7, 20] (fun u i W => ∃ k : Nat, k ≤ 16 ∧ i = .int .i64 k ∧ Sl bv W u (pastB f k) ∧ Below X.heap.size X W) (fun _ i _ => 16 - (intOf i).toNat)
  case atStart => exact ⟨0, by omega, rfl, Sl.nil_ _ _, Below.refl _ _⟩
  case round =>
    obtain ⟨k, hk, rfl, hs, hb⟩ := hrel
    have S2 := Lib.hid hs
    have B2 := Lib.hid hb
    obtain ⟨A2, c2, rfl⟩ := hs.form
    clear hs hb
    by_cases hlt : k < 16
    · have hix := index_V f k hlt wr
      have HS := Lib.hid (pastB_succ f k)
      go_wp2_with fail
      clear hix
      refine (refput_any _ _ (f k) _ S2.out (by have := pastB_len f k; omega)).mono ?_
      rintro e' w3 ⟨v3, rfl, ho3, hb3⟩
      rw [← HS.out] at ho3
      have O3 := Lib.hid ho3
      have Y3 := Lib.hid (B2.out.trans (hb3.mono B2.out.size))
      clear ho3 hb3
      go_wp2
      go_roundw
      case rel => exact ⟨k + 1, by omega, by go_num, O3.out, Y3.out⟩
      case measure => simp [intOf]; omega
    · have hk16 : k = 16 := by omega
      subst hk16
      clear hlt hk
      generalize wr = W2 at *
      go_wp2_with fail
      refine (refput_any _ _ (I.length : Int) _ S2.out (by have := pastB_len f 16; omega)).mono ?_
      rintro e' W3 ⟨v3, rfl, ho3, hb3⟩
      have O3 : Hid (Sl bv W3 v3 (P2 f I 0)) := Lib.hid (by unfold P2 P1; simpa using ho3)
      have Y3 := Lib.hid (B2.out.trans (hb3.mono B2.out.size))
      clear ho3 hb3
      go_wp2_with fail
      go_loopw [7, 33] (fun u i W => ∃ k : Nat, k ≤ I.length ∧ i = .int .i64 k ∧ Sl bv W u (P2 f I k) ∧ Below X.heap.size X W) (fun _ i _ => I.length - (intOf i).toNat)
      case atStart => exact ⟨0, Nat.zero_le _, rfl, O3.out, Y3.out⟩
      case round =>
        obtain ⟨k, hk, rfl, hs, hb⟩ := hrel
        generalize wr = W4 at *
        have S4 := Lib.hid hs
        have B4 := Lib.hid hb
        obtain ⟨A4, c4, rfl⟩ := hs.form
        clear hs hb
        by_cases hlt : k < I.length
        · obtain ⟨LI, hio, hil, hiq⟩ := HI.out
          have hkL : k < LI.length := by omega
          obtain ⟨yy, hyy⟩ : ∃ y, y = LI[k]'hkL := ⟨_, rfl⟩
          obtain ⟨⟨e, es⟩, hee⟩ : ∃ q, q = I[k]'hlt := ⟨_, rfl⟩
          have hyk : LI[k]? = some yy := by rw [hyy]; exact List.getElem?_eq_getElem hkL
          have hek : I[k]? = some (e, es) := by rw [hee]; exact List.getElem?_eq_getElem hlt
          obtain ⟨z1, z2, z3⟩ := hiq k yy (e, es) hyk hek
          obtain ⟨ye, yD, yV⟩ := yy
          simp only at z1 z2 z3
          subst z1
          obtain ⟨AD, cD, hD, _, hxD⟩ := z2.read encD_len
          obtain ⟨AV, cV, hV, _, hxV⟩ := z3.read encVl_len
          rw [List.length_map] at hD hV
          subst hD hV
          obtain ⟨A7, c7, h7, _, hx7⟩ := hio.read encRI_len
          injection h7 with f1 f2 f3
          obtain ⟨b7, o7, hA7, hb7, hc7⟩ := hx7 (fun e => by rw [e] at hkL; cases hkL)
          rw [← f1] at hA7
          subst hA7
          have hcl := hc7 k _ hyk
          have k0 := (B4.out.cell (p := ⟨b7, o7 + k * 7 + 0, none⟩) hb7).trans (hcl 0 _ rfl)
          have k1 := (B4.out.cell (p := ⟨b7, o7 + k * 7 + 1, none⟩) hb7).trans (hcl 1 _ rfl)
          have k2 := (B4.out.cell (p := ⟨b7, o7 + k * 7 + 2, none⟩) hb7).trans (hcl 2 _ rfl)
          have k3 := (B4.out.cell (p := ⟨b7, o7 + k * 7 + 3, none⟩) hb7).trans (hcl 3 _ rfl)
          have k4 := (B4.out.cell (p := ⟨b7, o7 + k * 7 + 4, none⟩) hb7).trans (hcl 4 _ rfl)
          have k5 := (B4.out.cell (p := ⟨b7, o7 + k * 7 + 5, none⟩) hb7).trans (hcl 5 _ rfl)
          have k6 := (B4.out.cell (p := ⟨b7, o7 + k * 7 + 6, none⟩) hb7).trans (hcl 6 _ rfl)
          rw [Nat.add_zero] at k0
          simp only at k0 k1 k2 k3 k4 k5 k6
          have HS := Lib.hid (P2_succ f I k hlt)
          rw [← hee] at HS
          have HES := Lib.hid (show es.length ≤ 10000 by have := LM.out _ (List.getElem_mem hlt); rw [← hee] at this; exact this)
          have HLT := Lib.hid hlt
          have HxD := Lib.hid hxD
          have HxV := Lib.hid hxV
          obtain ⟨pre, hpre⟩ : ∃ pre, pre = P2 f I k := ⟨_, rfl⟩
          have HPre := Lib.hid hpre
          rw [← hpre] at S4 HS ⊢
          have HL := Lib.hid (show (pre ++ bytesI ye es).length ≤ 100000000000000 by have := L2.out (k + 1); rw [HS.out] at this; exact this)
          obtain ⟨Y, hY⟩ : ∃ Y, Y = W4.alloc (.cells #[.int .i64 ye.k, .string ye.a, .string ye.b, .string ye.c, .string ye.d, .slice AD es.length cD, .slice AV es.length cV] 89) := ⟨_, rfl⟩
          have hbY : Below W4.heap.size W4 Y := by rw [hY]; exact (Below.refl _ _).alloc (Nat.le_refl _) _
          obtain ⟨y1, hy1⟩ : ∃ y1, y1 = W4.heap.size := ⟨_, rfl⟩
          have H1 := Lib.hid (show Blk Y y1 89 #[.int .i64 ye.k, .string ye.a, .string ye.b, .string ye.c, .string ye.d, .slice AD es.length cD, .slice AV es.length cV] by rw [hY, hy1]; exact Blk.new W4 _ _)
          have SY := Lib.hid (S4.out.below hbY)
          have BY := Lib.hid (B4.out.trans (hbY.mono B4.out.size))
          have HY := Lib.hid hY
          have c0 := H1.out.cell 0
          simp at c0
          clear hY hbY hcl hx7 f1 f2 f3 hc7 hyk hek hee hyy z2 z3 hxD hxV hio hil hiq hpre
          go_upto_region 11 with fail
          rw [← HY.out, ← hy1]
          clear k0 k1 k2 k3 k4 k5 k6 hy1
          go_wp2_with fail
          refine (refput_any _ _ ye.k _ SY.out (by have := HL.out; rw [List.length_append] at this; omega)).mono ?_
          rintro e' W5 ⟨v5, rfl, ho5, hb5⟩
          obtain ⟨A5, c5, rfl⟩ := ho5.form
          have S5 := Lib.hid ho5
          have B5 := Lib.hid (BY.out.trans (hb5.mono BY.out.size))
          have H5 := Lib.hid (H1.out.below hb5 H1.out.lt)
          have d1 := H5.out.cell 1
          have d2 := H5.out.cell 2
          have d3 := H5.out.cell 3
          have d4 := H5.out.cell 4
          simp at d1 d2 d3 d4
          clear ho5 hb5 c0
          go_wp2_with fail
          clear d1 d2 d3 d4
          obtain ⟨y2, hy2⟩ : ∃ y2, y2 = W5.heap.size := ⟨_, rfl⟩
          have hbn : Below W5.heap.size W5 (W5.alloc (.cells #[.string ye.a, .string ye.b, .string ye.c, .string ye.d] 9)) := (Below.refl _ _).alloc (Nat.le_refl _) _
          have G6 := Lib.hid (show Blk (W5.alloc (.cells #[.string ye.a, .string ye.b, .string ye.c, .string ye.d] 9)) y2 9 #[.string ye.a, .string ye.b, .string ye.c, .string ye.d] by rw [hy2]; exact Blk.new _ _ _)
          have K6 := Lib.hid (H5.out.below hbn H5.out.lt)
          have Y6 := Lib.hid (B5.out.trans (hbn.mono B5.out.size))
          have hs6 := S5.out.below hbn
          rw [List.length_append] at hs6
          have S6 := Lib.hid (show Sl bv _ _ (gS pre ye 0) from hs6)
          rw [← hy2]
          clear hbn H5 B5 S5 hy2 hs6
          go_loopw [7, 56] (fun u i W => ∃ k : Nat, k ≤ 4 ∧ i = .int .i64 k ∧ Sl bv W u (gS pre ye k) ∧ Blk W y1 89 #[.int .i64 ye.k, .string ye.a, .string ye.b, .string ye.c, .string ye.d, .slice AD es.length cD, .slice AV es.length cV] ∧ Blk W y2 9 #[.string ye.a, .string ye.b, .string ye.c, .string ye.d] ∧ Below X.heap.size X W) (fun _ i _ => 4 - (intOf i).toNat)
          case atStart => exact ⟨0, by omega, rfl, S6.out, K6.out, G6.out, Y6.out⟩
          case round =>
            clear S6 K6 G6 Y6
            obtain ⟨k5, hk5, hi, hs, q2, g2, y2'⟩ := hrel
            generalize wr = W6 at *
            have K7 := Lib.hid q2
            have Y7 := Lib.hid y2'
            have G7 := Lib.hid g2
            clear q2 y2' g2
            have hk6 : k5 = 0 ∨ k5 = 1 ∨ k5 = 2 ∨ k5 = 3 ∨ k5 = 4 := by omega
            clear hk5
            rcases hk6 with rfl | rfl | rfl | rfl | rfl
            · have hi' : _ = Value.int .i64 0 := hi
              subst hi'
              clear hi
              have hs' : Sl bv _ _ (gS pre ye 0) := hs
              clear hs
              obtain ⟨A7, c7, rfl⟩ := hs'.form
              have S7 := Lib.hid hs'
              clear hs'
              have hc := (show _ = some (.string ye.a) from (Blk.cell G7.out 0).trans rfl)
              go_wp2_with fail
              clear hc
              refine (reftext_any _ (gS pre ye 0) ye.a _ S7.out (by have := gS_len pre ye es; have := HL.out; omega)).mono ?_
              rintro e' w8 ⟨v8, rfl, ho8, hb8⟩
              have O8 : Hid (Sl bv w8 v8 (gS pre ye 1)) := Lib.hid ho8
              have K8 := Lib.hid (Blk.below K7.out hb8 (Blk.lt K7.out))
              have G8 := Lib.hid (Blk.below G7.out hb8 (Blk.lt G7.out))
              have Y8 := Lib.hid (Y7.out.trans (hb8.mono Y7.out.size))
              clear ho8 hb8
              go_wp2
              go_roundw
              case rel => exact ⟨1, by omega, rfl, O8.out, K8.out, G8.out, Y8.out⟩
              case measure => simp [intOf]
            · have hi' : _ = Value.int .i64 1 := hi
              subst hi'
              clear hi
              have hs' : Sl bv _ _ (gS pre ye 1) := hs
              clear hs
              obtain ⟨A7, c7, rfl⟩ := hs'.form
              have S7 := Lib.hid hs'
              clear hs'
              have hc := (show _ = some (.string ye.b) from (Blk.cell G7.out 1).trans rfl)
              go_wp2_with fail
              clear hc
              refine (reftext_any _ (gS pre ye 1) ye.b _ S7.out (by have := gS_len pre ye es; have := HL.out; omega)).mono ?_
              rintro e' w8 ⟨v8, rfl, ho8, hb8⟩
              have O8 : Hid (Sl bv w8 v8 (gS pre ye 2)) := Lib.hid ho8
              have K8 := Lib.hid (Blk.below K7.out hb8 (Blk.lt K7.out))
              have G8 := Lib.hid (Blk.below G7.out hb8 (Blk.lt G7.out))
              have Y8 := Lib.hid (Y7.out.trans (hb8.mono Y7.out.size))
              clear ho8 hb8
              go_wp2
              go_roundw
              case rel => exact ⟨2, by omega, rfl, O8.out, K8.out, G8.out, Y8.out⟩
              case measure => simp [intOf]
            · have hi' : _ = Value.int .i64 2 := hi
              subst hi'
              clear hi
              have hs' : Sl bv _ _ (gS pre ye 2) := hs
              clear hs
              obtain ⟨A7, c7, rfl⟩ := hs'.form
              have S7 := Lib.hid hs'
              clear hs'
              have hc := (show _ = some (.string ye.c) from (Blk.cell G7.out 2).trans rfl)
              go_wp2_with fail
              clear hc
              refine (reftext_any _ (gS pre ye 2) ye.c _ S7.out (by have := gS_len pre ye es; have := HL.out; omega)).mono ?_
              rintro e' w8 ⟨v8, rfl, ho8, hb8⟩
              have O8 : Hid (Sl bv w8 v8 (gS pre ye 3)) := Lib.hid ho8
              have K8 := Lib.hid (Blk.below K7.out hb8 (Blk.lt K7.out))
              have G8 := Lib.hid (Blk.below G7.out hb8 (Blk.lt G7.out))
              have Y8 := Lib.hid (Y7.out.trans (hb8.mono Y7.out.size))
              clear ho8 hb8
              go_wp2
              go_roundw
              case rel => exact ⟨3, by omega, rfl, O8.out, K8.out, G8.out, Y8.out⟩
              case measure => simp [intOf]
            · have hi' : _ = Value.int .i64 3 := hi
              subst hi'
              clear hi
              have hs' : Sl bv _ _ (gS pre ye 3) := hs
              clear hs
              obtain ⟨A7, c7, rfl⟩ := hs'.form
              have S7 := Lib.hid hs'
              clear hs'
              have hc := (show _ = some (.string ye.d) from (Blk.cell G7.out 3).trans rfl)
              go_wp2_with fail
              clear hc
              refine (reftext_any _ (gS pre ye 3) ye.d _ S7.out (by have := gS_len pre ye es; have := HL.out; omega)).mono ?_
              rintro e' w8 ⟨v8, rfl, ho8, hb8⟩
              have O8 : Hid (Sl bv w8 v8 (gS pre ye 4)) := Lib.hid ho8
              have K8 := Lib.hid (Blk.below K7.out hb8 (Blk.lt K7.out))
              have G8 := Lib.hid (Blk.below G7.out hb8 (Blk.lt G7.out))
              have Y8 := Lib.hid (Y7.out.trans (hb8.mono Y7.out.size))
              clear ho8 hb8
              go_wp2
              go_roundw
              case rel => exact ⟨4, by omega, rfl, O8.out, K8.out, G8.out, Y8.out⟩
              case measure => simp [intOf]
            · have hi' : _ = Value.int .i64 4 := hi
              subst hi'
              clear hi
              have hs' : Sl bv _ _ (gS pre ye 4) := hs
              clear hs
              rw [gS_four] at hs'
              obtain ⟨pre4, hp4⟩ : ∃ p, p = pre ++ bytesX ye := ⟨_, rfl⟩
              have HS4 := Lib.hid (show pre ++ bytesI ye es = pre4 ++ (putB es.length ++ (es.map bytesN).flatten) by rw [hp4]; unfold bytesI; rw [List.append_assoc])
              have HL4 := Lib.hid (show pre4.length + (putB es.length).length + (es.map bytesN).flatten.length ≤ 100000000000000 by have := HL.out; rw [HS4.out, List.length_append, List.length_append] at this; omega)
              rw [← hp4] at hs'
              clear hp4
              obtain ⟨A7, c7, rfl⟩ := hs'.form
              have S7 := Lib.hid hs'
              clear hs' G7
              have c5 := K7.out.cell 5
              simp at c5
              go_wp2_with fail
              refine (refput_any _ _ (es.length : Int) _ S7.out (by have := HL4.out; omega)).mono ?_
              rintro e' W8 ⟨v8, rfl, ho8, hb8⟩
              have O8 := Lib.hid ho8
              have Y8 := Lib.hid (Y7.out.trans (hb8.mono Y7.out.size))
              have K8 := Lib.hid (K7.out.below hb8 K7.out.lt)
              clear ho8 hb8 c5
              have O9 : Hid (Sl bv W8 v8 (gD pre4 es 0)) := Lib.hid (by unfold gD; simpa using O8.out)
              clear O8
              have c5 := K8.out.cell 5
              simp at c5
              go_wp2_with fail
              clear c5
              go_loopw [7, 72] (fun u i W => ∃ m : Nat, m ≤ es.length ∧ i = .int .i64 m ∧ Sl bv W u (gD pre4 es m) ∧ Blk W y1 89 #[.int .i64 ye.k, .string ye.a, .string ye.b, .string ye.c, .string ye.d, .slice AD es.length cD, .slice AV es.length cV] ∧ Below X.heap.size X W) (fun _ i _ => es.length - (intOf i).toNat)
              case atStart => exact ⟨0, Nat.zero_le _, rfl, O9.out, K8.out, Y8.out⟩
              case round =>
                clear O9 K8 Y8
                obtain ⟨m, hm, rfl, hs9, q9, hb9⟩ := hrel
                generalize wr = W9 at *
                have S9 := Lib.hid hs9
                have K9 := Lib.hid q9
                have B9 := Lib.hid hb9
                obtain ⟨A9, c9, rfl⟩ := hs9.form
                clear hs9 q9 hb9
                by_cases hmt : m < es.length
                · obtain ⟨⟨d, x⟩, hdx⟩ : ∃ q, q = es[m]'hmt := ⟨_, rfl⟩
                  have HD := Lib.hid (gD_succ pre4 es m hmt)
                  rw [← hdx] at HD
                  obtain ⟨bD, oD, hAD, hbD, hcD⟩ := HxD.out (fun e => by rw [List.map_eq_nil_iff] at e; rw [e] at hmt; cases hmt)
                  obtain ⟨bV, oV, hAV, hbV, hcV⟩ := HxV.out (fun e => by rw [List.map_eq_nil_iff] at e; rw [e] at hmt; cases hmt)
                  subst hAD hAV
                  have HCd := Lib.hid (show W9.rangeAt bD (oD + m * 2) (encD d) from fun j u hu => (B9.out.cell (p := ⟨bD, oD + m * 2 + j, none⟩) hbD).trans (hcD m d (by rw [List.getElem?_map, List.getElem?_eq_getElem hmt, ← hdx]; rfl) j u hu))
                  have HCv := Lib.hid (show W9.rangeAt bV (oV + m * 3) (encVl x) from fun j u hu => (B9.out.cell (p := ⟨bV, oV + m * 3 + j, none⟩) hbV).trans (hcV m x (by rw [List.getElem?_map, List.getElem?_eq_getElem hmt, ← hdx]; rfl) j u hu))
                  have HbV := Lib.hid (Nat.lt_of_lt_of_le hbV B9.out.size)
                  have HMT := Lib.hid hmt
                  have HL9 := Lib.hid (show (gD pre4 es m).length + (bytesN (d, x)).length ≤ 100000000000000 by have := gD_le pre4 es m hmt; rw [← hdx] at this; have := HL4.out; omega)
                  clear hcD hcV hbD hbV hdx
                  obtain ⟨Wd, hWd⟩ : ∃ W, W = W9.alloc (.cells #[.int .i64 d.r, .int .i64 d.c] 43) := ⟨_, rfl⟩
                  have hbd : Below W9.heap.size W9 Wd := by rw [hWd]; exact (Below.refl _ _).alloc (Nat.le_refl _) _
                  obtain ⟨yd, hyd⟩ : ∃ y, y = W9.heap.size := ⟨_, rfl⟩
                  have HBd := Lib.hid (show Blk Wd yd 43 #[.int .i64 d.r, .int .i64 d.c] by rw [hWd, hyd]; exact Blk.new _ _ _)
                  have Sd := Lib.hid (S9.out.below hbd)
                  have Bd := Lib.hid (B9.out.trans (hbd.mono B9.out.size))
                  have Kd := Lib.hid (K9.out.below hbd K9.out.lt)
                  have Hbd := Lib.hid hbd
                  have HWd := Lib.hid hWd
                  have HAt := Lib.hid (at_Dts bD oD cD es.length m hmt W9)
                  have HAl := Lib.hid (World.setRow_alloc_new W9 #[.int .i64 0, .int .i64 0] #[.int .i64 d.r, .int .i64 d.c] 43)
                  have HZz := Lib.hid (show Blk (W9.alloc (.cells #[.int .i64 0, .int .i64 0] 43)) W9.heap.size 43 #[.int .i64 0, .int .i64 0] from Blk.new _ _ _)
                  clear hWd hbd
                  go_upto_region 21 with (first
                    | (refine wpList_val (o := ⟨some 75, _, _, _, _, _⟩) rfl (.pointer (some ⟨bD, oD + m * 2, none⟩)) W9 (run_indexAddr_op rfl rfl rfl HAt.out) ?_)
                    | (refine wpList_load_midif rfl 43 (.tmp 75) rfl bD (oD + m * 2) rfl (encD d) _ HCd.out Tryz.underlying43 rfl sizeDt ?_)
                    | (refine wpList_store_row rfl 43 (.tmp 15) (.tmp 76) rfl W9.heap.size #[.int .i64 d.r, .int .i64 d.c] rfl rfl _ _ HZz.out sizeDt rfl (by kernel_rfl) ?_; rw [HAl.out, ← HWd.out])
                    | fail)
                  rw [← hyd]
                  simp only [Act.put]
                  go_cut [7] (fun u W => Sl bv W u ((gD pre4 es m ++ putB d.r) ++ putB d.c) ∧ Below Wd.heap.size Wd W)
                  case first =>
                    refine wp_region_any (by kernel_rfl) ?_
                    refine Lt.wpAny_late (fun i => pOf6 (([(some (.slice A9 (gD pre4 es m).length c9), none), (some (.pointer (some ⟨yd, 0, none⟩)), none), (some (.int .i64 d.r), none), (none, some (gD pre4 es m ++ putB d.r)), (some (.pointer (some ⟨yd, 1, none⟩)), none), (some (.int .i64 d.c), none), (none, some ((gD pre4 es m ++ putB d.r) ++ putB d.c)), (none, some ((gD pre4 es m ++ putB d.r) ++ putB d.c))] : List (Option Value × Option (List UInt8))).getD i (none, none))) _ Wd (by kernel_rfl) (by kernel_rfl) (by kernel_rfl) (fun i v w w' => pOf6_stable _ i v w w') ?_ ?_
                    · refine ⟨?_, ?_, ?_, ?_, ?_, ?_, ?_, ?_, trivial⟩
                      · intro a W hI hun haft hi
                        have e7 : a.eval (.tmp 7) = .slice A9 (gD pre4 es m).length c9 := hun 7 (by kernel_rfl)
                        exact b_same hi hI rfl _ (run_move_op rfl e7) rfl
                      · intro a W hI hun haft hi
                        have e15 : a.eval (.tmp 15) = .pointer (some ⟨yd, 0, none⟩) := hun 15 (by kernel_rfl)
                        exact b_same hi hI rfl _ (run_fieldAddr_any rfl e15 (at_dot0 _ _)) rfl
                      · intro a W hI hun haft hi
                        have f1 : a.eval (.tmp 78) = .pointer (some ⟨yd, 0, none⟩) := haft ⟨1, .data⟩ (by simp) rfl _ _ rfl rfl
                        exact b_same hi hI rfl _ (run_loadint_op rfl f1 Tryz.underlying3 ((Blk.cell (Blk.below HBd.out hI (Blk.lt HBd.out)) 0).trans rfl)) rfl
                      · intro a W hI hun haft hi
                        have f0 : a.eval (.tmp 77) = .slice A9 (gD pre4 es m).length c9 := haft ⟨0, .data⟩ (by simp) rfl _ _ rfl rfl
                        have f2 : a.eval (.tmp 79) = .int .i64 d.r := haft ⟨2, .data⟩ (by simp) rfl _ _ rfl rfl
                        refine b_call hi hI rfl _ _ (run_call_op (args := #[a.eval (.tmp 77), a.eval (.tmp 79)]) rfl (by simp) (by kernel_rfl)) ?_
                        rw [f0, f2]
                        exact (refput_any _ _ (d.r) W (Sl.below Sd.out hI) (by have := HL9.out; omega)).mono fun e' w' H => by
                          obtain ⟨v', he, ho, hb⟩ := H
                          exact ⟨v', he, ho, hb⟩
                      · intro a W hI hun haft hi
                        have e15 : a.eval (.tmp 15) = .pointer (some ⟨yd, 0, none⟩) := hun 15 (by kernel_rfl)
                        exact b_same hi hI rfl _ (run_fieldAddr_any rfl e15 (at_dot1 _ _)) rfl
                      · intro a W hI hun haft hi
                        have f4 : a.eval (.tmp 81) = .pointer (some ⟨yd, 1, none⟩) := haft ⟨4, .data⟩ (by simp) rfl _ _ rfl rfl
                        exact b_same hi hI rfl _ (run_loadint_op rfl f4 Tryz.underlying3 ((Blk.cell (Blk.below HBd.out hI (Blk.lt HBd.out)) 1).trans rfl)) rfl
                      · intro a W hI hun haft hi
                        have f3 : Sl bv W (a.eval (.tmp 80)) (gD pre4 es m ++ putB d.r) := haft ⟨3, .data⟩ (by simp) rfl _ _ rfl rfl
                        have f5 : a.eval (.tmp 82) = .int .i64 d.c := haft ⟨5, .data⟩ (by simp) rfl _ _ rfl rfl
                        refine b_call hi hI rfl _ _ (run_call_op (args := #[a.eval (.tmp 80), a.eval (.tmp 82)]) rfl (by simp) (by kernel_rfl)) ?_
                        rw [f5]
                        exact (refput_any _ _ (d.c) W f3 (by have := HL9.out; have := putB_len d.r; rw [List.length_append]; omega)).mono fun e' w' H => by
                          obtain ⟨v', he, ho, hb⟩ := H
                          exact ⟨v', he, ho, hb⟩
                      · intro a W hI hun haft hi
                        have f6 : Sl bv W (a.eval (.tmp 83)) ((gD pre4 es m ++ putB d.r) ++ putB d.c) := haft ⟨6, .data⟩ (by simp) rfl _ _ rfl rfl
                        exact b_same hi hI rfl _ (run_assign_op rfl rfl) f6
                    · intro vals W hI hp
                      have hl : Sl bv W (vals 7) ((gD pre4 es m ++ putB d.r) ++ putB d.c) := hp 7 (by decide)
                      have HL := Lib.hid hl
                      have HI' := Lib.hid hI
                      clear hp hl hI
                      simp only [layN, List.size_toArray, List.length_cons, List.length_nil, List.range, List.range.loop, if_true, List.getElem?_toArray, List.getElem?_cons_zero, List.getElem?_cons_succ, Act.put, List.setIfInBounds_toArray, List.set_cons_zero, List.set_cons_succ, Nat.zero_add, Nat.reduceAdd]
                      go_wp2_with fail
                      go_meet
                      exact ⟨HL.out, HI'.out⟩
                  case rest =>
                    obtain ⟨hs1, hb1⟩ := hcut
                    have Se := Lib.hid hs1
                    have Be := Lib.hid (Bd.out.trans (hb1.mono Bd.out.size))
                    have Ke := Lib.hid (Kd.out.below hb1 Kd.out.lt)
                    obtain ⟨l2, hl2⟩ : ∃ l, l = gD pre4 es m ++ putB d.r ++ putB d.c := ⟨_, rfl⟩
                    rw [← hl2] at hs1
                    have HDx := Lib.hid (show gD pre4 es (m + 1) = ((l2 ++ putB x.k) ++ sigB x.n) ++ txtB x.t by rw [HD.out, hl2]; simp only [bytesN, t4, t3, t2, t1, List.nil_append, List.append_assoc])
                    have HLv := Lib.hid (show l2.length + (putB x.k).length + (sigB x.n).length + x.t.size ≤ 100000000000000 by
                      have := HL9.out
                      have hx := txtB_size x.t
                      rw [hl2]
                      simp only [bytesN, t4, t3, t2, t1, List.nil_append, List.length_append] at this ⊢
                      omega)
                    clear hl2
                    generalize wc = We at *
                    obtain ⟨Ae, ce, rfl⟩ := hs1.form
                    obtain ⟨Wv, hWv⟩ : ∃ W, W = We.alloc (.cells #[.int .i64 x.k, .int .i64 x.n, .string x.t] 47) := ⟨_, rfl⟩
                    have hbv : Below We.heap.size We Wv := by rw [hWv]; exact (Below.refl _ _).alloc (Nat.le_refl _) _
                    obtain ⟨yv, hyv⟩ : ∃ y, y = We.heap.size := ⟨_, rfl⟩
                    have HBv := Lib.hid (show Blk Wv yv 47 #[.int .i64 x.k, .int .i64 x.n, .string x.t] by rw [hWv, hyv]; exact Blk.new _ _ _)
                    have Sv := Lib.hid (hs1.below hbv)
                    have Bv := Lib.hid (Be.out.trans (hbv.mono Be.out.size))
                    have Kv := Lib.hid (Ke.out.below hbv Ke.out.lt)
                    have HWv := Lib.hid hWv
                    have HCw := Lib.hid (show We.rangeAt bV (oV + m * 3) (encVl x) from fun j u hu => (hb1.cell (p := ⟨bV, oV + m * 3 + j, none⟩) (Nat.lt_of_lt_of_le HbV.out Hbd.out.size)).trans ((Hbd.out.cell (p := ⟨bV, oV + m * 3 + j, none⟩) HbV.out).trans (HCv.out j u hu)))
                    have HAw := Lib.hid (at_Vls bV oV cV es.length m HMT.out We)
                    have HAl2 := Lib.hid (World.setRow_alloc_new We #[.int .i64 0, .int .i64 0, .string ⟨#[]⟩] #[.int .i64 x.k, .int .i64 x.n, .string x.t] 47)
                    have HZv := Lib.hid (show Blk (We.alloc (.cells #[.int .i64 0, .int .i64 0, .string ⟨#[]⟩] 47)) We.heap.size 47 #[.int .i64 0, .int .i64 0, .string ⟨#[]⟩] from Blk.new _ _ _)
                    have k6 := Ke.out.cell 6
                    simp at k6
                    clear hs1 hb1 hWv hbv
                    go_upto_region 23 with (first
                      | (refine wpList_val (o := ⟨some 87, _, _, _, _, _⟩) rfl (.pointer (some ⟨bV, oV + m * 3, none⟩)) We (run_indexAddr_op rfl rfl rfl HAw.out) ?_)
                      | (refine wpList_load_midif rfl 47 (.tmp 87) rfl bV (oV + m * 3) rfl (encVl x) _ HCw.out Tryz.underlying47 rfl sizeVl ?_)
                      | (refine wpList_store_row rfl 47 (.tmp 16) (.tmp 88) rfl We.heap.size #[.int .i64 x.k, .int .i64 x.n, .string x.t] rfl rfl _ _ HZv.out sizeVl rfl (by kernel_rfl) ?_; rw [HAl2.out, ← HWv.out])
                      | fail)
                    clear k6
                    rw [← hyv]
                    simp only [Act.put]
                    refine wp_region_any (by kernel_rfl) ?_
                    refine Lt.wpAny_late (fun i => pOf6 (([(some (.slice Ae l2.length ce), none), (some (.pointer (some ⟨yv, 0, none⟩)), none), (some (.int .i64 x.k), none), (none, some (l2 ++ putB x.k)), (some (.pointer (some ⟨yv, 1, none⟩)), none), (some (.int .i64 x.n), none), (none, some ((l2 ++ putB x.k) ++ sigB x.n)), (some (.pointer (some ⟨yv, 2, none⟩)), none), (some (.string x.t), none), (none, some (((l2 ++ putB x.k) ++ sigB x.n) ++ txtB x.t)), (none, some (((l2 ++ putB x.k) ++ sigB x.n) ++ txtB x.t))] : List (Option Value × Option (List UInt8))).getD i (none, none))) _ Wv (by kernel_rfl) (by kernel_rfl) (by kernel_rfl) (fun i v w w' => pOf6_stable _ i v w w') ?_ ?_
                    · refine ⟨?_, ?_, ?_, ?_, ?_, ?_, ?_, ?_, ?_, ?_, ?_, trivial⟩
                      · intro a W hI hun haft hi
                        have e7 : a.eval (.tmp 7) = .slice Ae l2.length ce := hun 7 (by kernel_rfl)
                        exact b_same hi hI rfl _ (run_move_op rfl e7) rfl
                      · intro a W hI hun haft hi
                        have e16 : a.eval (.tmp 16) = .pointer (some ⟨yv, 0, none⟩) := hun 16 (by kernel_rfl)
                        exact b_same hi hI rfl _ (run_fieldAddr_any rfl e16 (at_v0 _ _)) rfl
                      · intro a W hI hun haft hi
                        have f1 : a.eval (.tmp 90) = .pointer (some ⟨yv, 0, none⟩) := haft ⟨1, .data⟩ (by simp) rfl _ _ rfl rfl
                        exact b_same hi hI rfl _ (run_loadint_op rfl f1 Tryz.underlying3 ((Blk.cell (Blk.below HBv.out hI (Blk.lt HBv.out)) 0).trans rfl)) rfl
                      · intro a W hI hun haft hi
                        have f0 : a.eval (.tmp 89) = .slice Ae l2.length ce := haft ⟨0, .data⟩ (by simp) rfl _ _ rfl rfl
                        have f2 : a.eval (.tmp 91) = .int .i64 x.k := haft ⟨2, .data⟩ (by simp) rfl _ _ rfl rfl
                        refine b_call hi hI rfl _ _ (run_call_op (args := #[a.eval (.tmp 89), a.eval (.tmp 91)]) rfl (by simp) (by kernel_rfl)) ?_
                        rw [f0, f2]
                        exact (refput_any _ _ (x.k) W (Sl.below Sv.out hI) (by have := HLv.out; omega)).mono fun e' w' H => by
                          obtain ⟨v', he, ho, hb⟩ := H
                          exact ⟨v', he, ho, hb⟩
                      · intro a W hI hun haft hi
                        have e16 : a.eval (.tmp 16) = .pointer (some ⟨yv, 0, none⟩) := hun 16 (by kernel_rfl)
                        exact b_same hi hI rfl _ (run_fieldAddr_any rfl e16 (at_v1 _ _)) rfl
                      · intro a W hI hun haft hi
                        have f4 : a.eval (.tmp 93) = .pointer (some ⟨yv, 1, none⟩) := haft ⟨4, .data⟩ (by simp) rfl _ _ rfl rfl
                        exact b_same hi hI rfl _ (run_loadint_op rfl f4 Tryz.underlying3 ((Blk.cell (Blk.below HBv.out hI (Blk.lt HBv.out)) 1).trans rfl)) rfl
                      · intro a W hI hun haft hi
                        have f3 : Sl bv W (a.eval (.tmp 92)) (l2 ++ putB x.k) := haft ⟨3, .data⟩ (by simp) rfl _ _ rfl rfl
                        have f5 : a.eval (.tmp 94) = .int .i64 x.n := haft ⟨5, .data⟩ (by simp) rfl _ _ rfl rfl
                        refine b_call hi hI rfl _ _ (run_call_op (args := #[a.eval (.tmp 92), a.eval (.tmp 94)]) rfl (by simp) (by kernel_rfl)) ?_
                        rw [f5]
                        exact (refsig_any _ _ (x.n) W f3 (by have := HLv.out; rw [List.length_append]; omega)).mono fun e' w' H => by
                          obtain ⟨v', he, ho, hb⟩ := H
                          exact ⟨v', he, ho, hb⟩
                      · intro a W hI hun haft hi
                        have e16 : a.eval (.tmp 16) = .pointer (some ⟨yv, 0, none⟩) := hun 16 (by kernel_rfl)
                        exact b_same hi hI rfl _ (run_fieldAddr_any rfl e16 (at_v2 _ _)) rfl
                      · intro a W hI hun haft hi
                        have f7 : a.eval (.tmp 96) = .pointer (some ⟨yv, 2, none⟩) := haft ⟨7, .data⟩ (by simp) rfl _ _ rfl rfl
                        exact b_same hi hI rfl _ (run_load1_op rfl f7 Tryz.underlying9 rfl ((Blk.cell (Blk.below HBv.out hI (Blk.lt HBv.out)) 2).trans rfl)) rfl
                      · intro a W hI hun haft hi
                        have f6 : Sl bv W (a.eval (.tmp 95)) ((l2 ++ putB x.k) ++ sigB x.n) := haft ⟨6, .data⟩ (by simp) rfl _ _ rfl rfl
                        have f8 : a.eval (.tmp 97) = .string x.t := haft ⟨8, .data⟩ (by simp) rfl _ _ rfl rfl
                        refine b_call hi hI rfl _ _ (run_call_op (args := #[a.eval (.tmp 95), a.eval (.tmp 97)]) rfl (by simp) (by kernel_rfl)) ?_
                        rw [f8]
                        exact (reftext_any _ _ (x.t) W f6 (by have := HLv.out; rw [List.length_append, List.length_append]; omega)).mono fun e' w' H => by
                          obtain ⟨v', he, ho, hb⟩ := H
                          exact ⟨v', he, ho, hb⟩
                      · intro a W hI hun haft hi
                        have f9 : Sl bv W (a.eval (.tmp 98)) (((l2 ++ putB x.k) ++ sigB x.n) ++ txtB x.t) := haft ⟨9, .data⟩ (by simp) rfl _ _ rfl rfl
                        exact b_same hi hI rfl _ (run_assign_op rfl rfl) f9
                    · intro vals W hI hp
                      have hl : Sl bv W (vals 10) (((l2 ++ putB x.k) ++ sigB x.n) ++ txtB x.t) := hp 10 (by decide)
                      have HL := Lib.hid hl
                      have HI' := Lib.hid hI
                      clear hp hl hI
                      simp only [layN, List.size_toArray, List.length_cons, List.length_nil, List.range, List.range.loop, if_true, List.getElem?_toArray, List.getElem?_cons_zero, List.getElem?_cons_succ, Act.put, List.setIfInBounds_toArray, List.set_cons_zero, List.set_cons_succ, Nat.zero_add, Nat.reduceAdd]
                      have hs2 := HL.out
                      rw [← HDx.out] at hs2
                      have Sf := Lib.hid hs2
                      have Bf := Lib.hid (Bv.out.trans (HI'.out.mono Bv.out.size))
                      have Kf := Lib.hid (Kv.out.below HI'.out Kv.out.lt)
                      clear hs2 HL HI'
                      have hes : m ≤ 10000 := by have := HMT.out; have := HES.out; omega
                      go_wp2
                      go_roundw
                      case rel => exact ⟨m + 1, HMT.out, by go_num, Sf.out, Kf.out, Bf.out⟩
                      case measure => simp [intOf]; omega
                · have hmn : m = es.length := by omega
                  subst hmn
                  clear hmt hm
                  have s9 := S9.out
                  rw [gD_all, ← HS4.out, ← HS.out] at s9
                  have T9 := Lib.hid s9
                  rw [gD_all, ← HS4.out, ← HS.out]
                  clear s9 S9
                  have hkI : k < I.length := HLT.out
                  have hk9 : k ≤ 10000 := by have := HNn.out; omega
                  go_wp2
                  go_roundw
                  case rel => exact ⟨k + 1, HLT.out, by go_num, T9.out, B9.out⟩
                  case measure => simp [intOf]; omega
        · have hkn : k = I.length := by omega
          subst hkn
          clear hlt hk
          go_wp2_with fail
          refine (refput_any _ _ (E.length : Int) _ S4.out (by have := L2.out I.length; omega)).mono ?_
          rintro e' W5 ⟨v5, rfl, ho5, hb5⟩
          have O5 : Hid (Sl bv W5 v5 (P4 f I E 0)) := Lib.hid (by unfold P4 P3; simpa using ho5)
          have Y5 := Lib.hid (B4.out.trans (hb5.mono B4.out.size))
          clear ho5 hb5
          go_wp2_with fail
          go_loopw [7, 107] (fun u i W => ∃ k : Nat, k ≤ E.length ∧ i = .int .i64 k ∧ Sl bv W u (P4 f I E k) ∧ Below X.heap.size X W) (fun _ i _ => E.length - (intOf i).toNat)
          case atStart => exact ⟨0, Nat.zero_le _, rfl, O5.out, Y5.out⟩
          case round =>
            obtain ⟨k, hk, rfl, hs, hb⟩ := hrel
            generalize wr = W6 at *
            have S6 := Lib.hid hs
            have B6 := Lib.hid hb
            obtain ⟨A6, c6, rfl⟩ := hs.form
            clear hs hb
            by_cases hlt : k < E.length
            · obtain ⟨e, he⟩ : ∃ e, e = E[k]'hlt := ⟨_, rfl⟩
              have hek : E[k]? = some e := by rw [he]; exact List.getElem?_eq_getElem hlt
              obtain ⟨A7, c7, h7, _, hx7⟩ := HE.out
              injection h7 with f1 f2 f3
              obtain ⟨b7, o7, hA7, hb7, hc7⟩ := hx7 (fun e => by rw [e] at hlt; cases hlt)
              rw [← f1] at hA7
              subst hA7
              have HCe := Lib.hid (show W6.rangeAt b7 (o7 + k * 27) (encE e) from fun j u hu => (B6.out.cell (p := ⟨b7, o7 + k * 27 + j, none⟩) hb7).trans (hc7 k e hek j u hu))
              have HS := Lib.hid (P4_succ f I E k hlt)
              rw [← he] at HS
              have HLe := Lib.hid (LE.out e (by rw [he]; exact List.getElem_mem hlt))
              have HLT := Lib.hid hlt
              obtain ⟨W7, hW7⟩ : ∃ W7, W7 = W6.alloc (.cells (evC e) 49) := ⟨_, rfl⟩
              have hb67 : Below W6.heap.size W6 W7 := by rw [hW7]; exact (Below.refl _ _).alloc (Nat.le_refl _) _
              have HEB := Lib.hid (show Blk W7 W6.heap.size 49 (evC e) by rw [hW7]; exact Blk.new _ _ _)
              have S7 := Lib.hid (S6.out.below hb67)
              have B7 := Lib.hid (B6.out.trans (hb67.mono B6.out.size))
              have HW7 := Lib.hid hW7
              have HAt := Lib.hid (at_Ev b7 o7 cE E.length k hlt W6)
              have HZe := Lib.hid (zero_of_info zeroE).1
              have HAl := Lib.hid (World.setRow_alloc_new W6 (evC ev0) (evC e) 49)
              have HZz := Lib.hid (show Blk (W6.alloc (.cells (evC ev0) 49)) W6.heap.size 49 (evC ev0) from Blk.new _ _ _)
              have hz := HZe.out
              clear he hek hx7 f1 f2 f3 hc7 hW7 hb67
              go_wp2_with (first
                | (refine wpList_val (o := ⟨some 109, _, _, _, _, _⟩) rfl (.pointer (some ⟨b7, o7 + k * 27, none⟩)) W6 (run_indexAddr_op rfl rfl rfl HAt.out) ?_)
                | (refine wpList_load_midif rfl 49 (.tmp 109) rfl b7 (o7 + k * 27) rfl (encE e) _ HCe.out Tryz.underlying49 rfl (sizeE e) ?_)
                | (refine wpList_store_row rfl 49 (.tmp 18) (.tmp 110) rfl W6.heap.size (evC e) rfl rfl _ _ HZz.out (sizeE e) rfl (by kernel_rfl) ?_; rw [HAl.out, ← HW7.out])
                | (refine wpList_load_if rfl 49 (.tmp 18) rfl W6.heap.size rfl _ _ _ _ HEB.out Tryz.underlying49 rfl (sizeE e) ?_)
                | fail)
              clear hz
              refine (refputP_any _ _ _ _ e _ S7.out (by have := L4.out k; omega) HLe.out).mono ?_
              rintro e' W8 ⟨v8, rfl, ho8, hb8⟩
              rw [gE_eq, ← HS.out] at ho8
              have O8 := Lib.hid ho8
              have Y8 := Lib.hid (B7.out.trans (hb8.mono B7.out.size))
              clear ho8 hb8
              have hk9 : k ≤ 10000 := by have := HNn.out; omega
              go_wp2
              go_roundw
              case rel => exact ⟨k + 1, HLT.out, by go_num, O8.out, Y8.out⟩
              case measure => simp [intOf]; omega
            · have hkn : k = E.length := by omega
              subst hkn
              have s6 : Sl bv W6 (.slice A6 (P4 f I E E.length).length c6) (bytesS f I E) := by rw [← P4_all f I E]; exact S6.out
              have S7 := Lib.hid s6
              clear s6
              go_wp2
              go_ret
              exact ⟨_, rfl, S7.out, HbX.out.trans (B6.out.mono HbX.out.size)⟩

end Go.Proofs.YtejljikikhecnaaGreat.Ot
