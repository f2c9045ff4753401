/-
  frame.Whole and the law's same: the contracts, by walks. Conditions: a bound on the length.
-/
import Derived.Test.YtoihfcojnbegcaaFrAllW
namespace Go.Proofs.Ytoihfcojnbegcaa
open Go.RowKit

/-- What Whole tells. -/
def wholeF (b : List UInt8) : List UInt8 × Nat := if (takeF b).2.2 ≠ 0 then ([], (takeF b).2.2) else if (takeF b).2.1 < b.length then ([], 2) else ((takeF b).1, 0)
def WholeIs (w : World) (t : List UInt8 × Nat) (e : Ending) (w' : World) : Prop := ∃ v, e = .returned (.tuple #[v, .int .i64 t.2]) ∧ Sl bv w' v t.1 ∧ Below w.heap.size w w'

set_option maxHeartbeats 4000000 in
theorem whole_any (v : Value) (b : List UInt8) (w : World) (h : Sl bv w v b) (hlen : b.length ≤ 1000000) : Calls Try.prog 23 #[v] w (WholeIs w (wholeF b)) := by
  have HS := Lib.hid h
  obtain ⟨A, c, rfl⟩ := h.form
  clear h
  go_enter Try.func23, Try.ntmps23
  go_wp2_with fail
  refine (ftake_any _ b w HS.out (by omega)).mono ?_
  rintro e w2 ⟨v2, rfl, ho2, hb2⟩
  have HO2 := Lib.hid (Sl.of_own ho2)
  obtain ⟨A2, c2, rfl⟩ := (Sl.of_own ho2).form
  clear ho2
  by_cases he : (takeF b).2.2 = 0
  · have hs := takeF_size b he
    by_cases hlt : (takeF b).2.1 < b.length
    · have hw : wholeF b = ([], 2) := by unfold wholeF; rw [if_neg (by simp [he]), if_pos hlt]
      rw [he]
      have HW := Lib.hid hw
      clear hw he
      generalize (takeF b).2.1 = m at *
      go_wp2
      go_ret2
      rw [HW.out]
      exact ⟨_, rfl, Sl.nil_ _ _, hb2⟩
    · have hw : wholeF b = ((takeF b).1, 0) := by unfold wholeF; rw [if_neg (by simp [he]), if_neg hlt]
      rw [he]
      have HW := Lib.hid hw
      clear hw he
      generalize (takeF b).2.1 = m at *
      go_wp2
      go_ret2
      rw [HW.out]
      exact ⟨_, rfl, HO2.out, hb2⟩
  · have hw : wholeF b = ([], (takeF b).2.2) := by unfold wholeF; rw [if_pos he]
    have he2 : (((takeF b).2.2 : Int) == 0) = false := by rw [beq_eq_false_iff_ne]; omega
    have he3 : (((takeF b).2.2 : Int) != 0) = true := by rw [bne, he2]; rfl
    have HW := Lib.hid hw
    clear hw he
    generalize (takeF b).2.2 = m at *
    go_wp2
    go_ret2
    rw [HW.out]
    exact ⟨_, rfl, Sl.nil_ _ _, hb2⟩

/-- Two rows are the same. -/
def sameB (a b : List (List UInt8)) : Bool := a == b
theorem sameB_true (a b : List (List UInt8)) : sameB a b = true ↔ a = b := by simp [sameB]
theorem sameB_false (a b : List (List UInt8)) : sameB a b = false ↔ a ≠ b := by simp [sameB]

theorem RowsAt.at_ {w : World} {v : Value} {ls : List (List UInt8)} (h : RowsAt w v ls) : ∃ A c, v = .slice A ls.length c ∧ ls.length ≤ c ∧ ∀ k (hk : k < ls.length), ∃ b o, A = some ⟨b, o, none⟩ ∧ b < w.heap.size ∧ ∃ A2 n2 c2, w.cell? ⟨b, o + k, none⟩ = some (.slice A2 n2 c2) ∧ Sl bv w (.slice A2 n2 c2) ls[k] := by
  obtain ⟨rs, h1, h2, h3⟩ := h
  have hl : rs.length = ls.length := by rw [← h3, List.length_map]
  obtain ⟨A, c, rfl, hlc, hx⟩ := h1.at_
  refine ⟨A, c, by rw [hl], by omega, fun k hk => ?_⟩
  obtain ⟨b, o, hA, hb, hcell⟩ := hx k (by omega)
  have hk' : k < rs.length := by omega
  refine ⟨b, o, hA, hb, _, _, _, hcell k rs[k] (List.getElem?_eq_getElem hk'), ?_⟩
  have := h2 rs[k] (List.getElem_mem hk')
  have e : ls[k] = rs[k].2 := by subst h3; simp
  rw [e]
  exact this

set_option maxHeartbeats 4000000 in
theorem same_any (v1 v2 : Value) (a b : List (List UInt8)) (w : World) (h1 : RowsAt w v1 a) (h2 : RowsAt w v2 b) (hla : a.length ≤ 1000000) (hlb : b.length ≤ 1000000) : Calls Try.prog 24 #[v1, v2] w fun e w' => e = .returned (.bool (sameB a b)) ∧ Below w.heap.size w w' := by
  obtain ⟨A1, c1, rfl, hc1, hx1⟩ := h1.at_
  obtain ⟨A2, c2, rfl, hc2, hx2⟩ := h2.at_
  have HX1 := Lib.hid hx1
  have HX2 := Lib.hid hx2
  clear h1 h2 hx1 hx2
  by_cases hl : a.length = b.length
  · have hl1 : ((a.length : Int) == (b.length : Int)) = true := by rw [beq_iff_eq]; omega
    have hl2 : ((a.length : Int) != (b.length : Int)) = false := by rw [bne, hl1]; rfl
    have HL := Lib.hid hl
    clear hl
    go_enter Try.func24, Try.ntmps24
    go_wp2
    clear hl1 hl2
    go_loopw [13] (fun i wr => ∃ k : Nat, k ≤ a.length ∧ i = .int .i64 k ∧ Below w.heap.size w wr ∧ a.take k = b.take k) (fun i _ => a.length - (intOf i).toNat)
    case atStart => exact ⟨0, by omega, rfl, Below.refl _ _, by simp⟩
    case round =>
      obtain ⟨k, hk, rfl, hb, hkk⟩ := hrel
      have HK := Lib.hid hkk
      have HB := Lib.hid hb
      clear hkk hb
      by_cases hlt : k < a.length
      · have hltb : k < b.length := by have := HL.out; omega
        obtain ⟨b1, o1, rfl, hb1, B1, n1, d1, hcell1, hs1⟩ := HX1.out k hlt
        obtain ⟨b2, o2, rfl, hb2, B2, n2, d2, hcell2, hs2⟩ := HX2.out k hltb
        have hk1 := (HB.out.cell (p := ⟨b1, o1 + k, none⟩) hb1).trans hcell1
        have hk2 := (HB.out.cell (p := ⟨b2, o2 + k, none⟩) hb2).trans hcell2
        have r1 := fun m => run_string_sl (P := Try.prog) (wr.drewN m) 22 9 5 Try.underlying22 Try.underlying5 Try.underlying9 _ _ ((hs1.below HB.out).drewN m)
        have r2 := fun m => run_string_sl (P := Try.prog) (wr.drewN m) 22 9 5 Try.underlying22 Try.underlying5 Try.underlying9 _ _ ((hs2.below HB.out).drewN m)
        clear hs1 hs2 hcell1 hcell2
        cases hq : (a[k] == b[k])
        · have hne : sameB a b = false := by
            rw [sameB_false]
            rintro rfl
            simp at hq
          have HNE := Lib.hid hne
          clear hne
          have hq2 : (a[k] != b[k]) = true := by rw [bne, hq]; rfl
          go_wp2_with fail
          go_quiet (fail)
          go_wp2
          go_ret
          exact ⟨by rw [HNE.out]; rfl, HB.out.trans (below_drewN wr _ |>.mono HB.out.size)⟩
        · have hq2 : (a[k] != b[k]) = false := by rw [bne, hq]; rfl
          have heq : a[k] = b[k] := by simpa using hq
          have htk : a.take (k + 1) = b.take (k + 1) := by rw [List.take_succ_eq_append_getElem hlt, List.take_succ_eq_append_getElem hltb, HK.out, heq]
          have HTK := Lib.hid htk
          clear htk heq
          go_wp2_with fail
          go_quiet (fail)
          go_wp2
          go_roundw
          case rel => exact ⟨k + 1, by omega, by go_num, HB.out.trans (below_drewN wr _ |>.mono HB.out.size), HTK.out⟩
          case measure => simp [intOf]; omega
      · have hkk : k = a.length := by omega
        subst hkk
        have heq : sameB a b = true := by
          rw [sameB_true]
          have := HK.out
          rwa [List.take_length, HL.out, List.take_length] at this
        have HE := Lib.hid heq
        clear heq
        go_wp2
        go_ret
        exact ⟨by rw [HE.out]; rfl, HB.out⟩
  · have hne : sameB a b = false := by rw [sameB_false]; rintro rfl; exact hl rfl
    have hl1 : ((a.length : Int) == (b.length : Int)) = false := by rw [beq_eq_false_iff_ne]; omega
    have hl2 : ((a.length : Int) != (b.length : Int)) = true := by rw [bne, hl1]; rfl
    have HNE := Lib.hid hne
    clear hne hl
    go_enter Try.func24, Try.ntmps24
    go_wp2
    go_ret
    exact ⟨by rw [HNE.out]; rfl, Below.refl _ _⟩

end Go.Proofs.Ytoihfcojnbegcaa
