/-
  hedgerowlaw03.CrcParts: the walk: for all bytes the call returns true, and nothing that was there has turned. Conditions: none.
-/
import Derived.Test.YtoihfcojnbegcaaCrcFixed
import Derived.Lib.AppendZeros
namespace Go.Proofs.Ytoihfcojnbegcaa
open Go.RowKit

theorem infoB : (Try.prog.info? 5).map (fun i => (i.zero, i.size, i.bytes)) = some (some (.int .u8 0), 1, 1) := by kernel_rfl

theorem SumOf.below {w w' : World} {g B : Nat} {l : List UInt8} (h : SumOf w g l) (hb : Below B w w') (hg : g < B) : SumOf w' g l := by
  obtain ⟨m, tb, h1, h2⟩ := h
  exact ⟨m, tb, h1, h2.below hb hg⟩
theorem SumOf.but {w w' : World} {g k : Nat} {l : List UInt8} (h : SumOf w g l) (hb : But k w w') (hg : g ≠ k) : SumOf w' g l := by
  obtain ⟨m, tb, h1, h2⟩ := h
  exact ⟨m, tb, h1, h2.but hb hg⟩
theorem SumOf.lt {w : World} {g : Nat} {l : List UInt8} (h : SumOf w g l) : g < w.heap.size := by
  obtain ⟨m, tb, h1, h2⟩ := h
  exact h2.1

/-- append onto an empty row just laid, whatever the source. -/
theorem append_fresh (w : World) (v : Value) (l : List UInt8) (hs : Sl bv w v l) (hlen : l.length ≤ 140737488355328) :
    ∃ v' w', (Builtin.append_ #[22, 22] 22 #[.slice (some ⟨w.heap.size, 0, none⟩) 0 0, v]).run Try.prog (w.alloc (.cells #[] 5)) = .ok v' w' ∧ w'.ownsRow w.heap.size 5 1 v' l.length (bs l) ∧ Below w.heap.size w w' := by
  obtain ⟨i0, hi, hz0, hz1, hz2⟩ := info_parts infoB
  have hw1 : (w.alloc (.cells #[] 5)).ownsRow w.heap.size 5 1 (.slice (some ⟨w.heap.size, 0, none⟩) 0 0) 0 [] := World.ownsRow_made w #[] 0 (Nat.le_refl _) (by unfold maxLen; omega) rfl
  have hs1 := hs.alloc (.cells #[] 5)
  obtain ⟨v', w2, hr, ho2, hg2⟩ := run_append_sl (P := Try.prog) (w.alloc (.cells #[] 5)) w.heap.size 22 22 5 i0 (.int .u8 0) 1 Try.underlying22 hi hz0 hz1 hz2 rfl _ _ _ hw1 _ _ hs1 (fun _ => rfl) (by omega) (by omega) (by simp)
  have hb2 : Below w.heap.size w w2 := ((Below.refl _ _).alloc (Nat.le_refl _) _).grown hg2 (by simp) (fun k hk => (hw1.lt k hk).1)
  simp only [Nat.zero_add, List.nil_append] at ho2
  exact ⟨v', w2, hr, ho2, hb2⟩
/-- append onto a row of the call's own. -/
theorem append_more (w0 w : World) (v0 : Value) (l0 : List UInt8) (ho : w.ownsRow w0.heap.size 5 1 v0 l0.length (bs l0)) (hb : Below w0.heap.size w0 w) (v : Value) (l : List UInt8) (hs : Sl bv w v l) (hlen : l0.length + l.length ≤ 140737488355328) :
    ∃ v' w', (Builtin.append_ #[22, 22] 22 #[v0, v]).run Try.prog w = .ok v' w' ∧ w'.ownsRow w0.heap.size 5 1 v' (l0 ++ l).length (bs (l0 ++ l)) ∧ Below w0.heap.size w0 w' := by
  obtain ⟨i0, hi, hz0, hz1, hz2⟩ := info_parts infoB
  obtain ⟨v', w2, hr, ho2, hg2⟩ := run_append_sl (P := Try.prog) w w0.heap.size 22 22 5 i0 (.int .u8 0) 1 Try.underlying22 hi hz0 hz1 hz2 rfl _ _ _ ho _ _ hs (fun _ => rfl) (by omega) (by omega) hb.size
  exact ⟨v', w2, hr, by rw [List.length_append, bs_append]; exact ho2, hb.grown hg2 hb.size (fun k hk => (ho.lt k hk).1)⟩

/-- One element of a slice, as a slice. -/
theorem Sl.one {α : Type} {f : α → Value} {w : World} {b o n c : Nat} {l : List α} (h : Sl f w (.slice (some ⟨b, o, none⟩) n c) l) (k : Nat) (hk : k < l.length) (c2 : Nat) (hc2 : 1 ≤ c2) : Sl f w (.slice (some ⟨b, o + k, none⟩) 1 c2) [l[k]] := by
  obtain ⟨A, c', hv, hlc, hx⟩ := h
  injection hv with h1 h2 h3
  obtain ⟨b', o', hA, hb, hcell⟩ := hx (by rintro rfl; simp at hk)
  rw [← h1] at hA
  injection hA with hA
  injection hA with hA1 hA2
  subst hA1 hA2
  refine ⟨_, _, rfl, by simpa using hc2, fun _ => ⟨b, o + k, rfl, hb, fun j u hu => ?_⟩⟩
  have hj : j = 0 := by have := (List.getElem?_eq_some_iff.1 hu).1; simp at this; exact this
  subst hj
  simp at hu
  subst hu
  exact hcell k l[k] (List.getElem?_eq_getElem hk)

set_option maxRecDepth 100000 in
set_option maxHeartbeats 2000000 in
theorem parts_walk (va vb : Value) (a b : List UInt8) (w : World) (ha : Sl bv w va a) (hb : Sl bv w vb b) (hla : a.length ≤ 140737488355328) (hlb : b.length ≤ 140737488355328) :
    Calls Try.prog 5 #[va, vb] w (Law w) := by
  have hfx := cfixed_any w
  have HFX := Lib.hid hfx; clear hfx
  have HA := Lib.hid ha
  have HB := Lib.hid hb
  obtain ⟨A1, c1, rfl⟩ := ha.form
  obtain ⟨A2, c2, rfl⟩ := hb.form
  clear ha hb
  by_cases h1 : 500 < a.length + b.length
  · go_enter Try.func5, Try.ntmps5
    go_wp2_with fail
    refine HFX.out.mono ?_
    rintro e w1 ⟨rfl, hb1⟩
    go_wp2
    go_ret
    exact ⟨rfl, hb1⟩
  · go_enter Try.func5, Try.ntmps5
    go_wp2_with fail
    refine HFX.out.mono ?_
    rintro e w1 ⟨rfl, hb1⟩
    obtain ⟨v2, w2, hr2, ho2, hb2⟩ := append_fresh w1 _ a (HA.out.below hb1) (by omega)
    obtain ⟨v3, w3, hr3, ho3, hb3⟩ := append_more w1 w2 v2 a ho2 hb2 _ b ((HB.out.below hb1).below hb2) (by omega)
    obtain ⟨l, hL⟩ : ∃ l, l = a ++ b := ⟨_, rfl⟩
    rw [← hL] at ho3
    have hll : l.length = a.length + b.length := by rw [hL, List.length_append]
    have hl5 : l.length ≤ 500 := by omega
    have hs3 := Sl.of_own ho3
    have hb13 := hb1.trans (hb3.mono hb1.size)
    have HS3 := Lib.hid hs3
    have HA3 := Lib.hid (HA.out.below hb13)
    have HB3 := Lib.hid (HB.out.below hb13)
    have HR2 := Lib.hid hr2
    have HR3 := Lib.hid hr3
    have HW := Lib.hid hb13
    have hsz3 := hb13.size
    have HLL := Lib.hid hL
    clear ho2 ho3 hb2 hb3 hb1 hs3 hr2 hr3 hb13 hL hll
    obtain ⟨A3, c3, rfl, hlc3, hcell3⟩ := HS3.out.at_
    have HC3 := Lib.hid hcell3
    clear hcell3
    go_wp2_with (first
      | (at_builtin; refine Lib.wpList_append_run _ rfl _ _ _ _ rfl _ _ rfl rfl _ _ HR2.out ?_)
      | (at_builtin; refine Lib.wpList_append_run _ rfl _ _ _ _ rfl _ _ rfl rfl _ _ HR3.out ?_)
      | fail)
    refine (new_any w3).mono ?_
    rintro e w4 ⟨rfl, hn4, hb4⟩
    have hB4 := hb4.size
    have hg1 := hn4.lt
    go_wp2_with fail
    refine (add_any w3 w4 w3.heap.size [] a _ (Nat.le_refl _) hb4 HA3.out hn4 (by omega)).mono ?_
    rintro e w5 ⟨rfl, hn5, hb5⟩
    rw [List.nil_append] at hn5
    have hb35 := hb4.trans (hb5.below (Nat.le_refl _) hB4)
    clear hb4 hb5 hn4
    go_wp2_with fail
    refine (add_any w3 w5 w3.heap.size a b _ (Nat.le_refl _) hb35 HB3.out hn5 (by omega)).mono ?_
    rintro e w6 ⟨rfl, hn6, hb6⟩
    rw [← HLL.out] at hn6
    have hb36 := hb35.trans (hb6.below (Nat.le_refl _) hb35.size)
    have hg6 := hn6.lt
    clear hb35 hb6 hn5
    go_wp2_with fail
    refine (new_any w6).mono ?_
    rintro e w7 ⟨rfl, hn7, hb7⟩
    have hb37 := hb36.trans (hb7.mono hb36.size)
    have hn1 := hn6.below hb7 hg6
    have hle := hb36.size
    have hlt7 := hn7.lt
    clear hn6 hb7 hb36
    have HN1 := Lib.hid hn1
    have HN7 := Lib.hid hn7
    have HB7 := Lib.hid hb37
    clear hn1 hn7 hb37
    have hne : w3.heap.size ≠ w6.heap.size := by omega
    generalize hq : w6.heap.size = q at *
    generalize hg : w3.heap.size = g at *
    have HG := Lib.hid hg
    clear hg hq hB4 hg1 hsz3
    go_wp2
    go_loopw [30] (fun i wr => ∃ k : Nat, k ≤ l.length ∧ i = .int .i64 k ∧ SumOf wr g l ∧ SumOf wr q (l.take k) ∧ Below g w3 wr) (fun i _ => l.length - (intOf i).toNat)
    case atStart => exact ⟨0, by omega, rfl, HN1.out, by simpa using HN7.out, HB7.out⟩
    case round =>
      clear HN1 HN7 HB7
      obtain ⟨k, hk, rfl, hn1, hn2, hbr⟩ := hrel
      have HN1 := Lib.hid hn1
      have HN2 := Lib.hid hn2
      have HBR := Lib.hid hbr
      clear hn1 hn2 hbr
      by_cases hlt : k < l.length
      · obtain ⟨b0, o0, rfl, hbw, hc⟩ := HC3.out k hlt
        clear hc
        have hone := HS3.out.one k hlt (c3 - k) (by omega)
        have HO := Lib.hid hone
        clear hone
        go_wp2_with fail
        have hgq : w3.heap.size ≤ q := by have := HG.out; omega
        have hbr : Below w3.heap.size w3 wr := by rw [HG.out]; exact HBR.out
        refine (add_any w3 wr q (l.take k) [l[k]] _ hgq hbr HO.out HN2.out (by simp)).mono ?_
        rintro e w8 ⟨rfl, hn8, hb8⟩
        have htk : l.take k ++ [l[k]] = l.take (k + 1) := (List.take_succ_eq_append_getElem hlt).symm
        rw [htk] at hn8
        have H1 := Lib.hid (HN1.out.but hb8 hne)
        have H2 := Lib.hid hn8
        have H3 := Lib.hid (HBR.out.trans (HG.out ▸ hb8.below hgq hbr.size))
        clear htk hn8 hb8 hbr hgq
        go_wp2
        go_roundw
        case rel => exact ⟨k + 1, by omega, by go_num, H1.out, H2.out, H3.out⟩
        case measure => simp [intOf]; omega
      · have hkk : k = l.length := by omega
        subst hkk
        have hn2 := HN2.out
        rw [List.take_length] at hn2
        have HN3 := Lib.hid hn2
        clear HN2 hn2
        go_wp2_with fail
        refine (value_any _ _ _ HN1.out).mono ?_
        rintro e w' ⟨he, rfl⟩
        unfold uv at he
        subst he
        go_wp2_with fail
        refine (value_any _ _ _ HN3.out).mono ?_
        rintro e w' ⟨he, rfl⟩
        unfold uv at he
        subst he
        go_wp2_with fail
        have hbr : Below w3.heap.size w3 wr := by rw [HG.out]; exact HBR.out
        have hbr2 := HW.out.trans (hbr.mono HW.out.size)
        refine (of_any _ l _ (HS3.out.below hbr) (by omega)).mono ?_
        rintro e w8 ⟨he, hb8⟩
        unfold uv at he
        subst he
        have H1 := Lib.hid (HN1.out.below hb8 HN1.out.lt)
        have H2 := Lib.hid (hbr2.trans (hb8.mono hbr2.size))
        clear hb8 hbr hbr2
        go_wp2_with fail
        refine (value_any _ _ _ H1.out).mono ?_
        rintro e w' ⟨he, rfl⟩
        unfold uv at he
        subst he
        go_wp2_with fail
        refine (value_any _ _ _ H1.out).mono ?_
        rintro e w' ⟨he, rfl⟩
        subst he
        go_wp2_with fail
        refine (bytes_any (crcOf l) _).mono ?_
        rintro e w9 ⟨v9, rfl, hs9, hb9⟩
        obtain ⟨A9, c9, rfl⟩ := hs9.form
        have H4 := Lib.hid (H2.out.trans (hb9.mono H2.out.size))
        clear hs9 hb9
        go_wp2
        go_ret
        exact ⟨rfl, H4.out⟩

end Go.Proofs.Ytoihfcojnbegcaa
