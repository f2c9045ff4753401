/-
  hedgerowlaw03.CrcTells: the walk: for all bytes, cuts and sums the call returns true, and nothing that was there has turned. Conditions: none.
-/
import Derived.Test.YtoihfcojnbegcaaCrcParts
import Derived.Test.YtoihfcojnbegcaaSlice
import Derived.Deep.RegionWith
namespace Go.Proofs.Ytoihfcojnbegcaa
open Go.RowKit

theorem sizeU : (Try.prog.info? 5).map (·.size) = some 1 := by kernel_rfl

set_option maxRecDepth 100000 in
set_option maxHeartbeats 2000000 in
theorem tells_walk (va vb : Value) (a cs : List UInt8) (s : BitVec 32) (w : World) (ha : Sl bv w va a) (hb : Sl bv w vb cs) (hla : a.length ≤ 140737488355328) (hlb : cs.length ≤ 140737488355328) :
    Calls Try.prog 3 #[va, vb, uv s] w (Law w) := by
  have hfx := cfixed_any w
  have HFX := Lib.hid hfx; clear hfx
  have HA := Lib.hid ha
  have HB := Lib.hid hb
  obtain ⟨A1, c1, rfl⟩ := ha.form
  obtain ⟨A2, c2, rfl⟩ := hb.form
  clear ha hb
  by_cases h1 : 500 < a.length
  · go_enter Try.func3, Try.ntmps3
    go_wp2_with fail
    refine HFX.out.mono ?_
    rintro e w1 ⟨rfl, hb1⟩
    go_wp2
    go_ret
    exact ⟨rfl, hb1⟩
  by_cases h2 : 50 < cs.length
  · go_enter Try.func3, Try.ntmps3
    go_wp2_with fail
    refine HFX.out.mono ?_
    rintro e w1 ⟨rfl, hb1⟩
    go_wp2
    go_ret
    exact ⟨rfl, hb1⟩
  go_enter Try.func3, Try.ntmps3
  go_wp2_with fail
  refine HFX.out.mono ?_
  rintro e w1 ⟨rfl, hb1⟩
  have HW := Lib.hid hb1
  have HA1 := Lib.hid (HA.out.below hb1)
  have HB1 := Lib.hid (HB.out.below hb1)
  clear hb1
  go_wp2_with fail
  refine (new_any w1).mono ?_
  rintro e w2 ⟨rfl, hn2, hb2⟩
  obtain ⟨A3, c3, hv3, hlc3, hcell3⟩ := HB1.out.at_
  injection hv3 with e1 _ e3
  subst e1 e3
  have HC3 := Lib.hid hcell3
  have HN2 := Lib.hid hn2
  have HB2 := Lib.hid hb2
  clear hcell3 hn2 hb2
  generalize hg : w1.heap.size = g at *
  have HG := Lib.hid hg
  clear hg
  go_wp2
  go_loopw [8, 27] (fun r i wr => ∃ k j m : Nat, k ≤ cs.length ∧ i = .int .i64 k ∧ j + m = a.length ∧ (∃ A c, r = .slice A m c ∧ Sl bv w1 (.slice A m c) (a.drop j)) ∧ SumOf wr g (a.take j) ∧ Below g w1 wr) (fun _ i _ => cs.length - (intOf i).toNat)
  case atStart => exact ⟨0, 0, a.length, by omega, rfl, by omega, ⟨A1, c1, rfl, by simpa using HA1.out⟩, by simpa using HN2.out, HB2.out⟩
  case round =>
    clear HN2 HB2
    obtain ⟨k, j, m, hk, rfl, hj, ⟨A, c, rfl, hr⟩, hn, hb⟩ := hrel
    have HR := Lib.hid hr
    have HN := Lib.hid hn
    have HBW := Lib.hid hb
    have hg1 : g ≤ wr.heap.size := by have := hb.size; have := HG.out; omega
    have hck0 : ∀ hlt : k < cs.length, ∃ b o, A2 = some ⟨b, o, none⟩ ∧ wr.cell? ⟨b, o + k, none⟩ = some (bv cs[k]) := fun hlt => by
      obtain ⟨b, o, hA, hbw, hc⟩ := HC3.out k hlt
      exact ⟨b, o, hA, (hb.cell (p := ⟨b, o + k, none⟩) (by have := HG.out; omega)).trans (hc k cs[k] (List.getElem?_eq_getElem hlt))⟩
    clear hr hn hb
    by_cases hlt : k < cs.length
    · obtain ⟨b, o, rfl, hck⟩ := hck0 hlt
      clear hck0
      unfold bv at hck
      generalize cs[k] = x at *
      have hx := x.toNat_lt
      generalize x.toNat = y at *
      have hmc := HR.out.len.2
      have hmm := HR.out.len.1
      rw [← hmm] at hmc
      have hm5 : m ≤ 500 := by omega
      clear hmm
      obtain ⟨q, hq, hqm⟩ : ∃ q : Nat, min (y : Int) (m : Int) = (q : Int) ∧ q ≤ m := ⟨min y m, by omega, by omega⟩
      have hsz : (Try.prog.info? 5).map (·.size) = some 1 := sizeU
      have HSZ := Lib.hid hsz
      clear hsz
      have hpart : Sl bv w1 (.slice A q c) ((a.drop j).take q) := by
        have := HR.out.hi q hqm
        have e : slA A c 0 = A := by
          unfold slA
          split
          · rfl
          · cases A <;> simp [Addr.add]
        rwa [e] at this
      have HP := Lib.hid hpart
      have HQ := Lib.hid (HR.out.lo q hqm)
      have hgw : w1.heap.size ≤ g := by have := HG.out; omega
      have hbw : Below w1.heap.size w1 wr := HG.out ▸ HBW.out
      have hadd := add_any w1 wr g (a.take j) ((a.drop j).take q) _ hgw hbw HP.out HN.out (by rw [List.length_take]; omega)
      have HADD := Lib.hid hadd
      have HBW1 := Lib.hid hbw
      have HGW := Lib.hid hgw
      clear hpart hadd hbw hgw
      go_wp2_with fail
      refine HADD.out.mono ?_
      rintro e w3 ⟨rfl, hn3, hb3⟩
      have htk : a.take j ++ (a.drop j).take q = a.take (j + q) := by rw [List.take_add]
      rw [htk] at hn3
      have HN3 := Lib.hid hn3
      have HB3 := Lib.hid (HBW.out.trans (HG.out ▸ hb3.below HGW.out HBW1.out.size))
      clear hn3 hb3 htk
      go_wp2_with (refine wpList_slice_lo (o := ⟨some 43, _, _, _, _, _⟩) rfl 22 5 (.tmp 41) (.tmp 42) rfl Try.underlying22 HSZ.out A m c q rfl rfl hqm ?_)
      go_roundw
      case rel => exact ⟨k + 1, j + q, m - q, by omega, by go_num, by omega, ⟨_, _, rfl, by rw [← List.drop_drop]; exact HQ.out⟩, HN3.out, HB3.out⟩
      case measure => simp [intOf]; omega
    · have hkk : k = cs.length := by omega
      subst hkk
      clear hck0 hlt
      have hof := rof_any _ a wr (HA1.out.below (HG.out ▸ HBW.out)) hla
      have HOF := Lib.hid hof
      clear hof
      go_wp2_with fail
      refine HOF.out.mono ?_
      rintro e w' ⟨he, rfl⟩
      unfold uv at he
      subst he
      go_wp2
      have hgw : w1.heap.size ≤ g := by have := HG.out; omega
      have hlm : (a.drop j).length ≤ 140737488355328 := by rw [List.length_drop]; omega
      have hadd := add_any w1 wr.drew g (a.take j) (a.drop j) _ hgw (Below.drew (HG.out ▸ HBW.out)) HR.out HN.out hlm
      rw [List.take_append_drop] at hadd
      have HADD := Lib.hid hadd
      have HGW := Lib.hid hgw
      clear hadd hgw hlm
      unfold uv
      go_region_with (first
        | (go_at_call 12; refine HADD.out.mono ?_; rintro e w3 ⟨rfl, hn3, hb3⟩; have HN3 := Lib.hid hn3; have HB3 := Lib.hid (((Below.refl _ _).trans (HG.out ▸ HBW.out : Below w1.heap.size w1 wr)).drew.trans (hb3.below HGW.out (HG.out ▸ HBW.out : Below w1.heap.size w1 wr).size)); clear hn3 hb3)
        | (go_at_call 14; refine (value_any _ g a HN3.out).mono ?_; rintro e w' ⟨he, rfl⟩; unfold uv at he; subst he)
        | (go_at_call 15; refine (of_any _ a w3 (HA1.out.below HB3.out) hla).mono ?_; rintro e w4 ⟨he, hb4⟩; unfold uv at he; subst he; have HB4 := Lib.hid (HB3.out.trans (hb4.mono HB3.out.size)); clear hb4)
        | (go_at_call 16; refine (bytes_any s _).mono ?_; rintro e w5 ⟨v5, rfl, hs5, hb5⟩; have r5 := run_string_sl (P := Try.prog) w5 22 9 5 Try.underlying22 Try.underlying5 Try.underlying9 v5 _ hs5; (try (have r6' := run_string_sl (P := Try.prog) w5 22 9 5 Try.underlying22 Try.underlying5 Try.underlying9 v6 _ (HS6.out.below hb5))); have HS5 := Lib.hid hs5; have HB5 := Lib.hid hb5; clear hs5 hb5)
        | (go_at_call 17; refine (rbytes_any s _).mono ?_; rintro e w6 ⟨v6, rfl, hs6, hb6⟩; have r6 := run_string_sl (P := Try.prog) w6 22 9 5 Try.underlying22 Try.underlying5 Try.underlying9 v6 _ hs6; (try (have r5' := run_string_sl (P := Try.prog) w6 22 9 5 Try.underlying22 Try.underlying5 Try.underlying9 v5 _ (HS5.out.below hb6))); have HS6 := Lib.hid hs6; have HB6 := Lib.hid hb6; clear hs6 hb6))
      all_goals go_wp2
      all_goals go_ret
      all_goals exact ⟨rfl, by
        have h4 := HW.out.trans (HB4.out.mono HW.out.size)
        first
          | exact (h4.trans (HB5.out.mono h4.size)).trans (HB6.out.mono (h4.trans (HB5.out.mono h4.size)).size)
          | exact (h4.trans (HB6.out.mono h4.size)).trans (HB5.out.mono (h4.trans (HB6.out.mono h4.size)).size)⟩

end Go.Proofs.Ytoihfcojnbegcaa
