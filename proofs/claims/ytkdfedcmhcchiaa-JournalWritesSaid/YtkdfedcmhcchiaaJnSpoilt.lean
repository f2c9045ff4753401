/-
  hedgerowlaw11.JournalSpoilt: the walk: for all records, places and bits the call returns true, and nothing that was there has turned. Conditions: none.
-/
import Derived.Test.YtkdfedcmhcchiaaJnLaid
namespace Go.Proofs.Ytkdfedcmhcchiaa
open Go.RowKit

theorem turnB_tb (F : List UInt8) (k : Nat) (hk : k < F.length) (y : UInt8) : turnB F 0 F.length (k : Int) y = tb F k y := by
  unfold turnB
  rw [if_pos ⟨by omega, by omega⟩, tb_set F k hk y, Int.toNat_natCast, Nat.zero_add, List.getD_eq_getElem?_getD, List.getElem?_eq_getElem hk]
  rfl
theorem turnB_zero (F : List UInt8) (lo n : Nat) (at_ : Int) : turnB F lo n at_ 0 = F := by
  unfold turnB
  split
  · apply List.ext_getElem?
    intro i
    by_cases hi : i = lo + at_.toNat
    · subst hi
      by_cases hl : lo + at_.toNat < F.length
      · simp [List.getD, hl]
      · rw [List.getElem?_set]
        simp [hl]
    · simp [Ne.symm hi]
  · rfl

set_option maxRecDepth 100000 in
set_option maxHeartbeats 2000000 in
theorem spoilt_walk (vl : Value) (l : List (UInt8 × List UInt8)) (m : Nat) (y : UInt8) (w : World) (hr : RecsAt w vl l) (hll : l.length ≤ 4611686018427387903) (hm : m < 65536) :
    Calls Try.prog 4 #[vl, .int .u16 m, bv y] w (Law w) := by
  have HFX := Lib.hid (jfixed_any w)
  have HR := Lib.hid hr
  obtain ⟨A, c, rfl⟩ := hr.form
  clear hr
  unfold bv
  go_enter Try.func4, Try.ntmps4
  go_wp2_with fail
  refine HFX.out.mono ?_
  rintro e w1 ⟨rfl, hb1⟩
  have HB1 := Lib.hid hb1
  have HR1 := Lib.hid (HR.out.below hb1)
  clear hb1
  go_wp2_with fail
  refine (few_any _ l w1 HR1.out hll).mono ?_
  rintro e w2 ⟨rfl, hb2⟩
  have HB2 := Lib.hid (HB1.out.trans (hb2.mono HB1.out.size))
  have HR2 := Lib.hid (HR1.out.below hb2)
  clear hb2 HR1
  by_cases hfew : fewJ l = true
  · rw [hfew]
    obtain ⟨g1, g2, g3, g4⟩ := fewJ_spec l hfew
    by_cases h0 : l.length = 0
    · go_wp2
      go_ret
      exact ⟨rfl, HB2.out⟩
    · have h00 : ((l.length : Int) == 0) = false := by rw [beq_eq_false_iff_ne]; omega
      go_wp2_with fail
      refine (laid_any _ l l.length w2 HR2.out (by omega) (Nat.le_refl _)).mono ?_
      rintro e w3 ⟨g, v3, u3, rfl, hd3, ho3⟩
      have hEl : endL (l.map payJ) l.length = sizeJ l := by have := endL_all (l.map payJ); rwa [List.length_map] at this
      rw [hEl] at hd3
      have hsl := sizeJ_len l
      have D3 := Lib.hid (hd3.mono HB2.out)
      have hce : (endCs l (l.length + 1))[l.length]? = some (.int .i64 (sizeJ l : Nat)) := by
        unfold endCs
        rw [List.getElem?_map, List.getElem?_range (by omega), Option.map_some, hEl]
      obtain ⟨Au, cu, rfl⟩ := own_form ho3
      have hu : ∃ b cap, Au = some ⟨b, 0, none⟩ ∧ l.length + 1 ≤ cap ∧ cu = cap ∧ w3.cell? ⟨b, l.length, none⟩ = some (.int .i64 (sizeJ l : Nat)) := by
        rcases ho3.2 with ⟨_, h⟩ | ⟨b, cap, cur, hv, _, _, hnc, _⟩
        · omega
        · injection hv with e1 e2 e3
          subst e1 e3
          refine ⟨b, cu, rfl, hnc, rfl, ?_⟩
          rw [ho3.cellAt l.length (by omega)]
          exact hce
      obtain ⟨bu, cap, rfl, hcap, rfl, hcu⟩ := hu
      have HSF := Lib.hid (show (framesB (l.map payJ)).length = sizeJ l from rfl)
      obtain ⟨F, hF⟩ : ∃ F, F = framesB (l.map payJ) := ⟨_, rfl⟩
      rw [← hF] at D3 HSF
      have HFF := Lib.hid hF
      have HG4 := Lib.hid (show ∀ p ∈ l.map payJ, p.length ≤ 1048576 from fun p hp => Nat.le_trans (g4 p hp) (by decide))
      have HSL := Lib.hid (show sizeJ l ≤ 3000 from g3)
      obtain ⟨S, hS⟩ : ∃ S, S = sizeJ l := ⟨_, rfl⟩
      rw [← hS] at D3 HSF hcu g3 hsl
      have HSS := Lib.hid hS
      clear hd3 ho3 hEl hce hF hS g4 g2
      have hS0 : 0 < S := by omega
      obtain ⟨k, hk⟩ : ∃ k, k = m % S := ⟨_, rfl⟩
      have hkS : k < S := by rw [hk]; exact Nat.mod_lt _ hS0
      have hki : (m : Int).tmod (S : Int) = (k : Int) := by rw [hk]; rfl
      have hS1 : ((S : Int) == 0) = false := by rw [beq_eq_false_iff_ne]; omega
      have HK := Lib.hid hkS
      clear hk
      go_wp2_with fail
      refine (dspoil_any g v3 F S (k : Int) y w3 D3.out.dk).mono ?_
      rintro e w4 ⟨rfl, hd4, hm4⟩
      by_cases hy : y = 0
      · subst hy
        rw [turnB_zero] at hd4
        have D4 := Lib.hid (D3.out.turn hd4 hm4)
        have hread : readJ F = (l, 0) := by rw [HFF.out]; exact readJ_laid l HG4.out
        have hrec := jrecover_any g v3 F S w4 D4.out.dk (by rw [HSF.out]; have := HSL.out; omega) (by rw [hread, HSS.out]; exact Nat.le_refl _)
        rw [hread] at hrec
        have HREC := Lib.hid hrec
        have hy0 : (((0 : UInt8).toNat : Int) == 0) = true := rfl
        clear hd4 hm4 hrec hread
        go_wp2_with fail
        refine HREC.out.mono ?_
        rintro e w5 ⟨v5, rfl, hr5, u5, hd5, hm5, _⟩
        have hb5 := D4.out.moved hm5
        have HB5 := Lib.hid hb5
        obtain ⟨A5, c5, rfl⟩ := hr5.at.form
        clear hr5 hd5 hm5 hb5 HREC
        go_wp2
        go_ret
        exact ⟨rfl, HB5.out⟩
      · have hty : turnB F 0 F.length (k : Int) y = tb F k y := turnB_tb F k (by rw [HSF.out]; exact HK.out) y
        rw [hty] at hd4
        have D4 := Lib.hid (D3.out.turn hd4 hm4)
        obtain ⟨s1, s2⟩ := spoilt_read l HG4.out k y (by rw [← HSS.out]; exact HK.out) hy
        rw [← HFF.out, ← HSS.out] at s1
        rw [← HFF.out] at s2
        have hlen : (tb F k y).length ≤ 1000000 := by rw [tb_length, HSF.out]; have := HSL.out; omega
        have hrec := jrecover_lost g v3 (tb F k y) S w4 D4.out.dk hlen s1
        rw [s2] at hrec
        have HREC := Lib.hid hrec
        have hy0 : ((y.toNat : Int) == 0) = false := by
          rw [beq_eq_false_iff_ne]
          intro e
          apply hy
          have : y.toNat = 0 := by omega
          exact UInt8.toNat_inj.1 this
        clear hd4 hm4 hrec s1 s2 hlen hty hy
        go_wp2_with fail
        refine HREC.out.mono ?_
        rintro e w5 ⟨rfl, hb5⟩
        have HB5 := Lib.hid (D4.out.below hb5).base
        clear hb5 HREC
        go_wp2
        go_ret
        exact ⟨rfl, HB5.out⟩
  · have hfew' : fewJ l = false := by simpa using hfew
    rw [hfew']
    go_wp2
    go_ret
    exact ⟨rfl, HB2.out⟩

end Go.Proofs.Ytkdfedcmhcchiaa
