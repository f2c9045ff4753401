/-
  hedgerowlaw11.JournalTwice: the walk: for all bytes the call returns true, and nothing that was there has turned. Conditions: none.
-/
import Derived.Test.YtkdfedcmhcchiaaJnFixed
namespace Go.Proofs.Ytkdfedcmhcchiaa
open Go.RowKit

theorem below_drewN' {B : Nat} {a w : World} (h : Below B a w) (n : Nat) : Below B a (w.drewN n) := ⟨h.os, h.tape, h.output, h.size, h.block⟩

set_option maxRecDepth 100000 in
set_option maxHeartbeats 2000000 in
theorem twice_walk (va vb : Value) (a b : List UInt8) (w : World) (ha : Sl bv w va a) (hb : Sl bv w vb b) (hla : a.length ≤ 140737488355328) (hlb : b.length ≤ 140737488355328) :
    Calls Try.prog 6 #[va, vb] w (Law w) := by
  have HFX := Lib.hid (jfixed_any w)
  have HA := Lib.hid ha
  have HB := Lib.hid hb
  obtain ⟨A1, c1, rfl⟩ := ha.form
  obtain ⟨A2, c2, rfl⟩ := hb.form
  clear ha hb
  by_cases h1 : 500 < a.length + b.length
  · go_enter Try.func6, Try.ntmps6
    go_wp2_with fail
    refine HFX.out.mono ?_
    rintro e w1 ⟨rfl, hb1⟩
    go_wp2
    go_ret
    exact ⟨rfl, hb1⟩
  · obtain ⟨f1, f2, f3, f4⟩ := readJ_front (a ++ b)
    obtain ⟨L, hL⟩ : ∃ L, L = a ++ b := ⟨_, rfl⟩
    have hLl : L.length = a.length + b.length := by rw [hL, List.length_append]
    rw [← hL] at f1 f2 f3 f4
    have F2 := Lib.hid f2
    have F3 := Lib.hid f3
    have F4 := Lib.hid f4
    have HLL := Lib.hid hL
    clear f2 f3 f4 hL
    go_enter Try.func6, Try.ntmps6
    go_wp2_with fail
    refine HFX.out.mono ?_
    rintro e w1 ⟨rfl, hb1⟩
    have HB1 := Lib.hid hb1
    clear hb1
    go_wp2_with fail
    refine (dnew_any w1).mono ?_
    rintro e w2 ⟨rfl, hd2, hb2⟩
    have D2 := Lib.hid ((Dkn.new w1 hd2 rfl hb2).mono HB1.out)
    generalize w1.heap.size = g at *
    clear hd2 hb2
    go_wp2_with fail
    refine (dreset_any g _ _ [] a 0 _ D2.out.dk (HA.out.below D2.out.base) (by omega)).mono ?_
    rintro e w3 ⟨rfl, ht⟩
    obtain ⟨v3, d3, _⟩ := D2.out.turns ht
    have D3 := Lib.hid d3
    clear ht d3 D2
    go_wp2_with fail
    refine (dwrite_any g _ _ a b a.length _ D3.out.dk (HB.out.below D3.out.base) (by omega)).mono ?_
    rintro e w4 ⟨rfl, ht⟩
    obtain ⟨v4, d4, _⟩ := D3.out.turns ht
    rw [← HLL.out] at d4
    have D4 := Lib.hid d4
    clear ht d4 D3
    by_cases hlt : sizeJ (readJ L).1 < a.length
    · have her : (readJ L).2 ≠ 0 := fun h => by have := F4.out h; omega
      have her2 : (((readJ L).2 : Nat) : Int) ≠ 0 := by omega
      have her3 : ((((readJ L).2 : Nat) : Int) != 0) = true := by rw [bne_iff_ne]; exact her2
      clear her her2
      go_wp2_with fail
      refine (jrecover_lost g v4 L a.length w4 D4.out.dk (by omega) hlt).mono ?_
      rintro e w5 ⟨rfl, hb5⟩
      have D5 := Lib.hid (D4.out.below hb5)
      clear hb5
      go_wp2
      go_ret
      exact ⟨rfl, D5.out.base⟩
    · have hge : a.length ≤ sizeJ (readJ L).1 := by omega
      go_wp2_with fail
      refine (jrecover_any g v4 L a.length w4 D4.out.dk (by omega) hge).mono ?_
      rintro e w5 ⟨v5, rfl, hr5, u5, hd5, hm5, hu5⟩
      obtain ⟨rs, hrs⟩ : ∃ rs, rs = (readJ L).1 := ⟨_, rfl⟩
      have hF2 := F2.out
      have hF3 := F3.out
      rw [← hrs] at hr5 hd5 hF2 hF3 f1 hge
      rw [hF2] at hd5
      have hlen : (framesB (rs.map payJ)).length = sizeJ rs := rfl
      have hagain : readJ (framesB (rs.map payJ)) = (rs, 0) := readJ_laid rs hF3
      have hfit : ∀ r ∈ rs, r.2.length + 1 ≤ 1048576 := fun r hr => by have := hF3 (payJ r) (List.mem_map_of_mem hr); simpa [payJ] using this
      obtain ⟨G, hG⟩ : ∃ G, G = framesB (rs.map payJ) := ⟨_, rfl⟩
      rw [← hG] at hd5 hlen hagain
      have D5 := Lib.hid (D4.out.turn hd5 hm5)
      have hgl := D4.out.dk.lt
      have hul : ∀ k, u5.ownBlock = some k → k < w4.heap.size := fun k hk => D4.out.dk.vlt k (hu5 ▸ hk)
      have HR5 := Lib.hid hr5
      have HGL := Lib.hid hgl
      have HUL := Lib.hid hul
      have HAG := Lib.hid hagain
      have HFIT := Lib.hid hfit
      have HLEN := Lib.hid hlen
      have hlr := sizeJ_len rs
      obtain ⟨A5, c5, rfl⟩ := hr5.at.form
      clear hr5 hd5 hm5 hu5 hgl hul hagain hfit hrs hF2 hF3 hG hlt
      generalize hS : sizeJ rs = S at *
      have HS := Lib.hid hS
      clear hS
      go_wp2_with fail
      refine (dbytes_any g u5 _ _ w5 D5.out.dk).mono ?_
      rintro e w6 ⟨v6, rfl, ho6, hb6⟩
      rw [HLEN.out] at ho6
      have D6 := Lib.hid (D5.out.below hb6)
      have HR6 := Lib.hid (HR5.out.below hb6)
      obtain ⟨A6, c6, rfl⟩ := own_form ho6
      clear ho6 hb6 HR5 D5
      have hrec := jrecover_any g u5 G S w6 D6.out.dk (by rw [HLEN.out]; omega) (by rw [HAG.out, HS.out]; exact Nat.le_refl _)
      rw [HAG.out] at hrec
      have HREC := Lib.hid hrec
      clear hrec
      go_wp2_with fail
      refine HREC.out.mono ?_
      rintro e w7 ⟨v7, rfl, hr7, u7, hd7, hm7, hu7⟩
      have htk : G.take S = G := by rw [← HLEN.out]; exact List.take_length
      rw [HS.out, htk] at hd7
      have D7 := Lib.hid (D6.out.turn hd7 hm7)
      have L7 := Lib.hid (HR6.out.moved hm7 HGL.out HUL.out).at
      have M7 := Lib.hid hr7.at
      obtain ⟨A7, c7, rfl⟩ := hr7.at.form
      clear hr7 hd7 hm7 hu7 htk HREC HR6 D6
      go_wp2_with fail
      refine (dbytes_any g u7 _ _ w7 D7.out.dk).mono ?_
      rintro e w8 ⟨v8, rfl, ho8, hb8⟩
      rw [HLEN.out] at ho8
      have D8 := Lib.hid (D7.out.below hb8)
      have L8 := Lib.hid (L7.out.below hb8)
      have M8 := Lib.hid (M7.out.below hb8)
      obtain ⟨A8, c8, rfl⟩ := own_form ho8
      clear ho8 hb8 D7 L7 M7
      go_wp2_with fail
      refine (dsynced_any g u7 _ _ w8 D8.out.dk).mono ?_
      rintro e w' ⟨rfl, rfl⟩
      go_wp2_with fail
      refine (jsize_any _ rs w8 L8.out (by rw [HS.out]; omega) HFIT.out).mono ?_
      rintro e w9 ⟨rfl, hb9⟩
      rw [HS.out]
      have D9 := Lib.hid (D8.out.below hb9)
      have l9 := L8.out.below hb9
      have m9 := M8.out.below hb9
      clear hb9 D8 L8 M8
      obtain ⟨A', c', hv, _, hxl⟩ := l9.at_
      injection hv with e1 e2 e3
      subst e1 e3
      obtain ⟨A', c', hv, _, hxm⟩ := m9.at_
      injection hv with e1 e2 e3
      subst e1 e3
      have HXL := Lib.hid hxl
      have HXM := Lib.hid hxm
      clear hxl hxm l9 m9 e2
      go_wp2_with fail
      go_loopw [75] (fun i wr => ∃ k : Nat, k ≤ rs.length ∧ i = .int .i64 k ∧ Below w9.heap.size w9 wr) (fun i _ => rs.length - (intOf i).toNat)
      case atStart => exact ⟨0, Nat.zero_le _, rfl, Below.refl _ _⟩
      case round =>
        obtain ⟨k, hk, rfl, hbw⟩ := hrel
        have HBW := Lib.hid hbw
        by_cases hlt : k < rs.length
        · obtain ⟨b1, o1, rfl, hbl1, B1, n1, d1, hr1, hs1, -⟩ := HXL.out k hlt
          obtain ⟨b2, o2, rfl, hbl2, B2, n2, d2, hr2, hs2, -⟩ := HXM.out k hlt
          have k10 := (hbw.cell (p := ⟨b1, o1 + k * 2 + 0, none⟩) hbl1).trans (hr1 0 _ rfl)
          have k11 := (hbw.cell (p := ⟨b1, o1 + k * 2 + 1, none⟩) hbl1).trans (hr1 1 _ rfl)
          have k20 := (hbw.cell (p := ⟨b2, o2 + k * 2 + 0, none⟩) hbl2).trans (hr2 0 _ rfl)
          have k21 := (hbw.cell (p := ⟨b2, o2 + k * 2 + 1, none⟩) hbl2).trans (hr2 1 _ rfl)
          rw [Nat.add_zero] at k10 k20
          have q1 := fun m => bytes_str (wr.drewN m) _ _ ((hs1.below hbw).drewN m)
          have q2 := fun m => bytes_str (wr.drewN m) _ _ ((hs2.below hbw).drewN m)
          have HLT := Lib.hid hlt
          clear hr1 hr2 hs1 hs2 hbw
          unfold bv at k10 k20
          obtain ⟨X, hX⟩ : ∃ X : ByteArray, X = ⟨(rs[k]'hlt).2.toArray⟩ := ⟨_, rfl⟩
          rw [← hX] at q1 q2
          clear hX
          generalize (rs[k]'hlt).1.toNat = x at *
          have n3 : ((x : Int) == (x : Int)) = true := beq_self_eq_true _
          have n4 : ((x : Int) != (x : Int)) = false := by rw [bne, n3]; rfl
          have n5 : (X.toList != X.toList) = false := by simp
          go_wp2_with fail
          go_quiet (fail)
          go_wp2
          go_roundw
          case rel => exact ⟨k + 1, HLT.out, by go_num, below_drewN' HBW.out _⟩
          case measure => have := HLT.out; simp [intOf]; omega
        · have hkk : k = rs.length := by omega
          subst hkk
          go_wp2
          go_ret
          exact ⟨rfl, D9.out.base.trans (HBW.out.mono D9.out.size)⟩

end Go.Proofs.Ytkdfedcmhcchiaa
