/-
  hedgerowlaw10.DiskCrashes: the walk: for all bytes and all that is kept the call returns true, and nothing that was there has turned. Conditions: none.
-/
import Derived.Test.YtcaechfmeiklkaaDkFixed
namespace Go.Proofs.Ytcaechfmeiklkaa
open Go.RowKit

theorem crash_plain (l : List UInt8) (s : Nat) (keep : Int) : crashB l s keep (-1) 255 = l.take (s + leftB l s keep) := by
  unfold crashB turnB
  rw [if_neg (by omega)]

set_option maxRecDepth 100000 in
set_option maxHeartbeats 2000000 in
theorem crashes_walk (va vb : Value) (a b : List UInt8) (keep : Int) (w : World) (ha : Sl bv w va a) (hb : Sl bv w vb b) (hla : a.length ≤ 140737488355328) (hlb : b.length ≤ 140737488355328) :
    Calls Try.prog 5 #[va, vb, .int .i64 keep] w (Law w) := by
  have hfx := dfixed_any w
  have HFX := Lib.hid hfx; clear hfx
  have HA := Lib.hid ha
  have HB := Lib.hid hb
  obtain ⟨A1, c1, rfl⟩ := ha.form
  obtain ⟨A2, c2, rfl⟩ := hb.form
  clear ha hb
  by_cases h1 : 500 < a.length + b.length
  · go_enter Try.func5, Try.ntmps5
    go_wp2_with fail
    refine HFX.out.mono ?_
    rintro e w1 ⟨rfl, hb1⟩
    go_wp2
    go_ret
    exact ⟨rfl, hb1⟩
  · go_enter Try.func5, Try.ntmps5
    go_wp2_with fail
    refine HFX.out.mono ?_
    rintro e w1 ⟨rfl, hb1⟩
    have HB1 := Lib.hid hb1
    clear hb1
    go_wp2_with fail
    refine (dnew_any w1).mono ?_
    rintro e w2 ⟨rfl, hd2, hb2⟩
    have D2 := Lib.hid ((Dkn.new w1 hd2 rfl hb2).mono HB1.out)
    generalize w1.heap.size = g at *
    clear hd2 hb2
    go_wp2_with fail
    refine (dwrite_any g _ _ [] a 0 _ D2.out.dk (HA.out.below D2.out.base) (by simp; omega)).mono ?_
    rintro e w3 ⟨rfl, ht⟩
    obtain ⟨v3, d3, _⟩ := D2.out.turns ht
    rw [List.nil_append] at d3
    have D3 := Lib.hid d3
    clear ht d3
    go_wp2_with fail
    refine (dsync_any g v3 _ _ w3 D3.out.dk).mono ?_
    rintro e w4 ⟨rfl, hd4, hm4⟩
    have D4 := Lib.hid (D3.out.turn hd4 hm4)
    clear hd4 hm4
    go_wp2_with fail
    refine (dwrite_any g _ _ a b a.length _ D4.out.dk (HB.out.below D4.out.base) (by omega)).mono ?_
    rintro e w5 ⟨rfl, ht⟩
    obtain ⟨v5, d5, _⟩ := D4.out.turns ht
    have D5 := Lib.hid d5
    clear ht d5
    go_wp2_with fail
    refine (dcrash_any g v5 _ a.length keep (-1) 255 w5 D5.out.dk).mono ?_
    rintro e w6 ⟨rfl, ht⟩
    rw [crash_plain] at ht
    obtain ⟨k, hk⟩ : ∃ k, k = leftB (a ++ b) a.length keep := ⟨_, rfl⟩
    have hki := leftB_int (a ++ b) a.length keep (by simp)
    have hlen : ((a ++ b).take (a.length + leftB (a ++ b) a.length keep)).length = a.length + k := by rw [List.length_take, List.length_append, hk]; have := leftB_le (a ++ b) a.length keep; rw [List.length_append] at this; omega
    rw [← hk] at hki ht hlen
    obtain ⟨v6, d6, _⟩ := D5.out.turns ht
    have D6 := Lib.hid d6
    clear ht d6
    go_wp2_with fail
    refine (dbytes_any g v6 _ _ w6 D6.out.dk).mono ?_
    rintro e w7 ⟨v7, rfl, ho7, hb7⟩
    have D7 := Lib.hid (D6.out.below hb7)
    have q7 := bytes_str w7 v7 _ (own_sl ho7)
    have qa := bytes_str w7 _ _ (HA.out.below D7.out.base)
    have qb := bytes_str w7 _ _ (HB.out.below D7.out.base)
    obtain ⟨A7, c7, rfl⟩ := own_form ho7
    clear ho7 hb7
    rw [show (a ++ b).length - a.length = b.length by simp] at hki
    obtain ⟨X7, hX7⟩ : ∃ X7 : ByteArray, X7 = ⟨((a ++ b).take (a.length + k)).toArray⟩ := ⟨_, rfl⟩
    obtain ⟨XA, hXA⟩ : ∃ XA : ByteArray, XA = ⟨a.toArray⟩ := ⟨_, rfl⟩
    obtain ⟨XB, hXB⟩ : ∃ XB : ByteArray, XB = ⟨b.toArray⟩ := ⟨_, rfl⟩
    rw [← hX7] at q7
    rw [← hXA] at qa
    rw [← hXB] at qb
    have hsa : XA.size = a.length := by rw [hXA]; simp [ByteArray.size]
    have hsb : XB.size = b.length := by rw [hXB]; simp [ByteArray.size]
    have hsab : (XA ++ XB).size = a.length + b.length := by rw [ByteArray.size_append, hsa, hsb]
    have hov : ¬ 9223372036854775807 < XA.size + XB.size := by omega
    have heq : (X7.toList == ((XA ++ XB).extract 0 (a.length + k)).toList) = true := by
      rw [Lib.toList_data, Lib.toList_data, hX7, hXA, hXB]
      simp [ByteArray.data_extract, ByteArray.data_append]
    have HE := Lib.hid heq
    have HS := Lib.hid hsab
    rw [hlen] at q7 ⊢
    have hkb : k ≤ b.length := by omega
    clear heq hsab hX7 hXA hXB hsa hsb hk hlen
    go_upto_region 12 with fail
    go_cut [10] (fun t wx => t = .int .i64 ((a.length + k : Nat) : Int) ∧ wx = w7)
    case first =>
      go_wp2_with fail
      all_goals go_meet
      all_goals exact ⟨by congr 1; omega, rfl⟩
    case rest =>
      obtain ⟨rfl, rfl⟩ := hcut
      clear hki
      have hsab := HS.out
      have heq := HE.out
      have hin : (((a.length + k : Nat) : Int)).toNat = a.length + k := Int.toNat_natCast _
      go_wp2_with fail
      refine (dsynced_any g v6 _ _ wc D7.out.dk).mono ?_
      rintro e w' ⟨rfl, rfl⟩
      go_wp2
      go_ret
      exact ⟨rfl, D7.out.base⟩

end Go.Proofs.Ytcaechfmeiklkaa
