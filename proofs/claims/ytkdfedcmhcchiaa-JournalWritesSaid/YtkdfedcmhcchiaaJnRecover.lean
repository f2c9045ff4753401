/-
  Recover: the contract, by a walk. Conditions: a bound on the length.
-/
import Derived.Test.YtkdfedcmhcchiaaJnRead
namespace Go.Proofs.Ytkdfedcmhcchiaa
open Go.RowKit

theorem crash_keep (b : List UInt8) (s m : Nat) (hs : s ≤ m) (hm : m ≤ b.length) : crashB b s ((m - s : Nat) : Int) (-1) 0 = b.take m := by
  unfold crashB turnB leftB
  rw [if_neg (by omega)]
  congr 1
  omega

set_option maxHeartbeats 1000000 in
theorem jrecover_lost (g : Nat) (v : Value) (b : List UInt8) (s : Nat) (w : World) (h : Dk w g v b s) (hl : b.length ≤ 1000000) (hlt : sizeJ (readJ b).1 < s) :
    Calls Try.prog 11 #[.pointer (some ⟨g, 0, none⟩)] w fun e w' => e = .returned (.tuple #[.slice none 0 0, .int .i64 ((readJ b).2 : Nat)]) ∧ Below w.heap.size w w' := by
  obtain ⟨f1, f2, f3, _⟩ := readJ_front b
  have hfit : ∀ r ∈ (readJ b).1, r.2.length + 1 ≤ 1048576 := fun r hr => by have := f3 (payJ r) (List.mem_map_of_mem hr); simpa [payJ] using this
  have HR := Lib.hid (jread_any g v b s w h hl)
  have hsz := h.2.2.1
  have HD := Lib.hid h
  generalize hq : readJ b = q at *
  obtain ⟨rs, er⟩ := q
  simp only at *
  have HF := Lib.hid hfit
  have hr' : Hid (ReadIs w b = fun e w' => ∃ v, e = .returned (.tuple #[v, .int .i64 (er : Nat)]) ∧ RecsFrom w' w.heap.size v rs ∧ Below w.heap.size w w') := Lib.hid (by funext e w'; simp only [ReadIs, hq])
  rw [hr'.out] at HR
  clear h hq hfit f2 f3 hr'
  have hsl : sizeJ rs ≤ 1000000 := by omega
  generalize hS : sizeJ rs = S at *
  have HS := Lib.hid hS
  clear hS
  go_enter Try.func11, Try.ntmps11
  go_wp2_with fail
  refine HR.out.mono ?_
  rintro e w1 ⟨v1, rfl, hr1, hb1⟩
  have HR1 := Lib.hid hr1
  have HB1 := Lib.hid hb1
  obtain ⟨A1, c1, rfl⟩ := hr1.at.form
  clear hr1 hb1 HR
  go_wp2_with fail
  refine (jsize_any _ rs w1 HR1.out.at (by rw [HS.out]; omega) HF.out).mono ?_
  rintro e w2 ⟨rfl, hb2⟩
  have HB2 := Lib.hid (HB1.out.trans (hb2.mono HB1.out.size))
  rw [HS.out]
  clear hb2
  go_wp2_with fail
  refine (dsynced_any g v b s w2 (HD.out.below HB2.out)).mono ?_
  rintro e w' ⟨rfl, rfl⟩
  go_wp2
  go_ret2
  exact ⟨rfl, HB2.out⟩

/-- What Recover hands back and leaves, where nothing that was synced is lost. -/
def Recovers (w : World) (g : Nat) (v : Value) (b : List UInt8) (rs : List (UInt8 × List UInt8)) (e : Ending) (w' : World) : Prop :=
  ∃ v', e = .returned (.tuple #[v', .int .i64 0]) ∧ RecsFrom w' w.heap.size v' rs ∧ TurnsIn w g v (b.take (sizeJ rs)) (sizeJ rs) w'

set_option maxHeartbeats 1000000 in
theorem jrecover_any (g : Nat) (v : Value) (b : List UInt8) (s : Nat) (w : World) (h : Dk w g v b s) (hl : b.length ≤ 1000000) (hge : s ≤ sizeJ (readJ b).1) :
    Calls Try.prog 11 #[.pointer (some ⟨g, 0, none⟩)] w (Recovers w g v b (readJ b).1) := by
  obtain ⟨f1, f2, f3, _⟩ := readJ_front b
  have hfit : ∀ r ∈ (readJ b).1, r.2.length + 1 ≤ 1048576 := fun r hr => by have := f3 (payJ r) (List.mem_map_of_mem hr); simpa [payJ] using this
  have HR := Lib.hid (jread_any g v b s w h hl)
  have hsz := h.2.2.1
  have HD := Lib.hid h
  generalize hq : readJ b = q at *
  obtain ⟨rs, er⟩ := q
  simp only at *
  have HF := Lib.hid hfit
  have hr' : Hid (ReadIs w b = fun e w' => ∃ v, e = .returned (.tuple #[v, .int .i64 (er : Nat)]) ∧ RecsFrom w' w.heap.size v rs ∧ Below w.heap.size w w') := Lib.hid (by funext e w'; simp only [ReadIs, hq])
  rw [hr'.out] at HR
  clear h hq hfit f2 f3 hr'
  have hsl : sizeJ rs ≤ 1000000 := by omega
  unfold Recovers
  generalize hS : sizeJ rs = S at *
  have HS := Lib.hid hS
  clear hS
  have hkeep := crash_keep b s S hge f1
  have hgl := HD.out.lt
  have hvl := HD.out.vlt
  have hbt : (b.take S).length = S := by rw [List.length_take]; omega
  obtain ⟨d, hd⟩ : ∃ d, d = S - s := ⟨_, rfl⟩
  have hdi : ((S : Int) - (s : Int)) = (d : Int) := by omega
  rw [← hd] at hkeep
  have HK := Lib.hid hkeep
  have HG := Lib.hid hgl
  have HV := Lib.hid hvl
  have HT := Lib.hid hbt
  clear hd hkeep hgl hvl hbt
  go_enter Try.func11, Try.ntmps11
  go_wp2_with fail
  refine HR.out.mono ?_
  rintro e w1 ⟨v1, rfl, hr1, hb1⟩
  have HR1 := Lib.hid hr1
  have HB1 := Lib.hid hb1
  obtain ⟨A1, c1, rfl⟩ := hr1.at.form
  clear hr1 hb1 HR
  go_wp2_with fail
  refine (jsize_any _ rs w1 HR1.out.at (by rw [HS.out]; omega) HF.out).mono ?_
  rintro e w2 ⟨rfl, hb2⟩
  have HR2 := Lib.hid (HR1.out.below hb2)
  have HB2 := Lib.hid (HB1.out.trans (hb2.mono HB1.out.size))
  rw [HS.out]
  clear hb2
  go_wp2_with fail
  refine (dsynced_any g v b s w2 (HD.out.below HB2.out)).mono ?_
  rintro e w' ⟨rfl, rfl⟩
  go_wp2_with fail
  refine (dcrash_in g v b s (d : Int) (-1) 0 w2 (HD.out.below HB2.out)).mono ?_
  rintro e w3 ⟨rfl, v3, hd3, hm3, hv3⟩
  have HV3 := Lib.hid hv3
  clear hv3
  rw [HK.out] at hd3
  have HD3 := Lib.hid hd3
  have HM3 := Lib.hid hm3
  clear hd3 hm3
  go_wp2_with fail
  refine (dsync_any g v3 _ s w3 HD3.out).mono ?_
  rintro e w4 ⟨rfl, hd4, hm4⟩
  rw [HT.out] at hd4
  have HM4 := Lib.hid ((HM3.out.trans hm4).of_below HB2.out)
  have HD4 := Lib.hid hd4
  have HR4 := Lib.hid (HR2.out.moved (HM3.out.trans hm4) HG.out HV.out)
  clear hd4 hm4
  go_wp2
  go_ret2
  exact ⟨_, rfl, HR4.out, _, HD4.out, HM4.out, HV3.out⟩

end Go.Proofs.Ytkdfedcmhcchiaa
