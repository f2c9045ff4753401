/-
  Rewrite, and the law's few: the contracts, by walks. Conditions: bounds on lengths.
-/
import Derived.Test.YtkdfedcmhcchiaaJnRecover
namespace Go.Proofs.Ytkdfedcmhcchiaa
open Go.RowKit

theorem frames_snoc (l : List (UInt8 × List UInt8)) (k : Nat) (hk : k < l.length) : framesB ((l.take (k + 1)).map payJ) = framesB ((l.take k).map payJ) ++ frameB (payJ l[k]) := by
  rw [List.take_succ_eq_append_getElem hk, List.map_append, framesB_append]
  simp [framesB]

set_option maxRecDepth 100000 in
set_option maxHeartbeats 2000000 in
theorem rewrite_any (g : Nat) (v vl : Value) (b : List UInt8) (s : Nat) (l : List (UInt8 × List UInt8)) (w : World) (h : Dk w g v b s) (hr : RecsAt w vl l) (hs : sizeJ l ≤ 1000000) :
    Calls Try.prog 18 #[.pointer (some ⟨g, 0, none⟩), vl] w fun e w' => e = .returned (.int .i64 0) ∧ Turns w g v (framesB (l.map payJ)) (sizeJ l) w' := by
  have hll := sizeJ_len l
  have HD := Lib.hid h
  obtain ⟨A, c, rfl, hlc, hx⟩ := hr.at_
  have HX := Lib.hid hx
  clear hx hr h
  go_enter Try.func18, Try.ntmps18
  go_wp2_with fail
  refine (dnew_any w).mono ?_
  rintro e w1 ⟨rfl, hd1, hb1⟩
  have D1 := Lib.hid (Dkn.new w hd1 rfl hb1)
  obtain ⟨f, hf⟩ : ∃ f, f = w.heap.size := ⟨_, rfl⟩
  rw [← hf] at D1 ⊢
  have HFz := Lib.hid hf
  clear hd1 hb1 hf
  go_wp2_with fail
  go_loopw [14] (fun i wr => ∃ (k : Nat) (vf : Value), k ≤ l.length ∧ i = .int .i64 k ∧ Dkn w wr f vf (framesB ((l.take k).map payJ)) 0) (fun i _ => l.length - (intOf i).toNat)
  case atStart => exact ⟨0, _, Nat.zero_le _, rfl, D1.out⟩
  case round =>
    obtain ⟨k, vf, hk, rfl, hdf⟩ := hrel
    have DF := Lib.hid hdf
    clear hdf
    by_cases hlt : k < l.length
    · obtain ⟨bq, o, rfl, hbl, A2, n2, c2, hr, hs2, hn2⟩ := HX.out k hlt
      have c0 := (DF.out.base.cell (p := ⟨bq, o + k * 2 + 0, none⟩) hbl).trans (hr 0 _ rfl)
      have c1 := (DF.out.base.cell (p := ⟨bq, o + k * 2 + 1, none⟩) hbl).trans (hr 1 _ rfl)
      have hsn := sizeJ_snoc l k hlt
      have hsl := sizeJ_le l (k + 1)
      have hfs := frames_snoc l k hlt
      have hsk : (framesB ((l.take k).map payJ)).length = sizeJ (l.take k) := rfl
      have HLT := Lib.hid hlt
      obtain ⟨kk, dd, hkd⟩ : ∃ kk dd, l[k]'hlt = (kk, dd) := ⟨_, _, rfl⟩
      rw [hkd] at c0 hs2 hn2 hsn hfs
      simp only at c0 hs2 hn2 hsn hfs
      have HFS := Lib.hid hfs
      have HS2 := Lib.hid hs2
      rw [Nat.add_zero] at c0
      have hfit : (framesB ((l.take k).map payJ)).length + (dd.length + 9) ≤ 1048576 := by omega
      have HFIT := Lib.hid hfit
      have DA := Lib.hid (DF.out.alloc (.cells #[bv kk, .slice A2 n2 c2] 37))
      have HAP := Lib.hid (append_any f vf (.slice A2 n2 c2) _ dd 0 kk _ DA.out.dk (HS2.out.below DA.out.base) HFIT.out)
      clear hr hs2 hn2 hsn hsl hfs hsk hfit hkd
      unfold bv at c0 HAP DA
      go_wp2_with fail
      refine HAP.out.mono ?_
      rintro e w3 ⟨rfl, ht⟩
      obtain ⟨v3, d3, _⟩ := DA.out.turns ht
      rw [← HFS.out] at d3
      have D3 := Lib.hid d3
      clear ht d3 HAP
      go_wp2
      go_roundw
      case rel => exact ⟨k + 1, v3, HLT.out, by go_num, D3.out⟩
      case measure => have := HLT.out; simp [intOf]; omega
    · have hkk : k = l.length := by omega
      subst hkk
      have hd := DF.out
      rw [List.take_length] at hd
      have DL := Lib.hid hd
      clear hd DF
      go_wp2_with fail
      refine (dbytes_any f vf _ 0 _ DL.out.dk).mono ?_
      rintro e w3 ⟨v3, rfl, ho3, hb3⟩
      have D3 := Lib.hid (DL.out.below hb3)
      have HS3 := Lib.hid (own_sl ho3)
      clear ho3 hb3
      obtain ⟨A3, c3, rfl⟩ := HS3.out.form
      go_wp2_with fail
      refine (dreset_any g v _ b _ s w3 (HD.out.below D3.out.base) HS3.out (by have : (framesB (l.map payJ)).length = sizeJ l := rfl; omega)).mono ?_
      rintro e w4 ⟨rfl, v4, hd4, hm4⟩
      have H4 : Hid (Turns w g v (framesB (l.map payJ)) (sizeJ l) w4) := Lib.hid ⟨v4, hd4, hm4.of_below D3.out.base⟩
      clear hd4 hm4
      go_wp2
      go_ret
      exact ⟨rfl, H4.out⟩

/-- Aren't records too many, or too long? -/
def fewJ (l : List (UInt8 × List UInt8)) : Bool := (l.all fun r => decide (r.2.length ≤ 100)) && decide (l.length ≤ 20)
theorem fewJ_spec (l : List (UInt8 × List UInt8)) (h : fewJ l = true) : l.length ≤ 20 ∧ (∀ r ∈ l, r.2.length ≤ 100) ∧ sizeJ l ≤ 3000 ∧ ∀ p ∈ l.map payJ, p.length ≤ 101 := by
  simp only [fewJ, Bool.and_eq_true, List.all_eq_true, decide_eq_true_eq] at h
  have hp : ∀ p ∈ l.map payJ, p.length ≤ 101 := by
    intro p hp
    obtain ⟨r, hr, rfl⟩ := List.mem_map.1 hp
    have := h.1 r hr
    simp [payJ]; omega
  refine ⟨h.2, h.1, ?_, hp⟩
  have := framesB_len (l.map payJ) 101 hp
  rw [List.length_map] at this
  unfold sizeJ
  omega

set_option maxHeartbeats 1000000 in
theorem few_any (vl : Value) (l : List (UInt8 × List UInt8)) (w : World) (hr : RecsAt w vl l) (hll : l.length ≤ 4611686018427387903) :
    Calls Try.prog 8 #[vl] w fun e w' => e = .returned (.bool (fewJ l)) ∧ Below w.heap.size w w' := by
  obtain ⟨A, c, rfl, hlc, hx⟩ := hr.at_
  have HX := Lib.hid hx
  clear hx hr
  go_enter Try.func8, Try.ntmps8
  go_wp2_with fail
  go_loopw [7] (fun i wr => ∃ k : Nat, k ≤ l.length ∧ i = .int .i64 k ∧ (∀ r ∈ l.take k, r.2.length ≤ 100) ∧ Below w.heap.size w wr) (fun i _ => l.length - (intOf i).toNat)
  case atStart => exact ⟨0, Nat.zero_le _, rfl, (fun r hr => by simp at hr), Below.refl _ _⟩
  case round =>
    obtain ⟨k, hk, rfl, hall, hbw⟩ := hrel
    have HALL := Lib.hid hall
    have HBW := Lib.hid hbw
    clear hall
    by_cases hlt : k < l.length
    · obtain ⟨bq, o, rfl, hbl, A2, n2, c2, hr, _, hn2⟩ := HX.out k hlt
      have c0 := (hbw.cell (p := ⟨bq, o + k * 2 + 0, none⟩) hbl).trans (hr 0 _ rfl)
      have c1 := (hbw.cell (p := ⟨bq, o + k * 2 + 1, none⟩) hbl).trans (hr 1 _ rfl)
      have HLT := Lib.hid hlt
      have HN2 := Lib.hid hn2
      rw [Nat.add_zero] at c0
      unfold bv at c0
      clear hr hbw hn2
      generalize l[k].1.toNat = x at *
      by_cases h100 : 100 < n2
      · have hf : fewJ l = false := by
          simp only [fewJ, Bool.and_eq_false_iff, List.all_eq_false]
          left
          refine ⟨l[k]'HLT.out, List.getElem_mem HLT.out, ?_⟩
          have := HN2.out
          simp; omega
        have HF := Lib.hid hf
        clear hf
        go_wp2
        go_ret
        exact ⟨by rw [HF.out]; rfl, HBW.out.alloc HBW.out.size _⟩
      · have hall : ∀ r ∈ l.take (k + 1), r.2.length ≤ 100 := by
          intro r hr
          rw [List.take_succ_eq_append_getElem HLT.out] at hr
          rcases List.mem_append.1 hr with h | h
          · exact HALL.out r h
          · rw [List.mem_singleton] at h
            subst h
            have := HN2.out
            omega
        have HA := Lib.hid hall
        clear hall
        go_wp2
        go_roundw
        case rel => exact ⟨k + 1, HLT.out, by go_num, HA.out, HBW.out.alloc HBW.out.size _⟩
        case measure => have := HLT.out; simp [intOf]; omega
    · have hkk : k = l.length := by omega
      subst hkk
      have hf : fewJ l = decide ((l.length : Int) ≤ 20) := by
        have h1 : (l.all fun r => decide (r.2.length ≤ 100)) = true := by
          rw [List.all_eq_true]
          intro r hr
          have := HALL.out
          rw [List.take_length] at this
          simpa using this r hr
        simp only [fewJ, h1, Bool.true_and]
        congr 1
        exact propext ⟨fun h => by omega, fun h => by omega⟩
      have HF := Lib.hid hf
      clear hf hbw
      go_wp2
      go_ret
      exact ⟨by rw [HF.out]; rfl, HBW.out⟩

end Go.Proofs.Ytkdfedcmhcchiaa
