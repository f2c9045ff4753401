/-
  crc's Sum.Add, Sum.Value, Of, Bytes: the contracts, by walks. Conditions: bounds on lengths.
-/
import Derived.Test.YtkdfedcmhcchiaaCrcSum
namespace Go.Proofs.Ytkdfedcmhcchiaa
open Go.RowKit

set_option maxHeartbeats 400000 in
theorem value_nil (w : World) : Calls Try.prog 44 #[.pointer none] w fun e w' => e = .returned (uv 0#32) ∧ w = w' := by
  go_enter Try.func44, Try.ntmps44
  go_wp2
  go_ret
  exact ⟨rfl, rfl⟩
set_option maxHeartbeats 400000 in
theorem value_any (w : World) (g : Nat) (l : List UInt8) (h : SumOf w g l) : Calls Try.prog 44 #[.pointer (some ⟨g, 0, none⟩)] w fun e w' => e = .returned (uv (crcOf l)) ∧ w = w' := by
  obtain ⟨m, tb, _, _, c0, _⟩ := h
  unfold uv at c0 ⊢
  go_enter Try.func44, Try.ntmps44
  go_wp2
  go_ret
  exact ⟨rfl, rfl⟩
set_option maxHeartbeats 400000 in
theorem add_nil (v : Value) (w : World) : Calls Try.prog 43 #[.pointer none, v] w fun e w' => e = .returned (.pointer none) ∧ w = w' := by
  go_enter Try.func43, Try.ntmps43
  go_wp2
  go_ret
  exact ⟨rfl, rfl⟩

theorem not_int (r : BitVec 32) : bits .xor .u32 IntKind.u32.max (r.toNat : Int) = ((~~~r).toNat : Int) := by
  rw [show IntKind.u32.max = ((4294967295 : Nat) : Int) from rfl, u32_xor_nat _ _ (by decide) r.isLt]
  have : ~~~r = 4294967295#32 ^^^ r := by
    rw [show 4294967295#32 = BitVec.allOnes 32 by decide, BitVec.allOnes_xor]
  rw [this, BitVec.toNat_xor]; rfl

/-- The register behind bytes, as it is in a loop. -/
def regI (l : List UInt8) : BitVec 32 := reg (~~~0#32) l
theorem not_crc (l : List UInt8) : ~~~(crcOf l) = regI l := by simp [crcOf, regI]
theorem not_regI (l : List UInt8) : ~~~(regI l) = crcOf l := rfl
theorem regI_snoc (l m : List UInt8) (k : Nat) (h : k < m.length) : regI (l ++ m.take (k + 1)) = bstep (regI (l ++ m.take k)) m[k] := by
  unfold regI
  rw [List.take_succ_eq_append_getElem h, ← List.append_assoc, reg_append]; rfl
/-- A round of Add's loop. -/
theorem add_round (R : BitVec 32) (x : UInt8) : ∃ N : Nat, N < 256 ∧ bits .xor .u8 ((R.toNat : Int) % 256) (x.toNat : Int) = (N : Int) ∧ bits .xor .u32 ((R.toNat : Int) / 256) ((tabN N).toNat : Int) = ((bstep R x).toNat : Int) := by
  have hx := x.toNat_lt
  have hR := R.isLt
  refine ⟨(R.toNat % 256) ^^^ x.toNat, Nat.xor_lt_two_pow (n := 8) (by omega) (by omega), ?_, ?_⟩
  · rw [show ((R.toNat : Int) % 256) = ((R.toNat % 256 : Nat) : Int) by omega]
    exact u8_xor_nat _ _ (by omega) (by omega)
  · rw [show ((R.toNat : Int) / 256) = ((R.toNat / 256 : Nat) : Int) by omega, u32_xor_nat _ _ (by omega) (BitVec.isLt _), bstep_tab, BitVec.toNat_xor, BitVec.toNat_ushiftRight, Nat.shiftRight_eq_div_pow]

set_option maxRecDepth 100000 in
set_option maxHeartbeats 1000000 in
theorem add_any (w0 w : World) (g : Nat) (l m : List UInt8) (v : Value) (hg : w0.heap.size ≤ g) (hb : Below w0.heap.size w0 w) (hs : Sl bv w0 v m) (hS : SumOf w g l) (hlen : m.length ≤ 140737488355328) :
    Calls Try.prog 43 #[.pointer (some ⟨g, 0, none⟩), v] w fun e w' => e = .returned (.pointer (some ⟨g, 0, none⟩)) ∧ SumOf w' g (l ++ m) ∧ But g w w' := by
  obtain ⟨made, tb, hmt, hS⟩ := hS
  obtain ⟨A, c, rfl, hlc, hcell⟩ := hs.at_
  have cm := hS.2.2.2.2.1
  go_enter Try.func43, Try.ntmps43
  go_upto_if 14 with fail
  go_cut [4] (fun x wx => x = .pointer none ∧ SumAt wx g (crcOf l) true (tabB 256) ∧ But g w wx)
  case first =>
    cases made
    · have hth := hS.there_
      have HS := Lib.hid hS
      have HM := Lib.hid hmt
      have HC := Lib.hid hcell
      have HT := Lib.hid hth
      clear hS hmt hcell hth
      go_wp2_with (first
        | (go_at_call 45; refine (table_any _).mono ?_; rintro e w1 ⟨rfl, hb1⟩; have HS1 := Lib.hid (HS.out.below hb1 HS.out.1); have HB1 := Lib.hid hb1; clear hb1)
        | (refine wpList_store_mid rfl 75 (.tmp 19) (.tmp 17) rfl g 1 tabA rfl rfl (by rw [show tabA.size = 256 by simp [tabA, tabB_size]]; exact HS1.out.there_) (size51 _ (tabB_size 256)) (map_uv_one _) ?_; have hc2 : (w1.setCells g 1 tabA.toList).cell? ⟨g, 257, none⟩ = some (.bool false) := (HS1.out.setTab (tabB 256) (tabB_size 256)).2.2.2.2.1; have hf2 : (w1.setCells g 1 tabA.toList).frozen? ⟨g, 257, none⟩ = false := (HS1.out.setTab (tabB 256) (tabB_size 256)).2.2.2.2.2 257))
      go_meet
      exact ⟨rfl, (HS1.out.setTab (tabB 256) (tabB_size 256)).setMade true, (But.of_below HB1.out).trans ((But.setCells g _ 1 _).trans (But.setCell _ g 257 _))⟩
    · have ht := hmt rfl
      subst ht
      have HS := Lib.hid hS
      clear hS hcell hmt
      go_wp2
      go_meet
      exact ⟨rfl, HS.out, But.refl _ _⟩
  case rest =>
    obtain ⟨rfl, hS1, hB1⟩ := hcut
    clear hS hmt cm
    have hbx : Below w0.heap.size w0 wc := hb.trans (hB1.below hg hb.size)
    have c0 := hS1.2.1
    have f0 := hS1.2.2.2.2.2 0
    have ht := hS1.2.2.1
    have HS := Lib.hid hS1
    have HB := Lib.hid hB1
    have HT := Lib.hid ht
    clear hS1 hB1 hb ht
    have hn0 := not_int (crcOf l)
    rw [not_crc] at hn0
    unfold uv at c0
    have HC := Lib.hid hcell
    have HN := Lib.hid hn0
    clear hcell hn0
    go_wp2
    rw [HN.out]
    go_loop [5, 29] (fun r i => ∃ k : Nat, k ≤ m.length ∧ i = .int .i64 k ∧ r = .int .u32 ((regI (l ++ m.take k)).toNat : Int)) (fun _ i => m.length - (intOf i).toNat)
    case atStart => exact ⟨0, by omega, rfl, by simp⟩
    case round =>
      obtain ⟨k, hk, rfl, rfl⟩ := hrel
      by_cases hlt : k < m.length
      · obtain ⟨b, o, rfl, hbw, hc⟩ := HC.out k hlt
        have hck := (hbx.cell (p := ⟨b, o + k, none⟩) hbw).trans (hc k m[k] (List.getElem?_eq_getElem hlt))
        unfold bv at hck
        clear hc
        obtain ⟨N, hN, hx1, hx2⟩ := add_round (regI (l ++ m.take k)) m[k]
        rw [← regI_snoc l m k hlt] at hx2
        have htc := HT.out N (tabN N) (tabB_done 256 N hN (by omega))
        unfold uv at htc
        have HX := Lib.hid hx2
        clear hx2
        generalize regI (l ++ m.take k) = R at *
        have hR := R.isLt
        generalize m[k] = x at *
        generalize R.toNat = n at *
        generalize x.toNat = y at *
        generalize (tabN N).toNat = T at *
        go_wp2
        go_round
        case rel => exact ⟨k + 1, by omega, by go_num, by rw [HX.out]⟩
        case measure => simp [intOf]; omega
      · have hkk : k = m.length := by omega
        subst hkk
        rw [List.take_length]
        have hx := not_int (regI (l ++ m))
        rw [not_regI] at hx
        have hS2 := HS.out.setReg (crcOf (l ++ m))
        have HS2 := Lib.hid hS2
        unfold uv at HS2
        clear hS2
        go_wp2
        go_ret
        exact ⟨rfl, ⟨true, tabB 256, fun _ => rfl, HS2.out⟩, HB.out.trans (But.setCell _ g 0 _)⟩

end Go.Proofs.Ytkdfedcmhcchiaa
