/-
  hedgerowlaw03.CrcTurned: the walk: for all bytes, places and patterns the call returns true, and nothing that was there has turned. Conditions: none.
-/
import Derived.Test.YtoihfcojnbegcaaCrcTells
import Derived.Laws.OwnMore
namespace Go.Proofs.Ytoihfcojnbegcaa
open Go.RowKit

theorem zip_set (b l : List UInt8) (h : l.length = b.length) (j : Nat) (hj : j < l.length) (m : UInt8) :
    List.zipWith (· ^^^ ·) b (l.set j (l[j] ^^^ m)) = (List.zipWith (· ^^^ ·) b l).set j ((List.zipWith (· ^^^ ·) b l)[j]'(by simp; omega) ^^^ m) := by
  induction b generalizing l j with
  | nil => simp at h; subst h; simp at hj
  | cons x b ih =>
    cases l with
    | nil => simp at hj
    | cons y l =>
      cases j with
      | zero => simp [UInt8.xor_assoc]
      | succ j =>
        simp only [List.set_cons_succ, List.getElem_cons_succ, List.zipWith_cons_cons]
        rw [ih l (by simpa using h) j (by simpa using hj)]
theorem pow_bit (s : Nat) (h : s < 8) : ((1 : UInt8) <<< UInt8.ofNat s).toNat = 2 ^ s := by
  have : ∀ s : Fin 8, ((1 : UInt8) <<< UInt8.ofNat s.val).toNat = 2 ^ s.val := by decide
  exact this ⟨s, h⟩
theorem turn_step (b l : List UInt8) (h : l.length = b.length) (p k q : Nat) (hl : p + k < 8 * l.length) (hq : q < 2 ^ k) (hn : num (List.zipWith (· ^^^ ·) b l) = 2 ^ p * q) (m : UInt8) (hm : m.toNat = 2 ^ ((p + k) % 8)) :
    ∃ q', q' ≠ 0 ∧ q' < 2 ^ (k + 1) ∧ num (List.zipWith (· ^^^ ·) b (l.set ((p + k) / 8) (l[(p + k) / 8]'(by omega) ^^^ m))) = 2 ^ p * q' := by
  refine ⟨q ^^^ 2 ^ k, ?_, Nat.xor_lt_two_pow (by rw [Nat.pow_succ]; omega) (by rw [Nat.pow_succ]; have := Nat.two_pow_pos k; omega), ?_⟩
  · intro e
    have := congrArg (fun x => Nat.testBit x k) e
    simp [Nat.testBit_xor, Nat.testBit_lt_two_pow hq, Nat.testBit_two_pow_self] at this
  · rw [zip_set b l h _ (by omega), num_set _ _ (by simp; omega), hn, mul_xor, hm, ← Nat.pow_add, ← Nat.pow_add, Nat.div_add_mod]

theorem xor_bv (x m : UInt8) (s : Nat) (hm : m.toNat = 2 ^ s) : Value.int .u8 (bits .xor .u8 (x.toNat : Int) (2 ^ s % 256)) = bv (x ^^^ m) := by
  have hm2 := m.toNat_lt
  have h1 : (2 : Int) ^ s = ((2 ^ s : Nat) : Int) := by rw [Int.natCast_pow]; rfl
  have e : ((2 : Int) ^ s % 256) = (m.toNat : Int) := by rw [h1, ← hm]; omega
  unfold bv
  rw [e, u8_xor_nat _ _ x.toNat_lt hm2, UInt8.toNat_xor]
theorem num_same (b : List UInt8) : num (List.zipWith (· ^^^ ·) b b) = 0 := by
  induction b with
  | nil => rfl
  | cons x b ih =>
    simp only [List.zipWith_cons_cons, num]
    rw [ih, UInt8.xor_self]; rfl

set_option maxRecDepth 100000 in
set_option maxHeartbeats 2000000 in
theorem turned_walk (va : Value) (b : List UInt8) (at_ : Nat) (s : BitVec 32) (w : World) (ha : Sl bv w va b) (hla : b.length ≤ 140737488355328) (hat : at_ < 65536) :
    Calls Try.prog 4 #[va, .int .u16 at_, uv s] w (Law w) := by
  have hfx := cfixed_any w
  have HFX := Lib.hid hfx; clear hfx
  have HA := Lib.hid ha
  obtain ⟨A1, c1, rfl⟩ := ha.form
  clear ha
  unfold uv
  have hs := s.isLt
  generalize hsn : s.toNat = n at *
  by_cases h1 : 500 < b.length
  · go_enter Try.func4, Try.ntmps4
    go_wp2_with fail
    refine HFX.out.mono ?_
    rintro e w1 ⟨rfl, hb1⟩
    go_wp2
    go_ret
    exact ⟨rfl, hb1⟩
  by_cases h2 : n = 0
  · subst h2
    go_enter Try.func4, Try.ntmps4
    go_wp2_with fail
    refine HFX.out.mono ?_
    rintro e w1 ⟨rfl, hb1⟩
    go_wp2
    go_ret
    exact ⟨rfl, hb1⟩
  have hn0 : ((n : Int) == 0) = false := by rw [beq_eq_false_iff_ne]; omega
  go_enter Try.func4, Try.ntmps4
  go_wp2_with fail
  refine HFX.out.mono ?_
  rintro e w1 ⟨rfl, hb1⟩
  obtain ⟨v2, w2, hr2, ho2, hb2⟩ := append_fresh w1 _ b (HA.out.below hb1) (by omega)
  have HW := Lib.hid hb1
  have HR2 := Lib.hid hr2
  have HO2 := Lib.hid ho2
  have HB2 := Lib.hid hb2
  clear hb1 hr2 ho2 hb2
  obtain ⟨A2, c2, rfl⟩ := (Sl.of_own HO2.out).form
  go_wp2_with (at_builtin; refine Lib.wpList_append_run _ rfl _ _ _ _ rfl _ _ rfl rfl _ _ HR2.out ?_)
  obtain ⟨p, hp, hpl⟩ : ∃ p : Nat, (at_ : Int) % (8 * (b.length : Int) + 1) = (p : Int) ∧ p ≤ 8 * b.length := ⟨at_ % (8 * b.length + 1), by simp [Int.natCast_emod], by have := Nat.mod_lt at_ (show 8 * b.length + 1 > 0 by omega); omega⟩
  go_loopw [8, 23] (fun sm i wr => ∃ (k q : Nat) (l : List UInt8), k ≤ 32 ∧ i = .int .i64 k ∧ sm = .bool (decide (q ≠ 0)) ∧ q < 2 ^ k ∧ l.length = b.length ∧ num (List.zipWith (· ^^^ ·) b l) = 2 ^ p * q ∧ wr.ownsRow w1.heap.size 5 1 (.slice A2 b.length c2) b.length (bs l) ∧ Below w1.heap.size w1 wr) (fun _ i _ => 32 - (intOf i).toNat)
  case atStart => exact ⟨0, 0, b, by omega, rfl, rfl, by omega, rfl, by rw [num_same, Nat.mul_zero], HO2.out, HB2.out⟩
  case round =>
    obtain ⟨k, q, l, hk, rfl, rfl, hq, hl, hz, ho, hb⟩ := hrel
    have HQ := Lib.hid hq
    have HZ := Lib.hid hz
    have HO := Lib.hid ho
    have HB := Lib.hid hb
    have HL := Lib.hid hl
    clear hq hz ho hb hl
    by_cases hlt : k < 32
    · cases hbit : (bits .and .u32 ((n : Int) / 2 ^ k) 1 == 0)
      · by_cases hpk : p + k < 8 * b.length
        · obtain ⟨g, hg⟩ : ∃ g, A2 = some ⟨g, 0, none⟩ := by
            rcases HO.out.2 with ⟨h, h'⟩ | ⟨g, cap, cur, h, _⟩
            · omega
            · injection h with h _ _; exact ⟨g, h⟩
          subst hg
          have hj : (p + k) / 8 < l.length := by have := HL.out; omega
          have hck := HO.out.cellAt ((p + k) / 8) (by have := HL.out; omega)
          have hbs : (bs l)[(p + k) / 8]? = some (bv l[(p + k) / 8]) := by simp [bs, hj]
          rw [hbs] at hck
          have hfz := HO.out.frozenAt ((p + k) / 8)
          unfold bv at hck
          clear hbs
          have hl := HL.out
          obtain ⟨m, hm⟩ : ∃ m : UInt8, m.toNat = 2 ^ ((p + k) % 8) := ⟨_, pow_bit _ (Nat.mod_lt _ (by omega))⟩
          obtain ⟨q', hq0, hq1, hq2⟩ := turn_step b l hl p k q (by omega) HQ.out HZ.out m hm
          have hst := HO.out.stored ((p + k) / 8) (bv (l[(p + k) / 8] ^^^ m))
          have hset : (bs l).set ((p + k) / 8) (bv (l[(p + k) / 8] ^^^ m)) = bs (l.set ((p + k) / 8) (l[(p + k) / 8] ^^^ m)) := by unfold bs; rw [List.map_set]
          rw [hset] at hst
          have hxb := xor_bv l[(p + k) / 8] m _ hm
          have hle : (l.set ((p + k) / 8) (l[(p + k) / 8] ^^^ m)).length = b.length := by rw [List.length_set, hl]
          have HS := Lib.hid hst
          have HX := Lib.hid hxb
          have HN := Lib.hid hq2
          have HE := Lib.hid hle
          have HQ1 := Lib.hid hq1
          clear hst hset hxb hq2 hle hm hq1
          have hx := (l[(p + k) / 8]).toNat_lt
          generalize (l[(p + k) / 8]).toNat = y at *
          go_wp2_with fail
          go_roundw
          case rel =>
            rw [HX.out]
            have hgb : w1.heap.size ≤ g := (HO.out.lt g rfl).1
            exact ⟨k + 1, q', _, by omega, by go_num, by simp [hq0], HQ1.out, HE.out, HN.out, HS.out.1, HB.out.setCell (p := ⟨g, (p + k) / 8, none⟩) hgb _⟩
          case measure => simp [intOf]; omega
        · go_wp2_with fail
          go_roundw
          case rel => exact ⟨k + 1, q, l, by omega, by go_num, rfl, Nat.lt_of_lt_of_le HQ.out (Nat.pow_le_pow_right (by omega) (by omega)), HL.out, HZ.out, HO.out, HB.out⟩
          case measure => simp [intOf]; omega
      · go_wp2_with fail
        go_roundw
        case rel => exact ⟨k + 1, q, l, by omega, by go_num, rfl, Nat.lt_of_lt_of_le HQ.out (Nat.pow_le_pow_right (by omega) (by omega)), HL.out, HZ.out, HO.out, HB.out⟩
        case measure => simp [intOf]; omega
    · have hkk : k = 32 := by omega
      subst hkk
      by_cases hq0 : q = 0
      · subst hq0
        go_wp2
        go_ret
        exact ⟨rfl, HW.out.trans (HB.out.mono HW.out.size)⟩
      · have hne : crcOf l ≠ crcOf b := fun e => crc_burst b l HL.out.symm p q hpl hq0 (by simpa using HQ.out) HZ.out e.symm
        have hn1 : ((crcOf l).toNat : Int) ≠ ((crcOf b).toNat : Int) := fun e => hne (BitVec.eq_of_toNat_eq (by omega))
        have ht1 : (((crcOf l).toNat : Int) == ((crcOf b).toNat : Int)) = false := by rw [beq_eq_false_iff_ne]; exact hn1
        have ht2 : (((crcOf l).toNat : Int) != ((crcOf b).toNat : Int)) = true := by rw [bne, ht1]; rfl
        have hd : decide (q ≠ 0) = true := by simp [hq0]
        rw [hd]
        have hsl := Sl.of_own HO.out
        have HSL := Lib.hid hsl
        have HNE := Lib.hid hn1
        have HT1 := Lib.hid ht1
        have HT2 := Lib.hid ht2
        clear hne hsl hd hn1 ht1 ht2
        have hbl := HB.out
        go_wp2_with fail
        refine (of_any _ l _ HSL.out (by have := HL.out; omega)).mono ?_
        rintro e w3 ⟨he, hb3⟩
        unfold uv at he
        subst he
        have HB3 := Lib.hid (hbl.trans (hb3.mono hbl.size))
        clear hb3 hbl
        go_wp2_with fail
        refine (of_any _ b _ ((HA.out.below HW.out).below HB3.out) (by omega)).mono ?_
        rintro e w4 ⟨he, hb4⟩
        unfold uv at he
        subst he
        have HB4 := Lib.hid (HB3.out.trans (hb4.mono HB3.out.size))
        clear hb4
        have ht1 := HT1.out
        have ht2 := HT2.out
        generalize (crcOf l).toNat = x at *
        generalize (crcOf b).toNat = y at *
        go_wp2
        go_ret
        exact ⟨rfl, HW.out.trans (HB4.out.mono HW.out.size)⟩

end Go.Proofs.Ytoihfcojnbegcaa
