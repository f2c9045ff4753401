/-
  hedgerowref01.Digits of greater numbers: the contract, by a walk. hedgerowref18: in, Words, Signs, run, text: the contracts, by walks. Conditions: lengths.
-/
import Derived.Test.YtmmphgapginmjaaGreatDoorValDigits
import Derived.Test.YtmmphgapginmjaaGreatDoorJLxFix
import Derived.Test.YtmmphgapginmjaaGreatDoorLxRefM
import Derived.Test.YtmmphgapginmjaaGreatDoorValRefParse
namespace Go.Proofs.YtmmphgapginmjaaGreatDoor
open Go.RowKit

theorem itoa_wide (n : Int) (h1 : -100000000000000000 ≤ n) (h2 : n ≤ 100000000000000000) : (Lib.itoa n).length ≤ 19 := by
  unfold Lib.itoa
  split
  · have := digs_len 17 n.natAbs (by omega)
    simp only [List.length_cons]
    first | omega | (simp at this ⊢; omega)
  · have := digs_len 17 n.natAbs (by omega)
    first | omega | (have := digs_len 17 n.toNat (by omega); omega)

set_option maxRecDepth 100000 in
set_option maxHeartbeats 4000000 in
theorem digits_wide (k : Nat) : ∀ (n : Int) (w : World), n.natAbs < 10 ^ (k + 1) → n.natAbs ≤ 100000000000000000 → Calls Tryz.prog 32 #[.int .i64 n] w (Gives w (sv (Lib.itoa n))) := by
  induction k with
  | zero =>
    intro n w hk _
    rw [Nat.zero_add, Nat.pow_one] at hk
    by_cases hn : n < 0
    · obtain ⟨m, hm⟩ : ∃ m : Nat, m = n.natAbs := ⟨_, rfl⟩
      have hi : Lib.itoa n = [45, UInt8.ofNat (48 + m)] := by rw [show n = -(m : Int) by omega]; exact itoa_low m (by omega) (by omega)
      have hr := run_digit m (by omega) (48 - n) (by omega)
      rw [hi]
      have h10 : -10 < n := by omega
      generalize UInt8.ofNat (48 + m) = dg at *
      unfold sv
      clear hi hm hk
      go_enter Tryz.func32, Tryz.ntmps32
      go_wp2
      go_ret
      exact ⟨by congr 2, alloc_below _ _⟩
    · obtain ⟨m, hm⟩ : ∃ m : Nat, m = n.natAbs := ⟨_, rfl⟩
      have hi : Lib.itoa n = [UInt8.ofNat (48 + m)] := by rw [show n = (m : Int) by omega]; exact itoa_one m (by omega)
      have hr := run_digit m (by omega) (48 + n) (by omega)
      rw [hi]
      have h10 : n < 10 := by omega
      generalize UInt8.ofNat (48 + m) = dg at *
      unfold sv
      clear hi hm hk
      go_enter Tryz.func32, Tryz.ntmps32
      go_wp2
      go_ret
      exact ⟨rfl, alloc_below _ _⟩
  | succ k ih =>
    intro n w hk hbig
    by_cases hsm : n.natAbs < 10 ^ (k + 1)
    · exact ih n w hsm hbig
    · have h10 : ¬ n.natAbs < 10 := by
        have : 10 ^ 1 ≤ 10 ^ (k + 1) := Nat.pow_le_pow_right (by omega) (by omega)
        omega
      have hk2 : n.natAbs / 10 < 10 ^ (k + 1) := by rw [Nat.pow_succ] at hk; omega
      have hb2 : n.natAbs / 10 ≤ 100000000000000000 := by omega
      obtain ⟨m, hm⟩ : ∃ m : Nat, m = n.natAbs := ⟨_, rfl⟩
      by_cases hn : n < 0
      · obtain ⟨q, hq⟩ : ∃ q : Int, q = n.tdiv 10 := ⟨_, rfl⟩
        obtain ⟨r, hr⟩ : ∃ r : Int, r = n.tmod 10 := ⟨_, rfl⟩
        have hqn : q = -((m / 10 : Nat) : Int) := by rw [hq, show n = -(m : Int) by omega, Int.neg_tdiv, Int.tdiv_eq_ediv_of_nonneg (by omega)]; rfl
        have hrn : r = -((m % 10 : Nat) : Int) := by rw [hr, show n = -(m : Int) by omega, Int.neg_tmod, Int.tmod_eq_emod_of_nonneg (by omega)]; rfl
        have hi : Lib.itoa n = Lib.itoa q ++ [UInt8.ofNat (48 + m % 10)] := by rw [hqn, show n = -(m : Int) by omega]; exact itoa_down m (by omega)
        have hd := run_digit (m % 10) (Nat.mod_lt _ (by omega)) (48 - r) (by omega)
        have hdd := run_digit2 (m % 10) (Nat.mod_lt _ (by omega)) (48 - r) (by omega)
        have hsl := sl_digit (m % 10) (Nat.mod_lt _ (by omega)) (48 - r) (by omega)
        have hih := fun W => ih q W (by rw [hqn]; omega) (by rw [hqn]; omega)
        have hql := itoa_wide q (by omega) (by omega)
        have hql2 : (ByteArray.mk (Lib.itoa q).toArray).size ≤ 1000 := by rw [show (ByteArray.mk (Lib.itoa q).toArray).size = (Lib.itoa q).length by simp [ByteArray.size]]; omega
        rw [hi]
        generalize UInt8.ofNat (48 + m % 10) = dg at *
        generalize Lib.itoa q = L at *
        have hr1 : -9 ≤ r := by omega
        have hr2 : r ≤ 0 := by omega
        have hq3 : n.tdiv 10 = q := hq.symm
        have hr3 : n.tmod 10 = r := hr.symm
        have t1 : IntKind.i64.wrap q = q := IntWalk.i64_in _ (by omega)
        have t2 : IntKind.i64.wrap (48 - r) = 48 - r := IntWalk.i64_in _ (by omega)
        have t3 : IntKind.u8.wrap (48 - r) = 48 - r := by rw [IntKind.wrap_u8']; omega
        have h11 : ¬ -10 < n := by omega
        have hdl : (ByteArray.mk #[dg]).size ≤ 1000 := by rw [show (ByteArray.mk #[dg]).size = 1 from rfl]; omega
        have hsum : ¬ 9223372036854775807 < (ByteArray.mk L.toArray).size + (ByteArray.mk #[dg]).size := by omega
        have HIH := Lib.hid hih
        have HSL := Lib.hid hsl
        clear hsl hi hm hk hbig hsm h10 hk2 hb2 hqn hrn hih hql ih hq hr
        unfold sv at HIH ⊢
        go_enter Tryz.func32, Tryz.ntmps32
        go_wp2_with fail
        go_region_with (first
          | (go_at_call 32; refine (HIH.out _).mono ?_; rintro e w2 ⟨rfl, hb2⟩; (first | (have hd2 := run_string_sl (P := Tryz.prog) w2 55 9 5 Tryz.underlying55 Tryz.underlying5 Tryz.underlying9 _ _ ((HSL.out w).drew.below hb2)) | skip); have HB2 := Lib.hid hb2; clear hb2))
        all_goals clear t1 t2 t3
        all_goals go_wp2
        all_goals go_ret
        all_goals refine ⟨congrArg (fun x => Ending.returned (Value.string x)) (str_sum L [dg]), ?_⟩
        all_goals first
          | exact ((Below.refl w.heap.size w).drew.trans HB2.out).alloc HB2.out.size _
          | exact (alloc_below w _).drew.trans (HB2.out.mono (by show w.heap.size ≤ (w.alloc _).heap.size; rw [alloc_size']; omega))
      · obtain ⟨q, hq⟩ : ∃ q : Int, q = n.tdiv 10 := ⟨_, rfl⟩
        obtain ⟨r, hr⟩ : ∃ r : Int, r = n.tmod 10 := ⟨_, rfl⟩
        have hqn : q = ((m / 10 : Nat) : Int) := by rw [hq, show n = (m : Int) by omega, Int.tdiv_eq_ediv_of_nonneg (by omega)]; rfl
        have hrn : r = ((m % 10 : Nat) : Int) := by rw [hr, show n = (m : Int) by omega, Int.tmod_eq_emod_of_nonneg (by omega)]; rfl
        have hi : Lib.itoa n = Lib.itoa q ++ [UInt8.ofNat (48 + m % 10)] := by rw [hqn, show n = (m : Int) by omega]; exact itoa_up m (by omega)
        have hd := run_digit (m % 10) (Nat.mod_lt _ (by omega)) (48 + r) (by omega)
        have hdd := run_digit2 (m % 10) (Nat.mod_lt _ (by omega)) (48 + r) (by omega)
        have hsl := sl_digit (m % 10) (Nat.mod_lt _ (by omega)) (48 + r) (by omega)
        have hih := fun W => ih q W (by rw [hqn]; omega) (by rw [hqn]; omega)
        have hql := itoa_wide q (by omega) (by omega)
        have hql2 : (ByteArray.mk (Lib.itoa q).toArray).size ≤ 1000 := by rw [show (ByteArray.mk (Lib.itoa q).toArray).size = (Lib.itoa q).length by simp [ByteArray.size]]; omega
        rw [hi]
        generalize UInt8.ofNat (48 + m % 10) = dg at *
        generalize Lib.itoa q = L at *
        have hr1 : r ≤ 9 := by omega
        have hr2 : 0 ≤ r := by omega
        have hq3 : n.tdiv 10 = q := hq.symm
        have hr3 : n.tmod 10 = r := hr.symm
        have t1 : IntKind.i64.wrap q = q := IntWalk.i64_in _ (by omega)
        have t2 : IntKind.i64.wrap (48 + r) = 48 + r := IntWalk.i64_in _ (by omega)
        have t3 : IntKind.u8.wrap (48 + r) = 48 + r := by rw [IntKind.wrap_u8']; omega
        have h11 : ¬ n < 10 := by omega
        have hdl : (ByteArray.mk #[dg]).size ≤ 1000 := by rw [show (ByteArray.mk #[dg]).size = 1 from rfl]; omega
        have hsum : ¬ 9223372036854775807 < (ByteArray.mk L.toArray).size + (ByteArray.mk #[dg]).size := by omega
        have HIH := Lib.hid hih
        have HSL := Lib.hid hsl
        clear hsl hi hm hk hbig hsm h10 hk2 hb2 hqn hrn hih hql ih hq hr
        unfold sv at HIH ⊢
        go_enter Tryz.func32, Tryz.ntmps32
        go_wp2_with fail
        go_region_with (first
          | (go_at_call 32; refine (HIH.out _).mono ?_; rintro e w2 ⟨rfl, hb2⟩; (first | (have hd2 := run_string_sl (P := Tryz.prog) w2 55 9 5 Tryz.underlying55 Tryz.underlying5 Tryz.underlying9 _ _ ((HSL.out w).drew.below hb2)) | skip); have HB2 := Lib.hid hb2; clear hb2))
        all_goals clear t1 t2 t3
        all_goals go_wp2
        all_goals go_ret
        all_goals refine ⟨congrArg (fun x => Ending.returned (Value.string x)) (str_sum L [dg]), ?_⟩
        all_goals first
          | exact ((Below.refl w.heap.size w).drew.trans HB2.out).alloc HB2.out.size _
          | exact (alloc_below w _).drew.trans (HB2.out.mono (by show w.heap.size ≤ (w.alloc _).heap.size; rw [alloc_size']; omega))

end Go.Proofs.YtmmphgapginmjaaGreatDoor

namespace Go.Proofs.YtmmphgapginmjaaGreatDoor
open Go.RowKit

set_option maxRecDepth 100000 in
set_option maxHeartbeats 1000000 in
theorem rwords_any (w : World) : Calls Tryz.prog 30 #[] w fun e w' => e = .returned (.slice (some ⟨w.heap.size, 0, none⟩) 26 26) ∧ w' = w.alloc (.cells (strA Lx.words) 9) := by
  go_enter Tryz.func30, Tryz.ntmps30
  go_wp2_with fail
  go_ret
  exact ⟨rfl, rfl⟩
set_option maxRecDepth 100000 in
set_option maxHeartbeats 1000000 in
theorem rsigns_any (w : World) : Calls Tryz.prog 28 #[] w fun e w' => e = .returned (.slice (some ⟨w.heap.size, 0, none⟩) 20 20) ∧ w' = w.alloc (.cells (strA Lx.signs) 9) := by
  go_enter Tryz.func28, Tryz.ntmps28
  go_wp2_with fail
  go_ret
  exact ⟨rfl, rfl⟩
theorem eq_str (a : ByteArray) (b : List UInt8) : (a.toList == (ByteArray.mk b.toArray).toList) = decide (a.data.toList = b) := by
  rw [Lib.toList_data, Lib.toList_data]
  show (a.data.toList == b.toArray.toList) = _
  by_cases h : a.data.toList = b
  · rw [decide_eq_true h, h]; exact beq_self_eq_true _
  · rw [decide_eq_false h]; exact beq_eq_false_iff_ne.2 (by simpa using h)
set_option maxHeartbeats 2000000 in
theorem rin_any (L : List (List UInt8)) (x : List UInt8) (b n : Nat) (w : World) (hn : L.length = n) (hN : n ≤ 1000) (hB : Blk w b 9 (strA L)) :
    Calls Tryz.prog 27 #[.slice (some ⟨b, 0, none⟩) n n, .string ⟨x.toArray⟩] w (SameV w (.bool (L.contains x))) := by
  have HN := Lib.hid (And.intro hn hN)
  have HB := Lib.hid hB
  obtain ⟨q, hq⟩ : ∃ q, L.contains x = q := ⟨_, rfl⟩
  rw [hq]
  have HQ := Lib.hid hq
  clear hn hN hB hq
  go_enter Tryz.func27, Tryz.ntmps27
  go_wp2_with fail
  go_loopw [9] (fun v9 wr => ∃ k : Nat, v9 = .int .i64 (k : Nat) ∧ k ≤ n ∧ wr = w ∧ ∀ j (h : j < L.length), j < k → L[j]'h ≠ x) (fun v9 _ => n - (intOf v9).toNat)
  case atStart => exact ⟨0, rfl, Nat.zero_le _, rfl, fun j _ h => absurd h (Nat.not_lt_zero j)⟩
  case round =>
    obtain ⟨k, rfl, hk, rfl, hno⟩ := hrel
    have HNo := Lib.hid hno
    clear hno
    by_cases hlt : k < n
    · have hkl : k < L.length := by rw [HN.out.1]; exact hlt
      have hcell := strA_cell HB.out hkl
      obtain ⟨one, hone⟩ : ∃ one, L[k]'hkl = one := ⟨_, rfl⟩
      rw [hone] at hcell
      have he := str_inj (a := one) (b := x)
      obtain ⟨k1, hk1⟩ : ∃ k1, k + 1 = k1 := ⟨_, rfl⟩
      have HK := Lib.hid (And.intro hk1 hlt)
      have hw1 : wrap64 ((k : Int) + 1) = (k1 : Int) := by have := HN.out; rw [IntWalk.wrap64_in _ ⟨by omega, by omega⟩]; omega
      have hkn : (k : Int) < (n : Int) := by omega
      have hk0 : (0 : Int) ≤ (k : Int) := by omega
      by_cases hx : one = x
      · have HF := Lib.hid (show q = true by rw [← HQ.out]; exact List.contains_iff_mem.2 (by rw [← hx, ← hone]; exact List.getElem_mem hkl))
        rw [decide_eq_true hx] at he
        clear hx hone hkl hk hk1 hlt
        generalize (ByteArray.mk one.toArray) = X at *
        generalize (ByteArray.mk x.toArray) = Y at *
        go_wp2_with fail
        go_ret
        exact ⟨by rw [HF.out]; rfl, rfl⟩
      · rw [decide_eq_false hx] at he
        have HNx := Lib.hid (show ∀ j (h : j < L.length), j < k1 → L[j]'h ≠ x from fun j h hj => by
          by_cases hjk : j = k
          · subst hjk; rw [hone]; exact hx
          · exact HNo.out j h (by omega))
        clear hx hone hkl hk hk1 hlt
        generalize (ByteArray.mk one.toArray) = X at *
        generalize (ByteArray.mk x.toArray) = Y at *
        go_wp2_with fail
        go_roundw
        case rel => exact ⟨k1, by first | rfl | rw [hw1] | exact congrArg (Value.int .i64) (by have := HK.out; omega), by have := HK.out; omega, by first | trivial | rfl, HNx.out⟩
        case measure =>
          have := HK.out
          (try rw [hw1])
          show n - (intOf (.int .i64 _)).toNat < n - (intOf (.int .i64 _)).toNat
          simp only [intOf, Int.toNat_natCast]
          omega
    · have hkn : k = n := by omega
      have HF := Lib.hid (show q = false by
        cases hq : q with
        | false => rfl
        | true =>
          rw [← HQ.out] at hq
          obtain ⟨j, hj, he⟩ := List.mem_iff_getElem.1 (List.contains_iff_mem.1 hq)
          exact absurd he (HNo.out j hj (by have := HN.out; omega)))
      have hkk : ¬ (k : Int) < (n : Int) := by omega
      clear hlt hkn hk
      go_wp2_with fail
      go_ret
      exact ⟨by rw [HF.out]; rfl, rfl⟩

end Go.Proofs.YtmmphgapginmjaaGreatDoor
