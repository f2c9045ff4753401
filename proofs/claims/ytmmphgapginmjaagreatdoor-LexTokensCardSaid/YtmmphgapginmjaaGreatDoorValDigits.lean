/-
  hedgerowref01.Digits: the contract, by a walk. Conditions: a bound on the number.
-/
import Derived.Test.YtmmphgapginmjaaGreatDoorValString
import Derived.Test.YtmmphgapginmjaaGreatDoorValNum
import Derived.Test.YtmmphgapginmjaaGreatDoorStrLaid
import Derived.Deep.RegionWith
import Derived.Deep.DeepCutAuto
namespace Go.Proofs.YtmmphgapginmjaaGreatDoor
open Go.RowKit

/-- One digit, laid and read as a string. -/
theorem run_digit (d : Nat) (hd : d < 10) (z : Int) (hz : z = 48 + d) (W : World) : (convert 55 9 (.slice (some ⟨W.heap.size, 0, none⟩) 1 1)).run Tryz.prog (W.alloc (.cells #[.int .u8 z] 5)) = .ok (.string ⟨#[UInt8.ofNat (48 + d)]⟩) (W.alloc (.cells #[.int .u8 z] 5)) := by
  have hs : Sl bv (W.alloc (.cells #[.int .u8 z] 5)) (.slice (some ⟨W.heap.size, 0, none⟩) 1 1) [UInt8.ofNat (48 + d)] := sl_laid W _ _ _ 1 rfl (by
    simp only [bs, bv, List.map_cons, List.map_nil, dig_nat d hd, hz]; rfl)
  exact run_string_sl (P := Tryz.prog) _ 55 9 5 Tryz.underlying55 Tryz.underlying5 Tryz.underlying9 _ _ hs

theorem sl_digit (d : Nat) (hd : d < 10) (z : Int) (hz : z = 48 + d) (W : World) : Sl bv (W.alloc (.cells #[.int .u8 z] 5)) (.slice (some ⟨W.heap.size, 0, none⟩) 1 1) [UInt8.ofNat (48 + d)] := sl_laid W _ _ _ 1 rfl (by
  simp only [bs, bv, List.map_cons, List.map_nil, dig_nat d hd, hz]; rfl)
theorem run_digit2 (d : Nat) (hd : d < 10) (z : Int) (hz : z = 48 + d) (W : World) : (convert 55 9 (.slice (some ⟨W.heap.size, 0, none⟩) 1 1)).run Tryz.prog (W.alloc (.cells #[.int .u8 z] 5)).drew = .ok (.string ⟨#[UInt8.ofNat (48 + d)]⟩) (W.alloc (.cells #[.int .u8 z] 5)).drew :=
  run_string_sl (P := Tryz.prog) _ 55 9 5 Tryz.underlying55 Tryz.underlying5 Tryz.underlying9 _ _ (sl_digit d hd z hz W).drew
theorem alloc_size' (w : World) (o : Obj) : (w.alloc o).heap.size = w.heap.size + 1 := by simp
theorem str_sum (a b : List UInt8) : (ByteArray.mk a.toArray) ++ (ByteArray.mk b.toArray) = ⟨(a ++ b).toArray⟩ := by rw [ByteArray.mk_append_mk]
theorem itoa_low (m : Nat) (h0 : 0 < m) (h : m < 10) : Lib.itoa (-(m : Int)) = [45, UInt8.ofNat (48 + m)] := by
  unfold Lib.itoa
  rw [if_pos (by omega), show (-(m : Int)).natAbs = m by omega, digs_small m h]
theorem itoa_down (m : Nat) (h : ¬ m < 10) : Lib.itoa (-(m : Int)) = Lib.itoa (-((m / 10 : Nat) : Int)) ++ [UInt8.ofNat (48 + m % 10)] := by
  unfold Lib.itoa
  rw [if_pos (by omega), if_pos (by omega), show (-(m : Int)).natAbs = m by omega, show (-((m / 10 : Nat) : Int)).natAbs = m / 10 by omega, digs_big m h]; rfl
theorem itoa_one (m : Nat) (h : m < 10) : Lib.itoa (m : Int) = [UInt8.ofNat (48 + m)] := by
  unfold Lib.itoa
  rw [if_neg (by omega), Int.toNat_natCast, digs_small m h]
theorem itoa_up (m : Nat) (h : ¬ m < 10) : Lib.itoa (m : Int) = Lib.itoa ((m / 10 : Nat) : Int) ++ [UInt8.ofNat (48 + m % 10)] := by
  unfold Lib.itoa
  rw [if_neg (by omega), if_neg (by omega), Int.toNat_natCast, Int.toNat_natCast, digs_big m h]

set_option maxRecDepth 100000 in
set_option maxHeartbeats 4000000 in
theorem digits_any (k : Nat) : ∀ (n : Int) (w : World), n.natAbs < 10 ^ (k + 1) → n.natAbs ≤ 1099511627776 → Calls Tryz.prog 32 #[.int .i64 n] w (Gives w (sv (Lib.itoa n))) := by
  induction k with
  | zero =>
    intro n w hk _
    rw [Nat.zero_add, Nat.pow_one] at hk
    by_cases hn : n < 0
    · obtain ⟨m, hm⟩ : ∃ m : Nat, m = n.natAbs := ⟨_, rfl⟩
      have hi : Lib.itoa n = [45, UInt8.ofNat (48 + m)] := by rw [show n = -(m : Int) by omega]; exact itoa_low m (by omega) (by omega)
      have hr := run_digit m (by omega) (48 - n) (by omega)
      rw [hi]
      have h10 : -10 < n := by omega
      generalize UInt8.ofNat (48 + m) = dg at *
      unfold sv
      clear hi hm hk
      go_enter Tryz.func32, Tryz.ntmps32
      go_wp2
      go_ret
      exact ⟨by congr 2, alloc_below _ _⟩
    · obtain ⟨m, hm⟩ : ∃ m : Nat, m = n.natAbs := ⟨_, rfl⟩
      have hi : Lib.itoa n = [UInt8.ofNat (48 + m)] := by rw [show n = (m : Int) by omega]; exact itoa_one m (by omega)
      have hr := run_digit m (by omega) (48 + n) (by omega)
      rw [hi]
      have h10 : n < 10 := by omega
      generalize UInt8.ofNat (48 + m) = dg at *
      unfold sv
      clear hi hm hk
      go_enter Tryz.func32, Tryz.ntmps32
      go_wp2
      go_ret
      exact ⟨rfl, alloc_below _ _⟩
  | succ k ih =>
    intro n w hk hbig
    by_cases hsm : n.natAbs < 10 ^ (k + 1)
    · exact ih n w hsm hbig
    · have h10 : ¬ n.natAbs < 10 := by
        have : 10 ^ 1 ≤ 10 ^ (k + 1) := Nat.pow_le_pow_right (by omega) (by omega)
        omega
      have hk2 : n.natAbs / 10 < 10 ^ (k + 1) := by rw [Nat.pow_succ] at hk; omega
      have hb2 : n.natAbs / 10 ≤ 1099511627776 := by omega
      obtain ⟨m, hm⟩ : ∃ m : Nat, m = n.natAbs := ⟨_, rfl⟩
      by_cases hn : n < 0
      · obtain ⟨q, hq⟩ : ∃ q : Int, q = n.tdiv 10 := ⟨_, rfl⟩
        obtain ⟨r, hr⟩ : ∃ r : Int, r = n.tmod 10 := ⟨_, rfl⟩
        have hqn : q = -((m / 10 : Nat) : Int) := by rw [hq, show n = -(m : Int) by omega, Int.neg_tdiv, Int.tdiv_eq_ediv_of_nonneg (by omega)]; rfl
        have hrn : r = -((m % 10 : Nat) : Int) := by rw [hr, show n = -(m : Int) by omega, Int.neg_tmod, Int.tmod_eq_emod_of_nonneg (by omega)]; rfl
        have hi : Lib.itoa n = Lib.itoa q ++ [UInt8.ofNat (48 + m % 10)] := by rw [hqn, show n = -(m : Int) by omega]; exact itoa_down m (by omega)
        have hd := run_digit (m % 10) (Nat.mod_lt _ (by omega)) (48 - r) (by omega)
        have hdd := run_digit2 (m % 10) (Nat.mod_lt _ (by omega)) (48 - r) (by omega)
        have hsl := sl_digit (m % 10) (Nat.mod_lt _ (by omega)) (48 - r) (by omega)
        have hih := fun W => ih q W (by rw [hqn]; omega) (by rw [hqn]; omega)
        have hql := itoa_len q (by omega) (by omega)
        have hql2 : (ByteArray.mk (Lib.itoa q).toArray).size ≤ 1000 := by rw [show (ByteArray.mk (Lib.itoa q).toArray).size = (Lib.itoa q).length by simp [ByteArray.size]]; omega
        rw [hi]
        generalize UInt8.ofNat (48 + m % 10) = dg at *
        generalize Lib.itoa q = L at *
        have hr1 : -9 ≤ r := by omega
        have hr2 : r ≤ 0 := by omega
        have hq3 : n.tdiv 10 = q := hq.symm
        have hr3 : n.tmod 10 = r := hr.symm
        have t1 : IntKind.i64.wrap q = q := IntWalk.i64_in _ (by omega)
        have t2 : IntKind.i64.wrap (48 - r) = 48 - r := IntWalk.i64_in _ (by omega)
        have t3 : IntKind.u8.wrap (48 - r) = 48 - r := by rw [IntKind.wrap_u8']; omega
        have h11 : ¬ -10 < n := by omega
        have hdl : (ByteArray.mk #[dg]).size ≤ 1000 := by rw [show (ByteArray.mk #[dg]).size = 1 from rfl]; omega
        have hsum : ¬ 9223372036854775807 < (ByteArray.mk L.toArray).size + (ByteArray.mk #[dg]).size := by omega
        have HIH := Lib.hid hih
        have HSL := Lib.hid hsl
        clear hsl hi hm hk hbig hsm h10 hk2 hb2 hqn hrn hih hql ih hq hr
        unfold sv at HIH ⊢
        go_enter Tryz.func32, Tryz.ntmps32
        go_wp2_with fail
        go_region_with (first
          | (go_at_call 32; refine (HIH.out _).mono ?_; rintro e w2 ⟨rfl, hb2⟩; (first | (have hd2 := run_string_sl (P := Tryz.prog) w2 55 9 5 Tryz.underlying55 Tryz.underlying5 Tryz.underlying9 _ _ ((HSL.out w).drew.below hb2)) | skip); have HB2 := Lib.hid hb2; clear hb2))
        all_goals clear t1 t2 t3
        all_goals go_wp2
        all_goals go_ret
        all_goals refine ⟨congrArg (fun x => Ending.returned (Value.string x)) (str_sum L [dg]), ?_⟩
        all_goals first
          | exact ((Below.refl w.heap.size w).drew.trans HB2.out).alloc HB2.out.size _
          | exact (alloc_below w _).drew.trans (HB2.out.mono (by show w.heap.size ≤ (w.alloc _).heap.size; rw [alloc_size']; omega))
      · obtain ⟨q, hq⟩ : ∃ q : Int, q = n.tdiv 10 := ⟨_, rfl⟩
        obtain ⟨r, hr⟩ : ∃ r : Int, r = n.tmod 10 := ⟨_, rfl⟩
        have hqn : q = ((m / 10 : Nat) : Int) := by rw [hq, show n = (m : Int) by omega, Int.tdiv_eq_ediv_of_nonneg (by omega)]; rfl
        have hrn : r = ((m % 10 : Nat) : Int) := by rw [hr, show n = (m : Int) by omega, Int.tmod_eq_emod_of_nonneg (by omega)]; rfl
        have hi : Lib.itoa n = Lib.itoa q ++ [UInt8.ofNat (48 + m % 10)] := by rw [hqn, show n = (m : Int) by omega]; exact itoa_up m (by omega)
        have hd := run_digit (m % 10) (Nat.mod_lt _ (by omega)) (48 + r) (by omega)
        have hdd := run_digit2 (m % 10) (Nat.mod_lt _ (by omega)) (48 + r) (by omega)
        have hsl := sl_digit (m % 10) (Nat.mod_lt _ (by omega)) (48 + r) (by omega)
        have hih := fun W => ih q W (by rw [hqn]; omega) (by rw [hqn]; omega)
        have hql := itoa_len q (by omega) (by omega)
        have hql2 : (ByteArray.mk (Lib.itoa q).toArray).size ≤ 1000 := by rw [show (ByteArray.mk (Lib.itoa q).toArray).size = (Lib.itoa q).length by simp [ByteArray.size]]; omega
        rw [hi]
        generalize UInt8.ofNat (48 + m % 10) = dg at *
        generalize Lib.itoa q = L at *
        have hr1 : r ≤ 9 := by omega
        have hr2 : 0 ≤ r := by omega
        have hq3 : n.tdiv 10 = q := hq.symm
        have hr3 : n.tmod 10 = r := hr.symm
        have t1 : IntKind.i64.wrap q = q := IntWalk.i64_in _ (by omega)
        have t2 : IntKind.i64.wrap (48 + r) = 48 + r := IntWalk.i64_in _ (by omega)
        have t3 : IntKind.u8.wrap (48 + r) = 48 + r := by rw [IntKind.wrap_u8']; omega
        have h11 : ¬ n < 10 := by omega
        have hdl : (ByteArray.mk #[dg]).size ≤ 1000 := by rw [show (ByteArray.mk #[dg]).size = 1 from rfl]; omega
        have hsum : ¬ 9223372036854775807 < (ByteArray.mk L.toArray).size + (ByteArray.mk #[dg]).size := by omega
        have HIH := Lib.hid hih
        have HSL := Lib.hid hsl
        clear hsl hi hm hk hbig hsm h10 hk2 hb2 hqn hrn hih hql ih hq hr
        unfold sv at HIH ⊢
        go_enter Tryz.func32, Tryz.ntmps32
        go_wp2_with fail
        go_region_with (first
          | (go_at_call 32; refine (HIH.out _).mono ?_; rintro e w2 ⟨rfl, hb2⟩; (first | (have hd2 := run_string_sl (P := Tryz.prog) w2 55 9 5 Tryz.underlying55 Tryz.underlying5 Tryz.underlying9 _ _ ((HSL.out w).drew.below hb2)) | skip); have HB2 := Lib.hid hb2; clear hb2))
        all_goals clear t1 t2 t3
        all_goals go_wp2
        all_goals go_ret
        all_goals refine ⟨congrArg (fun x => Ending.returned (Value.string x)) (str_sum L [dg]), ?_⟩
        all_goals first
          | exact ((Below.refl w.heap.size w).drew.trans HB2.out).alloc HB2.out.size _
          | exact (alloc_below w _).drew.trans (HB2.out.mono (by show w.heap.size ≤ (w.alloc _).heap.size; rw [alloc_size']; omega))

end Go.Proofs.YtmmphgapginmjaaGreatDoor
