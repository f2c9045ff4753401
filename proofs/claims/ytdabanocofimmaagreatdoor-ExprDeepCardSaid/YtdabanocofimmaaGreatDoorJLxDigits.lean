/-
  hedgerowref01.Digits of greater numbers: the contract, by a walk. hedgerowref01.Right: the contract, by a walk. hedgerowref01.Text: the contract, by a walk. Conditions: lengths.
-/
import Derived.Test.YtdabanocofimmaaGreatDoorJLxRefM
import Derived.Test.YtdabanocofimmaaGreatDoorJValRefName
import Derived.Test.YtdabanocofimmaaGreatDoorJValParse
namespace Go.Proofs.YtdabanocofimmaaGreatDoor
open Go.RowKit

theorem itoa_wide (n : Int) (h1 : -100000000000000000 ≤ n) (h2 : n ≤ 100000000000000000) : (Lib.itoa n).length ≤ 19 := by
  unfold Lib.itoa
  split
  · have := digs_len 17 n.natAbs (by omega)
    simp only [List.length_cons]
    first | omega | (simp at this ⊢; omega)
  · have := digs_len 17 n.natAbs (by omega)
    first | omega | (have := digs_len 17 n.toNat (by omega); omega)

set_option maxRecDepth 100000 in
set_option maxHeartbeats 4000000 in
theorem digits_wide (k : Nat) : ∀ (n : Int) (w : World), n.natAbs < 10 ^ (k + 1) → n.natAbs ≤ 100000000000000000 → Calls Tryz.prog 72 #[.int .i64 n] w (Gives w (sv (Lib.itoa n))) := by
  induction k with
  | zero =>
    intro n w hk _
    rw [Nat.zero_add, Nat.pow_one] at hk
    by_cases hn : n < 0
    · obtain ⟨m, hm⟩ : ∃ m : Nat, m = n.natAbs := ⟨_, rfl⟩
      have hi : Lib.itoa n = [45, UInt8.ofNat (48 + m)] := by rw [show n = -(m : Int) by omega]; exact itoa_low m (by omega) (by omega)
      have hr := run_digit m (by omega) (48 - n) (by omega)
      rw [hi]
      have h10 : -10 < n := by omega
      generalize UInt8.ofNat (48 + m) = dg at *
      unfold sv
      clear hi hm hk
      go_enter Tryz.func72, Tryz.ntmps72
      go_wp2
      go_ret
      exact ⟨by congr 2, alloc_below _ _⟩
    · obtain ⟨m, hm⟩ : ∃ m : Nat, m = n.natAbs := ⟨_, rfl⟩
      have hi : Lib.itoa n = [UInt8.ofNat (48 + m)] := by rw [show n = (m : Int) by omega]; exact itoa_one m (by omega)
      have hr := run_digit m (by omega) (48 + n) (by omega)
      rw [hi]
      have h10 : n < 10 := by omega
      generalize UInt8.ofNat (48 + m) = dg at *
      unfold sv
      clear hi hm hk
      go_enter Tryz.func72, Tryz.ntmps72
      go_wp2
      go_ret
      exact ⟨rfl, alloc_below _ _⟩
  | succ k ih =>
    intro n w hk hbig
    by_cases hsm : n.natAbs < 10 ^ (k + 1)
    · exact ih n w hsm hbig
    · have h10 : ¬ n.natAbs < 10 := by
        have : 10 ^ 1 ≤ 10 ^ (k + 1) := Nat.pow_le_pow_right (by omega) (by omega)
        omega
      have hk2 : n.natAbs / 10 < 10 ^ (k + 1) := by rw [Nat.pow_succ] at hk; omega
      have hb2 : n.natAbs / 10 ≤ 100000000000000000 := by omega
      obtain ⟨m, hm⟩ : ∃ m : Nat, m = n.natAbs := ⟨_, rfl⟩
      by_cases hn : n < 0
      · obtain ⟨q, hq⟩ : ∃ q : Int, q = n.tdiv 10 := ⟨_, rfl⟩
        obtain ⟨r, hr⟩ : ∃ r : Int, r = n.tmod 10 := ⟨_, rfl⟩
        have hqn : q = -((m / 10 : Nat) : Int) := by rw [hq, show n = -(m : Int) by omega, Int.neg_tdiv, Int.tdiv_eq_ediv_of_nonneg (by omega)]; rfl
        have hrn : r = -((m % 10 : Nat) : Int) := by rw [hr, show n = -(m : Int) by omega, Int.neg_tmod, Int.tmod_eq_emod_of_nonneg (by omega)]; rfl
        have hi : Lib.itoa n = Lib.itoa q ++ [UInt8.ofNat (48 + m % 10)] := by rw [hqn, show n = -(m : Int) by omega]; exact itoa_down m (by omega)
        have hd := run_digit (m % 10) (Nat.mod_lt _ (by omega)) (48 - r) (by omega)
        have hdd := run_digit2 (m % 10) (Nat.mod_lt _ (by omega)) (48 - r) (by omega)
        have hsl := sl_digit (m % 10) (Nat.mod_lt _ (by omega)) (48 - r) (by omega)
        have hih := fun W => ih q W (by rw [hqn]; omega) (by rw [hqn]; omega)
        have hql := itoa_wide q (by omega) (by omega)
        have hql2 : (ByteArray.mk (Lib.itoa q).toArray).size ≤ 1000 := by rw [show (ByteArray.mk (Lib.itoa q).toArray).size = (Lib.itoa q).length by simp [ByteArray.size]]; omega
        rw [hi]
        generalize UInt8.ofNat (48 + m % 10) = dg at *
        generalize Lib.itoa q = L at *
        have hr1 : -9 ≤ r := by omega
        have hr2 : r ≤ 0 := by omega
        have hq3 : n.tdiv 10 = q := hq.symm
        have hr3 : n.tmod 10 = r := hr.symm
        have t1 : IntKind.i64.wrap q = q := IntWalk.i64_in _ (by omega)
        have t2 : IntKind.i64.wrap (48 - r) = 48 - r := IntWalk.i64_in _ (by omega)
        have t3 : IntKind.u8.wrap (48 - r) = 48 - r := by rw [IntKind.wrap_u8']; omega
        have h11 : ¬ -10 < n := by omega
        have hdl : (ByteArray.mk #[dg]).size ≤ 1000 := by rw [show (ByteArray.mk #[dg]).size = 1 from rfl]; omega
        have hsum : ¬ 9223372036854775807 < (ByteArray.mk L.toArray).size + (ByteArray.mk #[dg]).size := by omega
        have HIH := Lib.hid hih
        have HSL := Lib.hid hsl
        clear hsl hi hm hk hbig hsm h10 hk2 hb2 hqn hrn hih hql ih hq hr
        unfold sv at HIH ⊢
        go_enter Tryz.func72, Tryz.ntmps72
        go_wp2_with fail
        go_region_with (first
          | (go_at_call 72; refine (HIH.out _).mono ?_; rintro e w2 ⟨rfl, hb2⟩; (first | (have hd2 := run_string_sl (P := Tryz.prog) w2 115 9 5 Tryz.underlying115 Tryz.underlying5 Tryz.underlying9 _ _ ((HSL.out w).drew.below hb2)) | skip); have HB2 := Lib.hid hb2; clear hb2))
        all_goals clear t1 t2 t3
        all_goals go_wp2
        all_goals go_ret
        all_goals refine ⟨congrArg (fun x => Ending.returned (Value.string x)) (str_sum L [dg]), ?_⟩
        all_goals first
          | exact ((Below.refl w.heap.size w).drew.trans HB2.out).alloc HB2.out.size _
          | exact (alloc_below w _).drew.trans (HB2.out.mono (by show w.heap.size ≤ (w.alloc _).heap.size; rw [alloc_size']; omega))
      · obtain ⟨q, hq⟩ : ∃ q : Int, q = n.tdiv 10 := ⟨_, rfl⟩
        obtain ⟨r, hr⟩ : ∃ r : Int, r = n.tmod 10 := ⟨_, rfl⟩
        have hqn : q = ((m / 10 : Nat) : Int) := by rw [hq, show n = (m : Int) by omega, Int.tdiv_eq_ediv_of_nonneg (by omega)]; rfl
        have hrn : r = ((m % 10 : Nat) : Int) := by rw [hr, show n = (m : Int) by omega, Int.tmod_eq_emod_of_nonneg (by omega)]; rfl
        have hi : Lib.itoa n = Lib.itoa q ++ [UInt8.ofNat (48 + m % 10)] := by rw [hqn, show n = (m : Int) by omega]; exact itoa_up m (by omega)
        have hd := run_digit (m % 10) (Nat.mod_lt _ (by omega)) (48 + r) (by omega)
        have hdd := run_digit2 (m % 10) (Nat.mod_lt _ (by omega)) (48 + r) (by omega)
        have hsl := sl_digit (m % 10) (Nat.mod_lt _ (by omega)) (48 + r) (by omega)
        have hih := fun W => ih q W (by rw [hqn]; omega) (by rw [hqn]; omega)
        have hql := itoa_wide q (by omega) (by omega)
        have hql2 : (ByteArray.mk (Lib.itoa q).toArray).size ≤ 1000 := by rw [show (ByteArray.mk (Lib.itoa q).toArray).size = (Lib.itoa q).length by simp [ByteArray.size]]; omega
        rw [hi]
        generalize UInt8.ofNat (48 + m % 10) = dg at *
        generalize Lib.itoa q = L at *
        have hr1 : r ≤ 9 := by omega
        have hr2 : 0 ≤ r := by omega
        have hq3 : n.tdiv 10 = q := hq.symm
        have hr3 : n.tmod 10 = r := hr.symm
        have t1 : IntKind.i64.wrap q = q := IntWalk.i64_in _ (by omega)
        have t2 : IntKind.i64.wrap (48 + r) = 48 + r := IntWalk.i64_in _ (by omega)
        have t3 : IntKind.u8.wrap (48 + r) = 48 + r := by rw [IntKind.wrap_u8']; omega
        have h11 : ¬ n < 10 := by omega
        have hdl : (ByteArray.mk #[dg]).size ≤ 1000 := by rw [show (ByteArray.mk #[dg]).size = 1 from rfl]; omega
        have hsum : ¬ 9223372036854775807 < (ByteArray.mk L.toArray).size + (ByteArray.mk #[dg]).size := by omega
        have HIH := Lib.hid hih
        have HSL := Lib.hid hsl
        clear hsl hi hm hk hbig hsm h10 hk2 hb2 hqn hrn hih hql ih hq hr
        unfold sv at HIH ⊢
        go_enter Tryz.func72, Tryz.ntmps72
        go_wp2_with fail
        go_region_with (first
          | (go_at_call 72; refine (HIH.out _).mono ?_; rintro e w2 ⟨rfl, hb2⟩; (first | (have hd2 := run_string_sl (P := Tryz.prog) w2 115 9 5 Tryz.underlying115 Tryz.underlying5 Tryz.underlying9 _ _ ((HSL.out w).drew.below hb2)) | skip); have HB2 := Lib.hid hb2; clear hb2))
        all_goals clear t1 t2 t3
        all_goals go_wp2
        all_goals go_ret
        all_goals refine ⟨congrArg (fun x => Ending.returned (Value.string x)) (str_sum L [dg]), ?_⟩
        all_goals first
          | exact ((Below.refl w.heap.size w).drew.trans HB2.out).alloc HB2.out.size _
          | exact (alloc_below w _).drew.trans (HB2.out.mono (by show w.heap.size ≤ (w.alloc _).heap.size; rw [alloc_size']; omega))

end Go.Proofs.YtdabanocofimmaaGreatDoor

namespace Go.Proofs.YtdabanocofimmaaGreatDoor
open Go.RowKit

set_option maxHeartbeats 2000000 in
theorem refright_any (k n : Int) (s : ByteArray) (w : World) (hs : s.size ≤ 1000000) : Calls Tryz.prog 52 #[valV k n s] w (Gives w (.bool (rightB k n s.data.toList))) := by
  have HL : Hid (s.toList = s.data.toList) := Lib.hid (Lib.toList_data s)
  unfold valV
  by_cases k0 : k = 0
  · subst k0
    have HR : Hid (rightB 0 n s.data.toList = (n == 0 && s.toList.isEmpty)) := Lib.hid (by rw [HL.out]; rfl)
    go_enter Tryz.func52, Tryz.ntmps52
    go_wp2
    all_goals go_ret
    all_goals exact ⟨by rw [HR.out]; simp [*], alloc_below _ _⟩
  by_cases k1 : k = 1
  · subst k1
    clear k0
    have HR : Hid (rightB 1 n s.data.toList = ((n == 0 || n == 1) && s.toList.isEmpty)) := Lib.hid (by rw [HL.out]; rfl)
    go_enter Tryz.func52, Tryz.ntmps52
    go_wp2
    all_goals go_ret
    all_goals exact ⟨by rw [HR.out]; simp [*], alloc_below _ _⟩
  by_cases k2 : k = 2
  · subst k2
    clear k0 k1
    have HR : Hid (rightB 2 n s.data.toList = (decide (-1099511627776 ≤ n) && decide (n ≤ 1099511627776) && s.toList.isEmpty)) := Lib.hid (by rw [HL.out]; rfl)
    go_enter Tryz.func52, Tryz.ntmps52
    go_wp2
    all_goals go_ret
    all_goals exact ⟨by rw [HR.out]; simp [*] <;> (intros; omega), alloc_below _ _⟩
  by_cases k3 : k = 3
  · subst k3
    clear k0 k1 k2
    have HR : Hid (rightB 3 n s.data.toList = (n == 0 && plainB s.data.toList)) := Lib.hid rfl
    cases hn : (n == 0) with
    | false =>
      go_enter Tryz.func52, Tryz.ntmps52
      go_wp2
      go_ret
      exact ⟨by rw [HR.out, hn]; rfl, alloc_below _ _⟩
    | true =>
      go_enter Tryz.func52, Tryz.ntmps52
      go_wp2_with fail
      refine (refplain_any _ _ (by omega)).mono ?_
      rintro e w3 ⟨rfl, rfl⟩
      go_wp2
      go_ret
      exact ⟨by rw [HR.out, hn]; rfl, alloc_below _ _⟩
  by_cases k4 : k = 4
  · subst k4
    clear k0 k1 k2 k3
    have HR : Hid (rightB 4 n s.data.toList = (n == 0 && nameB s.data.toList)) := Lib.hid rfl
    cases hn : (n == 0) with
    | false =>
      go_enter Tryz.func52, Tryz.ntmps52
      go_wp2
      go_ret
      exact ⟨by rw [HR.out, hn]; rfl, alloc_below _ _⟩
    | true =>
      go_enter Tryz.func52, Tryz.ntmps52
      go_wp2_with fail
      refine (refname_any _ _ (by omega)).mono ?_
      rintro e w3 ⟨rfl, rfl⟩
      go_wp2
      go_ret
      exact ⟨by rw [HR.out, hn]; rfl, alloc_below _ _⟩
  by_cases k5 : k = 5
  · subst k5
    clear k0 k1 k2 k3 k4
    have HR : Hid (rightB 5 n s.data.toList = (n == 0 && nmB s.data.toList)) := Lib.hid rfl
    go_enter Tryz.func52, Tryz.ntmps52
    go_wp2_with fail
    refine (reflink_any _ _ hs).mono ?_
    rintro e w3 ⟨rfl, hb3⟩
    obtain ⟨c0, c1, c2, f0, f1, f2, hlt⟩ := (In1.of hb3).three
    unfold nmV
    cases hq : nmB s.data.toList <;> cases hn : (n == 0)
    all_goals
      have HQ := Lib.hid hq
      clear hq
      simp only [Bool.false_eq_true, ↓reduceIte, lkV, sv]
      go_wp2
      go_ret
      exact ⟨by rw [HR.out, HQ.out, hn]; rfl, (alloc_then hb3).alloc (Nat.le_of_lt hlt) _⟩
  · have HR : Hid (rightB k n s.data.toList = false) := Lib.hid (by simp [rightB, k0, k1, k2, k3, k4, k5])
    have b0 : (k == 0) = false := beq_eq_false_iff_ne.2 k0
    have b1 : (k == 1) = false := beq_eq_false_iff_ne.2 k1
    have b2 : (k == 2) = false := beq_eq_false_iff_ne.2 k2
    have b3 : (k == 3) = false := beq_eq_false_iff_ne.2 k3
    have b4 : (k == 4) = false := beq_eq_false_iff_ne.2 k4
    have b5 : (k == 5) = false := beq_eq_false_iff_ne.2 k5
    clear k0 k1 k2 k3 k4 k5
    go_enter Tryz.func52, Tryz.ntmps52
    go_wp2
    go_ret
    exact ⟨by rw [HR.out]; rfl, alloc_below _ _⟩

end Go.Proofs.YtdabanocofimmaaGreatDoor

namespace Go.Proofs.YtdabanocofimmaaGreatDoor
open Go.RowKit

theorem run_back (W : World) : (convert 115 9 (.slice (some ⟨W.heap.size, 0, none⟩) 1 1)).run Tryz.prog (W.alloc (.cells #[.int .u8 92] 5)) = .ok (.string ⟨#[92]⟩) (W.alloc (.cells #[.int .u8 92] 5)) :=
  run_string_sl (P := Tryz.prog) _ 115 9 5 Tryz.underlying115 Tryz.underlying5 Tryz.underlying9 _ [92] (sl_laid W _ _ _ 1 rfl rfl)
theorem run_back2 (W : World) : (convert 115 9 (.slice (some ⟨W.heap.size, 0, none⟩) 1 1)).run Tryz.prog (W.alloc (.cells #[.int .u8 92] 5)).drew = .ok (.string ⟨#[92]⟩) (W.alloc (.cells #[.int .u8 92] 5)).drew :=
  run_string_sl (P := Tryz.prog) _ 115 9 5 Tryz.underlying115 Tryz.underlying5 Tryz.underlying9 _ [92] (sl_laid W _ _ _ 1 rfl rfl).drew

set_option maxHeartbeats 4000000 in
theorem reftext_any (k n : Int) (s : ByteArray) (w : World) (hs : s.size ≤ 1000000) : Calls Tryz.prog 73 #[valV k n s] w (Gives w (sv (textB k n s.data.toList))) := by
  have HT : Hid (textB k n s.data.toList = if rightB k n s.data.toList = true then (if k = 1 then Lib.formatBool (n == 1) else if k = 2 then Lib.itoa n else if k = 3 then quoteL s.data.toList else if k = 4 then [40] ++ s.data.toList ++ [41] else if k = 5 then [91] ++ s.data.toList ++ [93] else [110, 117, 108, 108]) else []) := Lib.hid rfl
  unfold valV
  go_enter Tryz.func73, Tryz.ntmps73
  go_wp2_with fail
  refine (refright_any k n s _ hs).mono ?_
  rintro e w1 ⟨rfl, hb1⟩
  have k1 := In1.of hb1
  obtain ⟨c0, c1, c2, f0, f1, f2, hlt⟩ := k1.three
  have hb := k1.below
  clear f0 f1 f2
  cases hr : rightB k n s.data.toList with
  | false =>
    have HV : Hid (textB k n s.data.toList = []) := Lib.hid (by rw [HT.out, hr]; rfl)
    clear hr hb1 k1
    go_wp2
    go_ret
    exact ⟨by rw [HV.out]; rfl, hb⟩
  | true =>
    have HR := Lib.hid hr
    clear hr hb1
    by_cases k0 : k = 0
    · subst k0
      have HV : Hid (textB 0 n s.data.toList = [110, 117, 108, 108]) := Lib.hid (by rw [HT.out, HR.out]; rfl)
      clear k1
      go_wp2
      go_ret
      exact ⟨by rw [HV.out]; rfl, hb⟩
    by_cases q1 : k = 1
    · subst q1
      have HV : Hid (textB 1 n s.data.toList = Lib.formatBool (n == 1)) := Lib.hid (by rw [HT.out, HR.out]; rfl)
      clear k1 k0
      cases h1 : (n == 1) with
      | false =>
        have HV2 : Hid (textB 1 n s.data.toList = [102, 97, 108, 115, 101]) := Lib.hid (by rw [HV.out, h1]; rfl)
        clear HV
        go_wp2
        go_ret
        exact ⟨by rw [HV2.out]; rfl, hb⟩
      | true =>
        have HV2 : Hid (textB 1 n s.data.toList = [116, 114, 117, 101]) := Lib.hid (by rw [HV.out, h1]; rfl)
        clear HV
        go_wp2
        go_ret
        exact ⟨by rw [HV2.out]; rfl, hb⟩
    by_cases q2 : k = 2
    · subst q2
      have HV : Hid (textB 2 n s.data.toList = Lib.itoa n) := Lib.hid (by rw [HT.out, HR.out]; rfl)
      have hn : -1099511627776 ≤ n ∧ n ≤ 1099511627776 := by
        have := HR.out; simp [rightB] at this; exact this.1
      have hd := fun W => digits_any 12 n W (by omega) (by omega)
      have HD := Lib.hid hd
      clear hd hn k1 k0 q1
      go_wp2_with fail
      refine (HD.out _).mono ?_
      rintro e w2 ⟨rfl, hb2⟩
      unfold sv
      go_wp2
      go_ret
      exact ⟨by rw [HV.out]; rfl, hb.trans (hb2.mono hb.size)⟩
    by_cases q4 : k = 4
    · subst q4
      have HV : Hid (textB 4 n s.data.toList = [40] ++ s.data.toList ++ [41]) := Lib.hid (by rw [HT.out, HR.out]; rfl)
      clear k1 k0 q1 q2
      go_wp2
      all_goals go_ret
      all_goals exact ⟨by rw [HV.out]; exact congrArg (fun x => Ending.returned (Value.string x)) (wrap_str 40 41 s), hb⟩
    by_cases q5 : k = 5
    · subst q5
      have HV : Hid (textB 5 n s.data.toList = [91] ++ s.data.toList ++ [93]) := Lib.hid (by rw [HT.out, HR.out]; rfl)
      clear k1 k0 q1 q2 q4
      go_wp2
      all_goals go_ret
      all_goals exact ⟨by rw [HV.out]; exact congrArg (fun x => Ending.returned (Value.string x)) (wrap_str 91 93 s), hb⟩
    obtain rfl : k = 3 := by
      have := HR.out
      unfold rightB at this
      by_cases q3 : k = 3
      · exact q3
      · simp [k0, q1, q2, q3, q4, q5] at this
    have HV : Hid (textB 3 n s.data.toList = quoteL s.data.toList) := Lib.hid (by rw [HT.out, HR.out]; rfl)
    have K1 := Lib.hid k1.blk
    clear k1 k0 q1 q2 q4 q5
    have HLEN : Hid (s.data.toList.length = s.size) := Lib.hid (by rw [Array.length_toList]; rfl)
    clear HT c1 HR
    have HB := Lib.hid hb
    have HLT := Lib.hid hlt
    clear hb hlt
    go_wp2
    clear c0
    go_loopw [3, 4] (fun o i wr => ∃ k : Nat, k ≤ s.size ∧ i = .int .i64 k ∧ o = .string ⟨([39] ++ qL (s.data.toList.take k)).toArray⟩ ∧ Below w1.heap.size w1 wr) (fun _ i _ => s.size - (intOf i).toNat)
    case atStart => exact ⟨0, by omega, rfl, rfl, Below.refl _ _⟩
    case round =>
      obtain ⟨k, hk, rfl, rfl, hb2⟩ := hrel
      have B2 := K1.out.below hb2 HLT.out
      obtain ⟨_, _, d2, _⟩ := B2.three
      have d3 : ∀ o : Obj, (wr.alloc o).cell? ⟨w.heap.size, 2, none⟩ = some (.string s) := fun o => (B2.alloc o).three.2.2.1
      have HB2 := Lib.hid hb2
      clear hb2 c2
      by_cases hlt : k < s.size
      · have hsn : Hid (qL (s.data.toList.take (k + 1)) = qL (s.data.toList.take k) ++ q1 (s[k]'hlt)) := Lib.hid (by
          have hl : k < s.data.toList.length := by rw [HLEN.out]; exact hlt
          rw [List.take_succ_eq_append_getElem hl, qL_snoc]; rfl)
        have hql := qL_len (s.data.toList.take k)
        rw [List.length_take] at hql
        obtain ⟨L, hL⟩ : ∃ L, L = [39] ++ qL (s.data.toList.take k) := ⟨_, rfl⟩
        have hLl : L.length ≤ 3000000 := by rw [hL]; simp; omega
        have HL := Lib.hid hL
        rw [← hL]
        have hOl : (ByteArray.mk L.toArray).size ≤ 3000000 := by rw [size_mk]; exact hLl
        have hEl : (s.extract k (k + 1)).size ≤ 3000000 := by rw [ByteArray.size_extract]; omega
        have HE1 := Lib.hid (ext_one s k hlt L)
        have HE2 := Lib.hid (ext_one s k hlt (L ++ [92]))
        have HE3 := Lib.hid (str_sum L [92])
        have hk1 : IntKind.i64.wrap ((k : Int) + 1) = k + 1 := IntWalk.i64_in _ (by omega)
        have hr1 := run_back
        have hr2 := run_back2
        clear hL hql hLl
        by_cases hc : s[k]'hlt = 39 ∨ s[k]'hlt = 92
        · have HQ : Hid (q1 (s[k]'hlt) = [92, s[k]'hlt]) := Lib.hid (by unfold q1; rw [if_pos hc])
          have tt : ∃ q, (((s[k]'hlt).toNat : Int) == 39) = q ∧ (q = false → (((s[k]'hlt).toNat : Int) == 92) = true) := by
            refine ⟨_, rfl, fun h => ?_⟩
            rcases hc with e | e
            · rw [e] at h; cases h
            · rw [e]; rfl
          obtain ⟨q, t1, t2⟩ := tt
          have hs1 : ¬ 9223372036854775807 < (ByteArray.mk L.toArray).size + (ByteArray.mk #[92]).size := by rw [show (ByteArray.mk #[92]).size = 1 from rfl]; omega
          have hs2 : ¬ 9223372036854775807 < (ByteArray.mk L.toArray ++ ByteArray.mk #[92]).size + (s.extract k (k + 1)).size := by rw [ByteArray.size_append, show (ByteArray.mk #[92]).size = 1 from rfl]; omega
          have hfin : Value.string (ByteArray.mk L.toArray ++ ByteArray.mk #[92] ++ s.extract k (k + 1)) = .string ⟨([39] ++ qL (s.data.toList.take (k + 1))).toArray⟩ := by
            rw [HE3.out, HE2.out, hsn.out, HQ.out, HL.out]; simp
          have HF := Lib.hid hfin
          have HBA := Lib.hid (HB2.out.alloc HB2.out.size (.cells #[.int .u8 92] 5))
          clear hc hfin
          cases q with
          | false =>
            have t2 := t2 rfl
            go_wp2
            exact ⟨⟨k + 1, by omega, by go_num, HF.out, HBA.out⟩, by simp [intOf]; omega⟩
          | true =>
            clear t2
            go_wp2
            exact ⟨⟨k + 1, by omega, by go_num, HF.out, HBA.out⟩, by simp [intOf]; omega⟩
        · have HQ : Hid (q1 (s[k]'hlt) = [s[k]'hlt]) := Lib.hid (by unfold q1; rw [if_neg hc])
          have t1 : (((s[k]'hlt).toNat : Int) == 39) = false := by
            rw [beq_eq_false_iff_ne]; intro e; exact hc (Or.inl (UInt8.toNat_inj.1 (by show (s[k]'hlt).toNat = 39; omega)))
          have t2 : (((s[k]'hlt).toNat : Int) == 92) = false := by
            rw [beq_eq_false_iff_ne]; intro e; exact hc (Or.inr (UInt8.toNat_inj.1 (by show (s[k]'hlt).toNat = 92; omega)))
          clear hc
          go_wp2
          refine ⟨⟨k + 1, by omega, by go_num, ?_, HB2.out⟩, by simp [intOf]; omega⟩
          rw [HE1.out, hsn.out, HQ.out, HL.out, List.append_assoc]
      · have hkk : k = s.size := by omega
        subst hkk
        have hall : s.data.toList.take s.size = s.data.toList := by rw [← HLEN.out]; exact List.take_length
        rw [hall]
        have hql := qL_len s.data.toList
        rw [HLEN.out] at hql
        obtain ⟨L, hL⟩ : ∃ L, L = [39] ++ qL s.data.toList := ⟨_, rfl⟩
        have hLl : L.length ≤ 3000000 := by rw [hL]; simp; omega
        have HV2 : Hid (textB 3 n s.data.toList = L ++ [39]) := Lib.hid (by rw [HV.out, hL]; rfl)
        rw [← hL]
        have hOl : (ByteArray.mk L.toArray).size ≤ 3000000 := by rw [size_mk]; exact hLl
        clear hql hL hall
        go_wp2
        go_ret
        exact ⟨by rw [HV2.out]; exact congrArg (fun x => Ending.returned (Value.string x)) (str_sum L [39]), HB.out.trans (HB2.out.mono HB.out.size)⟩

end Go.Proofs.YtdabanocofimmaaGreatDoor
