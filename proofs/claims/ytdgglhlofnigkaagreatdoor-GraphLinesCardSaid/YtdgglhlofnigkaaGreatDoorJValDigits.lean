/-
  hedgerowref01.Digits. hedgerowref01.Text. Conditions: lengths.
-/import Derived.Test.YtdgglhlofnigkaaGreatDoorJValBuild
import Derived.Test.YtdgglhlofnigkaaGreatDoorJGrFew
import Derived.Deep.RegionWith
import Derived.Deep.DeepCutAuto
import Derived.Test.YtdgglhlofnigkaaGreatDoorJValRefLink
namespace Go.Proofs.YtdgglhlofnigkaaGreatDoor
open Lib (hid)
open Go.RowKit
theorem run_digit (d : Nat) (hd : d < 10) (z : Int) (hz : z = 48 + d) (W : World) : (convert 132 9 (.slice (some ⟨W.heap.size, 0, none⟩) 1 1)).run Tryz.prog (W.alloc (.cells #[.int .u8 z] 5)) = .ok (.string ⟨#[UInt8.ofNat (48 + d)]⟩) (W.alloc (.cells #[.int .u8 z] 5)) := by
 have hs : Sl bv (W.alloc (.cells #[.int .u8 z] 5)) (.slice (some ⟨W.heap.size, 0, none⟩) 1 1) [UInt8.ofNat (48 + d)] := sl_laid W _ _ _ 1 rfl (by
  simp only [bs, bv, List.map_cons, List.map_nil, dig_nat d hd, hz]; rfl)
 exact run_string_sl (P := Tryz.prog) _ 132 9 5 Tryz.underlying132 Tryz.underlying5 Tryz.underlying9 _ _ hs
theorem sl_digit (d : Nat) (hd : d < 10) (z : Int) (hz : z = 48 + d) (W : World) : Sl bv (W.alloc (.cells #[.int .u8 z] 5)) (.slice (some ⟨W.heap.size, 0, none⟩) 1 1) [UInt8.ofNat (48 + d)] := sl_laid W _ _ _ 1 rfl (by
 simp only [bs, bv, List.map_cons, List.map_nil, dig_nat d hd, hz]; rfl)
theorem run_digit2 (d : Nat) (hd : d < 10) (z : Int) (hz : z = 48 + d) (W : World) : (convert 132 9 (.slice (some ⟨W.heap.size, 0, none⟩) 1 1)).run Tryz.prog (W.alloc (.cells #[.int .u8 z] 5)).drew = .ok (.string ⟨#[UInt8.ofNat (48 + d)]⟩) (W.alloc (.cells #[.int .u8 z] 5)).drew :=
 run_string_sl (P := Tryz.prog) _ 132 9 5 Tryz.underlying132 Tryz.underlying5 Tryz.underlying9 _ _ (sl_digit d hd z hz W).drew
theorem alloc_size' (w : World) (o : Obj) : (w.alloc o).heap.size = w.heap.size + 1 := by simp
theorem str_sum (a b : List UInt8) : (ByteArray.mk a.toArray) ++ (ByteArray.mk b.toArray) = ⟨(a ++ b).toArray⟩ := by rw [ByteArray.mk_append_mk]
theorem itoa_low (m : Nat) (h0 : 0 < m) (h : m < 10) : Lib.itoa (-(m : Int)) = [45, UInt8.ofNat (48 + m)] := by
 unfold Lib.itoa
 rw [if_pos (by omega), show (-(m : Int)).natAbs = m by omega, digs_small m h]
theorem itoa_down (m : Nat) (h : ¬ m < 10) : Lib.itoa (-(m : Int)) = Lib.itoa (-((m / 10 : Nat) : Int)) ++ [UInt8.ofNat (48 + m % 10)] := by
 unfold Lib.itoa
 rw [if_pos (by omega), if_pos (by omega), show (-(m : Int)).natAbs = m by omega, show (-((m / 10 : Nat) : Int)).natAbs = m / 10 by omega, digs_big m h]; rfl
theorem itoa_one (m : Nat) (h : m < 10) : Lib.itoa (m : Int) = [UInt8.ofNat (48 + m)] := by
 unfold Lib.itoa
 rw [if_neg (by omega), Int.toNat_natCast, digs_small m h]
theorem itoa_up (m : Nat) (h : ¬ m < 10) : Lib.itoa (m : Int) = Lib.itoa ((m / 10 : Nat) : Int) ++ [UInt8.ofNat (48 + m % 10)] := by
 unfold Lib.itoa
 rw [if_neg (by omega), if_neg (by omega), Int.toNat_natCast, Int.toNat_natCast, digs_big m h]
set_option maxRecDepth 100000 in
set_option maxHeartbeats 4000000 in
theorem digits_any (k : Nat) : ∀ (n : Int) (w : World), n.natAbs < 10 ^ (k + 1) → n.natAbs ≤ 1099511627776 → Calls Tryz.prog 89 #[.int .i64 n] w (Gives w (sv (Lib.itoa n))) := by
 induction k with
 | zero =>
  intro n w hk _
  rw [Nat.zero_add, Nat.pow_one] at hk
  by_cases hn : n < 0
  ·obtain ⟨m, hm⟩ : ∃ m : Nat, m = n.natAbs := ⟨_, rfl⟩
   have hi : Lib.itoa n = [45, UInt8.ofNat (48 + m)] := by rw [show n = -(m : Int) by omega]; exact itoa_low m (by omega) (by omega)
   have hr := run_digit m (by omega) (48 - n) (by omega)
   rw [hi]
   have h10 : -10 < n := by omega
   generalize UInt8.ofNat (48 + m) = dg at *
   unfold sv
   clear hi hm hk
   go_enter Tryz.func89, Tryz.ntmps89
   go_wp2
   go_ret
   exact ⟨by congr 2, alloc_below _ _⟩
  ·obtain ⟨m, hm⟩ : ∃ m : Nat, m = n.natAbs := ⟨_, rfl⟩
   have hi : Lib.itoa n = [UInt8.ofNat (48 + m)] := by rw [show n = (m : Int) by omega]; exact itoa_one m (by omega)
   have hr := run_digit m (by omega) (48 + n) (by omega)
   rw [hi]
   have h10 : n < 10 := by omega
   generalize UInt8.ofNat (48 + m) = dg at *
   unfold sv
   clear hi hm hk
   go_enter Tryz.func89, Tryz.ntmps89
   go_wp2
   go_ret
   exact ⟨rfl, alloc_below _ _⟩
 | succ k ih =>
  intro n w hk hbig
  by_cases hsm : n.natAbs < 10 ^ (k + 1)
  ·exact ih n w hsm hbig
  ·have h10 : ¬ n.natAbs < 10 := by
    have : 10 ^ 1 ≤ 10 ^ (k + 1) := Nat.pow_le_pow_right (by omega) (by omega)
    omega
   have hk2 : n.natAbs / 10 < 10 ^ (k + 1) := by rw [Nat.pow_succ] at hk; omega
   have hb2 : n.natAbs / 10 ≤ 1099511627776 := by omega
   obtain ⟨m, hm⟩ : ∃ m : Nat, m = n.natAbs := ⟨_, rfl⟩
   by_cases hn : n < 0
   ·obtain ⟨q, hq⟩ : ∃ q : Int, q = n.tdiv 10 := ⟨_, rfl⟩
    obtain ⟨r, hr⟩ : ∃ r : Int, r = n.tmod 10 := ⟨_, rfl⟩
    have hqn : q = -((m / 10 : Nat) : Int) := by rw [hq, show n = -(m : Int) by omega, Int.neg_tdiv, Int.tdiv_eq_ediv_of_nonneg (by omega)]; rfl
    have hrn : r = -((m % 10 : Nat) : Int) := by rw [hr, show n = -(m : Int) by omega, Int.neg_tmod, Int.tmod_eq_emod_of_nonneg (by omega)]; rfl
    have hi : Lib.itoa n = Lib.itoa q ++ [UInt8.ofNat (48 + m % 10)] := by rw [hqn, show n = -(m : Int) by omega]; exact itoa_down m (by omega)
    have hd := run_digit (m % 10) (Nat.mod_lt _ (by omega)) (48 - r) (by omega)
    have hdd := run_digit2 (m % 10) (Nat.mod_lt _ (by omega)) (48 - r) (by omega)
    have hsl := sl_digit (m % 10) (Nat.mod_lt _ (by omega)) (48 - r) (by omega)
    have hih := fun W => ih q W (by rw [hqn]; omega) (by rw [hqn]; omega)
    have hql := itoa_len q (by omega) (by omega)
    have hql2 : (ByteArray.mk (Lib.itoa q).toArray).size ≤ 1000 := by rw [show (ByteArray.mk (Lib.itoa q).toArray).size = (Lib.itoa q).length by simp [ByteArray.size]]; omega
    rw [hi]
    generalize UInt8.ofNat (48 + m % 10) = dg at *
    generalize Lib.itoa q = L at *
    have hr1 : -9 ≤ r := by omega
    have hr2 : r ≤ 0 := by omega
    have hq3 : n.tdiv 10 = q := hq.symm
    have hr3 : n.tmod 10 = r := hr.symm
    have t1 : IntKind.i64.wrap q = q := IntWalk.i64_in _ (by omega)
    have t2 : IntKind.i64.wrap (48 - r) = 48 - r := IntWalk.i64_in _ (by omega)
    have t3 : IntKind.u8.wrap (48 - r) = 48 - r := by rw [IntKind.wrap_u8']; omega
    have h11 : ¬ -10 < n := by omega
    have hdl : (ByteArray.mk #[dg]).size ≤ 1000 := by rw [show (ByteArray.mk #[dg]).size = 1 from rfl]; omega
    have hsum : ¬ 9223372036854775807 < (ByteArray.mk L.toArray).size + (ByteArray.mk #[dg]).size := by omega
    have HIH := hid hih
    have HSL := hid hsl
    clear hsl hi hm hk hbig hsm h10 hk2 hb2 hqn hrn hih hql ih hq hr
    unfold sv at HIH ⊢
    go_enter Tryz.func89, Tryz.ntmps89
    go_wp2_with fail
    go_region_with (first
     | (go_at_call 89; refine (HIH.out _).mono ?_; rintro e w2 ⟨rfl, hb2⟩; (first | (have hd2 := run_string_sl (P := Tryz.prog) w2 132 9 5 Tryz.underlying132 Tryz.underlying5 Tryz.underlying9 _ _ ((HSL.out w).drew.below hb2)) | skip); have HB2 := hid hb2; clear hb2))
    all_goals clear t1 t2 t3
    all_goals go_wp2
    all_goals go_ret
    all_goals refine ⟨congrArg (fun x => Ending.returned (Value.string x)) (str_sum L [dg]), ?_⟩
    all_goals first
     | exact ((Below.refl w.heap.size w).drew.trans HB2.out).alloc HB2.out.size _
     | exact (alloc_below w _).drew.trans (HB2.out.mono (by show w.heap.size ≤ (w.alloc _).heap.size; rw [alloc_size']; omega))
   ·obtain ⟨q, hq⟩ : ∃ q : Int, q = n.tdiv 10 := ⟨_, rfl⟩
    obtain ⟨r, hr⟩ : ∃ r : Int, r = n.tmod 10 := ⟨_, rfl⟩
    have hqn : q = ((m / 10 : Nat) : Int) := by rw [hq, show n = (m : Int) by omega, Int.tdiv_eq_ediv_of_nonneg (by omega)]; rfl
    have hrn : r = ((m % 10 : Nat) : Int) := by rw [hr, show n = (m : Int) by omega, Int.tmod_eq_emod_of_nonneg (by omega)]; rfl
    have hi : Lib.itoa n = Lib.itoa q ++ [UInt8.ofNat (48 + m % 10)] := by rw [hqn, show n = (m : Int) by omega]; exact itoa_up m (by omega)
    have hd := run_digit (m % 10) (Nat.mod_lt _ (by omega)) (48 + r) (by omega)
    have hdd := run_digit2 (m % 10) (Nat.mod_lt _ (by omega)) (48 + r) (by omega)
    have hsl := sl_digit (m % 10) (Nat.mod_lt _ (by omega)) (48 + r) (by omega)
    have hih := fun W => ih q W (by rw [hqn]; omega) (by rw [hqn]; omega)
    have hql := itoa_len q (by omega) (by omega)
    have hql2 : (ByteArray.mk (Lib.itoa q).toArray).size ≤ 1000 := by rw [show (ByteArray.mk (Lib.itoa q).toArray).size = (Lib.itoa q).length by simp [ByteArray.size]]; omega
    rw [hi]
    generalize UInt8.ofNat (48 + m % 10) = dg at *
    generalize Lib.itoa q = L at *
    have hr1 : r ≤ 9 := by omega
    have hr2 : 0 ≤ r := by omega
    have hq3 : n.tdiv 10 = q := hq.symm
    have hr3 : n.tmod 10 = r := hr.symm
    have t1 : IntKind.i64.wrap q = q := IntWalk.i64_in _ (by omega)
    have t2 : IntKind.i64.wrap (48 + r) = 48 + r := IntWalk.i64_in _ (by omega)
    have t3 : IntKind.u8.wrap (48 + r) = 48 + r := by rw [IntKind.wrap_u8']; omega
    have h11 : ¬ n < 10 := by omega
    have hdl : (ByteArray.mk #[dg]).size ≤ 1000 := by rw [show (ByteArray.mk #[dg]).size = 1 from rfl]; omega
    have hsum : ¬ 9223372036854775807 < (ByteArray.mk L.toArray).size + (ByteArray.mk #[dg]).size := by omega
    have HIH := hid hih
    have HSL := hid hsl
    clear hsl hi hm hk hbig hsm h10 hk2 hb2 hqn hrn hih hql ih hq hr
    unfold sv at HIH ⊢
    go_enter Tryz.func89, Tryz.ntmps89
    go_wp2_with fail
    go_region_with (first
     | (go_at_call 89; refine (HIH.out _).mono ?_; rintro e w2 ⟨rfl, hb2⟩; (first | (have hd2 := run_string_sl (P := Tryz.prog) w2 132 9 5 Tryz.underlying132 Tryz.underlying5 Tryz.underlying9 _ _ ((HSL.out w).drew.below hb2)) | skip); have HB2 := hid hb2; clear hb2))
    all_goals clear t1 t2 t3
    all_goals go_wp2
    all_goals go_ret
    all_goals refine ⟨congrArg (fun x => Ending.returned (Value.string x)) (str_sum L [dg]), ?_⟩
    all_goals first
     | exact ((Below.refl w.heap.size w).drew.trans HB2.out).alloc HB2.out.size _
     | exact (alloc_below w _).drew.trans (HB2.out.mono (by show w.heap.size ≤ (w.alloc _).heap.size; rw [alloc_size']; omega))
theorem Blk.three {w : World} {t : TypeId} {a b c : Value} {g : Nat} (h : Blk w g t #[a, b, c]) :
  w.cell? ⟨g, 0, none⟩ = some a ∧ w.cell? ⟨g, 1, none⟩ = some b ∧ w.cell? ⟨g, 2, none⟩ = some c ∧ w.frozen? ⟨g, 0, none⟩ = false ∧ w.frozen? ⟨g, 1, none⟩ = false ∧ w.frozen? ⟨g, 2, none⟩ = false ∧ g < w.heap.size :=
 ⟨by rw [h.cell]; rfl, by rw [h.cell]; rfl, by rw [h.cell]; rfl, h.free 0, h.free 1, h.free 2, h.lt⟩
theorem run_back (W : World) : (convert 132 9 (.slice (some ⟨W.heap.size, 0, none⟩) 1 1)).run Tryz.prog (W.alloc (.cells #[.int .u8 92] 5)) = .ok (.string ⟨#[92]⟩) (W.alloc (.cells #[.int .u8 92] 5)) :=
 run_string_sl (P := Tryz.prog) _ 132 9 5 Tryz.underlying132 Tryz.underlying5 Tryz.underlying9 _ [92] (sl_laid W _ _ _ 1 rfl rfl)
theorem run_back2 (W : World) : (convert 132 9 (.slice (some ⟨W.heap.size, 0, none⟩) 1 1)).run Tryz.prog (W.alloc (.cells #[.int .u8 92] 5)).drew = .ok (.string ⟨#[92]⟩) (W.alloc (.cells #[.int .u8 92] 5)).drew :=
 run_string_sl (P := Tryz.prog) _ 132 9 5 Tryz.underlying132 Tryz.underlying5 Tryz.underlying9 _ [92] (sl_laid W _ _ _ 1 rfl rfl).drew
set_option maxHeartbeats 4000000 in
theorem reftext_any (k n : Int) (s : ByteArray) (w : World) (hs : s.size ≤ 1000000) : Calls Tryz.prog 62 #[valV k n s] w (Gives w (sv (textB k n s.data.toList))) := by
 have HT : Hid (textB k n s.data.toList = if rightB k n s.data.toList = true then (if k = 1 then Lib.formatBool (n == 1) else if k = 2 then Lib.itoa n else if k = 3 then quoteL s.data.toList else if k = 4 then [40] ++ s.data.toList ++ [41] else if k = 5 then [91] ++ s.data.toList ++ [93] else [110, 117, 108, 108]) else []) := hid rfl
 unfold valV
 go_enter Tryz.func62, Tryz.ntmps62
 go_wp2_with fail
 refine (refright_any k n s _ hs).mono ?_
 rintro e w1 ⟨rfl, hb1⟩
 have k1 := In1.of hb1
 obtain ⟨c0, c1, c2, f0, f1, f2, hlt⟩ := k1.three
 have hb := k1.below
 clear f0 f1 f2
 cases hr : rightB k n s.data.toList with
 | false =>
  have HV : Hid (textB k n s.data.toList = []) := hid (by rw [HT.out, hr]; rfl)
  clear hr hb1 k1
  go_wp2
  go_ret
  exact ⟨by rw [HV.out]; rfl, hb⟩
 | true =>
  have HR := hid hr
  clear hr hb1
  by_cases k0 : k = 0
  ·subst k0
   have HV : Hid (textB 0 n s.data.toList = [110, 117, 108, 108]) := hid (by rw [HT.out, HR.out]; rfl)
   clear k1
   go_wp2
   go_ret
   exact ⟨by rw [HV.out]; rfl, hb⟩
  by_cases q1 : k = 1
  ·subst q1
   have HV : Hid (textB 1 n s.data.toList = Lib.formatBool (n == 1)) := hid (by rw [HT.out, HR.out]; rfl)
   clear k1 k0
   cases h1 : (n == 1) with
   | false =>
    have HV2 : Hid (textB 1 n s.data.toList = [102, 97, 108, 115, 101]) := hid (by rw [HV.out, h1]; rfl)
    clear HV
    go_wp2
    go_ret
    exact ⟨by rw [HV2.out]; rfl, hb⟩
   | true =>
    have HV2 : Hid (textB 1 n s.data.toList = [116, 114, 117, 101]) := hid (by rw [HV.out, h1]; rfl)
    clear HV
    go_wp2
    go_ret
    exact ⟨by rw [HV2.out]; rfl, hb⟩
  by_cases q2 : k = 2
  ·subst q2
   have HV : Hid (textB 2 n s.data.toList = Lib.itoa n) := hid (by rw [HT.out, HR.out]; rfl)
   have hn : -1099511627776 ≤ n ∧ n ≤ 1099511627776 := by
    have := HR.out; simp [rightB] at this; exact this.1
   have hd := fun W => digits_any 12 n W (by omega) (by omega)
   have HD := hid hd
   clear hd hn k1 k0 q1
   go_wp2_with fail
   refine (HD.out _).mono ?_
   rintro e w2 ⟨rfl, hb2⟩
   unfold sv
   go_wp2
   go_ret
   exact ⟨by rw [HV.out]; rfl, hb.trans (hb2.mono hb.size)⟩
  by_cases q4 : k = 4
  ·subst q4
   have HV : Hid (textB 4 n s.data.toList = [40] ++ s.data.toList ++ [41]) := hid (by rw [HT.out, HR.out]; rfl)
   clear k1 k0 q1 q2
   go_wp2
   all_goals go_ret
   all_goals exact ⟨by rw [HV.out]; exact congrArg (fun x => Ending.returned (Value.string x)) (wrap_str 40 41 s), hb⟩
  by_cases q5 : k = 5
  ·subst q5
   have HV : Hid (textB 5 n s.data.toList = [91] ++ s.data.toList ++ [93]) := hid (by rw [HT.out, HR.out]; rfl)
   clear k1 k0 q1 q2 q4
   go_wp2
   all_goals go_ret
   all_goals exact ⟨by rw [HV.out]; exact congrArg (fun x => Ending.returned (Value.string x)) (wrap_str 91 93 s), hb⟩
  obtain rfl : k = 3 := by
   have := HR.out
   unfold rightB at this
   by_cases q3 : k = 3
   ·exact q3
   ·simp [k0, q1, q2, q3, q4, q5] at this
  have HV : Hid (textB 3 n s.data.toList = quoteL s.data.toList) := hid (by rw [HT.out, HR.out]; rfl)
  have K1 := hid k1.blk
  clear k1 k0 q1 q2 q4 q5
  have HLEN : Hid (s.data.toList.length = s.size) := hid (by rw [Array.length_toList]; rfl)
  clear HT c1 HR
  have HB := hid hb
  have HLT := hid hlt
  clear hb hlt
  go_wp2
  clear c0
  go_loopw [3, 4] (fun o i wr => ∃ k : Nat, k ≤ s.size ∧ i = .int .i64 k ∧ o = .string ⟨([39] ++ qL (s.data.toList.take k)).toArray⟩ ∧ Below w1.heap.size w1 wr) (fun _ i _ => s.size - (intOf i).toNat)
  case atStart => exact ⟨0, by omega, rfl, rfl, Below.refl _ _⟩
  case round =>
   obtain ⟨k, hk, rfl, rfl, hb2⟩ := hrel
   have B2 := K1.out.below hb2 HLT.out
   obtain ⟨_, _, d2, _⟩ := B2.three
   have d3 : ∀ o : Obj, (wr.alloc o).cell? ⟨w.heap.size, 2, none⟩ = some (.string s) := fun o => (B2.alloc o).three.2.2.1
   have HB2 := hid hb2
   clear hb2 c2
   by_cases hlt : k < s.size
   ·have hsn : Hid (qL (s.data.toList.take (k + 1)) = qL (s.data.toList.take k) ++ q1 (s[k]'hlt)) := hid (by
     have hl : k < s.data.toList.length := by rw [HLEN.out]; exact hlt
     rw [List.take_succ_eq_append_getElem hl, qL_snoc]; rfl)
    have hql := qL_len (s.data.toList.take k)
    rw [List.length_take] at hql
    obtain ⟨L, hL⟩ : ∃ L, L = [39] ++ qL (s.data.toList.take k) := ⟨_, rfl⟩
    have hLl : L.length ≤ 3000000 := by rw [hL]; simp; omega
    have HL := hid hL
    rw [← hL]
    have hOl : (ByteArray.mk L.toArray).size ≤ 3000000 := by rw [size_mk]; exact hLl
    have hEl : (s.extract k (k + 1)).size ≤ 3000000 := by rw [ByteArray.size_extract]; omega
    have HE1 := hid (ext_one s k hlt L)
    have HE2 := hid (ext_one s k hlt (L ++ [92]))
    have HE3 := hid (str_sum L [92])
    have hk1 : IntKind.i64.wrap ((k : Int) + 1) = k + 1 := IntWalk.i64_in _ (by omega)
    have hr1 := run_back
    have hr2 := run_back2
    clear hL hql hLl
    by_cases hc : s[k]'hlt = 39 ∨ s[k]'hlt = 92
    ·have HQ : Hid (q1 (s[k]'hlt) = [92, s[k]'hlt]) := hid (by unfold q1; rw [if_pos hc])
     have tt : ∃ q, (((s[k]'hlt).toNat : Int) == 39) = q ∧ (q = false → (((s[k]'hlt).toNat : Int) == 92) = true) := by
      refine ⟨_, rfl, fun h => ?_⟩
      rcases hc with e | e
      ·rw [e] at h; cases h
      ·rw [e]; rfl
     obtain ⟨q, t1, t2⟩ := tt
     have hs1 : ¬ 9223372036854775807 < (ByteArray.mk L.toArray).size + (ByteArray.mk #[92]).size := by rw [show (ByteArray.mk #[92]).size = 1 from rfl]; omega
     have hs2 : ¬ 9223372036854775807 < (ByteArray.mk L.toArray ++ ByteArray.mk #[92]).size + (s.extract k (k + 1)).size := by rw [ByteArray.size_append, show (ByteArray.mk #[92]).size = 1 from rfl]; omega
     have hfin : Value.string (ByteArray.mk L.toArray ++ ByteArray.mk #[92] ++ s.extract k (k + 1)) = .string ⟨([39] ++ qL (s.data.toList.take (k + 1))).toArray⟩ := by
      rw [HE3.out, HE2.out, hsn.out, HQ.out, HL.out]; simp
     have HF := hid hfin
     have HBA := hid (HB2.out.alloc HB2.out.size (.cells #[.int .u8 92] 5))
     clear hc hfin
     cases q with
     | false =>
      have t2 := t2 rfl
      go_wp2
      exact ⟨⟨k + 1, by omega, by go_num, HF.out, HBA.out⟩, by simp [intOf]; omega⟩
     | true =>
      clear t2
      go_wp2
      exact ⟨⟨k + 1, by omega, by go_num, HF.out, HBA.out⟩, by simp [intOf]; omega⟩
    ·have HQ : Hid (q1 (s[k]'hlt) = [s[k]'hlt]) := hid (by unfold q1; rw [if_neg hc])
     have t1 : (((s[k]'hlt).toNat : Int) == 39) = false := by
      rw [beq_eq_false_iff_ne]; intro e; exact hc (Or.inl (UInt8.toNat_inj.1 (by show (s[k]'hlt).toNat = 39; omega)))
     have t2 : (((s[k]'hlt).toNat : Int) == 92) = false := by
      rw [beq_eq_false_iff_ne]; intro e; exact hc (Or.inr (UInt8.toNat_inj.1 (by show (s[k]'hlt).toNat = 92; omega)))
     clear hc
     go_wp2
     refine ⟨⟨k + 1, by omega, by go_num, ?_, HB2.out⟩, by simp [intOf]; omega⟩
     rw [HE1.out, hsn.out, HQ.out, HL.out, List.append_assoc]
   ·have hkk : k = s.size := by omega
    subst hkk
    have hall : s.data.toList.take s.size = s.data.toList := by rw [← HLEN.out]; exact List.take_length
    rw [hall]
    have hql := qL_len s.data.toList
    rw [HLEN.out] at hql
    obtain ⟨L, hL⟩ : ∃ L, L = [39] ++ qL s.data.toList := ⟨_, rfl⟩
    have hLl : L.length ≤ 3000000 := by rw [hL]; simp; omega
    have HV2 : Hid (textB 3 n s.data.toList = L ++ [39]) := hid (by rw [HV.out, hL]; rfl)
    rw [← hL]
    have hOl : (ByteArray.mk L.toArray).size ≤ 3000000 := by rw [size_mk]; exact hLl
    clear hql hL hall
    go_wp2
    go_ret
    exact ⟨by rw [HV2.out]; exact congrArg (fun x => Ending.returned (Value.string x)) (str_sum L [39]), HB.out.trans (HB2.out.mono HB.out.size)⟩
end Go.Proofs.YtdgglhlofnigkaaGreatDoor
