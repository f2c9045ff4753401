/-
  hedgerowref18: in, Words, Signs, run, text: the contracts, by walks. hedgerowref18: run and text: the contracts, by walks (the cases of a byte written by a script). Conditions: lengths.
-/
import Derived.Test.YtdabanocofimmaaGreatDoorJTkName
import Derived.Test.YtdabanocofimmaaGreatDoorJLxRefM
import Derived.Test.YtdabanocofimmaaGreatDoorJLxDigits
import Derived.Test.YtdabanocofimmaaGreatDoorValRefParse
namespace Go.Proofs.YtdabanocofimmaaGreatDoor
open Go.RowKit

set_option maxRecDepth 100000 in
set_option maxHeartbeats 1000000 in
theorem rwords_any (w : World) : Calls Tryz.prog 70 #[] w fun e w' => e = .returned (.slice (some ⟨w.heap.size, 0, none⟩) 26 26) ∧ w' = w.alloc (.cells (strA Lx.words) 9) := by
  go_enter Tryz.func70, Tryz.ntmps70
  go_wp2_with fail
  go_ret
  exact ⟨rfl, rfl⟩
set_option maxRecDepth 100000 in
set_option maxHeartbeats 1000000 in
theorem rsigns_any (w : World) : Calls Tryz.prog 68 #[] w fun e w' => e = .returned (.slice (some ⟨w.heap.size, 0, none⟩) 20 20) ∧ w' = w.alloc (.cells (strA Lx.signs) 9) := by
  go_enter Tryz.func68, Tryz.ntmps68
  go_wp2_with fail
  go_ret
  exact ⟨rfl, rfl⟩
set_option maxHeartbeats 2000000 in
theorem rin_any (L : List (List UInt8)) (x : List UInt8) (b n : Nat) (w : World) (hn : L.length = n) (hN : n ≤ 1000) (hB : Blk w b 9 (strA L)) :
    Calls Tryz.prog 67 #[.slice (some ⟨b, 0, none⟩) n n, .string ⟨x.toArray⟩] w (SameV w (.bool (L.contains x))) := by
  have HN := Lib.hid (And.intro hn hN)
  have HB := Lib.hid hB
  obtain ⟨q, hq⟩ : ∃ q, L.contains x = q := ⟨_, rfl⟩
  rw [hq]
  have HQ := Lib.hid hq
  clear hn hN hB hq
  go_enter Tryz.func67, Tryz.ntmps67
  go_wp2_with fail
  go_loopw [9] (fun v9 wr => ∃ k : Nat, v9 = .int .i64 (k : Nat) ∧ k ≤ n ∧ wr = w ∧ ∀ j (h : j < L.length), j < k → L[j]'h ≠ x) (fun v9 _ => n - (intOf v9).toNat)
  case atStart => exact ⟨0, rfl, Nat.zero_le _, rfl, fun j _ h => absurd h (Nat.not_lt_zero j)⟩
  case round =>
    obtain ⟨k, rfl, hk, rfl, hno⟩ := hrel
    have HNo := Lib.hid hno
    clear hno
    by_cases hlt : k < n
    · have hkl : k < L.length := by rw [HN.out.1]; exact hlt
      have hcell := strA_cell HB.out hkl
      obtain ⟨one, hone⟩ : ∃ one, L[k]'hkl = one := ⟨_, rfl⟩
      rw [hone] at hcell
      have he := str_inj (a := one) (b := x)
      obtain ⟨k1, hk1⟩ : ∃ k1, k + 1 = k1 := ⟨_, rfl⟩
      have HK := Lib.hid (And.intro hk1 hlt)
      have hw1 : wrap64 ((k : Int) + 1) = (k1 : Int) := by have := HN.out; rw [IntWalk.wrap64_in _ ⟨by omega, by omega⟩]; omega
      have hkn : (k : Int) < (n : Int) := by omega
      have hk0 : (0 : Int) ≤ (k : Int) := by omega
      by_cases hx : one = x
      · have HF := Lib.hid (show q = true by rw [← HQ.out]; exact List.contains_iff_mem.2 (by rw [← hx, ← hone]; exact List.getElem_mem hkl))
        rw [decide_eq_true hx] at he
        clear hx hone hkl hk hk1 hlt
        generalize (ByteArray.mk one.toArray) = X at *
        generalize (ByteArray.mk x.toArray) = Y at *
        go_wp2_with fail
        go_ret
        exact ⟨by rw [HF.out]; rfl, rfl⟩
      · rw [decide_eq_false hx] at he
        have HNx := Lib.hid (show ∀ j (h : j < L.length), j < k1 → L[j]'h ≠ x from fun j h hj => by
          by_cases hjk : j = k
          · subst hjk; rw [hone]; exact hx
          · exact HNo.out j h (by omega))
        clear hx hone hkl hk hk1 hlt
        generalize (ByteArray.mk one.toArray) = X at *
        generalize (ByteArray.mk x.toArray) = Y at *
        go_wp2_with fail
        go_roundw
        case rel => exact ⟨k1, by first | rfl | rw [hw1] | exact congrArg (Value.int .i64) (by have := HK.out; omega), by have := HK.out; omega, by first | trivial | rfl, HNx.out⟩
        case measure =>
          have := HK.out
          (try rw [hw1])
          show n - (intOf (.int .i64 _)).toNat < n - (intOf (.int .i64 _)).toNat
          simp only [intOf, Int.toNat_natCast]
          omega
    · have hkn : k = n := by omega
      have HF := Lib.hid (show q = false by
        cases hq : q with
        | false => rfl
        | true =>
          rw [← HQ.out] at hq
          obtain ⟨j, hj, he⟩ := List.mem_iff_getElem.1 (List.contains_iff_mem.1 hq)
          exact absurd he (HNo.out j hj (by have := HN.out; omega)))
      have hkk : ¬ (k : Int) < (n : Int) := by omega
      clear hlt hkn hk
      go_wp2_with fail
      go_ret
      exact ⟨by rw [HF.out]; rfl, rfl⟩

end Go.Proofs.YtdabanocofimmaaGreatDoor

namespace Go.Proofs.YtdabanocofimmaaGreatDoor
open Go.RowKit

theorem beq95 (b : UInt8) : (b == 95) = decide ((b.toNat : Int) = 95) := by
  have := Lx.all_bytes (p := fun b => (b == 95) == decide ((b.toNat : Int) = 95)) (by decide +kernel) b
  exact eq_of_beq this

set_option maxRecDepth 100000 in
set_option maxHeartbeats 4000000 in
theorem rrun1_any (s : ByteArray) (w : World) (hs : s.size ≤ 9223372036854775800) : Calls Tryz.prog 65 #[.string s, .int .i64 1] w (SameV w (.int .i64 ((Lx.runL Lx.inNames s.data.toList).length : Nat))) := by
  have HS := Lib.hid hs
  obtain ⟨R, hR⟩ : ∃ R, (Lx.runL Lx.inNames s.data.toList).length = R := ⟨_, rfl⟩
  rw [hR]
  have HR := Lib.hid hR
  clear hs hR
  go_enter Tryz.func65, Tryz.ntmps65
  go_wp2
  go_loopw [5] (fun x wr => ∃ i : Nat, x = .int .i64 i ∧ wr = w ∧ i ≤ s.size ∧ R = i + (Lx.runL Lx.inNames (s.data.toList.drop i)).length) (fun x _ => s.size - (intOf x).toNat)
  case atStart => exact ⟨0, rfl, rfl, Nat.zero_le _, by rw [List.drop_zero, Nat.zero_add]; exact HR.out.symm⟩
  case round =>
    obtain ⟨i, rfl, rfl, hi, hq⟩ := hrel
    by_cases hp : i < s.size
    · have g1 : (i : Int) < (s.size : Int) := by omega
      have g0 : (0 : Int) ≤ (i : Int) := by omega
      obtain ⟨c, hc⟩ : ∃ c : Int, ((s[i]'hp).toNat : Int) = c := ⟨_, rfl⟩
      have hc0 : 0 ≤ c := by omega
      rw [drop_at s i hp, Lx.runL_cons, Lx.in_names] at hq
      have h95 : ((s[i]'hp) == 95) = decide (c = 95) := by rw [← hc]; exact beq95 _
      have hkind : (Lx.letU (s[i]'hp) || Lx.digU (s[i]'hp) || (s[i]'hp) == 95) = (lettB c || digI c || decide (c = 95)) := by rw [h95, ← hc]; rfl
      rw [hkind] at hq
      obtain ⟨i1, hi1⟩ : ∃ i1, i + 1 = i1 := ⟨_, rfl⟩
      have hw1 : wrap64 ((i : Int) + 1) = (i1 : Int) := by have := HS.out; rw [IntWalk.wrap64_in _ ⟨by omega, by omega⟩]; omega
      have HI := Lib.hid (And.intro hi1 hp)
      rw [hi1] at hq
      clear hkind h95 hi hi1 hc0
      have hcase : (48 ≤ c ∧ c ≤ 57) ∨ (97 ≤ c ∧ c ≤ 122) ∨ (65 ≤ c ∧ c ≤ 90) ∨ (c = 95) ∨ (c < 48) ∨ (57 < c ∧ c < 65) ∨ (90 < c ∧ c < 95) ∨ (c = 96) ∨ (122 < c) := by omega
      rcases hcase with hcs | hcs | hcs | hcs | hcs | hcs | hcs | hcs | hcs
      · have f0 : (48 : Int) ≤ c := by omega
        have f1 : c ≤ (57 : Int) := by omega
        have f2 : ¬ (97 : Int) ≤ c := by omega
        have f3 : c ≤ (122 : Int) := by omega
        have f4 : ¬ (65 : Int) ≤ c := by omega
        have f5 : c ≤ (90 : Int) := by omega
        have f6 : (c == 95) = false := by rw [beq_eq_false_iff_ne]; omega
        have hb : (lettB c || digI c || decide (c = 95)) = true := by unfold lettB digI; simp; omega
        rw [hb] at hq
        have HQ := Lib.hid (show R = i1 + (Lx.runL Lx.inNames (s.data.toList.drop i1)).length by rw [if_pos rfl, List.length_cons] at hq; have := HI.out; omega)
        clear hb hq hcs
        go_wp2
        go_roundw
        case rel => exact ⟨i1, by first | rfl | rw [hw1] | exact congrArg (Value.int .i64) (by have := HI.out; omega), by first | trivial | rfl, by have := HI.out; omega, HQ.out⟩
        case measure =>
          have := HI.out
          (try rw [hw1])
          show s.size - (intOf (.int .i64 _)).toNat < s.size - (intOf (.int .i64 _)).toNat
          simp only [intOf, Int.toNat_natCast]
          omega
      · have f0 : (48 : Int) ≤ c := by omega
        have f1 : ¬ c ≤ (57 : Int) := by omega
        have f2 : (97 : Int) ≤ c := by omega
        have f3 : c ≤ (122 : Int) := by omega
        have f4 : (65 : Int) ≤ c := by omega
        have f5 : ¬ c ≤ (90 : Int) := by omega
        have f6 : (c == 95) = false := by rw [beq_eq_false_iff_ne]; omega
        have hb : (lettB c || digI c || decide (c = 95)) = true := by unfold lettB digI; simp; omega
        rw [hb] at hq
        have HQ := Lib.hid (show R = i1 + (Lx.runL Lx.inNames (s.data.toList.drop i1)).length by rw [if_pos rfl, List.length_cons] at hq; have := HI.out; omega)
        clear hb hq hcs
        go_wp2
        go_roundw
        case rel => exact ⟨i1, by first | rfl | rw [hw1] | exact congrArg (Value.int .i64) (by have := HI.out; omega), by first | trivial | rfl, by have := HI.out; omega, HQ.out⟩
        case measure =>
          have := HI.out
          (try rw [hw1])
          show s.size - (intOf (.int .i64 _)).toNat < s.size - (intOf (.int .i64 _)).toNat
          simp only [intOf, Int.toNat_natCast]
          omega
      · have f0 : (48 : Int) ≤ c := by omega
        have f1 : ¬ c ≤ (57 : Int) := by omega
        have f2 : ¬ (97 : Int) ≤ c := by omega
        have f3 : c ≤ (122 : Int) := by omega
        have f4 : (65 : Int) ≤ c := by omega
        have f5 : c ≤ (90 : Int) := by omega
        have f6 : (c == 95) = false := by rw [beq_eq_false_iff_ne]; omega
        have hb : (lettB c || digI c || decide (c = 95)) = true := by unfold lettB digI; simp; omega
        rw [hb] at hq
        have HQ := Lib.hid (show R = i1 + (Lx.runL Lx.inNames (s.data.toList.drop i1)).length by rw [if_pos rfl, List.length_cons] at hq; have := HI.out; omega)
        clear hb hq hcs
        go_wp2
        go_roundw
        case rel => exact ⟨i1, by first | rfl | rw [hw1] | exact congrArg (Value.int .i64) (by have := HI.out; omega), by first | trivial | rfl, by have := HI.out; omega, HQ.out⟩
        case measure =>
          have := HI.out
          (try rw [hw1])
          show s.size - (intOf (.int .i64 _)).toNat < s.size - (intOf (.int .i64 _)).toNat
          simp only [intOf, Int.toNat_natCast]
          omega
      · have f0 : (48 : Int) ≤ c := by omega
        have f1 : ¬ c ≤ (57 : Int) := by omega
        have f2 : ¬ (97 : Int) ≤ c := by omega
        have f3 : c ≤ (122 : Int) := by omega
        have f4 : (65 : Int) ≤ c := by omega
        have f5 : ¬ c ≤ (90 : Int) := by omega
        have f6 : (c == 95) = true := by rw [hcs]; rfl
        have hb : (lettB c || digI c || decide (c = 95)) = true := by unfold lettB digI; simp; omega
        rw [hb] at hq
        have HQ := Lib.hid (show R = i1 + (Lx.runL Lx.inNames (s.data.toList.drop i1)).length by rw [if_pos rfl, List.length_cons] at hq; have := HI.out; omega)
        clear hb hq hcs
        go_wp2
        go_roundw
        case rel => exact ⟨i1, by first | rfl | rw [hw1] | exact congrArg (Value.int .i64) (by have := HI.out; omega), by first | trivial | rfl, by have := HI.out; omega, HQ.out⟩
        case measure =>
          have := HI.out
          (try rw [hw1])
          show s.size - (intOf (.int .i64 _)).toNat < s.size - (intOf (.int .i64 _)).toNat
          simp only [intOf, Int.toNat_natCast]
          omega
      · have f0 : ¬ (48 : Int) ≤ c := by omega
        have f1 : c ≤ (57 : Int) := by omega
        have f2 : ¬ (97 : Int) ≤ c := by omega
        have f3 : c ≤ (122 : Int) := by omega
        have f4 : ¬ (65 : Int) ≤ c := by omega
        have f5 : c ≤ (90 : Int) := by omega
        have f6 : (c == 95) = false := by rw [beq_eq_false_iff_ne]; omega
        have hb : (lettB c || digI c || decide (c = 95)) = false := by unfold lettB digI; simp; omega
        rw [hb] at hq
        have HQ := Lib.hid (show R = i by rw [if_neg (by decide)] at hq; simpa using hq)
        clear hb hq hcs
        go_wp2
        go_ret
        exact ⟨by rw [HQ.out]; rfl, rfl⟩
      · have f0 : (48 : Int) ≤ c := by omega
        have f1 : ¬ c ≤ (57 : Int) := by omega
        have f2 : ¬ (97 : Int) ≤ c := by omega
        have f3 : c ≤ (122 : Int) := by omega
        have f4 : ¬ (65 : Int) ≤ c := by omega
        have f5 : c ≤ (90 : Int) := by omega
        have f6 : (c == 95) = false := by rw [beq_eq_false_iff_ne]; omega
        have hb : (lettB c || digI c || decide (c = 95)) = false := by unfold lettB digI; simp; omega
        rw [hb] at hq
        have HQ := Lib.hid (show R = i by rw [if_neg (by decide)] at hq; simpa using hq)
        clear hb hq hcs
        go_wp2
        go_ret
        exact ⟨by rw [HQ.out]; rfl, rfl⟩
      · have f0 : (48 : Int) ≤ c := by omega
        have f1 : ¬ c ≤ (57 : Int) := by omega
        have f2 : ¬ (97 : Int) ≤ c := by omega
        have f3 : c ≤ (122 : Int) := by omega
        have f4 : (65 : Int) ≤ c := by omega
        have f5 : ¬ c ≤ (90 : Int) := by omega
        have f6 : (c == 95) = false := by rw [beq_eq_false_iff_ne]; omega
        have hb : (lettB c || digI c || decide (c = 95)) = false := by unfold lettB digI; simp; omega
        rw [hb] at hq
        have HQ := Lib.hid (show R = i by rw [if_neg (by decide)] at hq; simpa using hq)
        clear hb hq hcs
        go_wp2
        go_ret
        exact ⟨by rw [HQ.out]; rfl, rfl⟩
      · have f0 : (48 : Int) ≤ c := by omega
        have f1 : ¬ c ≤ (57 : Int) := by omega
        have f2 : ¬ (97 : Int) ≤ c := by omega
        have f3 : c ≤ (122 : Int) := by omega
        have f4 : (65 : Int) ≤ c := by omega
        have f5 : ¬ c ≤ (90 : Int) := by omega
        have f6 : (c == 95) = false := by rw [beq_eq_false_iff_ne]; omega
        have hb : (lettB c || digI c || decide (c = 95)) = false := by unfold lettB digI; simp; omega
        rw [hb] at hq
        have HQ := Lib.hid (show R = i by rw [if_neg (by decide)] at hq; simpa using hq)
        clear hb hq hcs
        go_wp2
        go_ret
        exact ⟨by rw [HQ.out]; rfl, rfl⟩
      · have f0 : (48 : Int) ≤ c := by omega
        have f1 : ¬ c ≤ (57 : Int) := by omega
        have f2 : (97 : Int) ≤ c := by omega
        have f3 : ¬ c ≤ (122 : Int) := by omega
        have f4 : (65 : Int) ≤ c := by omega
        have f5 : ¬ c ≤ (90 : Int) := by omega
        have f6 : (c == 95) = false := by rw [beq_eq_false_iff_ne]; omega
        have hb : (lettB c || digI c || decide (c = 95)) = false := by unfold lettB digI; simp; omega
        rw [hb] at hq
        have HQ := Lib.hid (show R = i by rw [if_neg (by decide)] at hq; simpa using hq)
        clear hb hq hcs
        go_wp2
        go_ret
        exact ⟨by rw [HQ.out]; rfl, rfl⟩
    · have g1 : ¬ (i : Int) < (s.size : Int) := by omega
      rw [drop_past s i (by omega), Lx.runL_nil] at hq
      have HQ := Lib.hid (show R = i from hq)
      clear hq
      go_wp2
      go_ret
      exact ⟨by rw [HQ.out]; rfl, rfl⟩

set_option maxRecDepth 100000 in
set_option maxHeartbeats 4000000 in
theorem rrun2_any (s : ByteArray) (w : World) (hs : s.size ≤ 9223372036854775800) : Calls Tryz.prog 65 #[.string s, .int .i64 2] w (SameV w (.int .i64 ((Lx.runL Lx.inNums s.data.toList).length : Nat))) := by
  have HS := Lib.hid hs
  obtain ⟨R, hR⟩ : ∃ R, (Lx.runL Lx.inNums s.data.toList).length = R := ⟨_, rfl⟩
  rw [hR]
  have HR := Lib.hid hR
  clear hs hR
  go_enter Tryz.func65, Tryz.ntmps65
  go_wp2
  go_loopw [5] (fun x wr => ∃ i : Nat, x = .int .i64 i ∧ wr = w ∧ i ≤ s.size ∧ R = i + (Lx.runL Lx.inNums (s.data.toList.drop i)).length) (fun x _ => s.size - (intOf x).toNat)
  case atStart => exact ⟨0, rfl, rfl, Nat.zero_le _, by rw [List.drop_zero, Nat.zero_add]; exact HR.out.symm⟩
  case round =>
    obtain ⟨i, rfl, rfl, hi, hq⟩ := hrel
    by_cases hp : i < s.size
    · have g1 : (i : Int) < (s.size : Int) := by omega
      have g0 : (0 : Int) ≤ (i : Int) := by omega
      obtain ⟨c, hc⟩ : ∃ c : Int, ((s[i]'hp).toNat : Int) = c := ⟨_, rfl⟩
      have hc0 : 0 ≤ c := by omega
      rw [drop_at s i hp, Lx.runL_cons, Lx.in_nums] at hq
      have hkind : Lx.digU (s[i]'hp) = digI c := by rw [← hc]; rfl
      rw [hkind] at hq
      obtain ⟨i1, hi1⟩ : ∃ i1, i + 1 = i1 := ⟨_, rfl⟩
      have hw1 : wrap64 ((i : Int) + 1) = (i1 : Int) := by have := HS.out; rw [IntWalk.wrap64_in _ ⟨by omega, by omega⟩]; omega
      have HI := Lib.hid (And.intro hi1 hp)
      rw [hi1] at hq
      clear hkind hi hi1 hc0
      have hcase : (48 ≤ c ∧ c ≤ 57) ∨ (97 ≤ c ∧ c ≤ 122) ∨ (65 ≤ c ∧ c ≤ 90) ∨ (c = 95) ∨ (c < 48) ∨ (57 < c ∧ c < 65) ∨ (90 < c ∧ c < 95) ∨ (c = 96) ∨ (122 < c) := by omega
      rcases hcase with hcs | hcs | hcs | hcs | hcs | hcs | hcs | hcs | hcs
      · have f0 : (48 : Int) ≤ c := by omega
        have f1 : c ≤ (57 : Int) := by omega
        have f2 : ¬ (97 : Int) ≤ c := by omega
        have f3 : c ≤ (122 : Int) := by omega
        have f4 : ¬ (65 : Int) ≤ c := by omega
        have f5 : c ≤ (90 : Int) := by omega
        have f6 : (c == 95) = false := by rw [beq_eq_false_iff_ne]; omega
        have hb : digI c = true := by unfold digI; simp; omega
        rw [hb] at hq
        have HQ := Lib.hid (show R = i1 + (Lx.runL Lx.inNums (s.data.toList.drop i1)).length by rw [if_pos rfl, List.length_cons] at hq; have := HI.out; omega)
        clear hb hq hcs
        go_wp2
        go_roundw
        case rel => exact ⟨i1, by first | rfl | rw [hw1] | exact congrArg (Value.int .i64) (by have := HI.out; omega), by first | trivial | rfl, by have := HI.out; omega, HQ.out⟩
        case measure =>
          have := HI.out
          (try rw [hw1])
          show s.size - (intOf (.int .i64 _)).toNat < s.size - (intOf (.int .i64 _)).toNat
          simp only [intOf, Int.toNat_natCast]
          omega
      · have f0 : (48 : Int) ≤ c := by omega
        have f1 : ¬ c ≤ (57 : Int) := by omega
        have f2 : (97 : Int) ≤ c := by omega
        have f3 : c ≤ (122 : Int) := by omega
        have f4 : (65 : Int) ≤ c := by omega
        have f5 : ¬ c ≤ (90 : Int) := by omega
        have f6 : (c == 95) = false := by rw [beq_eq_false_iff_ne]; omega
        have hb : digI c = false := by unfold digI; simp; omega
        rw [hb] at hq
        have HQ := Lib.hid (show R = i by rw [if_neg (by decide)] at hq; simpa using hq)
        clear hb hq hcs
        go_wp2
        go_ret
        exact ⟨by rw [HQ.out]; rfl, rfl⟩
      · have f0 : (48 : Int) ≤ c := by omega
        have f1 : ¬ c ≤ (57 : Int) := by omega
        have f2 : ¬ (97 : Int) ≤ c := by omega
        have f3 : c ≤ (122 : Int) := by omega
        have f4 : (65 : Int) ≤ c := by omega
        have f5 : c ≤ (90 : Int) := by omega
        have f6 : (c == 95) = false := by rw [beq_eq_false_iff_ne]; omega
        have hb : digI c = false := by unfold digI; simp; omega
        rw [hb] at hq
        have HQ := Lib.hid (show R = i by rw [if_neg (by decide)] at hq; simpa using hq)
        clear hb hq hcs
        go_wp2
        go_ret
        exact ⟨by rw [HQ.out]; rfl, rfl⟩
      · have f0 : (48 : Int) ≤ c := by omega
        have f1 : ¬ c ≤ (57 : Int) := by omega
        have f2 : ¬ (97 : Int) ≤ c := by omega
        have f3 : c ≤ (122 : Int) := by omega
        have f4 : (65 : Int) ≤ c := by omega
        have f5 : ¬ c ≤ (90 : Int) := by omega
        have f6 : (c == 95) = true := by rw [hcs]; rfl
        have hb : digI c = false := by unfold digI; simp; omega
        rw [hb] at hq
        have HQ := Lib.hid (show R = i by rw [if_neg (by decide)] at hq; simpa using hq)
        clear hb hq hcs
        go_wp2
        go_ret
        exact ⟨by rw [HQ.out]; rfl, rfl⟩
      · have f0 : ¬ (48 : Int) ≤ c := by omega
        have f1 : c ≤ (57 : Int) := by omega
        have f2 : ¬ (97 : Int) ≤ c := by omega
        have f3 : c ≤ (122 : Int) := by omega
        have f4 : ¬ (65 : Int) ≤ c := by omega
        have f5 : c ≤ (90 : Int) := by omega
        have f6 : (c == 95) = false := by rw [beq_eq_false_iff_ne]; omega
        have hb : digI c = false := by unfold digI; simp; omega
        rw [hb] at hq
        have HQ := Lib.hid (show R = i by rw [if_neg (by decide)] at hq; simpa using hq)
        clear hb hq hcs
        go_wp2
        go_ret
        exact ⟨by rw [HQ.out]; rfl, rfl⟩
      · have f0 : (48 : Int) ≤ c := by omega
        have f1 : ¬ c ≤ (57 : Int) := by omega
        have f2 : ¬ (97 : Int) ≤ c := by omega
        have f3 : c ≤ (122 : Int) := by omega
        have f4 : ¬ (65 : Int) ≤ c := by omega
        have f5 : c ≤ (90 : Int) := by omega
        have f6 : (c == 95) = false := by rw [beq_eq_false_iff_ne]; omega
        have hb : digI c = false := by unfold digI; simp; omega
        rw [hb] at hq
        have HQ := Lib.hid (show R = i by rw [if_neg (by decide)] at hq; simpa using hq)
        clear hb hq hcs
        go_wp2
        go_ret
        exact ⟨by rw [HQ.out]; rfl, rfl⟩
      · have f0 : (48 : Int) ≤ c := by omega
        have f1 : ¬ c ≤ (57 : Int) := by omega
        have f2 : ¬ (97 : Int) ≤ c := by omega
        have f3 : c ≤ (122 : Int) := by omega
        have f4 : (65 : Int) ≤ c := by omega
        have f5 : ¬ c ≤ (90 : Int) := by omega
        have f6 : (c == 95) = false := by rw [beq_eq_false_iff_ne]; omega
        have hb : digI c = false := by unfold digI; simp; omega
        rw [hb] at hq
        have HQ := Lib.hid (show R = i by rw [if_neg (by decide)] at hq; simpa using hq)
        clear hb hq hcs
        go_wp2
        go_ret
        exact ⟨by rw [HQ.out]; rfl, rfl⟩
      · have f0 : (48 : Int) ≤ c := by omega
        have f1 : ¬ c ≤ (57 : Int) := by omega
        have f2 : ¬ (97 : Int) ≤ c := by omega
        have f3 : c ≤ (122 : Int) := by omega
        have f4 : (65 : Int) ≤ c := by omega
        have f5 : ¬ c ≤ (90 : Int) := by omega
        have f6 : (c == 95) = false := by rw [beq_eq_false_iff_ne]; omega
        have hb : digI c = false := by unfold digI; simp; omega
        rw [hb] at hq
        have HQ := Lib.hid (show R = i by rw [if_neg (by decide)] at hq; simpa using hq)
        clear hb hq hcs
        go_wp2
        go_ret
        exact ⟨by rw [HQ.out]; rfl, rfl⟩
      · have f0 : (48 : Int) ≤ c := by omega
        have f1 : ¬ c ≤ (57 : Int) := by omega
        have f2 : (97 : Int) ≤ c := by omega
        have f3 : ¬ c ≤ (122 : Int) := by omega
        have f4 : (65 : Int) ≤ c := by omega
        have f5 : ¬ c ≤ (90 : Int) := by omega
        have f6 : (c == 95) = false := by rw [beq_eq_false_iff_ne]; omega
        have hb : digI c = false := by unfold digI; simp; omega
        rw [hb] at hq
        have HQ := Lib.hid (show R = i by rw [if_neg (by decide)] at hq; simpa using hq)
        clear hb hq hcs
        go_wp2
        go_ret
        exact ⟨by rw [HQ.out]; rfl, rfl⟩
    · have g1 : ¬ (i : Int) < (s.size : Int) := by omega
      rw [drop_past s i (by omega), Lx.runL_nil] at hq
      have HQ := Lib.hid (show R = i from hq)
      clear hq
      go_wp2
      go_ret
      exact ⟨by rw [HQ.out]; rfl, rfl⟩

set_option maxHeartbeats 2000000 in
theorem rtext_any (s : ByteArray) (w : World) (h0 : 0 < s.size) (hs : s.size ≤ 9223372036854775800) : Calls Tryz.prog 66 #[.string s] w (SameV w (.int .i64 ((if Lx.qe (s.data.toList.drop 1) = 0 then 0 else Lx.qe (s.data.toList.drop 1) + 1 : Nat)))) := by
  have HS := Lib.hid (And.intro h0 hs)
  obtain ⟨R, hR⟩ : ∃ R, (if Lx.qe (s.data.toList.drop 1) = 0 then 0 else Lx.qe (s.data.toList.drop 1) + 1) = R := ⟨_, rfl⟩
  rw [hR]
  have HR := Lib.hid hR
  clear h0 hs hR
  go_enter Tryz.func66, Tryz.ntmps66
  go_wp2
  go_loopw [3] (fun x wr => ∃ i : Nat, x = .int .i64 i ∧ wr = w ∧ 1 ≤ i ∧ i ≤ s.size + 1 ∧ QeAt s i) (fun x _ => s.size + 1 - (intOf x).toNat)
  case atStart => exact ⟨1, rfl, rfl, Nat.le_refl _, by have := HS.out; omega, ⟨id, fun _ => rfl⟩⟩
  case round =>
    obtain ⟨i, rfl, rfl, h1, hi, hq⟩ := hrel
    have HQ := Lib.hid hq
    clear hq
    by_cases hp : i < s.size
    · have g1 : (i : Int) < (s.size : Int) := by omega
      have g0 : (0 : Int) ≤ (i : Int) := by omega
      obtain ⟨c, hc⟩ : ∃ c : Int, ((s[i]'hp).toNat : Int) = c := ⟨_, rfl⟩
      obtain ⟨i1, hi1⟩ : ∃ i1, i + 1 = i1 := ⟨_, rfl⟩
      obtain ⟨i2, hi2⟩ : ∃ i2, i + 2 = i2 := ⟨_, rfl⟩
      have hw1 : wrap64 ((i : Int) + 1) = (i1 : Int) := by have := HS.out; rw [IntWalk.wrap64_in _ ⟨by omega, by omega⟩]; omega
      have hw2 : wrap64 ((i1 : Int) + 1) = (i2 : Int) := by have := HS.out; rw [IntWalk.wrap64_in _ ⟨by omega, by omega⟩]; omega
      have HI := Lib.hid (show i + 1 = i1 ∧ i + 2 = i2 ∧ i < s.size ∧ 1 ≤ i from ⟨hi1, hi2, hp, h1⟩)
      by_cases k1 : c = 92
      · have HQ2 := Lib.hid (HQ.out.skip hp h1 (by apply UInt8.toNat_inj.1; show _ = 92; omega))
        rw [hi2] at HQ2
        have hb1 : (c == 92) = true := by rw [k1]; rfl
        clear k1 hi1 hi2 h1 hi
        go_wp2
        go_roundw
        case rel => exact ⟨i2, by first | rfl | rw [hw2], by first | trivial | rfl, by have := HI.out; omega, by have := HI.out; omega, HQ2.out⟩
        case measure =>
          have := HI.out
          (try rw [hw2])
          (try rw [hw1])
          show s.size + 1 - (intOf (.int .i64 _)).toNat < s.size + 1 - (intOf (.int .i64 _)).toNat
          simp only [intOf, Int.toNat_natCast]
          omega
      by_cases k2 : c = 39
      · have hq1 := HQ.out.found hp h1 (by apply UInt8.toNat_inj.1; show _ = 39; omega)
        have HF := Lib.hid (show R = i1 by rw [← HR.out, hq1, if_neg (by omega), hi1])
        have hb1 : (c == 92) = false := by rw [k2]; rfl
        have hb2 : (c == 39) = true := by rw [k2]; rfl
        clear k1 k2 hi1 hi2 h1 hi hq1
        go_wp2
        go_ret
        exact ⟨by rw [HF.out, ← hw1]; first | rfl | (rw [hw1]; rfl), rfl⟩
      · have HQ2 := Lib.hid (HQ.out.next hp h1 (fun e => k1 (by rw [← hc, e]; rfl)) (fun e => k2 (by rw [← hc, e]; rfl)))
        rw [hi1] at HQ2
        have hb1 : (c == 92) = false := beq_eq_false_iff_ne.2 k1
        have hb2 : (c == 39) = false := beq_eq_false_iff_ne.2 k2
        clear k1 k2 hi1 hi2 h1 hi
        go_wp2
        go_roundw
        case rel => exact ⟨i1, by first | rfl | rw [hw1], by first | trivial | rfl, by have := HI.out; omega, by have := HI.out; omega, HQ2.out⟩
        case measure =>
          have := HI.out
          (try rw [hw2])
          (try rw [hw1])
          show s.size + 1 - (intOf (.int .i64 _)).toNat < s.size + 1 - (intOf (.int .i64 _)).toNat
          simp only [intOf, Int.toNat_natCast]
          omega
    · have g1 : ¬ (i : Int) < (s.size : Int) := by omega
      have HF := Lib.hid (show R = 0 by rw [← HR.out, HQ.out.none_ (by omega)]; rfl)
      go_wp2
      go_ret
      exact ⟨by rw [HF.out]; rfl, rfl⟩

end Go.Proofs.YtdabanocofimmaaGreatDoor
