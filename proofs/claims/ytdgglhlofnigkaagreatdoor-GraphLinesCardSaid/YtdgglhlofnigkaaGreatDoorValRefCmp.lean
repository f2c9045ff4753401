/- hedgerowref01.Compare. -/import Derived.Test.YtdgglhlofnigkaaGreatDoorJValCmp
import Derived.Deep.DeepCutAuto
namespace Go.Proofs.YtdgglhlofnigkaaGreatDoor
open Lib (hid)
open Go.RowKit
theorem below_drewR {B : Nat} {a w : World} (h : Below B a w) (n : Nat) : Below B a (w.drewN n) := ⟨h.os, h.tape, h.output, h.size, h.block⟩
theorem cb_step (l m : List UInt8) (i : Nat) (hl : i < l.length) (hm : i < m.length) : Lib.compareBytes (l.drop i) (m.drop i) = if l[i] < m[i] then -1 else if m[i] < l[i] then 1 else Lib.compareBytes (l.drop (i + 1)) (m.drop (i + 1)) := by
 rw [List.drop_eq_getElem_cons hl, List.drop_eq_getElem_cons hm]; rfl
theorem cb_end (l m : List UInt8) (i : Nat) (hl : i ≤ l.length) (hm : i ≤ m.length) (h : ¬ (i < l.length ∧ i < m.length)) : Lib.compareBytes (l.drop i) (m.drop i) = if l.length < m.length then -1 else if m.length < l.length then 1 else 0 := by
 by_cases h1 : i < l.length
 ·have h2 : i = m.length := by omega
  have e1 : ¬ l.length < m.length := by omega
  have e2 : m.length < l.length := by omega
  rw [List.drop_eq_getElem_cons h1, List.drop_of_length_le (l := m) (by omega), if_neg e1, if_pos e2]; rfl
 ·rw [List.drop_of_length_le (l := l) (by omega)]
  by_cases h2 : i < m.length
  ·rw [List.drop_eq_getElem_cons h2, if_pos (by omega)]; rfl
  ·rw [List.drop_of_length_le (l := m) (by omega), if_neg (by omega), if_neg (by omega)]; rfl
set_option maxHeartbeats 2000000 in
theorem refcmp_any (k n : Int) (s : ByteArray) (k' n' : Int) (t : ByteArray) (w : World) (hs : s.size ≤ 9223372036854775806) :
  Calls Tryz.prog 47 #[valV k n s, valV k' n' t] w (Gives w (.int .i64 (cmpB k n s.data.toList k' n' t.data.toList))) := by
 have HB : Hid (∀ o o' : Obj, Below w.heap.size w ((w.alloc o).alloc o')) := hid (fun o o' => ((Below.refl _ _).alloc (Nat.le_refl _) o).alloc (by simp) o')
 unfold valV
 by_cases h1 : k < k'
 ·have HV : Hid (cmpB k n s.data.toList k' n' t.data.toList = -1) := hid (by simp [cmpB, Lib.compareInt, h1])
  have hne : (k != k') = true := by simp; omega
  go_enter Tryz.func47, Tryz.ntmps47
  go_wp2
  go_ret
  exact ⟨by rw [HV.out]; rfl, HB.out _ _⟩
 by_cases h2 : k' < k
 ·have HV : Hid (cmpB k n s.data.toList k' n' t.data.toList = 1) := hid (by simp [cmpB, Lib.compareInt, h1, h2])
  have hne : (k != k') = true := by simp; omega
  go_enter Tryz.func47, Tryz.ntmps47
  go_wp2
  go_ret
  exact ⟨by rw [HV.out]; rfl, HB.out _ _⟩
 obtain rfl : k = k' := by omega
 clear h1 h2
 by_cases h1 : n < n'
 ·have HV : Hid (cmpB k n s.data.toList k n' t.data.toList = -1) := hid (by simp [cmpB, Lib.compareInt, h1])
  have hne : (n != n') = true := by simp; omega
  go_enter Tryz.func47, Tryz.ntmps47
  go_wp2
  go_ret
  exact ⟨by rw [HV.out]; rfl, HB.out _ _⟩
 by_cases h2 : n' < n
 ·have HV : Hid (cmpB k n s.data.toList k n' t.data.toList = 1) := hid (by simp [cmpB, Lib.compareInt, h1, h2])
  have hne : (n != n') = true := by simp; omega
  go_enter Tryz.func47, Tryz.ntmps47
  go_wp2
  go_ret
  exact ⟨by rw [HV.out]; rfl, HB.out _ _⟩
 obtain rfl : n = n' := by omega
 clear h1 h2
 have HV : Hid (cmpB k n s.data.toList k n t.data.toList = Lib.compareBytes s.data.toList t.data.toList) := hid (by simp [cmpB, Lib.compareInt])
 have hls : s.data.toList.length = s.size := by rw [Array.length_toList]; rfl
 have hlt : t.data.toList.length = t.size := by rw [Array.length_toList]; rfl
 have HLS := hid hls
 have HLT := hid hlt
 clear hls hlt
 go_enter Tryz.func47, Tryz.ntmps47
 go_wp2_with fail
 go_loopw [5] (fun x wr => ∃ i q : Nat, x = .int .i64 i ∧ wr = ((w.alloc (.cells #[.int .i64 k, .int .i64 n, .string s] 43)).alloc (.cells #[.int .i64 k, .int .i64 n, .string t] 43)).drewN q ∧ i ≤ s.size ∧ i ≤ t.size ∧ Lib.compareBytes (s.data.toList.drop i) (t.data.toList.drop i) = Lib.compareBytes s.data.toList t.data.toList) (fun x _ => s.size - (intOf x).toNat)
 case atStart => exact ⟨0, 0, rfl, rfl, Nat.zero_le _, Nat.zero_le _, rfl⟩
 case round =>
  obtain ⟨i, q, rfl, rfl, his, hit, hcb⟩ := hrel
  have HC := hid hcb
  clear hcb
  by_cases hi : i < s.size
  ·by_cases hj : i < t.size
   ·have g1 : (i : Int) < (s.size : Int) := by omega
    have g2 : (i : Int) < (t.size : Int) := by omega
    have g0 : (0 : Int) ≤ (i : Int) := by omega
    obtain ⟨a, ha⟩ : ∃ a : Int, ((s[i]'hi).toNat : Int) = a := ⟨_, rfl⟩
    obtain ⟨b, hb⟩ : ∃ b : Int, ((t[i]'hj).toNat : Int) = b := ⟨_, rfl⟩
    have hstep : Lib.compareBytes s.data.toList t.data.toList = if a < b then -1 else if b < a then 1 else Lib.compareBytes (s.data.toList.drop (i + 1)) (t.data.toList.drop (i + 1)) := by
     have h1 : i < s.data.toList.length := by rw [HLS.out]; exact hi
     have h2 : i < t.data.toList.length := by rw [HLT.out]; exact hj
     rw [← HC.out, cb_step _ _ i h1 h2]
     have e1 : s.data.toList[i] = s[i]'hi := rfl
     have e2 : t.data.toList[i] = t[i]'hj := rfl
     have e3 : (s.data.toList[i] < t.data.toList[i]) ↔ a < b := by rw [e1, e2, UInt8.lt_iff_toNat_lt, ← ha, ← hb]; omega
     have e4 : (t.data.toList[i] < s.data.toList[i]) ↔ b < a := by rw [e1, e2, UInt8.lt_iff_toNat_lt, ← ha, ← hb]; omega
     simp only [e3, e4]
    have HS := hid hstep
    clear hstep
    by_cases hab : a < b
    ·have HR : Hid (cmpB k n s.data.toList k n t.data.toList = -1) := hid (by rw [HV.out, HS.out, if_pos hab])
     have hne : (a != b) = true := by simp; omega
     go_wp2_with fail
     go_region
     go_wp2_with fail
     go_region
     go_wp2
     go_ret
     exact ⟨by rw [HR.out]; rfl, below_drewR (HB.out _ _) _⟩
    by_cases hba : b < a
    ·have HR : Hid (cmpB k n s.data.toList k n t.data.toList = 1) := hid (by rw [HV.out, HS.out, if_neg hab, if_pos hba])
     have hne : (a != b) = true := by simp; omega
     go_wp2_with fail
     go_region
     go_wp2_with fail
     go_region
     go_wp2
     go_ret
     exact ⟨by rw [HR.out]; rfl, below_drewR (HB.out _ _) _⟩
    ·have HR : Hid (Lib.compareBytes (s.data.toList.drop (i + 1)) (t.data.toList.drop (i + 1)) = Lib.compareBytes s.data.toList t.data.toList) := hid (by rw [HS.out, if_neg hab, if_neg hba])
     have hne : (a != b) = false := by simp; omega
     have hwr : wrap64 ((i : Int) + 1) = ((i + 1 : Nat) : Int) := by rw [IntWalk.wrap64_in _ ⟨by omega, by omega⟩]; omega
     go_wp2_with fail
     go_region
     go_wp2_with fail
     go_roundw
     case rel => exact ⟨i + 1, q + 1, by first | rfl | (rw [hwr]), rfl, by omega, by omega, HR.out⟩
     case measure => simp [intOf]; omega
   ·have g1 : (i : Int) < (s.size : Int) := by omega
    have g2 : ¬ (i : Int) < (t.size : Int) := by omega
    have g3 : ¬ (s.size : Int) < (t.size : Int) := by omega
    have g4 : (t.size : Int) < (s.size : Int) := by omega
    have HR : Hid (cmpB k n s.data.toList k n t.data.toList = 1) := hid (by
     rw [HV.out, ← HC.out, cb_end _ _ i (by rw [HLS.out]; exact his) (by rw [HLT.out]; exact hit) (by rw [HLS.out, HLT.out]; omega), HLS.out, HLT.out, if_neg (by omega), if_pos (by omega)])
    go_wp2
    go_ret
    exact ⟨by rw [HR.out]; rfl, below_drewR (HB.out _ _) _⟩
  ·have g1 : ¬ (i : Int) < (s.size : Int) := by omega
   have HE : Hid (cmpB k n s.data.toList k n t.data.toList = if s.size < t.size then -1 else if t.size < s.size then 1 else 0) := hid (by
    rw [HV.out, ← HC.out, cb_end _ _ i (by rw [HLS.out]; exact his) (by rw [HLT.out]; exact hit) (by rw [HLS.out, HLT.out]; omega), HLS.out, HLT.out])
   by_cases h5 : s.size < t.size
   ·have HR : Hid (cmpB k n s.data.toList k n t.data.toList = -1) := hid (by rw [HE.out, if_pos h5])
    have g3 : (s.size : Int) < (t.size : Int) := by omega
    go_wp2
    go_ret
    exact ⟨by rw [HR.out]; rfl, below_drewR (HB.out _ _) _⟩
   ·have HR : Hid (cmpB k n s.data.toList k n t.data.toList = 0) := hid (by rw [HE.out, if_neg h5, if_neg (by omega)])
    have g3 : ¬ (s.size : Int) < (t.size : Int) := by omega
    have g4 : ¬ (t.size : Int) < (s.size : Int) := by omega
    go_wp2
    go_ret
    exact ⟨by rw [HR.out]; rfl, below_drewR (HB.out _ _) _⟩
end Go.Proofs.YtdgglhlofnigkaaGreatDoor
