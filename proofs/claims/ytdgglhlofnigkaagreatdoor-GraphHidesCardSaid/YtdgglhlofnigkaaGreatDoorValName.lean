/-
  value.letter, value.digit, value.Name, value.plain: the contracts, by walks. Conditions: none.
-/
import Derived.Test.YtdgglhlofnigkaaGreatDoorRows
import Derived.Test.YtdgglhlofnigkaaGreatDoorJWords
import Derived.Test.YtdgglhlofnigkaaGreatDoorJEVOps
namespace Go.Proofs.YtdgglhlofnigkaaGreatDoor
open Lib (hid)
open Go.RowKit
def SameV (w : World) (v : Value) (e : Ending) (w' : World) : Prop := e = .returned v ∧ w = w'
def Gives (w : World) (v : Value) (e : Ending) (w' : World) : Prop := e = .returned v ∧ Below w.heap.size w w'
set_option maxHeartbeats 400000 in
theorem letter_any (c : Int) (w : World) : Calls Tryz.prog 146 #[.int .i32 c] w (SameV w (.bool (lettB c))) := by
 by_cases h1 : 97 ≤ c <;> by_cases h2 : c ≤ 122 <;> by_cases h3 : 65 ≤ c <;> by_cases h4 : c ≤ 90
 all_goals
  go_enter Tryz.func146, Tryz.ntmps146
  go_wp2
  go_ret
  exact ⟨by simp [lettB, h1, h2, h3, h4], rfl⟩
set_option maxHeartbeats 400000 in
theorem digit_any (c : Int) (w : World) : Calls Tryz.prog 147 #[.int .i32 c] w (SameV w (.bool (digI c))) := by
 by_cases h1 : 48 ≤ c <;> by_cases h2 : c ≤ 57
 all_goals
  go_enter Tryz.func147, Tryz.ntmps147
  go_wp2
  go_ret
  exact ⟨by simp [digI, h1, h2], rfl⟩
theorem sign_at (s : ByteArray) (pos : Nat) (h : pos < s.size) : (((s[pos]'h).toNat < 128 ∧ Utf8.decode s pos = ((s[pos]'h).toNat, 1)) ∨ (128 ≤ (s[pos]'h).toNat ∧ 128 ≤ (Utf8.decode s pos).1)) ∧ s.data.toList.getD pos 0 = s[pos]'h := by
 constructor
 ·by_cases ha : (s[pos]'h).toNat < 128
  ·exact .inl ⟨ha, decode_ascii s pos h ha⟩
  ·exact .inr ⟨by omega, (decode_high s pos h (by omega)).1⟩
 ·have : pos < s.data.toList.length := by rw [Array.length_toList]; exact h
  rw [List.getD, List.getElem?_eq_getElem this]; rfl
theorem iter_below (w : World) (s : ByteArray) (pos : Nat) : Below w.heap.size w (w.iter s pos) := (Below.refl _ _).alloc (Nat.le_refl _) _
set_option maxHeartbeats 2000000 in
theorem name_any (s : ByteArray) (w : World) (hs : s.size ≤ 9223372036854775807) : Calls Tryz.prog 118 #[.string s] w (Gives w (.bool (nameB s.data.toList))) := by
 have hlen : s.data.toList.length = s.size := by rw [Array.length_toList]; rfl
 have hN : nameB s.data.toList = (decide (0 < s.size) && decide (s.size ≤ 16) && (List.range s.size).all (okAt s.data.toList)) := by unfold nameB; rw [hlen]
 have HN := hid hN
 clear hN hlen
 by_cases h0 : s.size = 0
 ·have he : s.toList.isEmpty = true := by
   rw [Lib.toList_data]; have : s.data.toList.length = 0 := by rw [Array.length_toList]; exact h0
   simpa using List.eq_nil_of_length_eq_zero this
  have HF : Hid (nameB s.data.toList = false) := hid (by rw [HN.out, h0]; rfl)
  clear h0
  go_enter Tryz.func118, Tryz.ntmps118
  go_wp2
  go_ret
  exact ⟨by rw [HF.out]; rfl, Below.refl _ _⟩
 ·have he : s.toList.isEmpty = false := by
   rw [Lib.toList_data]
   cases hl : s.data.toList with
   | nil => exfalso; apply h0; have : s.data.toList.length = s.size := by rw [Array.length_toList]; rfl
            rw [hl] at this; simpa using this.symm
   | cons a t => rfl
  by_cases h16 : 16 < s.size
  ·have HF : Hid (nameB s.data.toList = false) := hid (by rw [HN.out]; simp; omega)
   go_enter Tryz.func118, Tryz.ntmps118
   go_wp2
   go_ret
   exact ⟨by rw [HF.out]; rfl, Below.refl _ _⟩
  ·go_enter Tryz.func118, Tryz.ntmps118
   go_wp2
   go_loopw [] (fun wr => ∃ pos, wr = w.iter s pos ∧ pos ≤ s.size ∧ ∀ i, i < pos → okAt s.data.toList i = true) (fun wr => s.size - wr.iterPos w.heap.size)
   case atStart => exact ⟨0, rfl, Nat.zero_le _, fun i hi => by omega⟩
   case round =>
    obtain ⟨pos, rfl, hps, hall⟩ := hrel
    have HA := hid hall
    clear hall
    by_cases hp : pos < s.size
    ·obtain ⟨hsg, hget⟩ := sign_at s pos hp
     have hnx : ∀ ty, (Instr.next (.pointer (some ⟨w.heap.size, 0, none⟩)) true ty).run Tryz.prog (w.iter s pos) = _ := fun ty => run_next_any w s pos ty hp
     have hR : okR ((Utf8.decode s pos).1 : Int) pos = okAt s.data.toList pos := by
      unfold okAt
      rw [hget]
      rcases hsg with ⟨_, h2⟩ | ⟨h1, h2⟩
      ·rw [h2]
      ·rw [okR_high _ _ (by omega), okR_high _ _ (by omega)]
     have hone : okAt s.data.toList pos = true → (Utf8.decode s pos).2 = 1 := by
      intro hk
      rcases hsg with ⟨_, h2⟩ | ⟨h1, h2⟩
      ·rw [h2]
      ·unfold okAt at hk; rw [hget, okR_high _ _ (by omega)] at hk; cases hk
     have hF : okAt s.data.toList pos = false → nameB s.data.toList = false := by
      intro hk
      rw [HN.out, all_range_false hp hk, Bool.and_false]
     have hNext : okAt s.data.toList pos = true → ∀ i, i < pos + 1 → okAt s.data.toList i = true := by
      intro hk i hi
      rcases Nat.lt_or_ge i pos with hlt | hge
      ·exact HA.out i hlt
      ·rw [show i = pos from by omega]; exact hk
     have HF := hid hF
     have HX := hid hNext
     have HO := hid hone
     have HR := hid hR
     clear hF hNext hone hR hsg hget
     go_wp2_with fail
     refine (letter_any _ _).mono ?_
     rintro e w' ⟨rfl, rfl⟩
     generalize hq : ((Utf8.decode s pos).1 : Int) = R at *
     have HQ := hid hq; clear hq
     cases hl : lettB R with
     | true =>
      have hk : okAt s.data.toList pos = true := by rw [← HR.out]; simp [okR, hl]
      have H1 := HO.out hk
      have H2 := hid (HX.out hk)
      clear hk
      go_wp2
      go_roundw
      case rel => exact ⟨pos + 1, rfl, by omega, H2.out⟩
      case measure => simp only [World.iterPos_iter]; omega
     | false =>
      by_cases hp0 : pos = 0
      ·have hk : okAt s.data.toList pos = false := by rw [← HR.out]; simp [okR, hl, hp0]
       have H2 := hid (HF.out hk)
       clear hk
       subst hp0
       go_wp2
       go_ret
       exact ⟨by rw [H2.out]; rfl, iter_below _ _ _⟩
      ·have hpb : ((pos : Int) == 0) = false := by rw [beq_eq_false_iff_ne]; omega
       go_wp2_with fail
       refine (digit_any _ _).mono ?_
       rintro e w' ⟨rfl, rfl⟩
       cases hd : digI R with
       | true =>
        have hk : okAt s.data.toList pos = true := by rw [← HR.out]; simp [okR, hl, hd]; omega
        have H1 := HO.out hk
        have H2 := hid (HX.out hk)
        clear hk
        go_wp2
        go_roundw
        case rel => exact ⟨pos + 1, rfl, by omega, H2.out⟩
        case measure => simp only [World.iterPos_iter]; omega
       | false =>
        by_cases h95 : R = 95
        ·have h95' : (R != 95) = false := by simp [h95]
         have hk : okAt s.data.toList pos = true := by rw [← HR.out]; simp [okR, h95]; omega
         have H1 := HO.out hk
         have H2 := hid (HX.out hk)
         clear hk
         have H9 := hid h95; clear h95
         go_wp2
         go_roundw
         case rel => exact ⟨pos + 1, rfl, by omega, H2.out⟩
         case measure => simp only [World.iterPos_iter]; omega
        ·have h95' : (R != 95) = true := by simp [h95]
         have hk : okAt s.data.toList pos = false := by rw [← HR.out]; simp [okR, hl, hd, h95]
         have H2 := hid (HF.out hk)
         clear hk h95
         go_wp2
         go_ret
         exact ⟨by rw [H2.out]; rfl, iter_below _ _ _⟩
    ·have hnx : ∀ ty, (Instr.next (.pointer (some ⟨w.heap.size, 0, none⟩)) true ty).run Tryz.prog (w.iter s pos) = _ := fun ty => run_next_end w s pos ty hp
     have HF : Hid (nameB s.data.toList = true) := hid (by rw [HN.out, all_range_true (fun i hi => HA.out i (by omega))]; simp; omega)
     go_wp2
     go_ret
     exact ⟨by rw [HF.out]; rfl, iter_below _ _ _⟩
set_option maxHeartbeats 2000000 in
theorem plain_any (s : ByteArray) (w : World) (hs : s.size ≤ 9223372036854775807) : Calls Tryz.prog 117 #[.string s] w (Gives w (.bool (plainB s.data.toList))) := by
 have hlen : s.data.toList.length = s.size := by rw [Array.length_toList]; rfl
 have hN : plainB s.data.toList = (decide (s.size ≤ 64) && (List.range s.size).all (plnAt s.data.toList)) := by unfold plainB; rw [hlen]
 have HN := hid hN
 clear hN hlen
 by_cases h64 : 64 < s.size
 ·have HF : Hid (plainB s.data.toList = false) := hid (by rw [HN.out]; simp; omega)
  go_enter Tryz.func117, Tryz.ntmps117
  go_wp2
  go_ret
  exact ⟨by rw [HF.out]; rfl, Below.refl _ _⟩
 ·go_enter Tryz.func117, Tryz.ntmps117
  go_wp2
  go_loopw [] (fun wr => ∃ pos, wr = w.iter s pos ∧ pos ≤ s.size ∧ ∀ i, i < pos → plnAt s.data.toList i = true) (fun wr => s.size - wr.iterPos w.heap.size)
  case atStart => exact ⟨0, rfl, Nat.zero_le _, fun i hi => by omega⟩
  case round =>
   obtain ⟨pos, rfl, hps, hall⟩ := hrel
   have HA := hid hall
   clear hall
   by_cases hp : pos < s.size
   ·obtain ⟨hsg, hget⟩ := sign_at s pos hp
    have hnx : ∀ ty, (Instr.next (.pointer (some ⟨w.heap.size, 0, none⟩)) true ty).run Tryz.prog (w.iter s pos) = _ := fun ty => run_next_any w s pos ty hp
    have hR : plnR ((Utf8.decode s pos).1 : Int) = plnAt s.data.toList pos := by
     unfold plnAt
     rw [hget]
     rcases hsg with ⟨_, h2⟩ | ⟨h1, h2⟩
     ·rw [h2]
     ·rw [plnR_high _ (by omega), plnR_high _ (by omega)]
    have hone : plnAt s.data.toList pos = true → (Utf8.decode s pos).2 = 1 := by
     intro hk
     rcases hsg with ⟨_, h2⟩ | ⟨h1, h2⟩
     ·rw [h2]
     ·unfold plnAt at hk; rw [hget, plnR_high _ (by omega)] at hk; cases hk
    by_cases hk : plnAt s.data.toList pos = true
    ·have H2 : Hid (∀ i, i < pos + 1 → plnAt s.data.toList i = true) := hid (by
      intro i hi
      rcases Nat.lt_or_ge i pos with hlt | hge
      ·exact HA.out i hlt
      ·rw [show i = pos from by omega]; exact hk)
     have H1 := hone hk
     have hb : 32 ≤ ((Utf8.decode s pos).1 : Int) ∧ ((Utf8.decode s pos).1 : Int) ≤ 126 := by
      rw [← hR] at hk; simp [plnR] at hk; omega
     obtain ⟨b1, b2⟩ := hb
     clear hk hone hR hsg hget
     go_wp2
     go_roundw
     case rel => exact ⟨pos + 1, rfl, by omega, H2.out⟩
     case measure => simp only [World.iterPos_iter]; omega
    ·have hk' : plnAt s.data.toList pos = false := by simpa using hk
     have HF : Hid (plainB s.data.toList = false) := hid (by rw [HN.out, all_range_false hp hk', Bool.and_false])
     have hb : ((Utf8.decode s pos).1 : Int) < 32 ∨ 126 < ((Utf8.decode s pos).1 : Int) := by
      rw [← hR] at hk'; simp [plnR] at hk'; omega
     clear hk hk' hone hR hsg hget
     rcases hb with hb | hb
     ·go_wp2
      go_ret
      exact ⟨by rw [HF.out]; rfl, iter_below _ _ _⟩
     ·have hb' : ¬ ((Utf8.decode s pos).1 : Int) < 32 := by omega
      go_wp2
      go_ret
      exact ⟨by rw [HF.out]; rfl, iter_below _ _ _⟩
   ·have hnx : ∀ ty, (Instr.next (.pointer (some ⟨w.heap.size, 0, none⟩)) true ty).run Tryz.prog (w.iter s pos) = _ := fun ty => run_next_end w s pos ty hp
    have HF : Hid (plainB s.data.toList = true) := hid (by rw [HN.out, all_range_true (fun i hi => HA.out i (by omega))]; simp; omega)
    go_wp2
    go_ret
    exact ⟨by rw [HF.out]; rfl, iter_below _ _ _⟩
end Go.Proofs.YtdgglhlofnigkaaGreatDoor
