/-
  value.letter, value.digit, value.Name, value.plain. value.names, value.held, value.Right, value.Elem, value.Compare, value.OfLink, value.Link, value.inner. value.held, value.Right, value.Elem, value.Link, value.OfLink, value.Compare, value.inner. Conditions: lengths.
-/import Derived.Test.YtdgglhlofnigkaaGreatDoorRows
import Derived.Test.YtdgglhlofnigkaaGreatDoorJWords
import Derived.Test.YtdgglhlofnigkaaGreatDoorJEVOps
import Derived.Test.YtdgglhlofnigkaaGreatDoorShelf
import Derived.Handy
set_option maxHeartbeats 2000000
namespace Go.Proofs.YtdgglhlofnigkaaGreatDoor
open Lib (hid)
open Go.RowKit
def SameV (w : World) (v : Value) (e : Ending) (w' : World) : Prop := e = .returned v ∧ w = w'
def Gives (w : World) (v : Value) (e : Ending) (w' : World) : Prop := e = .returned v ∧ Below w.heap.size w w'
theorem letter_any (c : Int) (w : World) : Calls Tryz.prog 146 #[.int .i32 c] w (SameV w (.bool (lettB c))) := by
 by_cases h1 : 97 ≤ c <;> by_cases h2 : c ≤ 122 <;> by_cases h3 : 65 ≤ c <;> by_cases h4 : c ≤ 90
 all_goals
  go_enter Tryz.func146, Tryz.ntmps146
  go_wp2
  go_ret
  exact ⟨by simp [lettB, h1, h2, h3, h4], rfl⟩
theorem digit_any (c : Int) (w : World) : Calls Tryz.prog 147 #[.int .i32 c] w (SameV w (.bool (digI c))) := by
 by_cases h1 : 48 ≤ c <;> by_cases h2 : c ≤ 57
 all_goals
  go_enter Tryz.func147, Tryz.ntmps147
  go_wp2
  go_ret
  exact ⟨by simp [digI, h1, h2], rfl⟩
theorem sign_at (s : ByteArray) (pos : Nat) (h : pos < s.size) : (((s[pos]'h).toNat < 128 ∧ Utf8.decode s pos = ((s[pos]'h).toNat, 1)) ∨ (128 ≤ (s[pos]'h).toNat ∧ 128 ≤ (Utf8.decode s pos).1)) ∧ s.data.toList.getD pos 0 = s[pos]'h := by
 constructor
 ·by_cases ha : (s[pos]'h).toNat < 128
  ·exact .inl ⟨ha, decode_ascii s pos h ha⟩
  ·exact .inr ⟨by omega, (decode_high s pos h (by omega)).1⟩
 ·have : pos < s.data.toList.length := by rw [Array.length_toList]; exact h
  rw [List.getD, List.getElem?_eq_getElem this]; rfl
theorem iter_below (w : World) (s : ByteArray) (pos : Nat) : Below w.heap.size w (w.iter s pos) := (Below.refl _ _).alloc (Nat.le_refl _) _
theorem name_any (s : ByteArray) (w : World) (hs : s.size ≤ 9223372036854775807) : Calls Tryz.prog 118 #[.string s] w (Gives w (.bool (nameB s.data.toList))) := by
 have hlen : s.data.toList.length = s.size := by rw [Array.length_toList]; rfl
 have hN : nameB s.data.toList = (decide (0 < s.size) && decide (s.size ≤ 16) && (List.range s.size).all (okAt s.data.toList)) := by unfold nameB; rw [hlen]
 have HN := hid hN
 clear hN hlen
 by_cases h0 : s.size = 0
 ·have he : s.toList.isEmpty = true := by
   rw [Lib.toList_data]; have : s.data.toList.length = 0 := by rw [Array.length_toList]; exact h0
   simpa using List.eq_nil_of_length_eq_zero this
  have HF : Hid (nameB s.data.toList = false) := hid (by rw [HN.out, h0]; rfl)
  clear h0
  go_enter Tryz.func118, Tryz.ntmps118
  go_wp2
  go_ret
  exact ⟨by rw [HF.out]; rfl, Below.refl _ _⟩
 ·have he : s.toList.isEmpty = false := by
   rw [Lib.toList_data]
   cases hl : s.data.toList with
   | nil => exfalso; apply h0; have : s.data.toList.length = s.size := by rw [Array.length_toList]; rfl
            rw [hl] at this; simpa using this.symm
   | cons a t => rfl
  by_cases h16 : 16 < s.size
  ·have HF : Hid (nameB s.data.toList = false) := hid (by rw [HN.out]; simp; omega)
   go_enter Tryz.func118, Tryz.ntmps118
   go_wp2
   go_ret
   exact ⟨by rw [HF.out]; rfl, Below.refl _ _⟩
  ·go_enter Tryz.func118, Tryz.ntmps118
   go_wp2
   go_loopw [] (fun wr => ∃ pos, wr = w.iter s pos ∧ pos ≤ s.size ∧ ∀ i, i < pos → okAt s.data.toList i = true) (fun wr => s.size - wr.iterPos w.heap.size)
   case atStart => exact ⟨0, rfl, Nat.zero_le _, fun i hi => by omega⟩
   case round =>
    obtain ⟨pos, rfl, hps, hall⟩ := hrel
    have HA := hid hall
    clear hall
    by_cases hp : pos < s.size
    ·obtain ⟨hsg, hget⟩ := sign_at s pos hp
     have hnx : ∀ ty, (Instr.next (.pointer (some ⟨w.heap.size, 0, none⟩)) true ty).run Tryz.prog (w.iter s pos) = _ := fun ty => run_next_any w s pos ty hp
     have hR : okR ((Utf8.decode s pos).1 : Int) pos = okAt s.data.toList pos := by
      unfold okAt
      rw [hget]
      rcases hsg with ⟨_, h2⟩ | ⟨h1, h2⟩
      ·rw [h2]
      ·rw [okR_high _ _ (by omega), okR_high _ _ (by omega)]
     have hone : okAt s.data.toList pos = true → (Utf8.decode s pos).2 = 1 := by
      intro hk
      rcases hsg with ⟨_, h2⟩ | ⟨h1, h2⟩
      ·rw [h2]
      ·unfold okAt at hk; rw [hget, okR_high _ _ (by omega)] at hk; cases hk
     have hF : okAt s.data.toList pos = false → nameB s.data.toList = false := by
      intro hk
      rw [HN.out, all_range_false hp hk, Bool.and_false]
     have hNext : okAt s.data.toList pos = true → ∀ i, i < pos + 1 → okAt s.data.toList i = true := by
      intro hk i hi
      rcases Nat.lt_or_ge i pos with hlt | hge
      ·exact HA.out i hlt
      ·rw [show i = pos from by omega]; exact hk
     have HF := hid hF
     have HX := hid hNext
     have HO := hid hone
     have HR := hid hR
     clear hF hNext hone hR hsg hget
     go_wp2_with fail
     refine (letter_any _ _).mono ?_
     rintro e w' ⟨rfl, rfl⟩
     generalize hq : ((Utf8.decode s pos).1 : Int) = R at *
     have HQ := hid hq; clear hq
     cases hl : lettB R with
     | true =>
      have hk : okAt s.data.toList pos = true := by rw [← HR.out]; simp [okR, hl]
      have H1 := HO.out hk
      have H2 := hid (HX.out hk)
      clear hk
      go_wp2
      go_roundw
      case rel => exact ⟨pos + 1, rfl, by omega, H2.out⟩
      case measure => simp only [World.iterPos_iter]; omega
     | false =>
      by_cases hp0 : pos = 0
      ·have hk : okAt s.data.toList pos = false := by rw [← HR.out]; simp [okR, hl, hp0]
       have H2 := hid (HF.out hk)
       clear hk
       subst hp0
       go_wp2
       go_ret
       exact ⟨by rw [H2.out]; rfl, iter_below _ _ _⟩
      ·have hpb : ((pos : Int) == 0) = false := by rw [beq_eq_false_iff_ne]; omega
       go_wp2_with fail
       refine (digit_any _ _).mono ?_
       rintro e w' ⟨rfl, rfl⟩
       cases hd : digI R with
       | true =>
        have hk : okAt s.data.toList pos = true := by rw [← HR.out]; simp [okR, hl, hd]; omega
        have H1 := HO.out hk
        have H2 := hid (HX.out hk)
        clear hk
        go_wp2
        go_roundw
        case rel => exact ⟨pos + 1, rfl, by omega, H2.out⟩
        case measure => simp only [World.iterPos_iter]; omega
       | false =>
        by_cases h95 : R = 95
        ·have h95' : (R != 95) = false := by simp [h95]
         have hk : okAt s.data.toList pos = true := by rw [← HR.out]; simp [okR, h95]; omega
         have H1 := HO.out hk
         have H2 := hid (HX.out hk)
         clear hk
         have H9 := hid h95; clear h95
         go_wp2
         go_roundw
         case rel => exact ⟨pos + 1, rfl, by omega, H2.out⟩
         case measure => simp only [World.iterPos_iter]; omega
        ·have h95' : (R != 95) = true := by simp [h95]
         have hk : okAt s.data.toList pos = false := by rw [← HR.out]; simp [okR, hl, hd, h95]
         have H2 := hid (HF.out hk)
         clear hk h95
         go_wp2
         go_ret
         exact ⟨by rw [H2.out]; rfl, iter_below _ _ _⟩
    ·have hnx : ∀ ty, (Instr.next (.pointer (some ⟨w.heap.size, 0, none⟩)) true ty).run Tryz.prog (w.iter s pos) = _ := fun ty => run_next_end w s pos ty hp
     have HF : Hid (nameB s.data.toList = true) := hid (by rw [HN.out, all_range_true (fun i hi => HA.out i (by omega))]; simp; omega)
     go_wp2
     go_ret
     exact ⟨by rw [HF.out]; rfl, iter_below _ _ _⟩
theorem plain_any (s : ByteArray) (w : World) (hs : s.size ≤ 9223372036854775807) : Calls Tryz.prog 117 #[.string s] w (Gives w (.bool (plainB s.data.toList))) := by
 have hlen : s.data.toList.length = s.size := by rw [Array.length_toList]; rfl
 have hN : plainB s.data.toList = (decide (s.size ≤ 64) && (List.range s.size).all (plnAt s.data.toList)) := by unfold plainB; rw [hlen]
 have HN := hid hN
 clear hN hlen
 by_cases h64 : 64 < s.size
 ·have HF : Hid (plainB s.data.toList = false) := hid (by rw [HN.out]; simp; omega)
  go_enter Tryz.func117, Tryz.ntmps117
  go_wp2
  go_ret
  exact ⟨by rw [HF.out]; rfl, Below.refl _ _⟩
 ·go_enter Tryz.func117, Tryz.ntmps117
  go_wp2
  go_loopw [] (fun wr => ∃ pos, wr = w.iter s pos ∧ pos ≤ s.size ∧ ∀ i, i < pos → plnAt s.data.toList i = true) (fun wr => s.size - wr.iterPos w.heap.size)
  case atStart => exact ⟨0, rfl, Nat.zero_le _, fun i hi => by omega⟩
  case round =>
   obtain ⟨pos, rfl, hps, hall⟩ := hrel
   have HA := hid hall
   clear hall
   by_cases hp : pos < s.size
   ·obtain ⟨hsg, hget⟩ := sign_at s pos hp
    have hnx : ∀ ty, (Instr.next (.pointer (some ⟨w.heap.size, 0, none⟩)) true ty).run Tryz.prog (w.iter s pos) = _ := fun ty => run_next_any w s pos ty hp
    have hR : plnR ((Utf8.decode s pos).1 : Int) = plnAt s.data.toList pos := by
     unfold plnAt
     rw [hget]
     rcases hsg with ⟨_, h2⟩ | ⟨h1, h2⟩
     ·rw [h2]
     ·rw [plnR_high _ (by omega), plnR_high _ (by omega)]
    have hone : plnAt s.data.toList pos = true → (Utf8.decode s pos).2 = 1 := by
     intro hk
     rcases hsg with ⟨_, h2⟩ | ⟨h1, h2⟩
     ·rw [h2]
     ·unfold plnAt at hk; rw [hget, plnR_high _ (by omega)] at hk; cases hk
    by_cases hk : plnAt s.data.toList pos = true
    ·have H2 : Hid (∀ i, i < pos + 1 → plnAt s.data.toList i = true) := hid (by
      intro i hi
      rcases Nat.lt_or_ge i pos with hlt | hge
      ·exact HA.out i hlt
      ·rw [show i = pos from by omega]; exact hk)
     have H1 := hone hk
     have hb : 32 ≤ ((Utf8.decode s pos).1 : Int) ∧ ((Utf8.decode s pos).1 : Int) ≤ 126 := by
      rw [← hR] at hk; simp [plnR] at hk; omega
     obtain ⟨b1, b2⟩ := hb
     clear hk hone hR hsg hget
     go_wp2
     go_roundw
     case rel => exact ⟨pos + 1, rfl, by omega, H2.out⟩
     case measure => simp only [World.iterPos_iter]; omega
    ·have hk' : plnAt s.data.toList pos = false := by simpa using hk
     have HF : Hid (plainB s.data.toList = false) := hid (by rw [HN.out, all_range_false hp hk', Bool.and_false])
     have hb : ((Utf8.decode s pos).1 : Int) < 32 ∨ 126 < ((Utf8.decode s pos).1 : Int) := by
      rw [← hR] at hk'; simp [plnR] at hk'; omega
     clear hk hk' hone hR hsg hget
     rcases hb with hb | hb
     ·go_wp2
      go_ret
      exact ⟨by rw [HF.out]; rfl, iter_below _ _ _⟩
     ·have hb' : ¬ ((Utf8.decode s pos).1 : Int) < 32 := by omega
      go_wp2
      go_ret
      exact ⟨by rw [HF.out]; rfl, iter_below _ _ _⟩
   ·have hnx : ∀ ty, (Instr.next (.pointer (some ⟨w.heap.size, 0, none⟩)) true ty).run Tryz.prog (w.iter s pos) = _ := fun ty => run_next_end w s pos ty hp
    have HF : Hid (plainB s.data.toList = true) := hid (by rw [HN.out, all_range_true (fun i hi => HA.out i (by omega))]; simp; omega)
    go_wp2
    go_ret
    exact ⟨by rw [HF.out]; rfl, iter_below _ _ _⟩
def CutOk (w : World) : Prop := 0 < w.heap.size ∧ ∃ m : Int, w.cell? ⟨0, 0, none⟩ = some (.int .i64 m)
theorem CutOk.below {w w' : World} (h : CutOk w) (hb : Below w.heap.size w w') : CutOk w' := by
 obtain ⟨h0, m, hm⟩ := h
 exact ⟨Nat.lt_of_lt_of_le h0 hb.size, m, (hb.cell (p := ⟨0, 0, none⟩) h0).trans hm⟩
theorem CutOk.alloc {w : World} (h : CutOk w) (o : Obj) : CutOk (w.alloc o) := h.below ((Below.refl _ _).alloc (Nat.le_refl _) o)
theorem CutOk.drewN {w : World} (h : CutOk w) (n : Nat) : CutOk (w.drewN n) := h
def sv (l : List UInt8) : Value := .string ⟨l.toArray⟩
def lkV (a b c : List UInt8) : Value := .agg #[sv a, sv b, sv c]
def nmA (l : List UInt8) : List UInt8 := (Lib.cut l [62]).1
def nmK (l : List UInt8) : List UInt8 := (Lib.cut (Lib.cut l [62]).2.1 [62]).1
def nmT (l : List UInt8) : List UInt8 := (Lib.cut (Lib.cut l [62]).2.1 [62]).2.1
def nmB (l : List UInt8) : Bool := nameB (nmA l) && nameB (nmK l) && nameB (nmT l)
def nmV (l : List UInt8) : Value := .tuple #[if nmB l then lkV (nmA l) (nmT l) (nmK l) else lkV [] [] [], .bool (nmB l)]
theorem cut_len (l s : List UInt8) : (Lib.cut l s).1.length ≤ l.length ∧ (Lib.cut l s).2.1.length ≤ l.length := by
 unfold Lib.cut
 split <;> simp
 omega
theorem cut_any (s : ByteArray) (w : World) (hs : s.size < 4294967281) (hw : CutOk w) : Calls Tryz.prog 148 #[.string s, .string ⟨#[62]⟩] w fun e w' => e = .returned (.tuple #[.string ⟨(Lib.cut s.data.toList [62]).1.toArray⟩, .string ⟨(Lib.cut s.data.toList [62]).2.1.toArray⟩, .bool (Lib.cut s.data.toList [62]).2.2]) ∧ ∃ n, w' = w.drewN n := by
 obtain ⟨_, m, hm⟩ := hw
 exact Tryz.strings_Cut s ⟨#[62]⟩ m w hs hm
def In1 (w : World) (o : Obj) (w' : World) : Prop := Below (w.heap.size + 1) (w.alloc o) w'
theorem In1.drew (w : World) (o : Obj) (n : Nat) : In1 w o ((w.alloc o).drewN n) := ⟨rfl, rfl, rfl, by show (w.alloc o).heap.size ≤ (w.alloc o).heap.size; exact Nat.le_refl _, fun _ _ => rfl⟩
theorem In1.drew' {w w' : World} {o : Obj} (h : In1 w o w') (n : Nat) : In1 w o (w'.drewN n) := ⟨h.os, h.tape, h.output, h.size, h.block⟩
theorem In1.then_ {w w' w'' : World} {o : Obj} (h : In1 w o w') (k : Below w'.heap.size w' w'') : In1 w o w'' :=
 Below.trans h (k.mono (by have := h.size; simp at this; omega))
theorem In1.below {w w' : World} {o : Obj} (h : In1 w o w') : Below w.heap.size w w' := ((Below.refl _ _).alloc (Nat.le_refl _) o).trans (h.mono (Nat.le_succ _))
theorem In1.blk {w w' : World} {t : TypeId} {cs : Array Value} (h : In1 w (.cells cs t) w') : Blk w' w.heap.size t cs := (Blk.new w t cs).below h (Nat.lt_succ_self _)
theorem In1.three {w w' : World} {t : TypeId} {a b c : Value} (h : In1 w (.cells #[a, b, c] t) w') :
  w'.cell? ⟨w.heap.size, 0, none⟩ = some a ∧ w'.cell? ⟨w.heap.size, 1, none⟩ = some b ∧ w'.cell? ⟨w.heap.size, 2, none⟩ = some c ∧
  w'.frozen? ⟨w.heap.size, 0, none⟩ = false ∧ w'.frozen? ⟨w.heap.size, 1, none⟩ = false ∧ w'.frozen? ⟨w.heap.size, 2, none⟩ = false ∧ w.heap.size < w'.heap.size :=
 ⟨by rw [h.blk.cell]; rfl, by rw [h.blk.cell]; rfl, by rw [h.blk.cell]; rfl, h.blk.free 0, h.blk.free 1, h.blk.free 2, h.blk.lt⟩
theorem set3_below {w w' : World} (h : Below w.heap.size w w') (a b c : Value) : Below w.heap.size w (((w'.setCell ⟨w.heap.size, 0, none⟩ a).setCell ⟨w.heap.size, 1, none⟩ b).setCell ⟨w.heap.size, 2, none⟩ c) :=
 ((h.setCell (Nat.le_refl _) a).setCell (Nat.le_refl _) b).setCell (Nat.le_refl _) c
theorem set3_blk {w w' : World} {t : TypeId} {a b c : Value} (h : In1 w (.cells #[a, b, c] t) w') (x y z : Value) : Blk (((w'.setCell ⟨w.heap.size, 0, none⟩ x).setCell ⟨w.heap.size, 1, none⟩ y).setCell ⟨w.heap.size, 2, none⟩ z) w.heap.size t #[x, y, z] := by
 simpa using ((h.blk.set_ 0 x).set_ 1 y).set_ 2 z
theorem ret_cell {P : Program} {fn : Func} {p u : Tmp} {ty : TypeId} (h : fn.results = #[.cell p ty, .tmp u]) (tmps : Array Value) (w : World) (g : Nat) (t : TypeId) (cs : Array Value) (d : TypeDesc) (v : Value)
  (hp : tmps.getD p undef = .pointer (some ⟨g, 0, none⟩)) (hg : Blk w g t cs)
  (hu : P.underlying ty = some d) (hd : (match d with | .struct _ | .array _ _ => true | _ => false) = true) (hi : (P.info? ty).map (·.size) = some cs.size) (hv : tmps.getD u undef = v) :
  (results fn tmps).run P w = .ok (.tuple #[.agg cs, v]) w := by
 rw [results_cell_tmp h, hp, hv]
 simp [asAddr, Result.andThen, run_loadVar_row w g t ty cs (0, 0) d hg hu hd hi]
theorem size_mk (l : List UInt8) : (ByteArray.mk l.toArray).size = l.length := by simp [ByteArray.size]
set_option maxHeartbeats 1000000 in
theorem names_any (s : ByteArray) (w : World) (hs : s.size < 4294967281) (hw : CutOk w) : Calls Tryz.prog 119 #[.string s] w (Gives w (nmV s.data.toList)) := by
 have hlen : s.data.toList.length = s.size := by rw [Array.length_toList]; rfl
 obtain ⟨h1, h2⟩ := cut_len s.data.toList [62]
 obtain ⟨h3, h4⟩ := cut_len (Lib.cut s.data.toList [62]).2.1 [62]
 have hA : Hid (nmA s.data.toList = (Lib.cut s.data.toList [62]).1) := hid rfl
 have hK : Hid (nmK s.data.toList = (Lib.cut (Lib.cut s.data.toList [62]).2.1 [62]).1) := hid rfl
 have hT : Hid (nmT s.data.toList = (Lib.cut (Lib.cut s.data.toList [62]).2.1 [62]).2.1) := hid rfl
 have hB : Hid (nmB s.data.toList = (nameB (nmA s.data.toList) && nameB (nmK s.data.toList) && nameB (nmT s.data.toList))) := hid rfl
 have hV : Hid (nmV s.data.toList = .tuple #[if nmB s.data.toList then lkV (nmA s.data.toList) (nmT s.data.toList) (nmK s.data.toList) else lkV [] [] [], .bool (nmB s.data.toList)]) := hid rfl
 have hL1 : Hid ((ByteArray.mk (Lib.cut s.data.toList [62]).2.1.toArray).size < 4294967281) := hid (by rw [size_mk]; omega)
 have hL2 : Hid ((ByteArray.mk (Lib.cut s.data.toList [62]).1.toArray).size ≤ 9223372036854775807) := hid (by rw [size_mk]; omega)
 have hL3 : Hid ((ByteArray.mk (Lib.cut (Lib.cut s.data.toList [62]).2.1 [62]).1.toArray).size ≤ 9223372036854775807) := hid (by rw [size_mk]; omega)
 have hL4 : Hid ((ByteArray.mk (Lib.cut (Lib.cut s.data.toList [62]).2.1 [62]).2.1.toArray).size ≤ 9223372036854775807) := hid (by rw [size_mk]; omega)
 clear hlen h1 h2 h3 h4
 go_enter Tryz.func119, Tryz.ntmps119
 go_wp2_with fail
 refine (cut_any s _ hs (hw.alloc _)).mono ?_
 rintro e w1 ⟨rfl, n1, rfl⟩
 go_wp2_with fail
 refine (cut_any _ _ hL1.out ((hw.alloc _).drewN n1)).mono ?_
 rintro e w1 ⟨rfl, n2, rfl⟩
 go_wp2_with fail
 refine (name_any _ _ hL2.out).mono ?_
 rintro e w3 ⟨rfl, hb3⟩
 have k3 := (In1.drew _ _ (n1 + n2)).then_ hb3
 clear hb3
 have hVF : nmB s.data.toList = false → Hid (.tuple #[lkV [] [] [], .bool false] = nmV s.data.toList) := fun h => hid (by rw [hV.out, h]; rfl)
 cases q1 : nameB (Lib.cut s.data.toList [62]).1 with
 | false =>
  have HF := hVF (by rw [hB.out, hA.out, q1]; rfl)
  have HQ := hid q1
  clear q1
  obtain ⟨c0, c1, c2, f0, f1, f2, hlt⟩ := k3.three
  have hb := k3.below
  go_wp2_with fail
  (try simp only [Exit.inBlock, Exit.then])
  refine bodyPost_ret (ret_cell rfl _ _ _ _ _ _ (.bool false) rfl (set3_blk k3 _ _ _) Tryz.underlying36 rfl (by kernel_rfl) rfl) rfl ?_
  exact ⟨by rw [← HF.out]; rfl, set3_below hb _ _ _⟩
 | true =>
  have HQ := hid q1
  clear q1
  go_wp2_with fail
  refine (name_any _ _ hL3.out).mono ?_
  rintro e w4 ⟨rfl, hb4⟩
  have k4 := k3.then_ hb4
  clear hb4 k3
  cases q2 : nameB (Lib.cut (Lib.cut s.data.toList [62]).2.1 [62]).1 with
  | false =>
   have HF := hVF (by rw [hB.out, hA.out, hK.out, q2, Bool.and_false]; rfl)
   have HQ2 := hid q2
   clear q2
   obtain ⟨c0, c1, c2, f0, f1, f2, hlt⟩ := k4.three
   have hb := k4.below
   go_wp2_with fail
   (try simp only [Exit.inBlock, Exit.then])
   refine bodyPost_ret (ret_cell rfl _ _ _ _ _ _ (.bool false) rfl (set3_blk k4 _ _ _) Tryz.underlying36 rfl (by kernel_rfl) rfl) rfl ?_
   exact ⟨by rw [← HF.out]; rfl, set3_below hb _ _ _⟩
  | true =>
   have HQ2 := hid q2
   clear q2
   go_wp2_with fail
   refine (name_any _ _ hL4.out).mono ?_
   rintro e w5 ⟨rfl, hb5⟩
   have k5 := k4.then_ hb5
   clear hb5 k4
   obtain ⟨c0, c1, c2, f0, f1, f2, hlt⟩ := k5.three
   have hb := k5.below
   cases q3 : nameB (Lib.cut (Lib.cut s.data.toList [62]).2.1 [62]).2.1 with
   | false =>
    have HF := hVF (by rw [hB.out, hT.out, q3, Bool.and_false])
    have HQ3 := hid q3
    clear q3
    go_wp2_with fail
    (try simp only [Exit.inBlock, Exit.then])
    refine bodyPost_ret (ret_cell rfl _ _ _ _ _ _ (.bool false) rfl (set3_blk k5 _ _ _) Tryz.underlying36 rfl (by kernel_rfl) rfl) rfl ?_
    exact ⟨by rw [← HF.out]; rfl, set3_below hb _ _ _⟩
   | true =>
    have HF : Hid (.tuple #[lkV (nmA s.data.toList) (nmT s.data.toList) (nmK s.data.toList), .bool true] = nmV s.data.toList) := hid (by
     rw [hV.out, show nmB s.data.toList = true by rw [hB.out, hA.out, hK.out, hT.out, HQ.out, HQ2.out, q3]; rfl]; rfl)
    have HQ3 := hid q3
    clear q3
    go_wp2_with fail
    (try simp only [Exit.inBlock, Exit.then])
    refine bodyPost_ret (ret_cell rfl _ _ _ _ _ _ (.bool true) rfl (set3_blk k5 _ _ _) Tryz.underlying36 rfl (by kernel_rfl) rfl) rfl ?_
    exact ⟨by rw [← HF.out, hA.out, hK.out, hT.out]; rfl, set3_below hb _ _ _⟩
def valV (k n : Int) (s : ByteArray) : Value := .agg #[.int .i64 k, .int .i64 n, .string s]
def rightB (k n : Int) (l : List UInt8) : Bool :=
 if k = 0 then n == 0 && l.isEmpty else if k = 1 then (n == 0 || n == 1) && l.isEmpty
 else if k = 2 then decide (-1099511627776 ≤ n) && decide (n ≤ 1099511627776) && l.isEmpty
 else if k = 3 then n == 0 && plainB l else if k = 4 then n == 0 && nameB l else if k = 5 then n == 0 && nmB l else false
def heldB (l : List UInt8) (b : Bool) : Bool := if b then nameB l else l.isEmpty
theorem In1.of {w w' : World} {o : Obj} (h : Below (w.alloc o).heap.size (w.alloc o) w') : In1 w o w' := h.mono (by simp)
theorem alloc_below (w : World) (o : Obj) : Below w.heap.size w (w.alloc o) := (Below.refl _ _).alloc (Nat.le_refl _) o
theorem alloc_then {w w' : World} {o : Obj} (h : Below (w.alloc o).heap.size (w.alloc o) w') : Below w.heap.size w w' := (alloc_below w o).trans (h.mono (by simp))
theorem held_any (s : ByteArray) (b : Bool) (w : World) (hs : s.size ≤ 9223372036854775807) : Calls Tryz.prog 126 #[.string s, .bool b] w (Gives w (.bool (heldB s.data.toList b))) := by
 cases b with
 | true =>
  go_enter Tryz.func126, Tryz.ntmps126
  go_wp2_with fail
  refine (name_any _ _ hs).mono ?_
  rintro e w3 ⟨rfl, hb3⟩
  go_wp2_with fail
  go_ret
  exact ⟨rfl, hb3⟩
 | false =>
  have HL : Hid (s.toList = s.data.toList) := hid (Lib.toList_data s)
  go_enter Tryz.func126, Tryz.ntmps126
  go_wp2_with fail
  go_ret
  exact ⟨by rw [HL.out]; rfl, Below.refl _ _⟩
theorem right_wide (k n : Int) (s : ByteArray) (w : World) (hs : s.size ≤ 9223372036854775807) (h5 : k = 5 → s.size < 4294967281) (hw : CutOk w) : Calls Tryz.prog 85 #[valV k n s] w (Gives w (.bool (rightB k n s.data.toList))) := by
 have H5 := hid h5
 clear h5
 have HL : Hid (s.toList = s.data.toList) := hid (Lib.toList_data s)
 unfold valV
 by_cases k0 : k = 0
 ·subst k0
  have HR : Hid (rightB 0 n s.data.toList = (n == 0 && s.toList.isEmpty)) := hid (by rw [HL.out]; rfl)
  go_enter Tryz.func85, Tryz.ntmps85
  go_wp2
  all_goals go_ret
  all_goals exact ⟨by rw [HR.out]; simp [*], alloc_below _ _⟩
 by_cases k1 : k = 1
 ·subst k1
  clear k0
  have HR : Hid (rightB 1 n s.data.toList = ((n == 0 || n == 1) && s.toList.isEmpty)) := hid (by rw [HL.out]; rfl)
  go_enter Tryz.func85, Tryz.ntmps85
  go_wp2
  all_goals go_ret
  all_goals exact ⟨by rw [HR.out]; simp [*], alloc_below _ _⟩
 by_cases k2 : k = 2
 ·subst k2
  clear k0 k1
  have HR : Hid (rightB 2 n s.data.toList = (decide (-1099511627776 ≤ n) && decide (n ≤ 1099511627776) && s.toList.isEmpty)) := hid (by rw [HL.out]; rfl)
  go_enter Tryz.func85, Tryz.ntmps85
  go_wp2
  all_goals go_ret
  all_goals exact ⟨by rw [HR.out]; simp [*] <;> (intros; omega), alloc_below _ _⟩
 by_cases k3 : k = 3
 ·subst k3
  clear k0 k1 k2
  have HR : Hid (rightB 3 n s.data.toList = (n == 0 && plainB s.data.toList)) := hid rfl
  cases hn : (n == 0) with
  | false =>
   go_enter Tryz.func85, Tryz.ntmps85
   go_wp2
   go_ret
   exact ⟨by rw [HR.out, hn]; rfl, alloc_below _ _⟩
  | true =>
   go_enter Tryz.func85, Tryz.ntmps85
   go_wp2_with fail
   refine (plain_any _ _ (by omega)).mono ?_
   rintro e w3 ⟨rfl, hb3⟩
   go_wp2
   go_ret
   exact ⟨by rw [HR.out, hn]; rfl, alloc_then hb3⟩
 by_cases k4 : k = 4
 ·subst k4
  clear k0 k1 k2 k3
  have HR : Hid (rightB 4 n s.data.toList = (n == 0 && nameB s.data.toList)) := hid rfl
  cases hn : (n == 0) with
  | false =>
   go_enter Tryz.func85, Tryz.ntmps85
   go_wp2
   go_ret
   exact ⟨by rw [HR.out, hn]; rfl, alloc_below _ _⟩
  | true =>
   go_enter Tryz.func85, Tryz.ntmps85
   go_wp2_with fail
   refine (name_any _ _ (by omega)).mono ?_
   rintro e w3 ⟨rfl, hb3⟩
   go_wp2
   go_ret
   exact ⟨by rw [HR.out, hn]; rfl, alloc_then hb3⟩
 by_cases k5 : k = 5
 ·subst k5
  clear k0 k1 k2 k3 k4
  have HR : Hid (rightB 5 n s.data.toList = (n == 0 && nmB s.data.toList)) := hid rfl
  go_enter Tryz.func85, Tryz.ntmps85
  go_wp2_with fail
  refine (names_any _ _ (H5.out (by first | rfl | trivial)) (hw.alloc _)).mono ?_
  rintro e w3 ⟨rfl, hb3⟩
  obtain ⟨c0, c1, c2, f0, f1, f2, hlt⟩ := (In1.of hb3).three
  unfold nmV
  cases hq : nmB s.data.toList <;> cases hn : (n == 0)
  all_goals
   have HQ := hid hq
   clear hq
   simp only [Bool.false_eq_true, ↓reduceIte, lkV, sv]
   go_wp2
   go_ret
   exact ⟨by rw [HR.out, HQ.out, hn]; rfl, (alloc_then hb3).alloc (Nat.le_of_lt hlt) _⟩
 ·have HR : Hid (rightB k n s.data.toList = false) := hid (by simp [rightB, k0, k1, k2, k3, k4, k5])
  have b0 : (k == 0) = false := beq_eq_false_iff_ne.2 k0
  have b1 : (k == 1) = false := beq_eq_false_iff_ne.2 k1
  have b2 : (k == 2) = false := beq_eq_false_iff_ne.2 k2
  have b3 : (k == 3) = false := beq_eq_false_iff_ne.2 k3
  have b4 : (k == 4) = false := beq_eq_false_iff_ne.2 k4
  have b5 : (k == 5) = false := beq_eq_false_iff_ne.2 k5
  clear k0 k1 k2 k3 k4 k5
  go_enter Tryz.func85, Tryz.ntmps85
  go_wp2
  go_ret
  exact ⟨by rw [HR.out]; rfl, alloc_below _ _⟩
theorem right_any (k n : Int) (s : ByteArray) (w : World) (hs : s.size < 4294967281) (hw : CutOk w) : Calls Tryz.prog 85 #[valV k n s] w (Gives w (.bool (rightB k n s.data.toList))) := right_wide k n s w (by omega) (fun _ => hs) hw
end Go.Proofs.YtdgglhlofnigkaaGreatDoor
