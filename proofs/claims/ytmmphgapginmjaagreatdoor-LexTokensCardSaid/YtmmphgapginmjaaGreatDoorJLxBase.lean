/-
  lex's words, signs, and what a text begins with: the contracts, by walks. lex.quoted, and value.Parse of any text: the contracts, by walks. Conditions: lengths.
-/
import Derived.Test.YtmmphgapginmjaaGreatDoorLxTok
import Derived.Shelf.Strings.SlTrimAscii
import Derived.Deep.DeepCutAuto
namespace Go.Proofs.YtmmphgapginmjaaGreatDoor
open Go.RowKit

def strA (l : List (List UInt8)) : Array Value := (l.map fun x => Value.string ⟨x.toArray⟩).toArray
def tkV (t : Lx.Tk) : Value := .agg #[.int .i64 t.1, .int .i64 t.2.1, .string ⟨t.2.2.toArray⟩]
def tkC (t : Lx.Tk) : Array Value := #[.int .i64 t.1, .int .i64 t.2.1, .string ⟨t.2.2.toArray⟩]
/-- What a reader of tokens answers. -/
def rdV (o : Option (Lx.Tk × Nat)) : Value := match o with | some (t, n) => .tuple #[tkV t, .int .i64 (n : Nat)] | none => .tuple #[tkV (0, 0, []), .int .i64 0]

set_option maxRecDepth 100000 in
set_option maxHeartbeats 1000000 in
theorem words_any (w : World) : Calls Tryz.prog 10 #[] w fun e w' => e = .returned (.slice (some ⟨w.heap.size, 0, none⟩) 26 26) ∧ w' = w.alloc (.cells (strA Lx.words) 9) := by
  go_enter Tryz.func10, Tryz.ntmps10
  go_wp2_with (first
    | (refine wpList_val (o := ⟨some 1, _, _, _, _, _⟩) rfl (.slice (some ⟨w.heap.size, 0, none⟩) 26 26) (w.alloc (.cells (strA Lx.words) 9)) (by kernel_rfl) ?_)
    | fail)
  go_ret
  exact ⟨rfl, rfl⟩
set_option maxRecDepth 100000 in
set_option maxHeartbeats 1000000 in
theorem signs_any (w : World) : Calls Tryz.prog 11 #[] w fun e w' => e = .returned (.slice (some ⟨w.heap.size, 0, none⟩) 20 20) ∧ w' = w.alloc (.cells (strA Lx.signs) 9) := by
  go_enter Tryz.func11, Tryz.ntmps11
  go_wp2_with (first
    | (refine wpList_val (o := ⟨some 1, _, _, _, _, _⟩) rfl (.slice (some ⟨w.heap.size, 0, none⟩) 20 20) (w.alloc (.cells (strA Lx.signs) 9)) (by kernel_rfl) ?_)
    | fail)
  go_ret
  exact ⟨rfl, rfl⟩
set_option maxHeartbeats 1000000 in
theorem behind_any (s : ByteArray) (w : World) : Calls Tryz.prog 12 #[.string s] w (Gives w (.string ⟨(Lx.blank s.data.toList).toArray⟩)) := by
  go_enter Tryz.func12, Tryz.ntmps12
  go_wp2_with fail
  refine (Tryz.strings_TrimLeft_one s 32 (by decide) w).mono ?_
  rintro e w1 ⟨rfl, rfl⟩
  go_wp2
  go_ret
  exact ⟨rfl, Below.refl _ _⟩
theorem trim256 : (Tryz.prog.info? (Tryz.lays161_ren.t 116)).map (fun i => (i.zero, i.size)) = some (some (.agg (Array.replicate 256 (.bool false))), 256) := by kernel_rfl
theorem trim_set (s : ByteArray) (C : List UInt8) (w : World) (hC : C.length < 100) (ha : C.all (fun b => decide (b.toNat < 128)) = true) :
    Calls Tryz.prog 20 #[.string s, .string ⟨C.toArray⟩] w (Gives w (.string ⟨(Lib.trimLeftS s.data.toList C).toArray⟩)) :=
  (Any.strings_TrimLeft_laid Tryz.lays161 trim256 s ⟨C.toArray⟩ w (by rw [size_mk]; omega) (Go.Proofs.ascii_of_all ha)).mono fun e w' h => h
theorem trim_len (l C : List UInt8) : (Lib.trimLeftS l C).length + (Lx.runL C l).length = l.length := by
  have := congrArg List.length (List.takeWhile_append_dropWhile (p := (C.contains ·)) (l := l))
  rw [List.length_append] at this
  unfold Lib.trimLeftS Lx.runL
  omega
set_option maxHeartbeats 1000000 in
theorem run_any (s : ByteArray) (C : List UInt8) (w : World) (hs : s.size ≤ 140737488355328) (hC : C.length < 100) (ha : C.all (fun b => decide (b.toNat < 128)) = true) :
    Calls Tryz.prog 43 #[.string s, .string ⟨C.toArray⟩] w (Gives w (.string ⟨(Lx.runL C s.data.toList).toArray⟩)) := by
  have hlen : s.data.toList.length = s.size := by rw [Array.length_toList]; rfl
  obtain ⟨T, hT⟩ : ∃ T, Lib.trimLeftS s.data.toList C = T := ⟨_, rfl⟩
  obtain ⟨R, hR⟩ : ∃ R, (Lx.runL C s.data.toList).length = R := ⟨_, rfl⟩
  have h1 := trim_len s.data.toList C
  rw [hT, hR, hlen] at h1
  have HR := Lib.hid hR
  have HTr := Lib.hid (trim_set s C w hC ha)
  rw [hT] at HTr
  have HL := Lib.hid h1
  have HS := Lib.hid hs
  have HX := Lib.hid (show s.extract 0 R = ⟨(Lx.runL C s.data.toList).toArray⟩ from str_eq (by
    rw [← hR]
    have := Lx.runL_take C s.data.toList
    simpa using this))
  have hsz : (ByteArray.mk T.toArray).size = T.length := size_mk T
  have hsub : wrap64 ((s.size : Int) - (T.length : Int)) = (R : Int) := by rw [IntWalk.wrap64_in _ ⟨by omega, by omega⟩]; omega
  have hR1 : (0 : Int) ≤ (R : Int) := by omega
  have hR2 : (R : Int) ≤ (s.size : Int) := by omega
  clear hlen h1 hR hs hT hC ha
  go_enter Tryz.func43, Tryz.ntmps43
  go_wp2_with fail
  refine HTr.out.mono ?_
  rintro e w1 ⟨rfl, hb⟩
  have HB := Lib.hid hb
  clear hb
  go_wp2
  go_ret
  exact ⟨by rw [← HX.out]; rfl, HB.out⟩

end Go.Proofs.YtmmphgapginmjaaGreatDoor

namespace Go.Proofs.YtmmphgapginmjaaGreatDoor
open Go.RowKit

theorem drop_at (s : ByteArray) (i : Nat) (h : i < s.size) : s.data.toList.drop i = s[i]'h :: s.data.toList.drop (i + 1) := by
  have h1 : i < s.data.toList.length := by rw [Array.length_toList]; exact h
  rw [List.drop_eq_getElem_cons h1]
  rfl
theorem drop_past (s : ByteArray) (i : Nat) (h : s.size ≤ i) : s.data.toList.drop i = [] := List.drop_eq_nil_of_le (by rw [Array.length_toList]; exact h)
/-- Where the text that begins at the front ends, seen from i on. -/
def QeAt (s : ByteArray) (i : Nat) : Prop := (Lx.qe (s.data.toList.drop i) = 0 → Lx.qe (s.data.toList.drop 1) = 0) ∧ (Lx.qe (s.data.toList.drop i) ≠ 0 → Lx.qe (s.data.toList.drop 1) = Lx.qe (s.data.toList.drop i) + (i - 1))
theorem QeAt.skip {s : ByteArray} {i : Nat} (h : QeAt s i) (hi : i < s.size) (h1 : 1 ≤ i) (hc : s[i]'hi = 92) : QeAt s (i + 2) := by
  unfold QeAt at *
  rw [drop_at s i hi, hc] at h
  have e : Lx.qe (92 :: s.data.toList.drop (i + 1)) = if Lx.qe (s.data.toList.drop (i + 2)) = 0 then 0 else Lx.qe (s.data.toList.drop (i + 2)) + 2 := by
    by_cases h2 : i + 1 < s.size
    · rw [drop_at s (i + 1) h2, Lx.qe.eq_def]; rfl
    · rw [drop_past s (i + 1) (by omega), drop_past s (i + 2) (by omega)]; rfl
  rw [e] at h
  generalize Lx.qe (s.data.toList.drop (i + 2)) = q at *
  obtain ⟨k1, k2⟩ := h
  by_cases hq : q = 0
  · rw [if_pos hq] at k1 k2
    exact ⟨fun _ => k1 rfl, fun h => absurd hq h⟩
  · rw [if_neg hq] at k1 k2
    exact ⟨fun h => absurd h hq, fun _ => by rw [k2 (by omega)]; omega⟩
theorem QeAt.next {s : ByteArray} {i : Nat} (h : QeAt s i) (hi : i < s.size) (h1 : 1 ≤ i) (hc : s[i]'hi ≠ 92) (hd : s[i]'hi ≠ 39) : QeAt s (i + 1) := by
  unfold QeAt at *
  rw [drop_at s i hi] at h
  generalize s[i]'hi = c at *
  have e : Lx.qe (c :: s.data.toList.drop (i + 1)) = if Lx.qe (s.data.toList.drop (i + 1)) = 0 then 0 else Lx.qe (s.data.toList.drop (i + 1)) + 1 := by
    rw [Lx.qe.eq_def]
    simp only [if_neg hc, if_neg hd]
  rw [e] at h
  generalize Lx.qe (s.data.toList.drop (i + 1)) = q at *
  obtain ⟨k1, k2⟩ := h
  by_cases hq : q = 0
  · rw [if_pos hq] at k1 k2
    exact ⟨fun _ => k1 rfl, fun h => absurd hq h⟩
  · rw [if_neg hq] at k1 k2
    exact ⟨fun h => absurd h hq, fun _ => by rw [k2 (by omega)]; omega⟩
theorem QeAt.found {s : ByteArray} {i : Nat} (h : QeAt s i) (hi : i < s.size) (h1 : 1 ≤ i) (hc : s[i]'hi = 39) : Lx.qe (s.data.toList.drop 1) = i := by
  unfold QeAt at *
  rw [drop_at s i hi, hc] at h
  have e : Lx.qe (39 :: s.data.toList.drop (i + 1)) = 1 := by rw [Lx.qe.eq_def]; rfl
  rw [e] at h
  have := h.2 (by decide)
  omega
theorem QeAt.none_ {s : ByteArray} {i : Nat} (h : QeAt s i) (hi : s.size ≤ i) : Lx.qe (s.data.toList.drop 1) = 0 := by
  unfold QeAt at h
  rw [drop_past s i hi] at h
  exact h.1 rfl
theorem quoted_head {l : List UInt8} (h : Lib.hasPrefix l [39] = true) : ∃ t, l = 39 :: t ∧ l.drop 1 = t := by
  have := Lx.pre_iff.1 h
  cases l with
  | nil => cases this
  | cons c t =>
    rw [show ([39] : List UInt8).length = 0 + 1 from rfl, List.take_succ_cons] at this
    obtain ⟨rfl, _⟩ := List.cons.inj this
    exact ⟨t, rfl, rfl⟩
theorem quoted_no {l : List UInt8} (h : Lib.hasPrefix l [39] = false) : Lx.quotedL l = [] := by
  cases l with
  | nil => rfl
  | cons c t =>
    rw [Lx.quotedL_cons, if_neg]
    rintro rfl
    rw [Lx.pre_iff.2 rfl] at h
    cases h
theorem quoted_zero {l : List UInt8} (h : Lib.hasPrefix l [39] = true) (h0 : Lx.qe (l.drop 1) = 0) : Lx.quotedL l = [] := by
  obtain ⟨t, rfl, e⟩ := quoted_head h
  rw [e] at h0
  rw [Lx.quotedL_cons, if_pos rfl, if_pos h0]
theorem quoted_yes {l : List UInt8} {i : Nat} (h : Lib.hasPrefix l [39] = true) (h0 : Lx.qe (l.drop 1) = i) (hi : 1 ≤ i) : Lx.quotedL l = l.take (i + 1) := by
  obtain ⟨t, rfl, e⟩ := quoted_head h
  rw [e] at h0
  rw [Lx.quotedL_cons, if_pos rfl, if_neg (by omega), h0]

set_option maxHeartbeats 2000000 in
theorem lquoted_any (s : ByteArray) (w : World) (hs : s.size ≤ 9223372036854775800) : Calls Tryz.prog 47 #[.string s] w (SameV w (.string ⟨(Lx.quotedL s.data.toList).toArray⟩)) := by
  have HS := Lib.hid hs
  clear hs
  obtain ⟨b, hb⟩ : ∃ b, Lib.hasPrefix s.data.toList [39] = b := ⟨_, rfl⟩
  have HP := Lib.hid (fun w => (Tryz.strings_HasPrefix s ⟨#[39]⟩ w))
  have hd : (ByteArray.mk #[39]).data.toList = [39] := rfl
  rw [hd, hb] at HP
  cases b with
  | false =>
    have HN := Lib.hid (quoted_no hb)
    clear hb hd
    go_enter Tryz.func47, Tryz.ntmps47
    go_wp2_with fail
    refine (HP.out w).mono ?_
    rintro e w1 ⟨rfl, rfl⟩
    go_wp2
    go_ret
    exact ⟨by rw [HN.out]; rfl, rfl⟩
  | true =>
    have HB := Lib.hid hb
    clear hb hd
    go_enter Tryz.func47, Tryz.ntmps47
    go_wp2_with fail
    refine (HP.out w).mono ?_
    rintro e w1 ⟨rfl, rfl⟩
    go_wp2_with fail
    go_loopw [3] (fun x wr => ∃ i : Nat, x = .int .i64 i ∧ wr = w1 ∧ 1 ≤ i ∧ i ≤ s.size + 1 ∧ QeAt s i) (fun x _ => s.size + 1 - (intOf x).toNat)
    case atStart =>
      obtain ⟨t, h1, _⟩ := quoted_head HB.out
      have hlen : s.data.toList.length = s.size := by rw [Array.length_toList]; rfl
      rw [h1] at hlen
      simp at hlen
      exact ⟨1, rfl, rfl, Nat.le_refl _, by omega, ⟨id, fun _ => rfl⟩⟩
    case round =>
      obtain ⟨i, rfl, rfl, h1, hi, hq⟩ := hrel
      have HQ := Lib.hid hq
      clear hq
      by_cases hp : i < s.size
      · have g1 : (i : Int) < (s.size : Int) := by omega
        have g0 : (0 : Int) ≤ (i : Int) := by omega
        obtain ⟨c, hc⟩ : ∃ c : Int, ((s[i]'hp).toNat : Int) = c := ⟨_, rfl⟩
        have HC := Lib.hid hc
        obtain ⟨i1, hi1⟩ : ∃ i1, i + 1 = i1 := ⟨_, rfl⟩
        obtain ⟨i2, hi2⟩ : ∃ i2, i + 2 = i2 := ⟨_, rfl⟩
        have hw1 : wrap64 ((i : Int) + 1) = (i1 : Int) := by have := HS.out; rw [IntWalk.wrap64_in _ ⟨by omega, by omega⟩]; omega
        have hw2 : wrap64 ((i1 : Int) + 1) = (i2 : Int) := by have := HS.out; rw [IntWalk.wrap64_in _ ⟨by omega, by omega⟩]; omega
        have HI := Lib.hid (show i + 1 = i1 ∧ i + 2 = i2 ∧ i < s.size ∧ 1 ≤ i from ⟨hi1, hi2, hp, h1⟩)
        by_cases k1 : c = 92
        · have HQ2 := Lib.hid (HQ.out.skip hp h1 (by apply UInt8.toNat_inj.1; show _ = 92; omega))
          rw [hi2] at HQ2
          have hb1 : (c == 92) = true := by rw [k1]; rfl
          clear k1 hi1 hi2 h1 hi
          go_wp2
          go_roundw
          case rel => exact ⟨i2, by first | rfl | rw [hw2], by first | trivial | rfl, by have := HI.out; omega, by have := HI.out; omega, HQ2.out⟩
          case measure =>
            have := HI.out
            (try rw [hw2])
            (try rw [hw1])
            show s.size + 1 - (intOf (.int .i64 _)).toNat < s.size + 1 - (intOf (.int .i64 _)).toNat
            simp only [intOf, Int.toNat_natCast]
            omega
        by_cases k2 : c = 39
        · have HQ2 := Lib.hid (HQ.out.found hp h1 (by apply UInt8.toNat_inj.1; show _ = 39; omega))
          have HE := Lib.hid (show s.extract 0 i1 = ⟨(Lx.quotedL s.data.toList).toArray⟩ from str_eq (by rw [quoted_yes HB.out HQ2.out h1, hi1]; simp))
          have hb1 : (c == 92) = false := by rw [k2]; rfl
          have hb2 : (c == 39) = true := by rw [k2]; rfl
          have g2 : (i1 : Int) ≤ (s.size : Int) := by omega
          have g3 : (0 : Int) ≤ (i1 : Int) := by omega
          clear k1 k2 hi1 hi2 h1 hi
          go_wp2
          go_ret
          exact ⟨by rw [← HE.out]; rfl, rfl⟩
        · have HQ2 := Lib.hid (HQ.out.next hp h1 (fun e => k1 (by rw [← hc, e]; rfl)) (fun e => k2 (by rw [← hc, e]; rfl)))
          rw [hi1] at HQ2
          have hb1 : (c == 92) = false := beq_eq_false_iff_ne.2 k1
          have hb2 : (c == 39) = false := beq_eq_false_iff_ne.2 k2
          clear k1 k2 hi1 hi2 h1 hi
          go_wp2
          go_roundw
          case rel => exact ⟨i1, by first | rfl | rw [hw1], by first | trivial | rfl, by have := HI.out; omega, by have := HI.out; omega, HQ2.out⟩
          case measure =>
            have := HI.out
            (try rw [hw2])
            (try rw [hw1])
            show s.size + 1 - (intOf (.int .i64 _)).toNat < s.size + 1 - (intOf (.int .i64 _)).toNat
            simp only [intOf, Int.toNat_natCast]
            omega
      · have g1 : ¬ (i : Int) < (s.size : Int) := by omega
        have HN := Lib.hid (quoted_zero HB.out (HQ.out.none_ (by omega)))
        go_wp2
        go_ret
        exact ⟨by rw [HN.out]; rfl, rfl⟩

/-- What value.Parse answers. -/
def parV (o : Option Lx.Tk) : Value := match o with | some c => .tuple #[valV c.1 c.2.1 ⟨c.2.2.toArray⟩, .bool true] | none => noneV
theorem lparse_any (s : ByteArray) (w : World) (hw : WOk w) : Calls Tryz.prog 46 #[.string s] w (Gives w (parV (Lx.parseO s.data.toList))) := by
  refine (parse_full s w hw).mono fun e w' h => ?_
  have hst := str_id s
  have : (if s.size = 0 ∨ 130 < s.size then noneV else parsedV (lik s).1 (lik s).2.1 ⟨(lik s).2.2.toArray⟩ s) = parV (Lx.parseO s.data.toList) := by
    by_cases h0 : s.size = 0
    · rw [if_pos (.inl h0)]
      have : s.data.toList = [] := List.eq_nil_of_length_eq_zero (by rw [Array.length_toList]; exact h0)
      rw [this, Lx.parseO_nil]
      rfl
    · have hlen : s.data.toList.length = s.size := by rw [Array.length_toList]; rfl
      unfold Lx.parseO
      rw [hst]
      cases hf : Lx.fits s (lik s) with
      | true =>
        unfold Lx.fits at hf
        simp only [Bool.and_eq_true, decide_eq_true_eq] at hf
        have := Lx.text_len _ _ _ hf.1
        rw [hf.2, hlen] at this
        rw [if_neg (by omega)]
        unfold parsedV
        rw [if_pos hf.2]
        rfl
      | false =>
        by_cases hb : 130 < s.size
        · rw [if_pos (.inr hb)]; rfl
        · rw [if_neg (by omega)]
          unfold parsedV
          rw [if_neg]
          · rfl
          · intro ht
            have ht : textB (lik s).1 (lik s).2.1 (lik s).2.2 = s.data.toList := ht
            unfold Lx.fits at hf
            rw [decide_eq_true ht, Bool.and_true] at hf
            unfold textB at ht
            rw [if_neg (by rw [hf]; decide)] at ht
            rw [← ht] at hlen
            simp at hlen
            omega
  rw [this] at h
  exact h

end Go.Proofs.YtmmphgapginmjaaGreatDoor
