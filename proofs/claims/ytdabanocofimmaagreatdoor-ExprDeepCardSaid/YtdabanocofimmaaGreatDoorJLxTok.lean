/-
  Tokens of a text, one by one: mathematics of lex. lex's words, signs, and what a text begins with: the contracts, by walks. Conditions: lengths.
-/
import Derived.Test.YtdabanocofimmaaGreatDoorLxMath
import Derived.Lib.Join
import Derived.Shelf.Strings.SlTrimAscii
import Derived.Deep.DeepCutAuto
namespace Go.Proofs.YtdabanocofimmaaGreatDoor.Lx
open Go.RowKit

theorem nameO_some {l : List UInt8} {t : Tk} {n : Nat} (h : nameO l = some (t, n)) : nameB (runL inNames l) = true ∧ t = (if words.contains (runL inNames l) = true then 2 else 1, 0, runL inNames l) ∧ n = (runL inNames l).length := by
  unfold nameO at h
  split at h
  · rename_i hb
    injection h with h
    injection h with h1 h2
    exact ⟨hb, h1.symm, h2.symm⟩
  · cases h
theorem numO_some {l : List UInt8} {t : Tk} {n : Nat} (h : numO l = some (t, n)) : ∃ v, parseO (runL inNums l) = some v ∧ t = (3, v.2.1, []) ∧ n = (runL inNums l).length := by
  unfold numO at h
  split at h
  · rename_i v hv
    injection h with h
    injection h with h1 h2
    exact ⟨v, hv, h1.symm, h2.symm⟩
  · cases h
theorem textO_some {l : List UInt8} {t : Tk} {n : Nat} (h : textO l = some (t, n)) : ∃ v, parseO (quotedL l) = some v ∧ t = (4, 0, v.2.2) ∧ n = (quotedL l).length := by
  unfold textO at h
  split at h
  · rename_i v hv
    injection h with h
    injection h with h1 h2
    exact ⟨v, hv, h1.symm, h2.symm⟩
  · cases h
theorem signO_some {l : List UInt8} {t : Tk} {n : Nat} (h : signO l = some (t, n)) : signL l ∈ signs ∧ t = (5, 0, signL l) ∧ n = (signL l).length ∧ l.take n = signL l := by
  unfold signO at h
  split at h
  · cases h
  · rename_i hb
    injection h with h
    injection h with h1 h2
    obtain ⟨k1, k2, _⟩ := signL_spec l
    refine ⟨k1.resolve_left hb, h1.symm, h2.symm, ?_⟩
    rw [← h2]; exact k2.symm
theorem parseO_ne {l : List UInt8} {v : Tk} (h : parseO l = some v) : l ≠ [] := by
  rintro rfl; rw [parseO_nil] at h; cases h

theorem spelt_name (b : Bool) (x : List UInt8) : speltL (if b = true then 2 else 1, 0, x) = x := by cases b <;> rfl
theorem spelt_sign (x : List UInt8) : speltL (5, 0, x) = x := rfl
/-- What is read has this text, and is read of it alone. -/
theorem first_text {l : List UInt8} {t : Tk} {n : Nat} (h : firstO l = some (t, n)) : speltL t = l.take n ∧ 1 ≤ n ∧ n ≤ l.length ∧ firstO (l.take n) = some (t, n) := by
  cases l with
  | nil => rw [firstO_nil] at h; cases h
  | cons c r =>
    rw [firstO_cons] at h
    by_cases h1 : letU c = true
    · rw [if_pos h1] at h
      obtain ⟨k1, k2, k3⟩ := nameO_some h
      have ht := runL_take inNames (c :: r)
      rw [← k3] at ht
      have hn : n ≠ 0 := by
        intro e
        rw [e, List.take_zero] at ht
        rw [← ht] at k1
        cases k1
      have hle := runL_le inNames (c :: r)
      rw [← k3] at hle
      refine ⟨?_, by omega, hle, ?_⟩
      · rw [k2, ht, spelt_name]
      · obtain ⟨m, rfl⟩ : ∃ m, n = m + 1 := ⟨n - 1, by omega⟩
        rw [List.take_succ_cons, firstO_cons, if_pos h1, ← List.take_succ_cons, ht]
        unfold nameO
        rw [runL_run, if_pos k1, ← k2, ← k3]
    · rw [if_neg h1] at h
      by_cases h2 : digU c = true
      · rw [if_pos h2] at h
        obtain ⟨v, k1, k2, k3⟩ := numO_some h
        have ht := runL_take inNums (c :: r)
        rw [← k3] at ht
        have hn : n ≠ 0 := by
          intro e
          rw [e, List.take_zero] at ht
          exact parseO_ne k1 ht.symm
        have hle := runL_le inNums (c :: r)
        rw [← k3] at hle
        have hc : runL inNums (c :: r) = c :: runL inNums r := by rw [runL_cons, in_nums, if_pos h2]
        obtain ⟨e1, e2, e3, e4⟩ := num_text hc h2 k1
        refine ⟨?_, by omega, hle, ?_⟩
        · rw [k2, ht, ← e3]; rfl
        · obtain ⟨m, rfl⟩ : ∃ m, n = m + 1 := ⟨n - 1, by omega⟩
          rw [List.take_succ_cons, firstO_cons, if_neg h1, if_pos h2, ← List.take_succ_cons, ht]
          unfold numO
          rw [runL_run, k1]
          show some ((3, v.2.1, []), _) = _
          rw [← k2, ← k3]
      · rw [if_neg h2] at h
        by_cases h3 : c = 39
        · rw [if_pos h3] at h
          obtain ⟨v, k1, k2, k3⟩ := textO_some h
          have ht := quotedL_take (c :: r)
          rw [← k3] at ht
          have hn : n ≠ 0 := by
            intro e
            rw [e, List.take_zero] at ht
            exact parseO_ne k1 ht.symm
          have hle : n ≤ (c :: r).length := by
            have := congrArg List.length ht
            rw [List.length_take, ← k3] at this
            omega
          obtain ⟨m, hm⟩ : ∃ m, n = m + 1 := ⟨n - 1, by omega⟩
          have hq : quotedL (c :: r) = 39 :: r.take m := by rw [← ht, hm, List.take_succ_cons, h3]
          obtain ⟨e1, e2, e3⟩ := quote_text hq k1
          refine ⟨?_, by omega, hle, ?_⟩
          · rw [k2, ht, ← e3]; rfl
          · subst hm
            rw [List.take_succ_cons, firstO_cons, if_neg h1, if_neg h2, if_pos h3, ← List.take_succ_cons, ht]
            unfold textO
            rw [quotedL_self, k1]
            show some ((4, 0, v.2.2), _) = _
            rw [← k2, ← k3]
        · rw [if_neg h3] at h
          obtain ⟨k1, k2, k3, k4⟩ := signO_some h
          obtain ⟨d, u, he, _⟩ := sign_cons k1
          have hn : n ≠ 0 := by rw [k3, he]; simp
          have hle : n ≤ (c :: r).length := by
            have := congrArg List.length k4
            rw [List.length_take, ← k3] at this
            omega
          refine ⟨?_, by omega, hle, ?_⟩
          · rw [k2, k4, spelt_sign]
          · obtain ⟨m, rfl⟩ : ∃ m, n = m + 1 := ⟨n - 1, by omega⟩
            rw [List.take_succ_cons, firstO_cons, if_neg h1, if_neg h2, if_neg h3, ← List.take_succ_cons, k4]
            unfold signO
            rw [signL_at k1, if_neg (by rw [he]; simp), ← k2, ← k3]
/-! All tokens. -/
def blank (l : List UInt8) : List UInt8 := l.dropWhile (· == 32)
def toksF : Nat → List UInt8 → Option (List Tk)
  | 0, _ => some []
  | f + 1, l => if blank l = [] then some [] else match firstO (blank l) with | none => none | some (t, n) => (toksF f ((blank l).drop n)).map (t :: ·)
def toksL (l : List UInt8) : Option (List Tk) := toksF (l.length + 1) l
theorem blank_le : ∀ l : List UInt8, (blank l).length ≤ l.length
  | [] => Nat.le_refl _
  | c :: t => by
    unfold blank
    rw [List.dropWhile_cons]
    split
    · have := blank_le t
      unfold blank at this
      simp only [List.length_cons]; omega
    · exact Nat.le_refl _
theorem blank_blank : ∀ l : List UInt8, blank (blank l) = blank l
  | [] => rfl
  | c :: t => by
    unfold blank
    rw [List.dropWhile_cons]
    split
    · have := blank_blank t
      unfold blank at this
      exact this
    · rename_i h
      rw [List.dropWhile_cons, if_neg h]
theorem toksF_fuel : ∀ (f : Nat) (l : List UInt8) (g : Nat), l.length < f → l.length < g → toksF f l = toksF g l
  | 0, l, _, h, _ => absurd h (Nat.not_lt_zero _)
  | f + 1, l, g, h, hg => by
    obtain ⟨g, rfl⟩ : ∃ m, g = m + 1 := ⟨g - 1, by omega⟩
    unfold toksF
    split
    · rfl
    · cases hf : firstO (blank l) with
      | none => rfl
      | some tn =>
        obtain ⟨t, n⟩ := tn
        obtain ⟨_, h1, h2, _⟩ := first_text hf
        have := blank_le l
        show Option.map _ (toksF f _) = Option.map _ (toksF g _)
        rw [toksF_fuel f _ g (by rw [List.length_drop]; omega) (by rw [List.length_drop]; omega)]
theorem toksL_eq (l : List UInt8) : toksL l = if blank l = [] then some [] else match firstO (blank l) with | none => none | some (t, n) => (toksL ((blank l).drop n)).map (t :: ·) := by
  rw [show toksL l = toksF (l.length + 1) l from rfl, toksF]
  split
  · rfl
  · cases hf : firstO (blank l) with
    | none => rfl
    | some tn =>
      obtain ⟨t, n⟩ := tn
      obtain ⟨_, h1, h2, _⟩ := first_text hf
      have := blank_le l
      show Option.map _ (toksF _ _) = Option.map _ (toksF _ _)
      rw [toksF_fuel l.length _ (((blank l).drop n).length + 1) (by rw [List.length_drop]; omega) (by omega)]
theorem toksL_blank (l : List UInt8) : toksL (blank l) = toksL l := by
  rw [toksL_eq, toksL_eq l, blank_blank]
theorem toksL_skip (l : List UInt8) : toksL (32 :: l) = toksL l := by
  rw [← toksL_blank, ← toksL_blank l]; rfl
theorem blank_not {c : UInt8} {t : List UInt8} (h : c ≠ 32) : blank (c :: t) = c :: t := by
  unfold blank
  rw [List.dropWhile_cons, if_neg (by simpa using h)]
theorem first_head {x : List UInt8} {t : Tk} {n : Nat} (h : firstO x = some (t, n)) : ∃ c r, x = c :: r ∧ c ≠ 32 := by
  cases x with
  | nil => rw [firstO_nil] at h; cases h
  | cons c r =>
    refine ⟨c, r, rfl, ?_⟩
    rintro rfl
    rw [firstO_cons, if_neg (by decide), if_neg (by decide), if_neg (by decide), signO_not (.inr (.inr (.inr rfl)))] at h
    cases h
theorem toksL_nil : toksL [] = some [] := rfl
theorem right_first {t : Tk} (h : rightT t = true) : firstO (speltL t) = some (t, (speltL t).length) := by
  unfold rightT at h
  split at h
  · rename_i u n hf
    have e := of_decide_eq_true h
    subst e
    obtain ⟨h1, _, h3, _⟩ := first_text hf
    have := congrArg List.length h1
    rw [List.length_take] at this
    rw [hf, show n = (speltL u).length by omega]
  · cases h
/-- The program's loop, in the middle. -/
theorem toksL_step {r : List UInt8} {t : Tk} {n : Nat} (hb : blank r = r) (h : firstO r = some (t, n)) : toksL r = (toksL (blank (r.drop n))).map (t :: ·) := by
  obtain ⟨c, q, rfl, hc⟩ := first_head h
  rw [toksL_eq, hb, if_neg (by simp), h, toksL_blank]
theorem toksL_fail {r : List UInt8} (hb : blank r = r) (hr : r ≠ []) (h : firstO r = none) : toksL r = none := by
  rw [toksL_eq, hb, if_neg hr, h]

end Go.Proofs.YtdabanocofimmaaGreatDoor.Lx

namespace Go.Proofs.YtdabanocofimmaaGreatDoor
open Go.RowKit

def strA (l : List (List UInt8)) : Array Value := (l.map fun x => Value.string ⟨x.toArray⟩).toArray
def tkV (t : Lx.Tk) : Value := .agg #[.int .i64 t.1, .int .i64 t.2.1, .string ⟨t.2.2.toArray⟩]
def tkC (t : Lx.Tk) : Array Value := #[.int .i64 t.1, .int .i64 t.2.1, .string ⟨t.2.2.toArray⟩]
/-- What a reader of tokens answers. -/
def rdV (o : Option (Lx.Tk × Nat)) : Value := match o with | some (t, n) => .tuple #[tkV t, .int .i64 (n : Nat)] | none => .tuple #[tkV (0, 0, []), .int .i64 0]

set_option maxRecDepth 100000 in
set_option maxHeartbeats 1000000 in
theorem words_any (w : World) : Calls Tryz.prog 143 #[] w fun e w' => e = .returned (.slice (some ⟨w.heap.size, 0, none⟩) 26 26) ∧ w' = w.alloc (.cells (strA Lx.words) 9) := by
  go_enter Tryz.func143, Tryz.ntmps143
  go_wp2_with (first
    | (refine wpList_val (o := ⟨some 1, _, _, _, _, _⟩) rfl (.slice (some ⟨w.heap.size, 0, none⟩) 26 26) (w.alloc (.cells (strA Lx.words) 9)) (by kernel_rfl) ?_)
    | fail)
  go_ret
  exact ⟨rfl, rfl⟩
set_option maxRecDepth 100000 in
set_option maxHeartbeats 1000000 in
theorem signs_any (w : World) : Calls Tryz.prog 146 #[] w fun e w' => e = .returned (.slice (some ⟨w.heap.size, 0, none⟩) 20 20) ∧ w' = w.alloc (.cells (strA Lx.signs) 9) := by
  go_enter Tryz.func146, Tryz.ntmps146
  go_wp2_with (first
    | (refine wpList_val (o := ⟨some 1, _, _, _, _, _⟩) rfl (.slice (some ⟨w.heap.size, 0, none⟩) 20 20) (w.alloc (.cells (strA Lx.signs) 9)) (by kernel_rfl) ?_)
    | fail)
  go_ret
  exact ⟨rfl, rfl⟩
theorem trim256 : (Tryz.prog.info? (Tryz.lays161_ren.t 116)).map (fun i => (i.zero, i.size)) = some (some (.agg (Array.replicate 256 (.bool false))), 256) := by kernel_rfl
theorem trim_set (s : ByteArray) (C : List UInt8) (w : World) (hC : C.length < 100) (ha : C.all (fun b => decide (b.toNat < 128)) = true) :
    Calls Tryz.prog 161 #[.string s, .string ⟨C.toArray⟩] w (Gives w (.string ⟨(Lib.trimLeftS s.data.toList C).toArray⟩)) :=
  (Any.strings_TrimLeft_laid Tryz.lays161 trim256 s ⟨C.toArray⟩ w (by rw [size_mk]; omega) (Go.Proofs.ascii_of_all ha)).mono fun e w' h => h
theorem trim_len (l C : List UInt8) : (Lib.trimLeftS l C).length + (Lx.runL C l).length = l.length := by
  have := congrArg List.length (List.takeWhile_append_dropWhile (p := (C.contains ·)) (l := l))
  rw [List.length_append] at this
  unfold Lib.trimLeftS Lx.runL
  omega
set_option maxHeartbeats 1000000 in
theorem run_any (s : ByteArray) (C : List UInt8) (w : World) (hs : s.size ≤ 140737488355328) (hC : C.length < 100) (ha : C.all (fun b => decide (b.toNat < 128)) = true) :
    Calls Tryz.prog 141 #[.string s, .string ⟨C.toArray⟩] w (Gives w (.string ⟨(Lx.runL C s.data.toList).toArray⟩)) := by
  have hlen : s.data.toList.length = s.size := by rw [Array.length_toList]; rfl
  obtain ⟨T, hT⟩ : ∃ T, Lib.trimLeftS s.data.toList C = T := ⟨_, rfl⟩
  obtain ⟨R, hR⟩ : ∃ R, (Lx.runL C s.data.toList).length = R := ⟨_, rfl⟩
  have h1 := trim_len s.data.toList C
  rw [hT, hR, hlen] at h1
  have HR := Lib.hid hR
  have HTr := Lib.hid (trim_set s C w hC ha)
  rw [hT] at HTr
  have HL := Lib.hid h1
  have HS := Lib.hid hs
  have HX := Lib.hid (show s.extract 0 R = ⟨(Lx.runL C s.data.toList).toArray⟩ from str_eq (by
    rw [← hR]
    have := Lx.runL_take C s.data.toList
    simpa using this))
  have hsz : (ByteArray.mk T.toArray).size = T.length := size_mk T
  have hsub : wrap64 ((s.size : Int) - (T.length : Int)) = (R : Int) := by rw [IntWalk.wrap64_in _ ⟨by omega, by omega⟩]; omega
  have hR1 : (0 : Int) ≤ (R : Int) := by omega
  have hR2 : (R : Int) ≤ (s.size : Int) := by omega
  clear hlen h1 hR hs hT hC ha
  go_enter Tryz.func141, Tryz.ntmps141
  go_wp2_with fail
  refine HTr.out.mono ?_
  rintro e w1 ⟨rfl, hb⟩
  have HB := Lib.hid hb
  clear hb
  go_wp2
  go_ret
  exact ⟨by rw [← HX.out]; rfl, HB.out⟩

end Go.Proofs.YtdabanocofimmaaGreatDoor
