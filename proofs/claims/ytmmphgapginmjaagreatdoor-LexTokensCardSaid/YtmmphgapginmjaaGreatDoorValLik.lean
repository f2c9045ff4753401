/-
  value.likely and value.Parse of any text: the contracts; and: only one value that may be has a text. Conditions: the text's length; the world holds the library's tables (WOk).
-/
import Derived.Test.YtmmphgapginmjaaGreatDoorValBack
namespace Go.Proofs.YtmmphgapginmjaaGreatDoor
open Go.RowKit

/-- The one value that can have a text that is not empty. -/
def lik (s : ByteArray) : Int × Int × List UInt8 :=
  if s.data.toList = [110, 117, 108, 108] then (0, 0, []) else if s.data.toList = [102, 97, 108, 115, 101] then (1, 0, []) else if s.data.toList = [116, 114, 117, 101] then (1, 1, [])
  else if s.data.toList.headD 0 = 39 then (3, 0, unqL s) else if s.data.toList.headD 0 = 40 then (4, 0, (innerS s).data.toList) else if s.data.toList.headD 0 = 91 then (5, 0, (innerS s).data.toList) else (2, numL s.data.toList, [])
theorem str_id (s : ByteArray) : (⟨s.data.toList.toArray⟩ : ByteArray) = s := by obtain ⟨⟨l⟩⟩ := s; rfl
theorem head_at (s : ByteArray) (h0 : 0 < s.size) : s[0]'h0 = s.data.toList.headD 0 := by
  obtain ⟨⟨l⟩⟩ := s
  cases l with
  | nil => simp [ByteArray.size] at h0
  | cons a l => rfl
theorem beq_str (s : ByteArray) (l : List UInt8) : (s.toList == l) = decide (s.data.toList = l) := by
  rw [Lib.toList_data]
  by_cases h : s.data.toList = l
  · rw [decide_eq_true h, h]; exact beq_self_eq_true l
  · rw [decide_eq_false h]; exact beq_eq_false_iff_ne.2 h

theorem likely_full (s : ByteArray) (w : World) (hw : WOk w) (h0 : 0 < s.size) (hs : s.size ≤ 1000000) : Calls Tryz.prog 64 #[.string s] w (Gives w (valV (lik s).1 (lik s).2.1 ⟨(lik s).2.2.toArray⟩)) := by
  have e1 := beq_str s [110, 117, 108, 108]
  have e2 := beq_str s [102, 97, 108, 115, 101]
  have e3 := beq_str s [116, 114, 117, 101]
  by_cases c1 : s.data.toList = [110, 117, 108, 108]
  · have : lik s = (0, 0, []) := by unfold lik; rw [if_pos c1]
    rw [this]
    exact likely_null s w (by rw [e1, decide_eq_true c1])
  by_cases c2 : s.data.toList = [102, 97, 108, 115, 101]
  · have : lik s = (1, 0, []) := by unfold lik; rw [if_neg c1, if_pos c2]
    rw [this]
    exact likely_false s w (by rw [e1, decide_eq_false c1]) (by rw [e2, decide_eq_true c2])
  by_cases c3 : s.data.toList = [116, 114, 117, 101]
  · have : lik s = (1, 1, []) := by unfold lik; rw [if_neg c1, if_neg c2, if_pos c3]
    rw [this]
    exact likely_true s w (by rw [e1, decide_eq_false c1]) (by rw [e2, decide_eq_false c2]) (by rw [e3, decide_eq_true c3])
  have hn : NoWord s := ⟨by rw [e1, decide_eq_false c1], by rw [e2, decide_eq_false c2], by rw [e3, decide_eq_false c3]⟩
  by_cases c4 : s.data.toList.headD 0 = 39
  · have : lik s = (3, 0, unqL s) := by unfold lik; rw [if_neg c1, if_neg c2, if_neg c3, if_pos c4]
    rw [this]
    exact likely_quote s _ w hn h0 (by rw [head_at, c4]) (fun W => unquoted_any s W (by omega))
  by_cases c5 : s.data.toList.headD 0 = 40
  · have : lik s = (4, 0, (innerS s).data.toList) := by unfold lik; rw [if_neg c1, if_neg c2, if_neg c3, if_neg c4, if_pos c5]
    rw [this, str_id]
    exact likely_paren s w hn (by omega) h0 (by rw [head_at, c5])
  by_cases c6 : s.data.toList.headD 0 = 91
  · have : lik s = (5, 0, (innerS s).data.toList) := by unfold lik; rw [if_neg c1, if_neg c2, if_neg c3, if_neg c4, if_neg c5, if_pos c6]
    rw [this, str_id]
    exact likely_brack s w hn (by omega) h0 (by rw [head_at, c6])
  · have : lik s = (2, numL s.data.toList, []) := by unfold lik; rw [if_neg c1, if_neg c2, if_neg c3, if_neg c4, if_neg c5, if_neg c6]
    rw [this]
    have hne : ∀ (b : UInt8) (c : Int), s.data.toList.headD 0 ≠ b → c = b.toNat → (((s[0]'h0).toNat : Int) == c) = false := by
      intro b c h hc
      rw [beq_eq_false_iff_ne, head_at, hc]
      intro e
      exact h (UInt8.toNat_inj.1 (by omega))
    exact likely_num s w hw hn (by omega) h0 _ rfl (hne 39 39 c4 rfl) (hne 40 40 c5 rfl) (hne 91 91 c6 rfl)
theorem inner_len (s : ByteArray) : (innerS s).size ≤ s.size := innS_size s
theorem rune_len (r : Int) : (Lib.encodeRune r).length ≤ 4 := by
  unfold Lib.encodeRune Lib.encodeRuneZ
  rw [List.length_map]
  split
  · simp
  · split
    · simp
    · split
      · simp
      · split <;> simp
theorem unq_len (s : ByteArray) : ∀ (f pos : Nat) (a : Bool), (unqFrom s f pos a).length ≤ 4 * f
  | 0, _, _ => by simp [unqFrom]
  | f + 1, pos, a => by
    rw [unqFrom]
    split
    · split
      · have := unq_len s f (pos + (Utf8.decode s pos).2) true; omega
      · have := unq_len s f (pos + (Utf8.decode s pos).2) false
        have h2 := rune_len ((Utf8.decode s pos).1 : Nat)
        rw [List.length_append]; omega
    · simp
theorem lik_len (s : ByteArray) : (lik s).2.2.length ≤ 4 * s.size := by
  unfold lik
  have h1 := unq_len (innS s) (innS s).size 0 false
  have h2 := innS_size s
  have h3 := inner_len s
  have h4 : (innerS s).data.toList.length = (innerS s).size := by rw [Array.length_toList]; rfl
  have h5 : (unqL s).length = (unqFrom (innS s) (innS s).size 0 false).length := rfl
  repeat' split
  all_goals simp only [List.length_nil]
  all_goals omega
theorem parse_full (s : ByteArray) (w : World) (hw : WOk w) : Calls Tryz.prog 46 #[.string s] w (Gives w (if s.size = 0 ∨ 130 < s.size then noneV else parsedV (lik s).1 (lik s).2.1 ⟨(lik s).2.2.toArray⟩ s)) := by
  by_cases h : s.size = 0 ∨ 130 < s.size
  · rw [if_pos h]; exact parse_none s w h
  · rw [if_neg h]
    have hl := lik_len s
    exact parse_any _ _ _ s w hw (by omega) (by omega) (by rw [size_mk]; omega) (fun W hW => likely_full s W hW (by omega) (by omega))

end Go.Proofs.YtmmphgapginmjaaGreatDoor
