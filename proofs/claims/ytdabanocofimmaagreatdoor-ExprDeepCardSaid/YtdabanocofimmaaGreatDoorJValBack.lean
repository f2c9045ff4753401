/-
  value.Parse of a value's text: the value, if it may be. value.likely and value.Parse of any text: the contracts; and: only one value that may be has a text. Only one value that may be has a text: plain mathematics. Which value a text is: mathematics. Conditions: lengths.
-/
import Derived.Test.YtdabanocofimmaaGreatDoorJValParse
import Derived.Test.YtdabanocofimmaaGreatDoorJValSplit
namespace Go.Proofs.YtdabanocofimmaaGreatDoor
open Go.RowKit

/-- What a text says whose bytes are below 128, without the signs that say 'take the next as it is'. -/
def unA : List UInt8 → Bool → List UInt8
  | [], _ => []
  | x :: l, a => if x = 92 ∧ a = false then unA l true else x :: unA l false
theorem rune_ascii (x : UInt8) (h : x.toNat < 128) : Lib.encodeRune ((x.toNat : Nat) : Int) = [x] := by
  unfold Lib.encodeRune
  rw [Lib.encodeRuneZ_one (by omega) (by omega)]
  simp
theorem unq_from (s : ByteArray) (ha : ∀ x ∈ s.data.toList, x.toNat < 128) : ∀ (f pos : Nat) (a : Bool), s.size - pos ≤ f → unqFrom s f pos a = unA (s.data.toList.drop pos) a := by
  have hlen : s.data.toList.length = s.size := by rw [Array.length_toList]; rfl
  intro f
  induction f with
  | zero =>
    intro pos a h
    rw [List.drop_of_length_le (by omega)]; rfl
  | succ f ih =>
    intro pos a h
    by_cases hp : pos < s.size
    · obtain ⟨x, hx, h1, _⟩ := ascii_at s pos hp ha
      have hd : s.data.toList.drop pos = x :: s.data.toList.drop (pos + 1) := by
        rw [List.drop_eq_getElem_cons (by omega)]
        congr 1
      have hdec : Utf8.decode s pos = (x.toNat, 1) := by rw [decode_ascii s pos hp (by rw [hx]; exact h1), hx]
      rw [hd, unqFrom, if_pos hp, hdec, unA]
      have e : (x.toNat = 92 ∧ a = false) ↔ (x = 92 ∧ a = false) := by
        constructor
        · rintro ⟨e1, e2⟩; exact ⟨UInt8.toNat_inj.1 e1, e2⟩
        · rintro ⟨e1, e2⟩; exact ⟨by rw [e1]; rfl, e2⟩
      by_cases hc : x = 92 ∧ a = false
      · rw [if_pos hc, if_pos (e.2 hc), ih _ _ (by simp only []; omega)]
      · rw [if_neg hc, if_neg (fun h => hc (e.1 h)), ih _ _ (by simp only []; omega), rune_ascii x h1]; rfl
    · rw [unqFrom_end _ _ _ _ hp, List.drop_of_length_le (by omega)]; rfl
theorem unA_qL : ∀ l : List UInt8, unA (qL l) false = l
  | [] => rfl
  | x :: l => by
    have e : qL (x :: l) = q1 x ++ qL l := rfl
    rw [e]
    have ih := unA_qL l
    by_cases h : x = 39 ∨ x = 92
    · have e2 : q1 x = [92, x] := by unfold q1; rw [if_pos h]
      rw [e2]
      show unA (92 :: x :: qL l) false = x :: l
      rw [unA, if_pos ⟨rfl, rfl⟩, unA, if_neg (by simp), ih]
    · have e2 : q1 x = [x] := by unfold q1; rw [if_neg h]
      rw [e2]
      show unA (x :: qL l) false = x :: l
      rw [unA, if_neg (fun hh => h (Or.inr hh.1)), ih]
theorem qL_ascii (l : List UInt8) (h : ∀ x ∈ l, x.toNat < 128) : ∀ x ∈ qL l, x.toNat < 128 := by
  intro x hx
  unfold qL at hx
  rw [List.mem_flatMap] at hx
  obtain ⟨y, hy, hx⟩ := hx
  unfold q1 at hx
  split at hx
  · simp at hx
    rcases hx with e | e
    · subst e; decide
    · subst e; exact h _ hy
  · simp at hx
    subst hx; exact h _ hy
theorem inn_wrap (a z : UInt8) (l : List UInt8) : innS ⟨([a] ++ l ++ [z]).toArray⟩ = ⟨l.toArray⟩ := by
  have hsz : (ByteArray.mk ([a] ++ l ++ [z]).toArray).size = l.length + 2 := by rw [size_mk]; simp
  unfold innS
  rw [if_neg (by omega)]
  apply str_eq
  rw [hsz, ByteArray.data_extract, Array.toList_extract, List.extract_eq_take_drop]
  simp
theorem inner_wrap (a z : UInt8) (l : List UInt8) : innerS ⟨([a] ++ l ++ [z]).toArray⟩ = ⟨l.toArray⟩ := by
  have := inn_wrap a z l
  unfold innS at this
  unfold innerS
  exact this
theorem unq_quote (l : List UInt8) (h : ∀ x ∈ l, x.toNat < 128) : unqL ⟨(quoteL l).toArray⟩ = l := by
  unfold unqL quoteL
  rw [inn_wrap, unq_from _ (by simpa using qL_ascii l h) _ _ _ (by omega)]
  simpa using unA_qL l
end Go.Proofs.YtdabanocofimmaaGreatDoor

namespace Go.Proofs.YtdabanocofimmaaGreatDoor
open Go.RowKit

/-- The one value that can have a text that is not empty. -/
def lik (s : ByteArray) : Int × Int × List UInt8 :=
  if s.data.toList = [110, 117, 108, 108] then (0, 0, []) else if s.data.toList = [102, 97, 108, 115, 101] then (1, 0, []) else if s.data.toList = [116, 114, 117, 101] then (1, 1, [])
  else if s.data.toList.headD 0 = 39 then (3, 0, unqL s) else if s.data.toList.headD 0 = 40 then (4, 0, (innerS s).data.toList) else if s.data.toList.headD 0 = 91 then (5, 0, (innerS s).data.toList) else (2, numL s.data.toList, [])
theorem str_id (s : ByteArray) : (⟨s.data.toList.toArray⟩ : ByteArray) = s := by obtain ⟨⟨l⟩⟩ := s; rfl
theorem head_at (s : ByteArray) (h0 : 0 < s.size) : s[0]'h0 = s.data.toList.headD 0 := by
  obtain ⟨⟨l⟩⟩ := s
  cases l with
  | nil => simp [ByteArray.size] at h0
  | cons a l => rfl
theorem beq_str (s : ByteArray) (l : List UInt8) : (s.toList == l) = decide (s.data.toList = l) := by
  rw [Lib.toList_data]
  by_cases h : s.data.toList = l
  · rw [decide_eq_true h, h]; exact beq_self_eq_true l
  · rw [decide_eq_false h]; exact beq_eq_false_iff_ne.2 h

theorem likely_full (s : ByteArray) (w : World) (hw : WOk w) (h0 : 0 < s.size) (hs : s.size ≤ 1000000) : Calls Tryz.prog 163 #[.string s] w (Gives w (valV (lik s).1 (lik s).2.1 ⟨(lik s).2.2.toArray⟩)) := by
  have e1 := beq_str s [110, 117, 108, 108]
  have e2 := beq_str s [102, 97, 108, 115, 101]
  have e3 := beq_str s [116, 114, 117, 101]
  by_cases c1 : s.data.toList = [110, 117, 108, 108]
  · have : lik s = (0, 0, []) := by unfold lik; rw [if_pos c1]
    rw [this]
    exact likely_null s w (by rw [e1, decide_eq_true c1])
  by_cases c2 : s.data.toList = [102, 97, 108, 115, 101]
  · have : lik s = (1, 0, []) := by unfold lik; rw [if_neg c1, if_pos c2]
    rw [this]
    exact likely_false s w (by rw [e1, decide_eq_false c1]) (by rw [e2, decide_eq_true c2])
  by_cases c3 : s.data.toList = [116, 114, 117, 101]
  · have : lik s = (1, 1, []) := by unfold lik; rw [if_neg c1, if_neg c2, if_pos c3]
    rw [this]
    exact likely_true s w (by rw [e1, decide_eq_false c1]) (by rw [e2, decide_eq_false c2]) (by rw [e3, decide_eq_true c3])
  have hn : NoWord s := ⟨by rw [e1, decide_eq_false c1], by rw [e2, decide_eq_false c2], by rw [e3, decide_eq_false c3]⟩
  by_cases c4 : s.data.toList.headD 0 = 39
  · have : lik s = (3, 0, unqL s) := by unfold lik; rw [if_neg c1, if_neg c2, if_neg c3, if_pos c4]
    rw [this]
    exact likely_quote s _ w hn h0 (by rw [head_at, c4]) (fun W => unquoted_any s W (by omega))
  by_cases c5 : s.data.toList.headD 0 = 40
  · have : lik s = (4, 0, (innerS s).data.toList) := by unfold lik; rw [if_neg c1, if_neg c2, if_neg c3, if_neg c4, if_pos c5]
    rw [this, str_id]
    exact likely_paren s w hn (by omega) h0 (by rw [head_at, c5])
  by_cases c6 : s.data.toList.headD 0 = 91
  · have : lik s = (5, 0, (innerS s).data.toList) := by unfold lik; rw [if_neg c1, if_neg c2, if_neg c3, if_neg c4, if_neg c5, if_pos c6]
    rw [this, str_id]
    exact likely_brack s w hn (by omega) h0 (by rw [head_at, c6])
  · have : lik s = (2, numL s.data.toList, []) := by unfold lik; rw [if_neg c1, if_neg c2, if_neg c3, if_neg c4, if_neg c5, if_neg c6]
    rw [this]
    have hne : ∀ (b : UInt8) (c : Int), s.data.toList.headD 0 ≠ b → c = b.toNat → (((s[0]'h0).toNat : Int) == c) = false := by
      intro b c h hc
      rw [beq_eq_false_iff_ne, head_at, hc]
      intro e
      exact h (UInt8.toNat_inj.1 (by omega))
    exact likely_num s w hw hn (by omega) h0 _ rfl (hne 39 39 c4 rfl) (hne 40 40 c5 rfl) (hne 91 91 c6 rfl)
theorem inner_len (s : ByteArray) : (innerS s).size ≤ s.size := innS_size s
theorem rune_len (r : Int) : (Lib.encodeRune r).length ≤ 4 := by
  unfold Lib.encodeRune Lib.encodeRuneZ
  rw [List.length_map]
  split
  · simp
  · split
    · simp
    · split
      · simp
      · split <;> simp
theorem unq_len (s : ByteArray) : ∀ (f pos : Nat) (a : Bool), (unqFrom s f pos a).length ≤ 4 * f
  | 0, _, _ => by simp [unqFrom]
  | f + 1, pos, a => by
    rw [unqFrom]
    split
    · split
      · have := unq_len s f (pos + (Utf8.decode s pos).2) true; omega
      · have := unq_len s f (pos + (Utf8.decode s pos).2) false
        have h2 := rune_len ((Utf8.decode s pos).1 : Nat)
        rw [List.length_append]; omega
    · simp
theorem lik_len (s : ByteArray) : (lik s).2.2.length ≤ 4 * s.size := by
  unfold lik
  have h1 := unq_len (innS s) (innS s).size 0 false
  have h2 := innS_size s
  have h3 := inner_len s
  have h4 : (innerS s).data.toList.length = (innerS s).size := by rw [Array.length_toList]; rfl
  have h5 : (unqL s).length = (unqFrom (innS s) (innS s).size 0 false).length := rfl
  repeat' split
  all_goals simp only [List.length_nil]
  all_goals omega
theorem parse_full (s : ByteArray) (w : World) (hw : WOk w) : Calls Tryz.prog 144 #[.string s] w (Gives w (if s.size = 0 ∨ 130 < s.size then noneV else parsedV (lik s).1 (lik s).2.1 ⟨(lik s).2.2.toArray⟩ s)) := by
  by_cases h : s.size = 0 ∨ 130 < s.size
  · rw [if_pos h]; exact parse_none s w h
  · rw [if_neg h]
    have hl := lik_len s
    exact parse_any _ _ _ s w hw (by omega) (by omega) (by rw [size_mk]; omega) (fun W hW => likely_full s W hW (by omega) (by omega))

end Go.Proofs.YtdabanocofimmaaGreatDoor

namespace Go.Proofs.YtdabanocofimmaaGreatDoor
open Go.RowKit

theorem lik_head (c : UInt8) (t : List UInt8) (h1 : c ≠ 110) (h2 : c ≠ 102) (h3 : c ≠ 116) : lik ⟨(c :: t).toArray⟩ = if c = 39 then (3, 0, unqL ⟨(c :: t).toArray⟩) else if c = 40 then (4, 0, (innerS ⟨(c :: t).toArray⟩).data.toList) else if c = 91 then (5, 0, (innerS ⟨(c :: t).toArray⟩).data.toList) else (2, numL (c :: t), []) := by
  unfold lik
  show (if c :: t = _ then _ else if c :: t = _ then _ else if c :: t = _ then _ else _) = _
  rw [if_neg (fun e => h1 (List.cons.inj e).1), if_neg (fun e => h2 (List.cons.inj e).1), if_neg (fun e => h3 (List.cons.inj e).1)]
  rfl
theorem lik_text (k n : Int) (l : List UInt8) (hr : rightB k n l = true) : lik ⟨(textB k n l).toArray⟩ = (k, n, l) := by
  have hT : textB k n l = (if k = 1 then Lib.formatBool (n == 1) else if k = 2 then Lib.itoa n else if k = 3 then quoteL l else if k = 4 then [40] ++ l ++ [41] else if k = 5 then [91] ++ l ++ [93] else [110, 117, 108, 108]) := by
    unfold textB; rw [if_pos hr]
  unfold rightB at hr
  by_cases k0 : k = 0
  · subst k0
    rw [if_pos rfl] at hr
    simp only [Bool.and_eq_true, beq_iff_eq] at hr
    obtain ⟨rfl, hr⟩ := hr
    obtain rfl := List.isEmpty_iff.1 hr
    rw [show textB 0 0 [] = [110, 117, 108, 108] from hT]; rfl
  rw [if_neg k0] at hr
  by_cases k1 : k = 1
  · subst k1
    rw [if_pos rfl] at hr
    simp only [Bool.and_eq_true, Bool.or_eq_true, beq_iff_eq] at hr
    obtain ⟨hn, hr⟩ := hr
    obtain rfl := List.isEmpty_iff.1 hr
    rcases hn with rfl | rfl
    · rw [show textB 1 0 [] = [102, 97, 108, 115, 101] from hT]; rfl
    · rw [show textB 1 1 [] = [116, 114, 117, 101] from hT]; rfl
  rw [if_neg k1] at hr hT
  by_cases k2 : k = 2
  · subst k2
    rw [if_pos rfl] at hr hT
    simp only [Bool.and_eq_true, decide_eq_true_eq] at hr
    obtain ⟨⟨hn1, hn2⟩, hr⟩ := hr
    obtain rfl := List.isEmpty_iff.1 hr
    obtain ⟨c, t, hc, hd⟩ := itoa_head n
    have hnum : numL (Lib.itoa n) = n := by unfold numL; rw [atoi_itoa n hn1 hn2]
    have hne : ∀ b : UInt8, b.toNat ≠ 45 → (b.toNat < 48 ∨ 57 < b.toNat) → c ≠ b := by
      intro b h1 h2 e
      subst e
      rcases hd with e | e
      · rw [e] at h1; exact h1 rfl
      · omega
    rw [hT, hc, lik_head c t (hne 110 (by decide) (by decide)) (hne 102 (by decide) (by decide)) (hne 116 (by decide) (by decide)), if_neg (hne 39 (by decide) (by decide)), if_neg (hne 40 (by decide) (by decide)), if_neg (hne 91 (by decide) (by decide)), ← hc, hnum]
  rw [if_neg k2] at hr hT
  by_cases k3 : k = 3
  · subst k3
    rw [if_pos rfl] at hr hT
    simp only [Bool.and_eq_true, beq_iff_eq] at hr
    obtain ⟨rfl, hr⟩ := hr
    obtain ⟨hp1, hp2⟩ := plain_bytes hr
    rw [hT]
    show lik ⟨(39 :: (qL l ++ [39])).toArray⟩ = _
    rw [lik_head 39 _ (by decide) (by decide) (by decide), if_pos rfl]
    exact congrArg (fun x => (3, 0, x)) (unq_quote l hp2)
  rw [if_neg k3] at hr hT
  by_cases k4 : k = 4
  · subst k4
    rw [if_pos rfl] at hr hT
    simp only [Bool.and_eq_true, beq_iff_eq] at hr
    obtain ⟨rfl, hr⟩ := hr
    rw [hT]
    show lik ⟨(40 :: (l ++ [41])).toArray⟩ = _
    rw [lik_head 40 _ (by decide) (by decide) (by decide), if_neg (by decide), if_pos rfl]
    exact congrArg (fun x : ByteArray => (4, 0, x.data.toList)) (inner_wrap 40 41 l)
  rw [if_neg k4] at hr hT
  by_cases k5 : k = 5
  · subst k5
    rw [if_pos rfl] at hr hT
    simp only [Bool.and_eq_true, beq_iff_eq] at hr
    obtain ⟨rfl, hr⟩ := hr
    rw [hT]
    show lik ⟨(91 :: (l ++ [93])).toArray⟩ = _
    rw [lik_head 91 _ (by decide) (by decide) (by decide), if_neg (by decide), if_neg (by decide), if_pos rfl]
    exact congrArg (fun x : ByteArray => (5, 0, x.data.toList)) (inner_wrap 91 93 l)
  · rw [if_neg k5] at hr; cases hr

end Go.Proofs.YtdabanocofimmaaGreatDoor

namespace Go.Proofs.YtdabanocofimmaaGreatDoor.Lx
open Go.RowKit

def fits (s : ByteArray) (c : Int × Int × List UInt8) : Bool := rightB c.1 c.2.1 c.2.2 && decide (textB c.1 c.2.1 c.2.2 = s.data.toList)
theorem fits_lik (s : ByteArray) (c : Int × Int × List UInt8) (h : fits s c = true) : lik s = c := by
  unfold fits at h
  simp only [Bool.and_eq_true, decide_eq_true_eq] at h
  have := lik_text c.1 c.2.1 c.2.2 h.1
  rw [h.2, str_id] at this
  exact this
theorem text_len (k n : Int) (l : List UInt8) (hr : rightB k n l = true) : (textB k n l).length ≤ 130 := by
  have hT : textB k n l = (if k = 1 then Lib.formatBool (n == 1) else if k = 2 then Lib.itoa n else if k = 3 then quoteL l else if k = 4 then [40] ++ l ++ [41] else if k = 5 then [91] ++ l ++ [93] else [110, 117, 108, 108]) := by
    unfold textB; rw [if_pos hr]
  rw [hT]
  unfold rightB at hr
  by_cases k0 : k = 0
  · subst k0; show ([110, 117, 108, 108] : List UInt8).length ≤ 130; decide
  rw [if_neg k0] at hr
  by_cases k1 : k = 1
  · subst k1
    rw [if_pos rfl]
    cases n == 1 <;> decide
  rw [if_neg k1] at hr ⊢
  by_cases k2 : k = 2
  · subst k2
    rw [if_pos rfl] at hr ⊢
    simp only [Bool.and_eq_true, decide_eq_true_eq] at hr
    have := itoa_len n hr.1.1 hr.1.2
    omega
  rw [if_neg k2] at hr ⊢
  by_cases k3 : k = 3
  · subst k3
    rw [if_pos rfl] at hr ⊢
    simp only [Bool.and_eq_true, beq_iff_eq] at hr
    obtain ⟨hp1, _⟩ := plain_bytes hr.2
    have hql := qL_len l
    unfold quoteL
    simp
    omega
  rw [if_neg k3] at hr ⊢
  by_cases k4 : k = 4
  · subst k4
    rw [if_pos rfl] at hr ⊢
    simp only [Bool.and_eq_true, beq_iff_eq] at hr
    have h := hr.2
    unfold nameB at h
    simp only [Bool.and_eq_true, decide_eq_true_eq] at h
    have := h.1.2
    simp
    omega
  rw [if_neg k4] at hr ⊢
  by_cases k5 : k = 5
  · subst k5
    rw [if_pos rfl] at hr ⊢
    simp only [Bool.and_eq_true, beq_iff_eq] at hr
    have := nmB_len l hr.2
    simp
    omega
  · rw [if_neg k5] at hr; cases hr

end Go.Proofs.YtdabanocofimmaaGreatDoor.Lx
