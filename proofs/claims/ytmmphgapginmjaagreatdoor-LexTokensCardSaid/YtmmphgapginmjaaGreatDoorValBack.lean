/-
  value.Parse of a value's text: the value, if it may be. Conditions: the world holds the library's tables (WOk).
-/
import Derived.Test.YtmmphgapginmjaaGreatDoorValParsed
import Derived.Test.YtmmphgapginmjaaGreatDoorValUnq
import Derived.Test.YtmmphgapginmjaaGreatDoorValNum
import Derived.Test.YtmmphgapginmjaaGreatDoorValCutMath
namespace Go.Proofs.YtmmphgapginmjaaGreatDoor
open Go.RowKit

/-- What a text says whose bytes are below 128, without the signs that say 'take the next as it is'. -/
def unA : List UInt8 → Bool → List UInt8
  | [], _ => []
  | x :: l, a => if x = 92 ∧ a = false then unA l true else x :: unA l false
theorem rune_ascii (x : UInt8) (h : x.toNat < 128) : Lib.encodeRune ((x.toNat : Nat) : Int) = [x] := by
  unfold Lib.encodeRune
  rw [Lib.encodeRuneZ_one (by omega) (by omega)]
  simp
theorem unq_from (s : ByteArray) (ha : ∀ x ∈ s.data.toList, x.toNat < 128) : ∀ (f pos : Nat) (a : Bool), s.size - pos ≤ f → unqFrom s f pos a = unA (s.data.toList.drop pos) a := by
  have hlen : s.data.toList.length = s.size := by rw [Array.length_toList]; rfl
  intro f
  induction f with
  | zero =>
    intro pos a h
    rw [List.drop_of_length_le (by omega)]; rfl
  | succ f ih =>
    intro pos a h
    by_cases hp : pos < s.size
    · obtain ⟨x, hx, h1, _⟩ := ascii_at s pos hp ha
      have hd : s.data.toList.drop pos = x :: s.data.toList.drop (pos + 1) := by
        rw [List.drop_eq_getElem_cons (by omega)]
        congr 1
      have hdec : Utf8.decode s pos = (x.toNat, 1) := by rw [decode_ascii s pos hp (by rw [hx]; exact h1), hx]
      rw [hd, unqFrom, if_pos hp, hdec, unA]
      have e : (x.toNat = 92 ∧ a = false) ↔ (x = 92 ∧ a = false) := by
        constructor
        · rintro ⟨e1, e2⟩; exact ⟨UInt8.toNat_inj.1 e1, e2⟩
        · rintro ⟨e1, e2⟩; exact ⟨by rw [e1]; rfl, e2⟩
      by_cases hc : x = 92 ∧ a = false
      · rw [if_pos hc, if_pos (e.2 hc), ih _ _ (by simp only []; omega)]
      · rw [if_neg hc, if_neg (fun h => hc (e.1 h)), ih _ _ (by simp only []; omega), rune_ascii x h1]; rfl
    · rw [unqFrom_end _ _ _ _ hp, List.drop_of_length_le (by omega)]; rfl
theorem unA_qL : ∀ l : List UInt8, unA (qL l) false = l
  | [] => rfl
  | x :: l => by
    have e : qL (x :: l) = q1 x ++ qL l := rfl
    rw [e]
    have ih := unA_qL l
    by_cases h : x = 39 ∨ x = 92
    · have e2 : q1 x = [92, x] := by unfold q1; rw [if_pos h]
      rw [e2]
      show unA (92 :: x :: qL l) false = x :: l
      rw [unA, if_pos ⟨rfl, rfl⟩, unA, if_neg (by simp), ih]
    · have e2 : q1 x = [x] := by unfold q1; rw [if_neg h]
      rw [e2]
      show unA (x :: qL l) false = x :: l
      rw [unA, if_neg (fun hh => h (Or.inr hh.1)), ih]
theorem qL_ascii (l : List UInt8) (h : ∀ x ∈ l, x.toNat < 128) : ∀ x ∈ qL l, x.toNat < 128 := by
  intro x hx
  unfold qL at hx
  rw [List.mem_flatMap] at hx
  obtain ⟨y, hy, hx⟩ := hx
  unfold q1 at hx
  split at hx
  · simp at hx
    rcases hx with e | e
    · subst e; decide
    · subst e; exact h _ hy
  · simp at hx
    subst hx; exact h _ hy
theorem inn_wrap (a z : UInt8) (l : List UInt8) : innS ⟨([a] ++ l ++ [z]).toArray⟩ = ⟨l.toArray⟩ := by
  have hsz : (ByteArray.mk ([a] ++ l ++ [z]).toArray).size = l.length + 2 := by rw [size_mk]; simp
  unfold innS
  rw [if_neg (by omega)]
  apply str_eq
  rw [hsz, ByteArray.data_extract, Array.toList_extract, List.extract_eq_take_drop]
  simp
theorem inner_wrap (a z : UInt8) (l : List UInt8) : innerS ⟨([a] ++ l ++ [z]).toArray⟩ = ⟨l.toArray⟩ := by
  have := inn_wrap a z l
  unfold innS at this
  unfold innerS
  exact this
theorem unq_quote (l : List UInt8) (h : ∀ x ∈ l, x.toNat < 128) : unqL ⟨(quoteL l).toArray⟩ = l := by
  unfold unqL quoteL
  rw [inn_wrap, unq_from _ (by simpa using qL_ascii l h) _ _ _ (by omega)]
  simpa using unA_qL l
theorem noword (c : UInt8) (t : List UInt8) (h1 : c ≠ 110) (h2 : c ≠ 102) (h3 : c ≠ 116) : NoWord ⟨(c :: t).toArray⟩ := by
  unfold NoWord
  rw [Lib.toList_data]
  refine ⟨?_, ?_, ?_⟩
  all_goals
    rw [beq_eq_false_iff_ne]
    intro e
    have e := (List.cons.inj (show c :: t = _ from e)).1
    first | exact h1 e | exact h2 e | exact h3 e
theorem emp_str (s : ByteArray) (h : s.data.toList.isEmpty = true) : s = ⟨#[]⟩ := str_eq (l := []) (List.isEmpty_iff.1 h)

theorem parse_text (k n : Int) (s : ByteArray) (w : World) (hw : WOk w) (hs : s.size ≤ 1000000) :
    Calls Tryz.prog 46 #[sv (textB k n s.data.toList)] w (Gives w (if rightB k n s.data.toList = true then .tuple #[valV k n s, .bool true] else noneV)) := by
  have hlen : s.data.toList.length = s.size := by rw [Array.length_toList]; rfl
  by_cases hr : rightB k n s.data.toList = true
  · rw [if_pos hr]
    have key : ∀ t : List UInt8, textB k n s.data.toList = t → 0 < t.length → t.length ≤ 130 → (∀ W, WOk W → Calls Tryz.prog 64 #[.string ⟨t.toArray⟩] W (Gives W (valV k n s))) →
        Calls Tryz.prog 46 #[sv (textB k n s.data.toList)] w (Gives w (.tuple #[valV k n s, .bool true])) := by
      intro t ht h1 h2 hl
      rw [ht]
      have := parse_any k n s ⟨t.toArray⟩ w hw (by rw [size_mk]; exact h1) (by rw [size_mk]; exact h2) (by omega) hl
      unfold parsedV at this
      rw [if_pos ht] at this
      exact this
    have hT : textB k n s.data.toList = (if k = 1 then Lib.formatBool (n == 1) else if k = 2 then Lib.itoa n else if k = 3 then quoteL s.data.toList else if k = 4 then [40] ++ s.data.toList ++ [41] else if k = 5 then [91] ++ s.data.toList ++ [93] else [110, 117, 108, 108]) := by
      unfold textB; rw [if_pos hr]
    unfold rightB at hr
    by_cases k0 : k = 0
    · subst k0
      rw [if_pos rfl] at hr
      simp only [Bool.and_eq_true, beq_iff_eq] at hr
      obtain ⟨rfl, hr⟩ := hr
      obtain rfl := emp_str s hr
      exact key [110, 117, 108, 108] hT (by decide) (by decide) (fun W _ => likely_null _ W (by rw [Lib.toList_data]; rfl))
    rw [if_neg k0] at hr
    by_cases k1 : k = 1
    · subst k1
      rw [if_pos rfl] at hr
      simp only [Bool.and_eq_true, Bool.or_eq_true, beq_iff_eq] at hr
      obtain ⟨hn, hr⟩ := hr
      obtain rfl := emp_str s hr
      rcases hn with rfl | rfl
      · exact key [102, 97, 108, 115, 101] hT (by decide) (by decide) (fun W _ => likely_false _ W (by rw [Lib.toList_data]; rfl) (by rw [Lib.toList_data]; rfl))
      · exact key [116, 114, 117, 101] hT (by decide) (by decide) (fun W _ => likely_true _ W (by rw [Lib.toList_data]; rfl) (by rw [Lib.toList_data]; rfl) (by rw [Lib.toList_data]; rfl))
    rw [if_neg k1] at hr hT
    by_cases k2 : k = 2
    · subst k2
      rw [if_pos rfl] at hr hT
      simp only [Bool.and_eq_true, decide_eq_true_eq] at hr
      obtain ⟨⟨hn1, hn2⟩, hr⟩ := hr
      obtain rfl := emp_str s hr
      obtain ⟨c, t, hc, hd⟩ := itoa_head n
      have hl := itoa_len n hn1 hn2
      have hnum : numL (Lib.itoa n) = n := by unfold numL; rw [atoi_itoa n hn1 hn2]
      have hne : ∀ b : UInt8, b.toNat ≠ 45 → (b.toNat < 48 ∨ 57 < b.toNat) → c ≠ b := by
        intro b h1 h2 e
        subst e
        rcases hd with e | e
        · rw [e] at h1; exact h1 rfl
        · omega
      refine key _ hT (by rw [hc]; simp) (by omega) (fun W hW => ?_)
      have hcn : ((c.toNat : Int) == 39) = false ∧ ((c.toNat : Int) == 40) = false ∧ ((c.toNat : Int) == 91) = false := by
        rcases hd with e | e
        · subst e; exact ⟨rfl, rfl, rfl⟩
        · refine ⟨?_, ?_, ?_⟩ <;> (rw [beq_eq_false_iff_ne]; omega)
      have := likely_num ⟨(Lib.itoa n).toArray⟩ W hW (by rw [hc]; exact noword c t (hne 110 (by decide) (by decide)) (hne 102 (by decide) (by decide)) (hne 116 (by decide) (by decide))) (by rw [size_mk]; omega) (by rw [size_mk, hc]; simp) c.toNat (by simp only [hc]; rfl) hcn.1 hcn.2.1 hcn.2.2
      rw [show (ByteArray.mk (Lib.itoa n).toArray).data.toList = Lib.itoa n from rfl, hnum] at this
      exact this
    rw [if_neg k2] at hr hT
    by_cases k3 : k = 3
    · subst k3
      rw [if_pos rfl] at hr hT
      simp only [Bool.and_eq_true, beq_iff_eq] at hr
      obtain ⟨rfl, hr⟩ := hr
      obtain ⟨hp1, hp2⟩ := plain_bytes hr
      have hql := qL_len s.data.toList
      have hql2 : (quoteL s.data.toList).length = (qL s.data.toList).length + 2 := by unfold quoteL; simp
      refine key _ hT (by omega) (by omega) (fun W hW => ?_)
      have := likely_quote ⟨(quoteL s.data.toList).toArray⟩ ⟨(unqL ⟨(quoteL s.data.toList).toArray⟩).toArray⟩ W (noword 39 _ (by decide) (by decide) (by decide)) (by rw [size_mk]; omega) rfl (fun W' => unquoted_any _ W' (by rw [size_mk]; omega))
      rw [unq_quote _ hp2] at this
      exact this
    rw [if_neg k3] at hr hT
    by_cases k4 : k = 4
    · subst k4
      rw [if_pos rfl] at hr hT
      simp only [Bool.and_eq_true, beq_iff_eq] at hr
      obtain ⟨rfl, hr⟩ := hr
      have hl : s.data.toList.length ≤ 16 := by
        unfold nameB at hr
        simp only [Bool.and_eq_true, decide_eq_true_eq] at hr
        exact hr.1.2
      refine key _ hT (by simp) (by simp; omega) (fun W hW => ?_)
      have := likely_paren ⟨([40] ++ s.data.toList ++ [41]).toArray⟩ W (noword 40 _ (by decide) (by decide) (by decide)) (by rw [size_mk]; simp; omega) (by rw [size_mk]; simp) rfl
      rw [inner_wrap 40 41 s.data.toList] at this
      exact this
    rw [if_neg k4] at hr hT
    by_cases k5 : k = 5
    · subst k5
      rw [if_pos rfl] at hr hT
      simp only [Bool.and_eq_true, beq_iff_eq] at hr
      obtain ⟨rfl, hr⟩ := hr
      have hl := nmB_len _ hr
      refine key _ hT (by simp) (by simp; omega) (fun W hW => ?_)
      have := likely_brack ⟨([91] ++ s.data.toList ++ [93]).toArray⟩ W (noword 91 _ (by decide) (by decide) (by decide)) (by rw [size_mk]; simp; omega) (by rw [size_mk]; simp) rfl
      rw [inner_wrap 91 93 s.data.toList] at this
      exact this
    · rw [if_neg k5] at hr; cases hr
  · rw [if_neg hr]
    have hT : textB k n s.data.toList = [] := by unfold textB; rw [if_neg hr]
    rw [hT]
    exact parse_none ⟨#[]⟩ w (Or.inl rfl)

end Go.Proofs.YtmmphgapginmjaaGreatDoor
