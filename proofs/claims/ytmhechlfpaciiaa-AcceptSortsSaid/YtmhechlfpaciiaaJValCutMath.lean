/-
  PARTS BETWEEN SIGNS, AND A TEXT CUT TWICE: plain mathematics on bytes; nothing of the program. hedgerowref01.plain, hedgerowref01.Name: the contracts, by walks. Conditions: lengths.
-/
import Derived.Test.YtmhechlfpaciiaaValSplit
import Derived.Test.YtmhechlfpaciiaaValOf
import Derived.Test.YtmhechlfpaciiaaValName
namespace Go.Proofs.Ytmhechlfpaciiaa
open Go.RowKit

def spR (b : UInt8) : List UInt8 → List (List UInt8)
  | [] => [[]]
  | x :: l => if x = b then [] :: spR b l else (x :: (spR b l).headD []) :: (spR b l).tail
theorem spR_ne (b : UInt8) : ∀ l : List UInt8, spR b l = (spR b l).headD [] :: (spR b l).tail
  | [] => rfl
  | x :: l => by unfold spR; split <;> rfl
theorem spl_spR (b : UInt8) : ∀ (l : List UInt8) (D : List (List UInt8)) (C : List UInt8), (l.foldl (splS b) (D, C)).1 ++ [(l.foldl (splS b) (D, C)).2] = D ++ (C ++ (spR b l).headD []) :: (spR b l).tail
  | [], D, C => by simp [spR]
  | x :: l, D, C => by
    rw [List.foldl_cons]
    by_cases h : x = b
    · have e : splS b (D, C) x = (D ++ [C], []) := by unfold splS; rw [if_pos h]
      rw [e, spl_spR b l]
      have e2 : spR b (x :: l) = [] :: spR b l := by rw [spR, if_pos h]
      rw [e2]
      have e3 := spR_ne b l
      simp only [List.headD_cons, List.tail_cons, List.append_nil, List.nil_append, List.append_assoc, List.cons_append]
      rw [← e3]
    · have e : splS b (D, C) x = (D, C ++ [x]) := by unfold splS; rw [if_neg h]
      rw [e, spl_spR b l]
      have e2 : spR b (x :: l) = (x :: (spR b l).headD []) :: (spR b l).tail := by rw [spR, if_neg h]
      rw [e2]
      simp
theorem spl_parts (b : UInt8) (l : List UInt8) : (spl b l).1 ++ [(spl b l).2] = spR b l := by
  have := spl_spR b l [] []
  simp only [List.nil_append] at this
  rw [← spR_ne] at this
  exact this

theorem index_nil : Lib.index [] [62] = -1 := rfl
theorem index_hit (l : List UInt8) : Lib.index (62 :: l) [62] = 0 := by simp [Lib.index, List.isPrefixOf]
theorem index_ge : ∀ l : List UInt8, -1 ≤ Lib.index l [62]
  | [] => by simp [Lib.index]
  | x :: l => by
    have := index_ge l
    rw [Lib.index]
    split
    · omega
    · split <;> omega
theorem index_miss (x : UInt8) (l : List UInt8) (h : x ≠ 62) : Lib.index (x :: l) [62] = if Lib.index l [62] = -1 then -1 else Lib.index l [62] + 1 := by
  rw [Lib.index]
  have : ([62] : List UInt8).isPrefixOf (x :: l) = false := by
    simp only [List.isPrefixOf, Bool.and_true, beq_eq_false_iff_ne]; exact fun e => h e.symm
  rw [this]
  simp
theorem cut_nil : Lib.cut [] [62] = ([], [], false) := by kernel_rfl
theorem cut_hit (l : List UInt8) : Lib.cut (62 :: l) [62] = ([], l, true) := by
  unfold Lib.cut; rw [index_hit]; simp
theorem cut_miss (x : UInt8) (l : List UInt8) (h : x ≠ 62) : Lib.cut (x :: l) [62] = (x :: (Lib.cut l [62]).1, (Lib.cut l [62]).2.1, (Lib.cut l [62]).2.2) := by
  have hge := index_ge l
  unfold Lib.cut
  rw [index_miss x l h]
  by_cases h1 : Lib.index l [62] = -1
  · simp [h1]
  · have e : (Lib.index l [62] + 1).toNat = (Lib.index l [62]).toNat + 1 := by omega
    rw [if_neg h1, if_pos (show 0 ≤ Lib.index l [62] + 1 by omega), if_pos (show 0 ≤ Lib.index l [62] by omega), e]
    rfl
/-- The parts of a text, by its first cut. -/
theorem spR_cut : ∀ l : List UInt8, spR 62 l = if (Lib.cut l [62]).2.2 = true then (Lib.cut l [62]).1 :: spR 62 (Lib.cut l [62]).2.1 else [l]
  | [] => by rw [cut_nil]; rfl
  | x :: l => by
    by_cases h : x = 62
    · subst h; rw [cut_hit, spR, if_pos rfl]; rfl
    · rw [cut_miss x l h, spR, if_neg h, spR_cut l]
      by_cases h2 : (Lib.cut l [62]).2.2 = true
      · simp only [h2, if_true]; rfl
      · simp only [h2]; rfl
theorem cut_none (l : List UInt8) (h : ¬ (Lib.cut l [62]).2.2 = true) : (Lib.cut l [62]).2.1 = [] := by
  unfold Lib.cut at *
  split <;> simp_all
theorem name_nil : nameB [] = false := rfl
theorem name_sign (l : List UInt8) (h : nameB l = true) : ∀ x ∈ l, x ≠ 62 := by
  intro x hx e
  subst e
  obtain ⟨i, hi, he⟩ := List.getElem_of_mem hx
  unfold nameB at h
  simp only [Bool.and_eq_true, List.all_eq_true, List.mem_range] at h
  have := h.2 i hi
  unfold okAt at this
  rw [show l.getD i 0 = 62 by rw [← he]; simp [hi]] at this
  simp [okR, lettB, digI] at this
theorem spR_one : ∀ (l : List UInt8), (∀ x ∈ l, x ≠ 62) → spR 62 l = [l]
  | [], _ => rfl
  | x :: l, h => by
    rw [spR, if_neg (h x (by simp)), spR_one l (fun y hy => h y (by simp [hy]))]; rfl
theorem spR_sole : ∀ (l r : List UInt8), spR 62 l = [r] → l = r := by
  intro l r h
  rw [spR_cut] at h
  split at h
  · rename_i h2
    have := spR_ne 62 (Lib.cut l [62]).2.1
    rw [this] at h
    simp at h
  · simpa using h

/-- Three parts: the names that the two cuts give. -/
theorem three_parts (l p q r : List UInt8) (h : spR 62 l = [p, q, r]) : nmA l = p ∧ nmK l = q ∧ nmT l = r := by
  unfold nmA nmK nmT
  rw [spR_cut] at h
  split at h
  · simp only [List.cons.injEq] at h
    obtain ⟨h1, h2⟩ := h
    rw [spR_cut] at h2
    split at h2
    · simp only [List.cons.injEq] at h2
      exact ⟨h1, h2.1, spR_sole _ _ h2.2⟩
    · simp at h2
  · simp at h
theorem not_three (l : List UInt8) (h : (spR 62 l).length ≠ 3) : nmB l = false := by
  cases hn : nmB l with
  | false => rfl
  | true =>
    exfalso
    apply h
    unfold nmB at hn
    simp only [Bool.and_eq_true] at hn
    obtain ⟨⟨h1, h2⟩, h3⟩ := hn
    unfold nmK at h2
    unfold nmT at h3
    rw [spR_cut]
    by_cases c1 : (Lib.cut l [62]).2.2 = true
    · rw [if_pos c1, spR_cut (Lib.cut l [62]).2.1]
      by_cases c2 : (Lib.cut (Lib.cut l [62]).2.1 [62]).2.2 = true
      · rw [if_pos c2, spR_one _ (name_sign _ h3)]; rfl
      · rw [cut_none _ c2] at h3
        cases h3
    · rw [cut_none _ c1, cut_nil] at h2
      cases h2
/-- What the reference asks of an edge's text. -/
theorem nmB_len (l : List UInt8) (h : nmB l = true) : l.length ≤ 50 := by
  have hne : (spR 62 l).length = 3 := by
    apply Decidable.byContradiction
    intro hc
    rw [not_three l hc] at h
    cases h
  obtain ⟨p, q, r, he⟩ : ∃ p q r, spR 62 l = [p, q, r] := by
    match hs : spR 62 l, hne with
    | [p, q, r], _ => exact ⟨p, q, r, rfl⟩
  have hsum : ∀ l : List UInt8, l.length + 1 = ((spR 62 l).map fun p => p.length + 1).sum := by
    intro l
    induction l with
    | nil => rfl
    | cons x l ih =>
      rw [spR]
      split
      · simp only [List.map_cons, List.sum_cons, List.length_cons, List.length_nil]; omega
      · rw [spR_ne] at ih
        simp only [List.map_cons, List.sum_cons, List.length_cons] at ih ⊢; omega
  have h2 := hsum l
  rw [he] at h2
  obtain ⟨e1, e2, e3⟩ := three_parts l p q r he
  have hl : ∀ m : List UInt8, nameB m = true → m.length ≤ 16 := by
    intro m hm
    unfold nameB at hm
    simp only [Bool.and_eq_true, decide_eq_true_eq] at hm
    exact hm.1.2
  unfold nmB at h
  simp only [Bool.and_eq_true] at h
  have a1 := hl _ h.1.1
  have a2 := hl _ h.1.2
  have a3 := hl _ h.2
  rw [e1] at a1; rw [e2] at a2; rw [e3] at a3
  simp at h2
  omega

end Go.Proofs.Ytmhechlfpaciiaa

namespace Go.Proofs.Ytmhechlfpaciiaa
open Go.RowKit

theorem get_at (s : ByteArray) (i : Nat) (h : i < s.size) : s.data.toList.getD i 0 = s[i]'h := (sign_at s i h).2

set_option maxHeartbeats 2000000 in
theorem refplain_any (s : ByteArray) (w : World) (hs : s.size ≤ 9223372036854775806) : Calls Try.prog 76 #[.string s] w (SameV w (.bool (plainB s.data.toList))) := by
  have hlen : s.data.toList.length = s.size := by rw [Array.length_toList]; rfl
  have hN : plainB s.data.toList = (decide (s.size ≤ 64) && (List.range s.size).all (plnAt s.data.toList)) := by unfold plainB; rw [hlen]
  have HN := Lib.hid hN
  clear hN hlen
  go_enter Try.func76, Try.ntmps76
  go_wp2
  go_loopw [3] (fun x wr => ∃ i : Nat, x = .int .i64 i ∧ wr = w ∧ i ≤ s.size ∧ ∀ j, j < i → plnAt s.data.toList j = true) (fun x _ => s.size - (intOf x).toNat)
  case atStart => exact ⟨0, rfl, rfl, Nat.zero_le _, fun j hj => by omega⟩
  case round =>
    obtain ⟨i, rfl, rfl, hi, hall⟩ := hrel
    have HA := Lib.hid hall
    clear hall
    by_cases hp : i < s.size
    · have g1 : (i : Int) < (s.size : Int) := by omega
      have g0 : (0 : Int) ≤ (i : Int) := by omega
      obtain ⟨c, hc⟩ : ∃ c : Int, ((s[i]'hp).toNat : Int) = c := ⟨_, rfl⟩
      have hR : plnAt s.data.toList i = plnR c := by unfold plnAt; rw [get_at s i hp, hc]
      have HR := Lib.hid hR
      clear hR
      by_cases h1 : c < 32
      · have HF : Hid (plainB s.data.toList = false) := Lib.hid (by rw [HN.out, all_range_false hp (by rw [HR.out]; simp [plnR]; omega), Bool.and_false])
        go_wp2
        go_ret
        exact ⟨by rw [HF.out]; rfl, rfl⟩
      by_cases h2 : 126 < c
      · have HF : Hid (plainB s.data.toList = false) := Lib.hid (by rw [HN.out, all_range_false hp (by rw [HR.out]; simp [plnR]; omega), Bool.and_false])
        go_wp2
        go_ret
        exact ⟨by rw [HF.out]; rfl, rfl⟩
      · have hk : plnAt s.data.toList i = true := by rw [HR.out]; simp [plnR]; omega
        have H2 : Hid (∀ j, j < i + 1 → plnAt s.data.toList j = true) := Lib.hid (by
          intro j hj
          rcases Nat.lt_or_ge j i with hlt | hge
          · exact HA.out j hlt
          · rw [show j = i from by omega]; exact hk)
        have hwr : wrap64 ((i : Int) + 1) = ((i + 1 : Nat) : Int) := by rw [IntWalk.wrap64_in _ ⟨by omega, by omega⟩]; omega
        clear hk
        go_wp2
        go_roundw
        case rel => exact ⟨i + 1, by first | rfl | (rw [hwr]), by first | trivial | rfl, by omega, H2.out⟩
        case measure => simp [intOf]; omega
    · have g1 : ¬ (i : Int) < (s.size : Int) := by omega
      have HF : Hid (plainB s.data.toList = decide (s.size ≤ 64)) := Lib.hid (by rw [HN.out, all_range_true (fun j hj => HA.out j (by omega)), Bool.and_true])
      go_wp2
      go_ret
      exact ⟨by rw [HF.out]; simp; omega, rfl⟩

set_option maxHeartbeats 4000000 in
theorem refname_any (s : ByteArray) (w : World) (hs : s.size ≤ 9223372036854775806) : Calls Try.prog 51 #[.string s] w (SameV w (.bool (nameB s.data.toList))) := by
  have hlen : s.data.toList.length = s.size := by rw [Array.length_toList]; rfl
  have hN : nameB s.data.toList = (decide (0 < s.size) && decide (s.size ≤ 16) && (List.range s.size).all (okAt s.data.toList)) := by unfold nameB; rw [hlen]
  have HN := Lib.hid hN
  clear hN hlen
  go_enter Try.func51, Try.ntmps51
  go_wp2
  go_loopw [3] (fun x wr => ∃ i : Nat, x = .int .i64 i ∧ wr = w ∧ i ≤ s.size ∧ ∀ j, j < i → okAt s.data.toList j = true) (fun x _ => s.size - (intOf x).toNat)
  case atStart => exact ⟨0, rfl, rfl, Nat.zero_le _, fun j hj => by omega⟩
  case round =>
    obtain ⟨i, rfl, rfl, hi, hall⟩ := hrel
    have HA := Lib.hid hall
    clear hall
    by_cases hp : i < s.size
    · have g1 : (i : Int) < (s.size : Int) := by omega
      have g0 : (0 : Int) ≤ (i : Int) := by omega
      obtain ⟨c, hc⟩ : ∃ c : Int, ((s[i]'hp).toNat : Int) = c := ⟨_, rfl⟩
      have HR : Hid (okAt s.data.toList i = okR c i) := Lib.hid (by unfold okAt; rw [get_at s i hp, hc])
      have HX : Hid (okR c i = true → ∀ j, j < i + 1 → okAt s.data.toList j = true) := Lib.hid (by
        intro hk j hj
        rcases Nat.lt_or_ge j i with hlt | hge
        · exact HA.out j hlt
        · rw [show j = i from by omega, HR.out]; exact hk)
      have HF : Hid (okR c i = false → nameB s.data.toList = false) := Lib.hid (by
        intro hk
        rw [HN.out, all_range_false hp (by rw [HR.out]; exact hk), Bool.and_false])
      have hwr : wrap64 ((i : Int) + 1) = ((i + 1 : Nat) : Int) := by rw [IntWalk.wrap64_in _ ⟨by omega, by omega⟩]; omega
      have hz : ((i : Int) == 0) = decide (i = 0) := by by_cases h : i = 0 <;> simp [h]
      go_wp2
      all_goals first
        | (go_ret
           have hk : okR c i = false := by simp_all [okR, lettB, digI] <;> omega
           exact ⟨by rw [HF.out hk]; rfl, rfl⟩)
        | (go_roundw
           case rel =>
             have hk : okR c i = true := by simp_all [okR, lettB, digI] <;> omega
             exact ⟨i + 1, by first | rfl | (rw [hwr]), by first | trivial | rfl, by omega, HX.out hk⟩
           case measure => simp [intOf]; omega)
    · have g1 : ¬ (i : Int) < (s.size : Int) := by omega
      have HF : Hid (nameB s.data.toList = (decide (0 < s.size) && decide (s.size ≤ 16))) := Lib.hid (by rw [HN.out, all_range_true (fun j hj => HA.out j (by omega)), Bool.and_true])
      by_cases h0 : s.size = 0
      · have k1 : ¬ (1 : Int) ≤ (s.size : Int) := by omega
        have HG : Hid (nameB s.data.toList = false) := Lib.hid (by rw [HF.out, h0]; rfl)
        clear h0
        go_wp2
        go_ret
        exact ⟨by rw [HG.out]; rfl, rfl⟩
      · have k1 : (1 : Int) ≤ (s.size : Int) := by omega
        have HG : Hid (nameB s.data.toList = decide ((s.size : Int) ≤ 16)) := Lib.hid (by rw [HF.out]; by_cases h : s.size ≤ 16 <;> simp [h] <;> omega)
        clear h0
        go_wp2
        go_ret
        exact ⟨by rw [HG.out]; rfl, rfl⟩

end Go.Proofs.Ytmhechlfpaciiaa
