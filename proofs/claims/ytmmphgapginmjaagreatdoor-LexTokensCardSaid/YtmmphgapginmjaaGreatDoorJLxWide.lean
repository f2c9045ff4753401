/-
  How long a text's tokens are, and the text of them. hedgerowlaw18.LexTokens answers true for every text: the walk. Conditions: lengths.
-/
import Derived.Test.YtmmphgapginmjaaGreatDoorLxRefT
import Derived.Test.YtmmphgapginmjaaGreatDoorJLxFix
namespace Go.Proofs.YtmmphgapginmjaaGreatDoor
open Go.RowKit
namespace Lx

theorem first_wide {l : List UInt8} {t : Tk} {n : Nat} (h : firstO l = some (t, n)) : t.2.2.length ≤ n + 64 := by
  obtain ⟨hs, h1, h2, _⟩ := first_text h
  have hne : l.take n ≠ [] := by
    intro e
    have := congrArg List.length e
    rw [List.length_take, List.length_nil] at this
    omega
  unfold firstO at h
  cases hN : nameO l with
  | some x =>
    simp only [hN] at h
    injection h with h
    subst h
    obtain ⟨_, k2, k3⟩ := nameO_some hN
    rw [k2, k3]
    exact Nat.le_add_right _ _
  | none =>
    simp only [hN] at h
    cases hM : numO l with
    | some x =>
      simp only [hM] at h
      injection h with h
      subst h
      obtain ⟨v, _, k2, _⟩ := numO_some hM
      rw [k2]
      exact Nat.zero_le _
    | none =>
      simp only [hM] at h
      cases hX : textO l with
      | some x =>
        simp only [hX] at h
        injection h with h
        subst h
        obtain ⟨v, _, k2, _⟩ := textO_some hX
        rw [k2] at hs ⊢
        have hs2 : textB 3 0 v.2.2 = l.take n := hs
        have hr : rightB 3 0 v.2.2 = true := by
          cases hr : rightB 3 0 v.2.2
          · exfalso
            unfold textB at hs2
            rw [if_neg (by rw [hr]; decide)] at hs2
            exact hne hs2.symm
          · rfl
        unfold rightB at hr
        rw [if_neg (by decide), if_neg (by decide), if_neg (by decide), if_pos rfl] at hr
        simp only [Bool.and_eq_true] at hr
        have := hr.2
        unfold plainB at this
        simp only [Bool.and_eq_true, decide_eq_true_eq] at this
        show v.2.2.length ≤ _
        omega
      | none =>
        simp only [hX] at h
        obtain ⟨_, k2, k3, _⟩ := signO_some h
        obtain ⟨g, hg⟩ : ∃ g, signL l = g := ⟨_, rfl⟩
        rw [hg] at k2 k3
        rw [k2, k3]
        exact Nat.le_add_right _ _

theorem join_step (s : List UInt8) (M : List (List UInt8)) : (Lib.join (s :: M) [32]).length ≤ s.length + 1 + (Lib.join M [32]).length := by
  cases M with
  | nil => rw [Lib.join_one]; omega
  | cons y r =>
    have e : Lib.join (s :: y :: r) [32] = s ++ 32 :: Lib.join (y :: r) [32] := by
      rw [Lib.join_cons, Lib.join_cons]
      simp [Lib.joinTail]
    rw [e, List.length_append, List.length_cons]
    omega

theorem toksF_wide : ∀ (f : Nat) (l : List UInt8) (L : List Tk), toksF f l = some L → (∀ t ∈ L, t.2.2.length ≤ l.length + 64) ∧ L.length ≤ l.length ∧ (Lib.join (L.map speltL) [32]).length ≤ 2 * l.length
  | 0, _, L, h => by
    injection h with h
    subst h
    exact ⟨fun t ht => (by cases ht), Nat.zero_le _, by rw [List.map_nil, Lib.join_nil]; exact Nat.zero_le _⟩
  | f + 1, l, L, h => by
    unfold toksF at h
    split at h
    · injection h with h
      subst h
      exact ⟨fun t ht => (by cases ht), Nat.zero_le _, by rw [List.map_nil, Lib.join_nil]; exact Nat.zero_le _⟩
    · cases hf : firstO (blank l) with
      | none => rw [hf] at h; cases h
      | some tn =>
        obtain ⟨t, n⟩ := tn
        rw [hf] at h
        cases hr : toksF f ((blank l).drop n) with
        | none => simp only [hr, Option.map_none] at h; cases h
        | some M =>
          simp only [hr, Option.map_some] at h
          injection h with h
          subst h
          obtain ⟨i1, i2, i3⟩ := toksF_wide f _ M hr
          obtain ⟨hs, n1, n2, _⟩ := first_text hf
          have hw := first_wide hf
          have hb := blank_le l
          rw [List.length_drop] at i1 i2 i3
          have hsl : (speltL t).length = n := by rw [hs, List.length_take]; omega
          refine ⟨fun u hu => ?_, ?_, ?_⟩
          · rcases List.mem_cons.1 hu with rfl | hu
            · omega
            · have := i1 u hu; omega
          · rw [List.length_cons]; omega
          · rw [List.map_cons]
            have := join_step (speltL t) (M.map speltL)
            omega
theorem toksL_wide {l : List UInt8} {L : List Tk} (h : toksL l = some L) : (∀ t ∈ L, t.2.2.length ≤ l.length + 64) ∧ L.length ≤ l.length ∧ (Lib.join (L.map speltL) [32]).length ≤ 2 * l.length := toksF_wide _ l L h

end Lx
end Go.Proofs.YtmmphgapginmjaaGreatDoor

namespace Go.Proofs.YtmmphgapginmjaaGreatDoor
open Go.RowKit

set_option maxRecDepth 100000 in
set_option maxHeartbeats 4000000 in
theorem tokens_walk (s : ByteArray) (w : World) (hw : WOk w) : Calls Tryz.prog 3 #[.string s] w (Gives w (.bool true)) := by
  have hlen : s.data.toList.length = s.size := by rw [Array.length_toList]; rfl
  obtain ⟨l, hl⟩ : ∃ l, s.data.toList = l := ⟨_, rfl⟩
  rw [hl] at hlen
  have HW := Lib.hid hw
  clear hw
  by_cases h4 : 400 < s.size
  · have h4i : (400 : Int) < (s.size : Int) := by omega
    clear h4 hlen hl
    go_enter Tryz.func3, Tryz.ntmps3
    go_wp2_with fail
    refine (lfixed_any _ HW.out).mono ?_
    rintro e w1 ⟨rfl, hb1⟩
    have HB1 := Lib.hid hb1
    clear hb1
    go_wp2_with fail
    go_ret
    exact ⟨rfl, HB1.out⟩
  · have h4i : ¬ (400 : Int) < (s.size : Int) := by omega
    have HT := Lib.hid (fun W (h : WOk W) => ltokens_any s W h (by omega))
    have HR := Lib.hid (fun W => rtokens_any s W (by omega))
    rw [hl] at HT HR
    have HL := Lib.hid (show l.length ≤ 400 by omega)
    clear h4 hlen hl
    go_enter Tryz.func3, Tryz.ntmps3
    go_wp2_with fail
    refine (lfixed_any _ HW.out).mono ?_
    rintro e w1 ⟨rfl, hb1⟩
    have HB1 := Lib.hid hb1
    clear hb1
    go_wp2_with fail
    refine (HT.out w1 (HW.out.below HB1.out)).mono ?_
    rintro e w2 ⟨v, rfl, ho2, hb2⟩
    obtain ⟨A1, c1, rfl⟩ := ownk_form ho2
    have HS2 := Lib.hid (ho2.read encT_len)
    have HB2 := Lib.hid (HB1.out.trans (hb2.mono HB1.out.size))
    clear ho2 hb2
    go_wp2_with fail
    refine (HR.out w2).mono ?_
    rintro e w3 ⟨v, rfl, ho3, hb3⟩
    obtain ⟨A2, c2, rfl⟩ := ownk_form ho3
    have HS3 := Lib.hid (ho3.read encT_len)
    have HS2 := Lib.hid (HS2.out.below hb3)
    have HB3 := Lib.hid (HB2.out.trans (hb3.mono HB2.out.size))
    clear ho3 hb3
    cases hT : Lx.toksL l with
    | none =>
      have HE := Lib.hid (show errT l = 10 by unfold errT; rw [if_neg (by have := HL.out; omega), hT])
      have HO := Lib.hid (show outT l = [] by unfold outT; rw [if_neg (by have := HL.out; omega), hT])
      rw [HO.out] at HS2 HS3
      rw [HE.out, HO.out]
      clear hT
      dsimp only [List.length_nil] at HS2 HS3 ⊢
      go_wp2_with fail
      refine (same_any [] A1 A2 0 c1 c2 w3 HS2.out HS3.out rfl (by omega)).mono ?_
      rintro e w4 ⟨rfl, hb4⟩
      have HB4 := Lib.hid (HB3.out.trans (hb4.mono HB3.out.size))
      clear hb4
      go_wp2_with fail
      go_ret
      exact ⟨rfl, HB4.out⟩
    | some L =>
      have HE := Lib.hid (show errT l = 0 by unfold errT; rw [if_neg (by have := HL.out; omega), hT])
      have HO := Lib.hid (show outT l = L by unfold outT; rw [if_neg (by have := HL.out; omega), hT])
      obtain ⟨q1, q2, q3⟩ := Lx.toksL_wide hT
      have hrt := Lx.toksL_right hT
      have HTv := Lib.hid (show textV L = .tuple #[.string ⟨(Lib.join (L.map Lx.speltL) [32]).toArray⟩, .bool true] from if_pos (List.all_eq_true.2 hrt))
      have HTj := Lib.hid (Lx.toksL_join L hrt)
      obtain ⟨J, hJ⟩ : ∃ J, Lib.join (L.map Lx.speltL) [32] = J := ⟨_, rfl⟩
      rw [hJ] at HTv HTj q3
      rw [HO.out] at HS2 HS3
      rw [HE.out, HO.out]
      obtain ⟨n, hn⟩ : ∃ n, L.length = n := ⟨_, rfl⟩
      rw [hn] at HS2 HS3 q2 ⊢
      have HQ := Lib.hid (show n ≤ 400 ∧ J.length ≤ 800 ∧ (∀ t ∈ L, t.2.2.length ≤ 1000000) from ⟨by have := HL.out; omega, by have := HL.out; omega, fun t ht => by have := q1 t ht; have := HL.out; omega⟩)
      have HN := Lib.hid hn
      clear hT hrt hJ q1 q2 q3 hn
      go_wp2_with fail
      refine (same_any L A1 A2 n c1 c2 w3 HS2.out HS3.out HN.out (by have := HQ.out; omega)).mono ?_
      rintro e w4 ⟨rfl, hb4⟩
      have HB4 := Lib.hid (HB3.out.trans (hb4.mono HB3.out.size))
      have HS4 := Lib.hid (HS2.out.below hb4)
      clear hb4
      go_wp2_with fail
      refine (lalltext_any L A1 n c1 w4 HS4.out HN.out (by have := HQ.out; omega) HQ.out.2.2 (HW.out.below HB4.out)).mono ?_
      rintro e w5 ⟨rfl, hb5⟩
      have HB5 := Lib.hid (HB4.out.trans (hb5.mono HB4.out.size))
      have HS5 := Lib.hid (HS4.out.below hb5)
      clear hb5
      rw [HTv.out]
      go_wp2_with fail
      refine (toks_is J L HTj.out (by have := HQ.out; omega) w5 (HW.out.below HB5.out)).mono ?_
      rintro e w6 ⟨v, rfl, ho, hb6⟩
      obtain ⟨A6, c6, rfl⟩ := ownk_form ho
      have HS6 := Lib.hid (ho.read encT_len)
      have HB6 := Lib.hid (HB5.out.trans (hb6.mono HB5.out.size))
      have HS7 := Lib.hid (HS5.out.below hb6)
      rw [HN.out] at HS6 ⊢
      clear ho hb6
      go_wp2_with fail
      refine (same_any L A1 A6 n c1 c6 w6 HS7.out HS6.out HN.out (by have := HQ.out; omega)).mono ?_
      rintro e w7 ⟨rfl, hb7⟩
      have HB7 := Lib.hid (HB6.out.trans (hb7.mono HB6.out.size))
      clear hb7
      go_wp2_with fail
      go_ret
      exact ⟨rfl, HB7.out⟩

end Go.Proofs.YtmmphgapginmjaaGreatDoor
