/-
  hedgerowref01.number: the contract, by a walk. The reference's candidates tell what a value's text tells: plain mathematics. What value.Parse answers is what the reference's candidates give: plain mathematics. Conditions: lengths.
-/
import Derived.Test.YtdabanocofimmaaGreatDoorJValRefName
import Derived.Test.YtdabanocofimmaaGreatDoorJValParse
import Derived.Deep.DeepCutAuto
import Derived.Test.YtdabanocofimmaaGreatDoorJValBack
namespace Go.Proofs.YtdabanocofimmaaGreatDoor
open Go.RowKit

/-- What the first digits tell, as 64 bits have it. -/
def numS (n : Int) (x : UInt8) : Int := n * 10 + x.toNat - 48
def numF (l : List UInt8) : Int := l.foldl numS 0
theorem numF_snoc (l : List UInt8) (x : UInt8) : numF (l ++ [x]) = numF l * 10 + x.toNat - 48 := by unfold numF; rw [List.foldl_append]; rfl
theorem numF_bound (k : Nat) : ∀ l : List UInt8, l.length = k → (numF l).natAbs + 100 ≤ 10 ^ (k + 2) := by
  induction k with
  | zero => intro l h; rw [List.length_eq_zero_iff.1 h]; decide
  | succ k ih =>
    intro l h
    have hne : l ≠ [] := by intro e; subst e; simp at h
    obtain ⟨m, x, rfl⟩ : ∃ m x, l = m ++ [x] := ⟨l.dropLast, l.getLast hne, (List.dropLast_concat_getLast hne).symm⟩
    have hm := ih m (by simpa using h)
    rw [numF_snoc]
    have hx : x.toNat < 256 := x.toNat_lt
    have hp : 10 ^ (k + 1 + 2) = 10 ^ (k + 2) * 10 := by rw [show k + 1 + 2 = (k + 2) + 1 by omega, Nat.pow_succ]
    rw [hp]
    generalize 10 ^ (k + 2) = P at *
    omega
theorem numF_small (l : List UInt8) (h : l.length ≤ 15) : -100000000000000000 ≤ numF l ∧ numF l ≤ 100000000000000000 := by
  have h1 := numF_bound l.length l rfl
  have h2 : 10 ^ (l.length + 2) ≤ 10 ^ 17 := Nat.pow_le_pow_right (by omega) (by omega)
  have h3 : 10 ^ 17 = 100000000000000000 := by decide
  omega
/-- What the reference takes a text's digits for. -/
def numR (l : List UInt8) : Int := if l.headD 0 = 45 then -(numF ((l.drop 1).take 15)) else numF (l.take 15)

set_option maxHeartbeats 2000000 in
theorem refnum_any (s : ByteArray) (w : World) (h0 : 0 < s.size) (hs : s.size ≤ 1000000) : Calls Tryz.prog 93 #[.string s] w (SameV w (.int .i64 (numR s.data.toList))) := by
  have h0' : (0 : Int) < (s.size : Int) := by omega
  have hh : s[0]'h0 = s.data.toList.headD 0 := by
    obtain ⟨⟨l⟩⟩ := s
    cases l with
    | nil => simp [ByteArray.size] at h0
    | cons a l => rfl
  by_cases hc : s[0]'h0 = 45
  · have HR : Hid (numR s.data.toList = -(numF ((s.extract 1 s.size).data.toList.take 15))) := Lib.hid (by
      have hdr : (s.extract 1 s.size).data.toList = s.data.toList.drop 1 := by
        rw [ByteArray.data_extract, Array.toList_extract, List.extract_eq_take_drop, List.take_of_length_le (by rw [List.length_drop, Array.length_toList]; exact Nat.le_refl _)]
      unfold numR
      rw [← hh, if_pos hc, hdr])
    have hul : (s.extract 1 s.size).size ≤ 1000000 := by rw [ByteArray.size_extract]; omega
    have hc' : (((s[0]'h0).toNat : Int) == 45) = true := by rw [hc]; rfl
    clear hh hc
    go_enter Tryz.func93, Tryz.ntmps93
    go_wp2
    clear hc' h0'
    generalize s.extract 1 s.size = u at *
    go_loopw [3, 5] (fun n i wr => ∃ k : Nat, k ≤ u.size ∧ k ≤ 15 ∧ i = .int .i64 k ∧ n = .int .i64 (numF (u.data.toList.take k)) ∧ w = wr) (fun _ i _ => u.size - (intOf i).toNat)
    case atStart => exact ⟨0, by omega, by omega, rfl, rfl, rfl⟩
    case round =>
      obtain ⟨k, hk, hk15, rfl, rfl, rfl⟩ := hrel
      have hb := numF_small (u.data.toList.take k) (by rw [List.length_take]; omega)
      by_cases hlt : k < u.size ∧ k < 15
      · obtain ⟨hlt, hl15⟩ := hlt
        have hsn : Hid (numF (u.data.toList.take (k + 1)) = numF (u.data.toList.take k) * 10 + (u[k]'hlt).toNat - 48) := Lib.hid (by
          have hl : k < u.data.toList.length := by rw [Array.length_toList]; exact hlt
          rw [List.take_succ_eq_append_getElem hl, numF_snoc]; rfl)
        have hx : (u[k]'hlt).toNat < 256 := (u[k]'hlt).toNat_lt
        generalize numF (u.data.toList.take k) = a at *
        have g1 : (k : Int) < (u.size : Int) := by omega
        have g2 : (k : Int) < 15 := by omega
        have e1 : wrap64 (a * 10) = a * 10 := IntWalk.wrap64_in _ ⟨by omega, by omega⟩
        have e2 : wrap64 (a * 10 + ((u[k]'hlt).toNat : Int)) = a * 10 + ((u[k]'hlt).toNat : Int) := IntWalk.wrap64_in _ ⟨by omega, by omega⟩
        have e3 : wrap64 (a * 10 + ((u[k]'hlt).toNat : Int) - 48) = a * 10 + ((u[k]'hlt).toNat : Int) - 48 := IntWalk.wrap64_in _ ⟨by omega, by omega⟩
        go_wp2
        refine ⟨⟨k + 1, by omega, by omega, by go_num, by rw [hsn.out], by first | trivial | rfl⟩, by simp [intOf]; omega⟩
      · have hall : u.data.toList.take k = u.data.toList.take 15 := by
          by_cases h15 : k = 15
          · rw [h15]
          · have hl : u.data.toList.length = u.size := by rw [Array.length_toList]; rfl
            rw [List.take_of_length_le (by omega), List.take_of_length_le (by omega)]
        rw [hall] at hb ⊢
        have HV : Hid (numR s.data.toList = -(numF (u.data.toList.take 15))) := HR
        generalize numF (u.data.toList.take 15) = a at *
        have g12 : ((k : Int) < (u.size : Int) → ¬ (k : Int) < 15) := by omega
        have e1 : wrap64 (-a) = -a := IntWalk.wrap64_in _ ⟨by omega, by omega⟩
        have e2 : wrap64 a = a := IntWalk.wrap64_in _ ⟨by omega, by omega⟩
        clear hall hb hlt HR
        by_cases g1 : (k : Int) < (u.size : Int)
        · have g2 := g12 g1
          clear g12
          go_wp2
          go_ret
          exact ⟨by rw [HV.out]; rfl, rfl⟩
        · clear g12
          go_wp2
          go_ret
          exact ⟨by rw [HV.out]; rfl, rfl⟩
  · have HR : Hid (numR s.data.toList = numF (s.data.toList.take 15)) := Lib.hid (by
      unfold numR
      rw [← hh, if_neg hc])
    have hc' : (((s[0]'h0).toNat : Int) == 45) = false := by
      rw [beq_eq_false_iff_ne]; intro e; exact hc (UInt8.toNat_inj.1 (by show (s[0]'h0).toNat = 45; omega))
    clear hh hc
    go_enter Tryz.func93, Tryz.ntmps93
    go_wp2
    clear hc' h0'
    go_loopw [3, 5] (fun n i wr => ∃ k : Nat, k ≤ s.size ∧ k ≤ 15 ∧ i = .int .i64 k ∧ n = .int .i64 (numF (s.data.toList.take k)) ∧ w = wr) (fun _ i _ => s.size - (intOf i).toNat)
    case atStart => exact ⟨0, by omega, by omega, rfl, rfl, rfl⟩
    case round =>
      obtain ⟨k, hk, hk15, rfl, rfl, rfl⟩ := hrel
      have hb := numF_small (s.data.toList.take k) (by rw [List.length_take]; omega)
      by_cases hlt : k < s.size ∧ k < 15
      · obtain ⟨hlt, hl15⟩ := hlt
        have hsn : Hid (numF (s.data.toList.take (k + 1)) = numF (s.data.toList.take k) * 10 + (s[k]'hlt).toNat - 48) := Lib.hid (by
          have hl : k < s.data.toList.length := by rw [Array.length_toList]; exact hlt
          rw [List.take_succ_eq_append_getElem hl, numF_snoc]; rfl)
        have hx : (s[k]'hlt).toNat < 256 := (s[k]'hlt).toNat_lt
        generalize numF (s.data.toList.take k) = a at *
        have g1 : (k : Int) < (s.size : Int) := by omega
        have g2 : (k : Int) < 15 := by omega
        have e1 : wrap64 (a * 10) = a * 10 := IntWalk.wrap64_in _ ⟨by omega, by omega⟩
        have e2 : wrap64 (a * 10 + ((s[k]'hlt).toNat : Int)) = a * 10 + ((s[k]'hlt).toNat : Int) := IntWalk.wrap64_in _ ⟨by omega, by omega⟩
        have e3 : wrap64 (a * 10 + ((s[k]'hlt).toNat : Int) - 48) = a * 10 + ((s[k]'hlt).toNat : Int) - 48 := IntWalk.wrap64_in _ ⟨by omega, by omega⟩
        go_wp2
        refine ⟨⟨k + 1, by omega, by omega, by go_num, by rw [hsn.out], by first | trivial | rfl⟩, by simp [intOf]; omega⟩
      · have hall : s.data.toList.take k = s.data.toList.take 15 := by
          by_cases h15 : k = 15
          · rw [h15]
          · have hl : s.data.toList.length = s.size := by rw [Array.length_toList]; rfl
            rw [List.take_of_length_le (by omega), List.take_of_length_le (by omega)]
        rw [hall] at hb ⊢
        have HV : Hid (numR s.data.toList = numF (s.data.toList.take 15)) := HR
        generalize numF (s.data.toList.take 15) = a at *
        have g12 : ((k : Int) < (s.size : Int) → ¬ (k : Int) < 15) := by omega
        have e1 : wrap64 (-a) = -a := IntWalk.wrap64_in _ ⟨by omega, by omega⟩
        have e2 : wrap64 a = a := IntWalk.wrap64_in _ ⟨by omega, by omega⟩
        clear hall hb hlt HR
        by_cases g1 : (k : Int) < (s.size : Int)
        · have g2 := g12 g1
          clear g12
          go_wp2
          go_ret
          exact ⟨by rw [HV.out]; rfl, rfl⟩
        · clear g12
          go_wp2
          go_ret
          exact ⟨by rw [HV.out]; rfl, rfl⟩

end Go.Proofs.YtdabanocofimmaaGreatDoor

namespace Go.Proofs.YtdabanocofimmaaGreatDoor
open Go.RowKit

theorem numF_digs (u : Nat) : numF (Lib.decDigits u) = u := by
  induction u using Nat.strongRecOn with
  | ind u ih =>
    by_cases h : u < 10
    · rw [digs_small u h]
      show numS 0 _ = _
      unfold numS
      rw [dig_nat u h]; omega
    · rw [digs_big u h, numF_snoc, ih (u / 10) (by omega), dig_nat _ (Nat.mod_lt _ (by omega))]
      omega
theorem numR_itoa (n : Int) (h1 : -1099511627776 ≤ n) (h2 : n ≤ 1099511627776) : numR (Lib.itoa n) = n := by
  have hl := itoa_len n h1 h2
  by_cases hn : n < 0
  · have e : Lib.itoa n = 45 :: Lib.decDigits n.natAbs := by unfold Lib.itoa; rw [if_pos hn]
    rw [e] at hl ⊢
    unfold numR
    rw [List.headD_cons, if_pos rfl, List.drop_one, List.tail_cons, List.take_of_length_le (by rw [List.length_cons] at hl; omega), numF_digs]
    omega
  · have e : Lib.itoa n = Lib.decDigits n.toNat := by unfold Lib.itoa; rw [if_neg hn]
    rw [e] at hl ⊢
    obtain ⟨d, t, hd, ht⟩ := digs_head n.toNat
    have hne : (Lib.decDigits n.toNat).headD 0 ≠ 45 := by
      rw [ht, List.headD_cons]
      intro he
      have := dig_nat d hd
      rw [he] at this
      have h45 : (45 : UInt8).toNat = 45 := rfl
      omega
    unfold numR
    rw [if_neg hne, List.take_of_length_le (by omega), numF_digs]
    omega
/-- What the reference takes a quoted text for. -/
def bareL : List UInt8 → List UInt8
  | [] => []
  | [x] => [x]
  | x :: y :: l => if x = 92 then y :: bareL l else x :: bareL (y :: l)
theorem bare_cons (x : UInt8) (l : List UInt8) (h : x ≠ 92) : bareL (x :: l) = x :: bareL l := by
  cases l with
  | nil => rfl
  | cons y l => rw [bareL, if_neg h]
theorem bare_qL : ∀ l : List UInt8, bareL (qL l) = l
  | [] => rfl
  | x :: l => by
    have e : qL (x :: l) = q1 x ++ qL l := rfl
    rw [e]
    by_cases h : x = 39 ∨ x = 92
    · have e2 : q1 x = [92, x] := by unfold q1; rw [if_pos h]
      rw [e2]
      show bareL (92 :: x :: qL l) = _
      rw [bareL, if_pos rfl, bare_qL l]
    · have e2 : q1 x = [x] := by unfold q1; rw [if_neg h]
      rw [e2]
      show bareL (x :: qL l) = _
      rw [bare_cons x _ (fun h2 => h (Or.inr h2)), bare_qL l]
/-- The seven that the reference holds against the text. -/
def candL (s : ByteArray) : List (Int × Int × List UInt8) :=
  [(0, 0, []), (1, 0, []), (1, 1, []), (2, numR s.data.toList, []), (3, 0, bareL (innerS s).data.toList), (4, 0, (innerS s).data.toList), (5, 0, (innerS s).data.toList)]
def fits (s : ByteArray) (c : Int × Int × List UInt8) : Bool := rightB c.1 c.2.1 c.2.2 && decide (textB c.1 c.2.1 c.2.2 = s.data.toList)
theorem fits_lik (s : ByteArray) (c : Int × Int × List UInt8) (h : fits s c = true) : lik s = c := by
  unfold fits at h
  simp only [Bool.and_eq_true, decide_eq_true_eq] at h
  have := lik_text c.1 c.2.1 c.2.2 h.1
  rw [h.2, str_id] at this
  exact this
theorem inner_at (s : ByteArray) (a z : UInt8) (l : List UInt8) (h : [a] ++ l ++ [z] = s.data.toList) : (innerS s).data.toList = l := by
  have := inner_wrap a z l
  rw [h, str_id] at this
  rw [this]
theorem fits_mem (s : ByteArray) (h : fits s (lik s) = true) : lik s ∈ candL s := by
  obtain ⟨⟨k, n, l⟩, hc⟩ : ∃ c, c = lik s := ⟨_, rfl⟩
  rw [← hc] at h ⊢
  clear hc
  unfold fits at h
  simp only [Bool.and_eq_true, decide_eq_true_eq] at h
  obtain ⟨hr, ht⟩ := h
  unfold textB at ht
  rw [if_pos hr] at ht
  unfold rightB at hr
  unfold candL
  by_cases k0 : k = 0
  · subst k0
    rw [if_pos rfl] at hr
    simp only [Bool.and_eq_true, beq_iff_eq] at hr
    obtain ⟨rfl, hr⟩ := hr
    obtain rfl := List.isEmpty_iff.1 hr
    simp
  rw [if_neg k0] at hr
  by_cases k1 : k = 1
  · subst k1
    rw [if_pos rfl] at hr
    simp only [Bool.and_eq_true, Bool.or_eq_true, beq_iff_eq] at hr
    obtain ⟨hn, hr⟩ := hr
    obtain rfl := List.isEmpty_iff.1 hr
    rcases hn with rfl | rfl <;> simp
  rw [if_neg k1] at hr ht
  by_cases k2 : k = 2
  · subst k2
    rw [if_pos rfl] at hr ht
    simp only [Bool.and_eq_true, decide_eq_true_eq] at hr
    obtain ⟨⟨hn1, hn2⟩, hr⟩ := hr
    obtain rfl := List.isEmpty_iff.1 hr
    rw [← ht, numR_itoa n hn1 hn2]
    simp
  rw [if_neg k2] at hr ht
  by_cases k3 : k = 3
  · subst k3
    rw [if_pos rfl] at hr ht
    simp only [Bool.and_eq_true, beq_iff_eq] at hr
    obtain ⟨rfl, hr⟩ := hr
    rw [inner_at s 39 39 (qL l) ht, bare_qL]
    simp
  rw [if_neg k3] at hr ht
  by_cases k4 : k = 4
  · subst k4
    rw [if_pos rfl] at hr ht
    simp only [Bool.and_eq_true, beq_iff_eq] at hr
    obtain ⟨rfl, hr⟩ := hr
    rw [inner_at s 40 41 l ht]
    simp
  rw [if_neg k4] at hr ht
  by_cases k5 : k = 5
  · subst k5
    rw [if_pos rfl] at hr ht
    simp only [Bool.and_eq_true, beq_iff_eq] at hr
    obtain ⟨rfl, hr⟩ := hr
    rw [inner_at s 91 93 l ht]
    simp
  · rw [if_neg k5] at hr; cases hr

end Go.Proofs.YtdabanocofimmaaGreatDoor

namespace Go.Proofs.YtdabanocofimmaaGreatDoor
open Go.RowKit

theorem text_len (k n : Int) (l : List UInt8) (hr : rightB k n l = true) : (textB k n l).length ≤ 130 := by
  have hT : textB k n l = (if k = 1 then Lib.formatBool (n == 1) else if k = 2 then Lib.itoa n else if k = 3 then quoteL l else if k = 4 then [40] ++ l ++ [41] else if k = 5 then [91] ++ l ++ [93] else [110, 117, 108, 108]) := by
    unfold textB; rw [if_pos hr]
  rw [hT]
  unfold rightB at hr
  by_cases k0 : k = 0
  · subst k0; show ([110, 117, 108, 108] : List UInt8).length ≤ 130; decide
  rw [if_neg k0] at hr
  by_cases k1 : k = 1
  · subst k1
    rw [if_pos rfl]
    cases n == 1 <;> decide
  rw [if_neg k1] at hr ⊢
  by_cases k2 : k = 2
  · subst k2
    rw [if_pos rfl] at hr ⊢
    simp only [Bool.and_eq_true, decide_eq_true_eq] at hr
    have := itoa_len n hr.1.1 hr.1.2
    omega
  rw [if_neg k2] at hr ⊢
  by_cases k3 : k = 3
  · subst k3
    rw [if_pos rfl] at hr ⊢
    simp only [Bool.and_eq_true, beq_iff_eq] at hr
    obtain ⟨hp1, _⟩ := plain_bytes hr.2
    have hql := qL_len l
    unfold quoteL
    simp
    omega
  rw [if_neg k3] at hr ⊢
  by_cases k4 : k = 4
  · subst k4
    rw [if_pos rfl] at hr ⊢
    simp only [Bool.and_eq_true, beq_iff_eq] at hr
    have h := hr.2
    unfold nameB at h
    simp only [Bool.and_eq_true, decide_eq_true_eq] at h
    have := h.1.2
    simp
    omega
  rw [if_neg k4] at hr ⊢
  by_cases k5 : k = 5
  · subst k5
    rw [if_pos rfl] at hr ⊢
    simp only [Bool.and_eq_true, beq_iff_eq] at hr
    have := nmB_len l hr.2
    simp
    omega
  · rw [if_neg k5] at hr; cases hr

def firstM (s : ByteArray) : Value := match (candL s).find? (fits s) with | some c => .tuple #[valV c.1 c.2.1 ⟨c.2.2.toArray⟩, .bool true] | none => noneV
theorem firstM_no (s : ByteArray) (h : fits s (lik s) = false) : firstM s = noneV := by
  unfold firstM
  cases hf : (candL s).find? (fits s) with
  | none => rfl
  | some c =>
    have hc := List.find?_some hf
    rw [fits_lik s c hc, hc] at h
    cases h
theorem firstM_yes (s : ByteArray) (h : fits s (lik s) = true) : firstM s = .tuple #[valV (lik s).1 (lik s).2.1 ⟨(lik s).2.2.toArray⟩, .bool true] := by
  unfold firstM
  cases hf : (candL s).find? (fits s) with
  | none =>
    rw [List.find?_eq_none] at hf
    exact absurd h (hf _ (fits_mem s h))
  | some c =>
    have hc := List.find?_some hf
    rw [fits_lik s c hc]
end Go.Proofs.YtdabanocofimmaaGreatDoor
