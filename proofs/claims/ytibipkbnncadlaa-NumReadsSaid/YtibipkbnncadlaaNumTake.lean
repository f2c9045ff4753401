/-
  hedgerowref02.Take: the contract, by a walk. Conditions: a bound on the length.
-/
import Derived.Test.YtibipkbnncadlaaNumMethods
import Derived.Test.YtibipkbnncadlaaNumRef
import Derived.Deep.RegionWith
namespace Go.Proofs.Ytibipkbnncadlaa
open Go.RowKit

theorem take_at_end (l : List UInt8) (i acc : Nat) (h9 : i < 9) (hl : i < l.length) (ha : acc < 128 ^ i) (hx : l[i].toNat < 128) (h8 : i = 8 → l[i].toNat < 64)
    (ht : takeN l = fin62 (comb i acc (dec (9 - i) (l.drop i)))) :
    acc + l[i].toNat % 128 * 128 ^ i < 4611686018427387904 ∧
    (enc (acc + l[i].toNat % 128 * 128 ^ i) = l.take (i + 1) → fstV l = (((acc + l[i].toNat % 128 * 128 ^ i : Nat) : Int), ((i + 1 : Nat) : Int))) ∧
    (¬ enc (acc + l[i].toNat % 128 * 128 ^ i) = l.take (i + 1) → fstV l = (0, 0)) := by
  have hlt : acc + l[i].toNat % 128 * 128 ^ i < 4611686018427387904 := by
    by_cases e8 : i = 8
    · have := h8 e8
      subst e8
      have e : 128 ^ 8 = 72057594037927936 := by decide
      rw [e] at ha ⊢
      omega
    · have h1 := acc_step acc i l[i].toNat ha
      have h2 : 128 ^ (i + 1) ≤ 128 ^ 8 := Nat.pow_le_pow_right (by omega) (by omega)
      have e : 128 ^ 8 = 72057594037927936 := by decide
      omega
  rw [comb_end i acc l h9 hl hx] at ht
  generalize acc + l[i].toNat % 128 * 128 ^ i = n at *
  refine ⟨hlt, ?_, ?_⟩
  · intro he
    refine fst_some ?_
    have hl2 : l = enc n ++ l.drop (i + 1) := by rw [he, List.take_append_drop]
    have h3 := takeN_enc n (l.drop (i + 1)) hlt
    rw [← hl2] at h3
    have hln : (enc n).length = i + 1 := by rw [he, List.length_take]; omega
    rw [h3, hln]
  · intro he
    refine fst_none ?_
    by_cases h0 : l[i].toNat = 0 ∧ 0 < i
    · rw [ht, if_pos h0]; rfl
    · exfalso
      rw [if_neg h0] at ht
      simp only [fin62] at ht
      rw [if_pos hlt] at ht
      obtain ⟨_, h2, h3⟩ := takeN_some ht
      apply he
      rw [h2]
      conv => rhs; rw [h3]
      rw [List.take_left]
theorem take_big (l : List UInt8) (acc : Nat) (hl : 8 < l.length) (hx : 64 ≤ l[8].toNat) (ht : takeN l = fin62 (comb 8 acc (dec (9 - 8) (l.drop 8)))) : fstV l = (0, 0) := by
  refine fst_none ?_
  by_cases h : l[8].toNat < 128
  · rw [ht, comb_end 8 acc l (by omega) hl h, if_neg (by omega)]
    have e : 128 ^ 8 = 72057594037927936 := by decide
    simp only [fin62]
    rw [if_neg (by rw [e]; omega)]
  · rw [ht, comb_step 8 acc l (by omega) hl h]; rfl

/-- What a round comes to, in the walk's own forms. -/
theorem take_facts (l : List UInt8) (i acc : Nat) (h9 : i < 9) (hl : i < l.length) (ha : acc < 128 ^ i) (ht : takeN l = fin62 (comb i acc (dec (9 - i) (l.drop i)))) :
    (0 : Int) ≤ (l[i].toNat : Int) % 128 * 128 ^ i ∧ (acc : Int) + (l[i].toNat : Int) % 128 * 128 ^ i ≤ 9223372036854775807 ∧
    (acc : Int) + (l[i].toNat : Int) % 128 * 128 ^ i = ((acc + l[i].toNat % 128 * 128 ^ i : Nat) : Int) ∧ acc + l[i].toNat % 128 * 128 ^ i < 128 ^ (i + 1) ∧
    (¬ l[i].toNat < 128 → takeN l = fin62 (comb (i + 1) (acc + l[i].toNat % 128 * 128 ^ i) (dec (9 - (i + 1)) (l.drop (i + 1))))) := by
  have e : ((l[i].toNat : Int) % 128 * 128 ^ i) = ((l[i].toNat % 128 * 128 ^ i : Nat) : Int) := by push_cast; rfl
  have hp := pow_le_63 i h9
  have hst := acc_step acc i l[i].toNat ha
  rw [e]
  refine ⟨by omega, ?_, by omega, hst, ?_⟩
  · rw [Nat.pow_succ, Nat.mul_comm (128 ^ i) 128] at hst
    generalize l[i].toNat % 128 * 128 ^ i = t at *
    generalize 128 * 128 ^ i = u at *
    omega
  · intro hx; rw [ht]; exact congrArg fin62 (comb_step i acc l h9 hl hx)
theorem pow_small (i : Nat) (h : i < 8) : (0 : Int) ≤ 128 ^ i ∧ (128 : Int) ^ i * 128 ≤ 9223372036854775807 ∧ (128 : Int) ^ i * 128 = ((128 ^ (i + 1) : Nat) : Int) := by
  have e : ((128 : Int) ^ i * 128) = ((128 ^ (i + 1) : Nat) : Int) := by rw [Nat.pow_succ]; push_cast; rfl
  have h1 : 128 ^ (i + 1) ≤ 128 ^ 8 := Nat.pow_le_pow_right (by omega) (by omega)
  have e8 : 128 ^ 8 = 72057594037927936 := by decide
  refine ⟨?_, ?_, e⟩
  · have : ((128 : Int) ^ i) = ((128 ^ i : Nat) : Int) := by push_cast; rfl
    rw [this]; exact Int.natCast_nonneg _
  · rw [e]; omega

def TwoB (w : World) (p : Int × Int) (e : Ending) (w' : World) : Prop := e = .returned (.tuple #[.int .i64 p.1, .int .i64 p.2]) ∧ Below w.heap.size w w'

set_option maxHeartbeats 4000000 in
set_option maxRecDepth 100000 in
theorem take_any (v : Value) (l : List UInt8) (w : World) (h : Sl bv w v l) (hlen : l.length ≤ 140737488350000) :
    Calls Try.prog 29 #[v] w (TwoB w (fstV l)) := by
  obtain ⟨A, c, rfl, hlc, hcell⟩ := h.at_
  go_enter Try.func29, Try.ntmps29
  go_wp2
  go_loop [4, 5, 6] (fun n wt i => ∃ k acc : Nat, k ≤ 9 ∧ k ≤ l.length ∧ i = .int .i64 k ∧ n = .int .i64 acc ∧ wt = .int .i64 ((128 ^ k : Nat) : Int) ∧ acc < 128 ^ k ∧ takeN l = fin62 (comb k acc (dec (9 - k) (l.drop k)))) (fun _ _ i => 9 - (intOf i).toNat)
  case atStart => exact ⟨0, 0, by omega, by omega, rfl, rfl, rfl, by omega, takeN_start _⟩
  case round =>
    obtain ⟨i, acc, hk, hks, rfl, rfl, rfl, hacc, htk⟩ := hrel
    by_cases hlt : i < 9 ∧ i < l.length
    · obtain ⟨h9, hs⟩ := hlt
      obtain ⟨b, o, rfl, hb, hc⟩ := hcell i hs
      have hck := hc i l[i] (List.getElem?_eq_getElem hs)
      unfold bv at hck
      obtain ⟨b1, b2, he, hst, hA⟩ := take_facts l i acc h9 hs hacc htk
      have hx256 : l[i].toNat < 256 := l[i].toNat_lt
      have HE := Lib.hid he
      have HS := Lib.hid hst
      have HSl := Lib.hid h
      clear hc hcell he hst h
      by_cases h8 : i = 8 ∧ 64 ≤ l[i].toNat
      · obtain ⟨e8, hx⟩ := h8
        subst e8
        have HF := Lib.hid (take_big l acc hs hx htk)
        clear htk hA hacc HE HS b1 b2
        generalize l[8].toNat = x at *
        go_wp2
        go_ret2
        exact ⟨by rw [HF.out]; rfl, Below.refl _ _⟩
      · by_cases hx : l[i].toNat < 128
        · have ht := take_at_end l i acc h9 hs hacc hx (fun e => by omega) htk
          obtain ⟨t1, t2, t3⟩ := ht
          have HT2 := Lib.hid t2
          have HT3 := Lib.hid t3
          clear t2 t3 htk hA hacc HS
          have HP : Hid (putB ((acc : Int) + (l[i].toNat : Int) % 128 * 128 ^ i) = enc (acc + l[i].toNat % 128 * 128 ^ i)) := Lib.hid (by rw [HE.out]; unfold putB; rw [if_neg (by omega), Int.toNat_natCast])
          clear t1
          have slT : Sl bv w.drew (.slice (some ⟨b, o, none⟩) (i + 1) c) (l.take (i + 1)) := (HSl.out.take_ (k := i + 1) (by omega)).drew
          obtain ⟨X, hX⟩ := str_ex ([] ++ putB ((acc : Int) + (l[i].toNat : Int) % 128 * 128 ^ i))
          obtain ⟨Y, hY⟩ := str_ex (l.take (i + 1))
          have hXY := str_beq hX hY
          rw [List.nil_append, HP.out] at hXY
          have rY := str_run (P := Try.prog) w.drew 22 9 5 Try.underlying22 Try.underlying5 Try.underlying9 _ _ slT Y hY
          have HX := Lib.hid hX
          have HY := Lib.hid hY
          have HT := Lib.hid slT
          have wi : IntKind.i64.wrap ((i : Int) + 1) = (i : Int) + 1 := IntWalk.i64_in _ (by omega)
          have pi : (0 : Int) ≤ (i : Int) + 1 := by omega
          have ci : (i : Int) + 1 ≤ (c : Int) := by omega
          have ti : ((i : Int) + 1).toNat = i + 1 := by omega
          clear hX hY slT
          by_cases hq : enc (acc + l[i].toNat % 128 * 128 ^ i) = l.take (i + 1)
          · have HF := Lib.hid (HT2.out hq)
            rw [decide_eq_true hq] at hXY
            clear hq
            by_cases e8 : i = 8
            · subst e8
              have hx64 : l[8].toNat < 64 := by omega
              have HT9 : Hid (Sl bv w.drew (.slice (some ⟨b, o, none⟩) 9 c) (l.take 9)) := Lib.hid HT.out
              have rY9 := str_run (P := Try.prog) w.drew 22 9 5 Try.underlying22 Try.underlying5 Try.underlying9 _ _ HT9.out Y HY.out
              have w9 : IntKind.i64.wrap 9 = 9 := IntWalk.i64_in _ (by omega)
              have c9 : 9 ≤ c := by omega
              clear wi pi ci ti rY
              generalize hx' : l[8].toNat = x at *
              have HX' := Lib.hid hx'; clear hx' h8
              go_wp2_with fail
              go_region_with (first
                | (go_at_call 9; refine (refput_any _ [] _ _ (Sl.nil_ bv _) (by simp)).mono ?_; rintro e w2 ⟨v2, rfl, s2, hb2⟩; have r2 := str_run (P := Try.prog) w2 22 9 5 Try.underlying22 Try.underlying5 Try.underlying9 v2 _ s2 X HX.out; have r3 := str_run (P := Try.prog) w2 22 9 5 Try.underlying22 Try.underlying5 Try.underlying9 _ _ (HT9.out.below hb2) Y HY.out))
              all_goals (go_wp2_with fail; go_ret2; exact ⟨by rw [HF.out, ← HE.out, show (128 : Int) ^ 8 = 72057594037927936 from by decide]; rfl, (Below.refl _ _).drew.trans hb2⟩)
            · generalize hx' : l[i].toNat = x at *
              have HX' := Lib.hid hx'; clear hx' h8
              go_wp2_with fail
              go_region_with (first
                | (go_at_call 9; refine (refput_any _ [] _ _ (Sl.nil_ bv _) (by simp)).mono ?_; rintro e w2 ⟨v2, rfl, s2, hb2⟩; have r2 := str_run (P := Try.prog) w2 22 9 5 Try.underlying22 Try.underlying5 Try.underlying9 v2 _ s2 X HX.out; have r3 := str_run (P := Try.prog) w2 22 9 5 Try.underlying22 Try.underlying5 Try.underlying9 _ _ (HT.out.below hb2) Y HY.out))
              all_goals (go_wp2_with fail; go_ret2; exact ⟨by rw [HF.out, HE.out]; rfl, (Below.refl _ _).drew.trans hb2⟩)
          · have HF := Lib.hid (HT3.out hq)
            rw [decide_eq_false hq] at hXY
            clear hq
            by_cases e8 : i = 8
            · subst e8
              have hx64 : l[8].toNat < 64 := by omega
              have HT9 : Hid (Sl bv w.drew (.slice (some ⟨b, o, none⟩) 9 c) (l.take 9)) := Lib.hid HT.out
              have rY9 := str_run (P := Try.prog) w.drew 22 9 5 Try.underlying22 Try.underlying5 Try.underlying9 _ _ HT9.out Y HY.out
              have w9 : IntKind.i64.wrap 9 = 9 := IntWalk.i64_in _ (by omega)
              have c9 : 9 ≤ c := by omega
              clear wi pi ci ti rY
              generalize hx' : l[8].toNat = x at *
              have HX' := Lib.hid hx'; clear hx' h8
              go_wp2_with fail
              go_region_with (first
                | (go_at_call 9; refine (refput_any _ [] _ _ (Sl.nil_ bv _) (by simp)).mono ?_; rintro e w2 ⟨v2, rfl, s2, hb2⟩; have r2 := str_run (P := Try.prog) w2 22 9 5 Try.underlying22 Try.underlying5 Try.underlying9 v2 _ s2 X HX.out; have r3 := str_run (P := Try.prog) w2 22 9 5 Try.underlying22 Try.underlying5 Try.underlying9 _ _ (HT9.out.below hb2) Y HY.out))
              all_goals (go_wp2_with fail; go_ret2; exact ⟨by rw [HF.out]; rfl, (Below.refl _ _).drew.trans hb2⟩)
            · generalize hx' : l[i].toNat = x at *
              have HX' := Lib.hid hx'; clear hx' h8
              go_wp2_with fail
              go_region_with (first
                | (go_at_call 9; refine (refput_any _ [] _ _ (Sl.nil_ bv _) (by simp)).mono ?_; rintro e w2 ⟨v2, rfl, s2, hb2⟩; have r2 := str_run (P := Try.prog) w2 22 9 5 Try.underlying22 Try.underlying5 Try.underlying9 v2 _ s2 X HX.out; have r3 := str_run (P := Try.prog) w2 22 9 5 Try.underlying22 Try.underlying5 Try.underlying9 _ _ (HT.out.below hb2) Y HY.out))
              all_goals (go_wp2_with fail; go_ret2; exact ⟨by rw [HF.out]; rfl, (Below.refl _ _).drew.trans hb2⟩)
        · have HT := Lib.hid (hA hx)
          obtain ⟨q0, q1, q2⟩ := pow_small i (by omega)
          have HQ := Lib.hid q2
          clear hA htk hacc q2
          by_cases e8 : i = 8
          · omega
          · have hx1 : 128 ≤ l[i].toNat := by omega
            clear h8 hx
            generalize hX : l[i].toNat = x at *
            have HX := Lib.hid hX; clear hX
            go_wp2
            go_round
            case rel => exact ⟨i + 1, acc + x % 128 * 128 ^ i, by omega, by omega, by go_num, by rw [HE.out], by rw [HQ.out], HS.out, HT.out⟩
            case measure => simp [intOf]; omega
    · have HF : Hid (fstV l = (0, 0)) := fst_none (by rw [htk, comb_over i acc _ (by omega)]; rfl)
      clear htk hacc hcell h
      by_cases hi : i < l.length
      · have h9 : 9 ≤ i := by omega
        go_wp2
        go_ret2
        exact ⟨by rw [HF.out]; rfl, Below.refl _ _⟩
      · go_wp2
        go_ret2
        exact ⟨by rw [HF.out]; rfl, Below.refl _ _⟩

end Go.Proofs.Ytibipkbnncadlaa
