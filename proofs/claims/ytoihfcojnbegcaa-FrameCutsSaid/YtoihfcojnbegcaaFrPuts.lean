/-
  hedgerowlaw04.FramePuts: the walk: for all rows of bytes the call returns true, and nothing that was there has turned. Conditions: none.
-/
import Derived.Test.YtoihfcojnbegcaaFrFixed
namespace Go.Proofs.Ytoihfcojnbegcaa
open Go.RowKit

theorem framesB_snoc (l : List (List UInt8)) (k : Nat) (h : k < l.length) : framesB (l.take (k + 1)) = framesB (l.take k) ++ frameB l[k] := by
  unfold framesB
  rw [List.take_succ_eq_append_getElem h, List.flatMap_append]; simp
theorem framesB_len (l : List (List UInt8)) (m : Nat) (h : ∀ p ∈ l, p.length ≤ m) : (framesB l).length ≤ (m + 8) * l.length := by
  induction l with
  | nil => simp [framesB]
  | cons p l ih =>
    have e : framesB (p :: l) = frameB p ++ framesB l := by simp [framesB]
    have h1 := h p (by simp)
    have h2 := ih fun q hq => h q (by simp [hq])
    rw [e, List.length_append, frameB_length, List.length_cons, Nat.mul_add]
    omega
theorem allF_whole (l : List (List UInt8)) (h : ∀ p ∈ l, p.length ≤ 1048576) : allF (framesB l) = (l, (framesB l).length, 0) := by
  have := allF_frames l [] h
  rw [List.append_nil, allF_nil] at this
  simpa using this

set_option maxRecDepth 100000 in
set_option maxHeartbeats 8000000 in
theorem fputs_walk (va : Value) (l : List (List UInt8)) (w : World) (ha : RowsAt w va l) (hla : l.length ≤ 140737488355328) :
    Calls Try.prog 7 #[va] w (Law w) := by
  have hfx := ffixed_any w
  have HFX := Lib.hid hfx; clear hfx
  have HA := Lib.hid ha
  obtain ⟨A1, c1, rfl, hc1, hx1⟩ := ha.at_
  have HX := Lib.hid hx1
  clear ha hx1
  by_cases h1 : 20 < l.length
  · go_enter Try.func7, Try.ntmps7
    go_wp2_with fail
    refine HFX.out.mono ?_
    rintro e w1 ⟨rfl, hb1⟩
    go_wp2
    go_ret
    exact ⟨rfl, hb1⟩
  go_enter Try.func7, Try.ntmps7
  go_wp2_with fail
  refine HFX.out.mono ?_
  rintro e w1 ⟨rfl, hb1⟩
  have HB1 := Lib.hid hb1
  clear hb1
  go_wp2
  go_loopw [3, 4, 17] (fun b c i wr => ∃ k : Nat, k ≤ l.length ∧ i = .int .i64 k ∧ (∀ p ∈ l.take k, p.length ≤ 200) ∧ Sl bv wr b (framesB (l.take k)) ∧ Sl bv wr c (framesB (l.take k)) ∧ Below w.heap.size w wr) (fun _ _ i _ => l.length - (intOf i).toNat)
  case atStart => exact ⟨0, by omega, rfl, by simp, Sl.nil_ _ _, Sl.nil_ _ _, HB1.out⟩
  case round =>
    obtain ⟨k, hk, rfl, hp, hs3, hs4, hb⟩ := hrel
    have hlen := framesB_len (l.take k) 200 hp
    rw [List.length_take, Nat.min_eq_left hk] at hlen
    have hlen2 : (framesB (l.take k)).length ≤ 4160 := by omega
    have HP := Lib.hid hp
    have HS3 := Lib.hid hs3
    have HS4 := Lib.hid hs4
    have HB := Lib.hid hb
    obtain ⟨A3, c3, rfl⟩ := hs3.form
    obtain ⟨A4, c4, rfl⟩ := hs4.form
    clear hp hs3 hs4 hb hlen
    by_cases hlt : k < l.length
    · obtain ⟨b0, o0, rfl, hb0, A5, n5, c5, hcell, hs5⟩ := HX.out k hlt
      have hn5 := hs5.len.1
      have hck := (HB.out.cell (p := ⟨b0, o0 + k, none⟩) hb0).trans hcell
      have HS5 := Lib.hid (hs5.below HB.out)
      have HSN := Lib.hid (framesB_snoc l k hlt)
      have HTK := Lib.hid (List.take_succ_eq_append_getElem hlt)
      clear hs5 hcell
      by_cases hbig : 200 < l[k].length
      · generalize l[k].length = m at *
        subst hn5
        go_wp2
        go_ret
        exact ⟨rfl, HB.out⟩
      · generalize l[k] = p at *
        subst hn5
        go_wp2_with fail
        refine (fput_any _ _ (framesB (l.take k)) p wr HS3.out HS5.out (by omega) (by omega)).mono ?_
        rintro e w2 ⟨v2, rfl, ho2, hb2⟩
        rw [← HSN.out] at ho2
        have HS2 := Lib.hid (Sl.of_own ho2)
        have HB2 := Lib.hid (HB.out.trans (hb2.mono HB.out.size))
        have HK2 := Lib.hid hb2
        obtain ⟨A6, c6, rfl⟩ := (Sl.of_own ho2).form
        clear ho2 hb2
        go_wp2_with fail
        refine (rput_any _ _ (framesB (l.take k)) p w2 (HS4.out.below HK2.out) (HS5.out.below HK2.out) (by omega) (by omega)).mono ?_
        rintro e w3 ⟨v3, rfl, ho3, hb3⟩
        rw [← HSN.out] at ho3
        have hs7 := Sl.of_own ho3
        have hs8 := HS2.out.below hb3
        have HS7 := Lib.hid hs7
        have HS8 := Lib.hid hs8
        have HB3 := Lib.hid (HB2.out.trans (hb3.mono HB2.out.size))
        have hp2 : ∀ q ∈ l.take (k + 1), q.length ≤ 200 := by
          intro q hq
          rw [HTK.out] at hq
          rcases List.mem_append.1 hq with hq | hq
          · exact HP.out q hq
          · simp at hq; subst hq; omega
        have HP2 := Lib.hid hp2
        clear ho3 hb3 hs7 hs8 hp2
        go_wp2
        go_roundw
        case rel => exact ⟨k + 1, by omega, by go_num, HP2.out, HS8.out, HS7.out, HB3.out⟩
        case measure => simp [intOf]; omega
    · have hkk : k = l.length := by omega
      subst hkk
      have hs3 := HS3.out
      have hs4 := HS4.out
      have hpp := HP.out
      rw [List.take_length] at hs3 hs4 hpp hlen2 ⊢
      have hall := allF_whole l fun p hp => Nat.le_trans (hpp p hp) (by omega)
      have HAL := Lib.hid hall
      have HT3 := Lib.hid hs3
      have HT4 := Lib.hid hs4
      clear hall hs3 hs4 hpp
      generalize framesB l = F at *
      go_wp2_with fail
      refine (fall_any _ F wr HT3.out (by omega)).mono ?_
      rintro e w2 ⟨v2, rfl, hr2, hb2⟩
      rw [HAL.out] at hr2 ⊢
      have HB2 := Lib.hid (HB.out.trans (hb2.mono HB.out.size))
      have HR2 := Lib.hid hr2
      obtain ⟨A6, c6, rfl⟩ := hr2.form
      have q1 := run_string_sl (P := Try.prog) w2 22 9 5 Try.underlying22 Try.underlying5 Try.underlying9 _ _ (HT3.out.below hb2)
      have q2 := run_string_sl (P := Try.prog) w2 22 9 5 Try.underlying22 Try.underlying5 Try.underlying9 _ _ (HT4.out.below hb2)
      clear hr2 hb2
      go_wp2_with fail
      have hsm := same_any _ _ l l w2 (HA.out.below HB2.out) HR2.out (by omega) (by omega)
      rw [(sameB_true _ _).2 rfl] at hsm
      refine hsm.mono ?_
      rintro e w3 ⟨rfl, hb3⟩
      have HB3 := Lib.hid (HB2.out.trans (hb3.mono HB2.out.size))
      clear hsm hb3 q1 q2
      go_wp2
      go_ret
      exact ⟨rfl, HB3.out⟩

end Go.Proofs.Ytoihfcojnbegcaa
