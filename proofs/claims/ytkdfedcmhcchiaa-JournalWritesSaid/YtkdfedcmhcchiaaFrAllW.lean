/-
  frame.All and the reference's All: the contracts, by walks. Conditions: a bound on the length.
-/
import Derived.Test.YtkdfedcmhcchiaaFrAll
namespace Go.Proofs.Ytkdfedcmhcchiaa
open Go.RowKit

set_option maxHeartbeats 4000000 in
theorem fall_any (v : Value) (b : List UInt8) (w : World) (h : Sl bv w v b) (hlen : b.length ≤ 1000000) : Calls Try.prog 31 #[v] w (AllIs w (allF b)) := by
  have HS := Lib.hid h
  obtain ⟨A, c, rfl, hlc, hcell⟩ := h.at_
  have HC := Lib.hid hcell
  clear hcell h
  go_enter Try.func31, Try.ntmps31
  go_wp2
  go_loopw [5, 6] (fun v i wr => ∃ (done : List (List UInt8)) (k : Nat), i = .int .i64 k ∧ RowsOwn wr w.heap.size v done ∧ Below w.heap.size w wr ∧ Come b done k) (fun _ i _ => b.length - (intOf i).toNat)
  case atStart => exact ⟨[], 0, rfl, RowsOwn.nil _ _, Below.refl _ _, Come.start b⟩
  case round =>
    obtain ⟨done, k, rfl, ho, hb, hcome⟩ := hrel
    have hk := hcome.1
    have hdk := hcome.2.1
    have HO := Lib.hid ho
    have HB := Lib.hid hb
    have HCM := Lib.hid hcome
    obtain ⟨A5, c5, rfl⟩ := ho.form
    clear ho hb hcome
    by_cases hlt : k < b.length
    · obtain ⟨b0, o, rfl, hb0, hc⟩ := HC.out k hlt
      clear hc
      have hck : ¬ c = k := by omega
      have hsl : Sl bv w (.slice (some ⟨b0, o + k, none⟩) (b.length - k) (c - k)) (b.drop k) := by
        have := HS.out.part_at k b.length (by omega) (Nat.le_refl _) (by omega)
        rwa [List.take_length] at this
      have hdl : (b.drop k).length ≤ 1000000 := by rw [List.length_drop]; omega
      have HSL := Lib.hid hsl
      clear hsl
      go_wp2_with fail
      refine (ftake_any _ (b.drop k) wr (HSL.out.below HB.out) (by omega)).mono ?_
      rintro e w2 ⟨v2, rfl, ho2, hb2⟩
      obtain ⟨A2, n2, c2, hv2, hof⟩ : ∃ A2 n2 c2, v2 = .slice A2 n2 c2 ∧ Off w2 w.heap.size ((A2, n2, c2), (takeF (b.drop k)).1) := by
        rcases ho2.2 with ⟨hv, hn⟩ | ⟨g, cap, cur, hv, hgb, hg, _⟩
        · exact ⟨_, _, _, hv, .inl (List.eq_nil_of_length_eq_zero hn)⟩
        · exact ⟨_, _, _, hv, .inr ⟨g, 0, rfl, (Array.getElem?_eq_some_iff.1 hg).1, Nat.le_trans HB.out.size hgb, cur, _, hg⟩⟩
      subst hv2
      have HS2 := Lib.hid (Sl.of_own ho2)
      have HOF := Lib.hid hof
      clear ho2 hof
      have HB2 := Lib.hid (HB.out.trans (hb2.mono HB.out.size))
      have HO2 := Lib.hid (HO.out.below hb2)
      clear hb2
      by_cases he : (takeF (b.drop k)).2.2 = 0
      · have hnx := HCM.out.next hlt he
        have hsz := takeF_size _ he
        rw [List.length_drop] at hsz
        obtain ⟨v5, w5, hr5, ho5, hb5⟩ := append_row w w2 _ done HO2.out HB2.out A2 n2 c2 (takeF (b.drop k)).1 HS2.out HOF.out (by omega)
        have HNX := Lib.hid hnx
        have HR5 := Lib.hid hr5
        have HO5 := Lib.hid ho5
        have HB5 := Lib.hid hb5
        clear hnx hr5 ho5 hb5
        rw [he]
        clear he
        generalize (takeF (b.drop k)).2.1 = m at *
        go_wp2_with (at_builtin; refine Lib.wpList_append_run (o := ⟨some 30, _, _, _, _, _⟩) _ rfl _ _ _ _ rfl _ _ rfl rfl _ _ HR5.out ?_)
        go_roundw
        case rel => exact ⟨_, k + m, by go_num, HO5.out, HB5.out, HNX.out⟩
        case measure => simp [intOf]; omega
      · have hfl := HCM.out.fail hlt he
        have HFL := Lib.hid hfl
        clear hfl
        have he2 : (((takeF (b.drop k)).2.2 : Int) == 0) = false := by rw [beq_eq_false_iff_ne]; omega
        have he3 : (((takeF (b.drop k)).2.2 : Int) != 0) = true := by rw [bne, he2]; rfl
        clear he
        generalize (takeF (b.drop k)).2.2 = m at *
        go_wp2
        go_ret3
        rw [HFL.out]
        exact ⟨_, rfl, HO2.out.rows, HB2.out⟩
    · have hkk : k = b.length := by omega
      subst hkk
      have hd := HCM.out.done
      have HD := Lib.hid hd
      clear hd
      go_wp2
      go_ret3
      rw [HD.out]
      exact ⟨_, rfl, HO.out.rows, HB.out⟩

end Go.Proofs.Ytkdfedcmhcchiaa
