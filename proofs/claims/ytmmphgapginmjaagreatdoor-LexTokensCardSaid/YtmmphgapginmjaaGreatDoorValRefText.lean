/-
  hedgerowref01.Text: the contract, by a walk. Conditions: the text's length.
-/
import Derived.Test.YtmmphgapginmjaaGreatDoorValRefRight
import Derived.Test.YtmmphgapginmjaaGreatDoorValDigits
import Derived.Test.YtmmphgapginmjaaGreatDoorValParsed
import Derived.Test.YtmmphgapginmjaaGreatDoorStrLaid
namespace Go.Proofs.YtmmphgapginmjaaGreatDoor
open Go.RowKit

theorem run_back (W : World) : (convert 55 9 (.slice (some ⟨W.heap.size, 0, none⟩) 1 1)).run Tryz.prog (W.alloc (.cells #[.int .u8 92] 5)) = .ok (.string ⟨#[92]⟩) (W.alloc (.cells #[.int .u8 92] 5)) :=
  run_string_sl (P := Tryz.prog) _ 55 9 5 Tryz.underlying55 Tryz.underlying5 Tryz.underlying9 _ [92] (sl_laid W _ _ _ 1 rfl rfl)
theorem run_back2 (W : World) : (convert 55 9 (.slice (some ⟨W.heap.size, 0, none⟩) 1 1)).run Tryz.prog (W.alloc (.cells #[.int .u8 92] 5)).drew = .ok (.string ⟨#[92]⟩) (W.alloc (.cells #[.int .u8 92] 5)).drew :=
  run_string_sl (P := Tryz.prog) _ 55 9 5 Tryz.underlying55 Tryz.underlying5 Tryz.underlying9 _ [92] (sl_laid W _ _ _ 1 rfl rfl).drew

set_option maxHeartbeats 4000000 in
theorem reftext_any (k n : Int) (s : ByteArray) (w : World) (hs : s.size ≤ 1000000) : Calls Tryz.prog 33 #[valV k n s] w (Gives w (sv (textB k n s.data.toList))) := by
  have HT : Hid (textB k n s.data.toList = if rightB k n s.data.toList = true then (if k = 1 then Lib.formatBool (n == 1) else if k = 2 then Lib.itoa n else if k = 3 then quoteL s.data.toList else if k = 4 then [40] ++ s.data.toList ++ [41] else if k = 5 then [91] ++ s.data.toList ++ [93] else [110, 117, 108, 108]) else []) := Lib.hid rfl
  unfold valV
  go_enter Tryz.func33, Tryz.ntmps33
  go_wp2_with fail
  refine (refright_any k n s _ hs).mono ?_
  rintro e w1 ⟨rfl, hb1⟩
  have k1 := In1.of hb1
  obtain ⟨c0, c1, c2, f0, f1, f2, hlt⟩ := k1.three
  have hb := k1.below
  clear f0 f1 f2
  cases hr : rightB k n s.data.toList with
  | false =>
    have HV : Hid (textB k n s.data.toList = []) := Lib.hid (by rw [HT.out, hr]; rfl)
    clear hr hb1 k1
    go_wp2
    go_ret
    exact ⟨by rw [HV.out]; rfl, hb⟩
  | true =>
    have HR := Lib.hid hr
    clear hr hb1
    by_cases k0 : k = 0
    · subst k0
      have HV : Hid (textB 0 n s.data.toList = [110, 117, 108, 108]) := Lib.hid (by rw [HT.out, HR.out]; rfl)
      clear k1
      go_wp2
      go_ret
      exact ⟨by rw [HV.out]; rfl, hb⟩
    by_cases q1 : k = 1
    · subst q1
      have HV : Hid (textB 1 n s.data.toList = Lib.formatBool (n == 1)) := Lib.hid (by rw [HT.out, HR.out]; rfl)
      clear k1 k0
      cases h1 : (n == 1) with
      | false =>
        have HV2 : Hid (textB 1 n s.data.toList = [102, 97, 108, 115, 101]) := Lib.hid (by rw [HV.out, h1]; rfl)
        clear HV
        go_wp2
        go_ret
        exact ⟨by rw [HV2.out]; rfl, hb⟩
      | true =>
        have HV2 : Hid (textB 1 n s.data.toList = [116, 114, 117, 101]) := Lib.hid (by rw [HV.out, h1]; rfl)
        clear HV
        go_wp2
        go_ret
        exact ⟨by rw [HV2.out]; rfl, hb⟩
    by_cases q2 : k = 2
    · subst q2
      have HV : Hid (textB 2 n s.data.toList = Lib.itoa n) := Lib.hid (by rw [HT.out, HR.out]; rfl)
      have hn : -1099511627776 ≤ n ∧ n ≤ 1099511627776 := by
        have := HR.out; simp [rightB] at this; exact this.1
      have hd := fun W => digits_any 12 n W (by omega) (by omega)
      have HD := Lib.hid hd
      clear hd hn k1 k0 q1
      go_wp2_with fail
      refine (HD.out _).mono ?_
      rintro e w2 ⟨rfl, hb2⟩
      unfold sv
      go_wp2
      go_ret
      exact ⟨by rw [HV.out]; rfl, hb.trans (hb2.mono hb.size)⟩
    by_cases q4 : k = 4
    · subst q4
      have HV : Hid (textB 4 n s.data.toList = [40] ++ s.data.toList ++ [41]) := Lib.hid (by rw [HT.out, HR.out]; rfl)
      clear k1 k0 q1 q2
      go_wp2
      all_goals go_ret
      all_goals exact ⟨by rw [HV.out]; exact congrArg (fun x => Ending.returned (Value.string x)) (wrap_str 40 41 s), hb⟩
    by_cases q5 : k = 5
    · subst q5
      have HV : Hid (textB 5 n s.data.toList = [91] ++ s.data.toList ++ [93]) := Lib.hid (by rw [HT.out, HR.out]; rfl)
      clear k1 k0 q1 q2 q4
      go_wp2
      all_goals go_ret
      all_goals exact ⟨by rw [HV.out]; exact congrArg (fun x => Ending.returned (Value.string x)) (wrap_str 91 93 s), hb⟩
    obtain rfl : k = 3 := by
      have := HR.out
      unfold rightB at this
      by_cases q3 : k = 3
      · exact q3
      · simp [k0, q1, q2, q3, q4, q5] at this
    have HV : Hid (textB 3 n s.data.toList = quoteL s.data.toList) := Lib.hid (by rw [HT.out, HR.out]; rfl)
    have K1 := Lib.hid k1.blk
    clear k1 k0 q1 q2 q4 q5
    have HLEN : Hid (s.data.toList.length = s.size) := Lib.hid (by rw [Array.length_toList]; rfl)
    clear HT c1 HR
    have HB := Lib.hid hb
    have HLT := Lib.hid hlt
    clear hb hlt
    go_wp2
    clear c0
    go_loopw [3, 4] (fun o i wr => ∃ k : Nat, k ≤ s.size ∧ i = .int .i64 k ∧ o = .string ⟨([39] ++ qL (s.data.toList.take k)).toArray⟩ ∧ Below w1.heap.size w1 wr) (fun _ i _ => s.size - (intOf i).toNat)
    case atStart => exact ⟨0, by omega, rfl, rfl, Below.refl _ _⟩
    case round =>
      obtain ⟨k, hk, rfl, rfl, hb2⟩ := hrel
      have B2 := K1.out.below hb2 HLT.out
      obtain ⟨_, _, d2, _⟩ := B2.three
      have d3 : ∀ o : Obj, (wr.alloc o).cell? ⟨w.heap.size, 2, none⟩ = some (.string s) := fun o => (B2.alloc o).three.2.2.1
      have HB2 := Lib.hid hb2
      clear hb2 c2
      by_cases hlt : k < s.size
      · have hsn : Hid (qL (s.data.toList.take (k + 1)) = qL (s.data.toList.take k) ++ q1 (s[k]'hlt)) := Lib.hid (by
          have hl : k < s.data.toList.length := by rw [HLEN.out]; exact hlt
          rw [List.take_succ_eq_append_getElem hl, qL_snoc]; rfl)
        have hql := qL_len (s.data.toList.take k)
        rw [List.length_take] at hql
        obtain ⟨L, hL⟩ : ∃ L, L = [39] ++ qL (s.data.toList.take k) := ⟨_, rfl⟩
        have hLl : L.length ≤ 3000000 := by rw [hL]; simp; omega
        have HL := Lib.hid hL
        rw [← hL]
        have hOl : (ByteArray.mk L.toArray).size ≤ 3000000 := by rw [size_mk]; exact hLl
        have hEl : (s.extract k (k + 1)).size ≤ 3000000 := by rw [ByteArray.size_extract]; omega
        have HE1 := Lib.hid (ext_one s k hlt L)
        have HE2 := Lib.hid (ext_one s k hlt (L ++ [92]))
        have HE3 := Lib.hid (str_sum L [92])
        have hk1 : IntKind.i64.wrap ((k : Int) + 1) = k + 1 := IntWalk.i64_in _ (by omega)
        have hr1 := run_back
        have hr2 := run_back2
        clear hL hql hLl
        by_cases hc : s[k]'hlt = 39 ∨ s[k]'hlt = 92
        · have HQ : Hid (q1 (s[k]'hlt) = [92, s[k]'hlt]) := Lib.hid (by unfold q1; rw [if_pos hc])
          have tt : ∃ q, (((s[k]'hlt).toNat : Int) == 39) = q ∧ (q = false → (((s[k]'hlt).toNat : Int) == 92) = true) := by
            refine ⟨_, rfl, fun h => ?_⟩
            rcases hc with e | e
            · rw [e] at h; cases h
            · rw [e]; rfl
          obtain ⟨q, t1, t2⟩ := tt
          have hs1 : ¬ 9223372036854775807 < (ByteArray.mk L.toArray).size + (ByteArray.mk #[92]).size := by rw [show (ByteArray.mk #[92]).size = 1 from rfl]; omega
          have hs2 : ¬ 9223372036854775807 < (ByteArray.mk L.toArray ++ ByteArray.mk #[92]).size + (s.extract k (k + 1)).size := by rw [ByteArray.size_append, show (ByteArray.mk #[92]).size = 1 from rfl]; omega
          have hfin : Value.string (ByteArray.mk L.toArray ++ ByteArray.mk #[92] ++ s.extract k (k + 1)) = .string ⟨([39] ++ qL (s.data.toList.take (k + 1))).toArray⟩ := by
            rw [HE3.out, HE2.out, hsn.out, HQ.out, HL.out]; simp
          have HF := Lib.hid hfin
          have HBA := Lib.hid (HB2.out.alloc HB2.out.size (.cells #[.int .u8 92] 5))
          clear hc hfin
          cases q with
          | false =>
            have t2 := t2 rfl
            go_wp2
            exact ⟨⟨k + 1, by omega, by go_num, HF.out, HBA.out⟩, by simp [intOf]; omega⟩
          | true =>
            clear t2
            go_wp2
            exact ⟨⟨k + 1, by omega, by go_num, HF.out, HBA.out⟩, by simp [intOf]; omega⟩
        · have HQ : Hid (q1 (s[k]'hlt) = [s[k]'hlt]) := Lib.hid (by unfold q1; rw [if_neg hc])
          have t1 : (((s[k]'hlt).toNat : Int) == 39) = false := by
            rw [beq_eq_false_iff_ne]; intro e; exact hc (Or.inl (UInt8.toNat_inj.1 (by show (s[k]'hlt).toNat = 39; omega)))
          have t2 : (((s[k]'hlt).toNat : Int) == 92) = false := by
            rw [beq_eq_false_iff_ne]; intro e; exact hc (Or.inr (UInt8.toNat_inj.1 (by show (s[k]'hlt).toNat = 92; omega)))
          clear hc
          go_wp2
          refine ⟨⟨k + 1, by omega, by go_num, ?_, HB2.out⟩, by simp [intOf]; omega⟩
          rw [HE1.out, hsn.out, HQ.out, HL.out, List.append_assoc]
      · have hkk : k = s.size := by omega
        subst hkk
        have hall : s.data.toList.take s.size = s.data.toList := by rw [← HLEN.out]; exact List.take_length
        rw [hall]
        have hql := qL_len s.data.toList
        rw [HLEN.out] at hql
        obtain ⟨L, hL⟩ : ∃ L, L = [39] ++ qL s.data.toList := ⟨_, rfl⟩
        have hLl : L.length ≤ 3000000 := by rw [hL]; simp; omega
        have HV2 : Hid (textB 3 n s.data.toList = L ++ [39]) := Lib.hid (by rw [HV.out, hL]; rfl)
        rw [← hL]
        have hOl : (ByteArray.mk L.toArray).size ≤ 3000000 := by rw [size_mk]; exact hLl
        clear hql hL hall
        go_wp2
        go_ret
        exact ⟨by rw [HV2.out]; exact congrArg (fun x => Ending.returned (Value.string x)) (str_sum L [39]), HB.out.trans (HB2.out.mono HB.out.size)⟩

end Go.Proofs.YtmmphgapginmjaaGreatDoor
