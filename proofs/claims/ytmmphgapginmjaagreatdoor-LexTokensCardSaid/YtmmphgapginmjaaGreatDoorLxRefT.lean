/-
  hedgerowref18.Tokens: the contract, by a walk; the same as lex.Tokens'.
-/
import Derived.Test.YtmmphgapginmjaaGreatDoorLxRefF
import Derived.Test.YtmmphgapginmjaaGreatDoorLxToks
namespace Go.Proofs.YtmmphgapginmjaaGreatDoor
open Go.RowKit

theorem ext_mk (B : ByteArray) (n : Nat) (r : List UInt8) (h : B.data.toList = r) : B.extract n B.size = ⟨(r.drop n).toArray⟩ := by
  apply ByteArray.ext
  apply Array.toList_inj.1
  have h2 : B.data.size = B.size := rfl
  rw [ByteArray.data_extract, Array.toList_extract, h, List.extract_eq_take_drop]
  show _ = r.drop n
  exact List.take_of_length_le (by rw [List.length_drop, ← h2, ← h, Array.length_toList]; omega)
theorem ext_take (B : ByteArray) (n : Nat) (r : List UInt8) (h : B.data.toList = r) : (B.extract 0 n).data.toList = r.take n := by
  rw [ByteArray.data_extract, Array.toList_extract, h, List.extract_eq_take_drop]
  rfl

set_option maxRecDepth 100000 in
set_option maxHeartbeats 4000000 in
theorem rtokens_any (s : ByteArray) (w : World) (hs : s.size ≤ 140737488355328) : Calls Tryz.prog 6 #[.string s] w (ToksIs s.data.toList w) := by
  have hlen : s.data.toList.length = s.size := by rw [Array.length_toList]; rfl
  obtain ⟨l, hl⟩ : ∃ l, s.data.toList = l := ⟨_, rfl⟩
  rw [hl] at hlen ⊢
  by_cases hlong : 2000 < s.size
  · have HE := Lib.hid (show errT l = 3 from if_pos (by omega))
    have HO := Lib.hid (show outT l = [] from if_pos (by omega))
    have hc : (2000 : Int) < (s.size : Int) := by omega
    clear hlen hl hlong hs
    go_enter Tryz.func6, Tryz.ntmps6
    go_wp2
    go_ret2
    exact ⟨_, by rw [HE.out]; rfl, by rw [HO.out]; exact OwnK.nil_ _ _ _ _ _, Below.refl _ _⟩
  · have HE := Lib.hid (show errT l = match Lx.toksL l with | none => 10 | some _ => 0 from if_neg (by omega))
    have HO := Lib.hid (show outT l = match Lx.toksL l with | none => [] | some L => L from if_neg (by omega))
    have hc : ¬ (2000 : Int) < (s.size : Int) := by omega
    have hid : (⟨l.toArray⟩ : ByteArray) = s := by rw [← hl]
    have HLe := Lib.hid (show l.length ≤ 2000 by omega)
    have HId := Lib.hid hid
    clear hlen hl hlong hs hid
    go_enter Tryz.func6, Tryz.ntmps6
    go_wp2_with fail
    go_loopw [0, 4] (fun v0 v4 wr => ∃ (A : List Lx.Tk) (r : List UInt8) (Al : Option Addr) (cl : Nat), v4 = .slice Al A.length cl ∧ v0 = .string ⟨r.toArray⟩ ∧ OwnK encT w.heap.size 32 3 wr (.slice Al A.length cl) A ∧ Below w.heap.size w wr ∧ A.length + r.length ≤ 2000 ∧ Lx.toksL l = (Lx.toksL r).map (A ++ ·)) (fun v _ _ => strLen v)
    case atStart =>
      refine ⟨[], l, none, 0, rfl, by rw [HId.out], OwnK.nil_ _ _ _ _ _, Below.refl _ _, ?_, ?_⟩
      · have := HLe.out; simp; omega
      · simp
    case round =>
      obtain ⟨A, r, Al, cl, rfl, rfl, ho, hbr, hAr, htk⟩ := hrel
      have HOw := Lib.hid ho
      have HBr := Lib.hid hbr
      have HAr := Lib.hid hAr
      have HTk := Lib.hid htk
      clear ho hbr hAr htk
      rcases nil_or r with hr | ⟨c, t, hr⟩
      · have HN := Lib.hid (show Lx.toksL l = some A by rw [HTk.out, hr, Lx.toksL_nil]; simp)
        have HE2 := Lib.hid (show errT l = 0 by rw [HE.out, HN.out])
        have HO2 := Lib.hid (show outT l = A by rw [HO.out, HN.out])
        subst hr
        have g0 : ¬ (0 : Int) < ((ByteArray.mk ([] : List UInt8).toArray).size : Int) := by decide
        go_wp2_with fail
        go_ret2
        exact ⟨_, by rw [HE2.out]; rfl, by rw [HO2.out]; exact HOw.out, HBr.out⟩
      · obtain ⟨B, hB⟩ : ∃ B : ByteArray, ⟨r.toArray⟩ = B := ⟨_, rfl⟩
        have hBs : B.size = r.length := by rw [← hB, size_mk]
        have hBd : B.data.toList = r := by rw [← hB]
        rw [hB]
        have h0 : 0 < B.size := by rw [hBs, hr]; exact Nat.succ_pos _
        have hh : r.headD 0 = B[0]'h0 := by rw [← hBd]; exact (head_at B h0).symm
        obtain ⟨k, hk⟩ : ∃ k : Int, ((B[0]'h0).toNat : Int) = k := ⟨_, rfl⟩
        have hck : (c.toNat : Int) = k := by rw [← hk, ← hh, hr]; rfl
        have g0 : (0 : Int) < (B.size : Int) := by omega
        have HBd := Lib.hid hBd
        have HBs := Lib.hid hBs
        have HR := Lib.hid hr
        have HCk := Lib.hid hck
        clear hB hBd hBs hr hh hck
        by_cases h32 : k = 32
        · have k32 : (k == 32) = true := by rw [h32]; rfl
          have g1 : (1 : Int) ≤ (B.size : Int) := by omega
          have HSk := Lib.hid (show Lx.toksL r = Lx.toksL t by
            have hc : c = 32 := by apply UInt8.toNat_inj.1; show _ = 32; have := HCk.out; omega
            rw [HR.out, hc, Lx.toksL_skip])
          clear h32
          go_wp2_with fail
          go_roundw
          case rel =>
            refine ⟨A, t, Al, cl, rfl, ?_, HOw.out, HBr.out, ?_, ?_⟩
            · have := ext_mk B 1 r HBd.out
              rw [HR.out] at this
              exact congrArg Value.string this
            · have h1 := HAr.out
              rw [HR.out] at h1
              have h2 : (c :: t).length = t.length + 1 := rfl
              omega
            · rw [HTk.out, HSk.out]
          case measure =>
            show (B.extract 1 B.size).size < B.size
            rw [ByteArray.size_extract]
            omega
        · have k32 : (k == 32) = false := by rw [beq_eq_false_iff_ne]; exact h32
          have hc32 : c ≠ 32 := by intro e; apply h32; rw [← HCk.out, e]; rfl
          have HNb := Lib.hid (show Lx.blank r = r by rw [HR.out]; exact Lx.blank_not hc32)
          have HF := Lib.hid (show Lx.refO r = Lx.firstO r by rw [HR.out]; exact Lx.refO_eq c t)
          have HNe := Lib.hid (show r ≠ [] by rw [HR.out]; simp)
          have hn1 : Lx.sizeR r ≤ r.length := by rw [HR.out]; exact Lx.size_le c t
          have HSz := Lib.hid (fun W => rsize_any B W h0 (by have := HAr.out; have := HBs.out; omega))
          rw [HBd.out] at HSz
          obtain ⟨n, hn⟩ : ∃ n, Lx.sizeR r = n := ⟨_, rfl⟩
          rw [hn] at HSz hn1
          have HNn := Lib.hid hn
          clear h32 hc32 hn
          by_cases hn0 : n = 0
          · have hz : ((n : Int) == 0) = true := by rw [hn0]; rfl
            have HN := Lib.hid (show Lx.toksL l = none by rw [HTk.out, Lx.toksL_fail HNb.out HNe.out (by rw [← HF.out]; exact Lx.refO_none (by rw [HNn.out]; exact hn0))]; rfl)
            have HE2 := Lib.hid (show errT l = 10 by rw [HE.out, HN.out])
            have HO2 := Lib.hid (show outT l = [] by rw [HO.out, HN.out])
            clear hn0 hn1
            go_wp2_with fail
            refine (HSz.out _).mono ?_
            rintro e w2 ⟨rfl, hb2⟩
            have HB2 := Lib.hid (HBr.out.trans (hb2.mono HBr.out.size))
            clear hb2
            go_wp2_with fail
            go_ret2
            exact ⟨_, by rw [HE2.out]; rfl, by rw [HO2.out]; exact OwnK.nil_ _ _ _ _ _, HB2.out⟩
          · have hz : ((n : Int) == 0) = false := by rw [beq_eq_false_iff_ne]; omega
            have g1 : (0 : Int) ≤ (n : Int) := by omega
            have g2 : (n : Int) ≤ (B.size : Int) := by have := HBs.out; omega
            obtain ⟨p, hp⟩ : ∃ p, r.take n = p := ⟨_, rfl⟩
            obtain ⟨P, hP⟩ : ∃ P, B.extract 0 n = P := ⟨_, rfl⟩
            have hPd : P.data.toList = p := by rw [← hP, ← hp]; exact ext_take B n r HBd.out
            have hPl : p.length = n := by rw [← hp, List.length_take]; omega
            have hPs : P.size = n := by rw [← hPl, ← hPd, Array.length_toList]; rfl
            have HGs := Lib.hid (fun W => rguess_any P W (by omega) (by have := HAr.out; omega))
            have HOn := Lib.hid (fun W => rone_guess p W (by intro e; rw [e] at hPl; exact hn0 hPl.symm) (by have := HAr.out; omega))
            rw [hPd] at HGs
            have hPm : (⟨p.toArray⟩ : ByteArray) = P := by rw [← hPd]
            obtain ⟨t1, ht1⟩ : ∃ t1, Lx.guessR p = t1 := ⟨_, rfl⟩
            have hro := Lx.refO_of HNn.out hn0 hp ht1
            rw [ht1] at HGs HOn
            obtain ⟨x, hx⟩ : ∃ x, (Lx.oneR t1).1 = x := ⟨_, rfl⟩
            obtain ⟨ok, hok⟩ : ∃ ok, (Lx.oneR t1).2 = ok := ⟨_, rfl⟩
            rw [hx, hok] at HOn hro
            have HRo := Lib.hid hro
            have HPm := Lib.hid hPm
            have HNl := Lib.hid (show 1 ≤ n ∧ n ≤ r.length from ⟨by omega, hn1⟩)
            clear hro hPm hx hok ht1 hPs hPl hPd hp hn0 hn1
            obtain ⟨ta, tb, tc⟩ := t1
            unfold tkV at HGs HOn
            dsimp only at HGs HOn
            obtain ⟨X, hX⟩ : ∃ X : ByteArray, ⟨x.toArray⟩ = X := ⟨_, rfl⟩
            rw [hX] at HOn
            have HX := Lib.hid hX
            obtain ⟨T, hT⟩ : ∃ T : ByteArray, ⟨tc.toArray⟩ = T := ⟨_, rfl⟩
            rw [hT] at HGs HOn
            have HT := Lib.hid hT
            clear hX hT
            go_wp2_with fail
            refine (HSz.out _).mono ?_
            rintro e w2 ⟨rfl, hb2⟩
            have HB2 := Lib.hid (HBr.out.trans (hb2.mono HBr.out.size))
            have HO2 := Lib.hid (HOw.out.keep hb2)
            clear hb2
            go_wp2_with fail
            refine (HGs.out _).mono ?_
            rintro e w3 ⟨rfl, hb3⟩
            have HB3 := Lib.hid (HB2.out.trans (hb3.mono HB2.out.size))
            have HO3 := Lib.hid (HO2.out.keep hb3)
            clear hb3
            go_upto_region 11 with fail
            have HB4 := Lib.hid (HB3.out.trans ((alloc_below w3 (.cells #[.int .i64 ta, .int .i64 tb, .string T] 32)).mono HB3.out.size))
            have HO4 := Lib.hid (HO3.out.keep (alloc_below w3 (.cells #[.int .i64 ta, .int .i64 tb, .string T] 32)))
            have hk6 : Blk (w3.alloc (.cells #[.int .i64 ta, .int .i64 tb, .string T] 32)) w3.heap.size 32 #[.int .i64 ta, .int .i64 tb, .string T] := Blk.new _ _ _
            obtain ⟨w4, hw4⟩ : ∃ w4, w3.alloc (.cells #[.int .i64 ta, .int .i64 tb, .string T] 32) = w4 := ⟨_, rfl⟩
            rw [hw4] at HB4 HO4 hk6 ⊢
            obtain ⟨b6, hb6⟩ : ∃ b, w3.heap.size = b := ⟨_, rfl⟩
            rw [hb6] at hk6 ⊢
            clear hw4 hb6
            have HK6 := Lib.hid hk6
            obtain ⟨c0, c1, c2, f0, f1, f2, hltw⟩ := hk6.three
            go_wp2_with fail
            refine (HOn.out _).mono ?_
            rintro e w5 ⟨rfl, hb5⟩
            have HK7 := Lib.hid (Blk.below HK6.out hb5 (Blk.lt HK6.out))
            have HB5 := Lib.hid (HB4.out.trans (hb5.mono HB4.out.size))
            have HO5 := Lib.hid (HO4.out.keep hb5)
            clear c0 c1 c2 f0 f1 f2 hltw hk6 hb5
            cases ok with
            | false =>
              have HN := Lib.hid (show Lx.toksL l = none by rw [HTk.out, Lx.toksL_fail HNb.out HNe.out (by rw [← HF.out, HRo.out, if_neg (by simp)])]; rfl)
              have HE2 := Lib.hid (show errT l = 10 by rw [HE.out, HN.out])
              have HO6 := Lib.hid (show outT l = [] by rw [HO.out, HN.out])
              go_wp2_with fail
              go_ret2
              exact ⟨_, by rw [HE2.out]; rfl, by rw [HO6.out]; exact OwnK.nil_ _ _ _ _ _, HB5.out⟩
            | true =>
              by_cases hxp : X = P
              · have hxq : (X.toList == P.toList) = true := by rw [hxp]; exact beq_self_eq_true _
                have HFo := Lib.hid (show Lx.firstO r = some ((ta, tb, tc), n) by
                  rw [← HF.out, HRo.out, if_pos]
                  refine ⟨rfl, ?_⟩
                  have h1 : (⟨x.toArray⟩ : ByteArray) = ⟨p.toArray⟩ := by rw [HX.out, HPm.out, hxp]
                  have h2 := congrArg (fun b : ByteArray => b.data.toList) h1
                  exact h2)
                have HSt := Lib.hid (Lx.toksL_step HNb.out HFo.out)
                obtain ⟨c0, c1, c2, f0, f1, f2, hltw⟩ := HK7.out.three
                obtain ⟨v', w6, hr6, ho6, hb6⟩ := append_one w.heap.size w5 (.slice Al A.length cl) A (ta, tb, tc) HO5.out (by have := HAr.out; have := HNl.out; omega) HB5.out.size
                obtain ⟨Al3, cl3, rfl⟩ := ownk_form ho6
                have HRn := Lib.hid hr6
                unfold tkC at HRn
                dsimp only at HRn
                rw [HT.out] at HRn
                have HO6 := Lib.hid ho6
                have HB6 := Lib.hid (HB5.out.trans hb6)
                clear hr6 ho6 hb6 hxp
                go_wp2_with (first
                  | (at_builtin; refine Lib.wpList_append_run (o := ⟨some 45, _, _, _, _, _⟩) _ rfl _ _ _ _ rfl _ _ rfl rfl _ _ HRn.out ?_)
                  | fail)
                go_roundw
                case rel =>
                  refine ⟨A ++ [(ta, tb, tc)], r.drop n, Al3, cl3, by rw [List.length_append]; rfl, ?_, HO6.out, HB6.out, ?_, ?_⟩
                  · exact congrArg Value.string (ext_mk B n r HBd.out)
                  · have := HAr.out
                    have := HNl.out
                    rw [List.length_append, List.length_singleton, List.length_drop]
                    omega
                  · rw [HTk.out, HSt.out, Lx.toksL_blank, Option.map_map]
                    congr 1
                    funext q
                    simp
                case measure =>
                  show (B.extract n B.size).size < B.size
                  rw [ByteArray.size_extract]
                  have := HNl.out
                  have := HBs.out
                  omega
              · have hxq : (X.toList == P.toList) = false := by
                  rw [beq_eq_false_iff_ne]
                  intro e
                  rw [Lib.toList_data, Lib.toList_data] at e
                  exact hxp (ByteArray.ext (Array.toList_inj.1 e))
                have HN := Lib.hid (show Lx.toksL l = none by
                  rw [HTk.out, Lx.toksL_fail HNb.out HNe.out (by
                    rw [← HF.out, HRo.out, if_neg]
                    rintro ⟨_, e⟩
                    exact hxp (by rw [← HX.out, ← HPm.out, e]))]
                  rfl)
                have HE2 := Lib.hid (show errT l = 10 by rw [HE.out, HN.out])
                have HO6 := Lib.hid (show outT l = [] by rw [HO.out, HN.out])
                go_wp2_with fail
                go_ret2
                exact ⟨_, by rw [HE2.out]; rfl, by rw [HO6.out]; exact OwnK.nil_ _ _ _ _ _, HB5.out⟩

end Go.Proofs.YtmmphgapginmjaaGreatDoor
