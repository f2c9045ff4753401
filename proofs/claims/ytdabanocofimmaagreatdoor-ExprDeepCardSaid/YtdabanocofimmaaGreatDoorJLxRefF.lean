/-
  hedgerowref18.One at what guess answers. hedgerowref18.Tokens: the contract, by a walk; the same as lex.Tokens'. hedgerowlaw19.fixed answers true: by a walk. What brackets, and NOTs, that stand in each other are parsed to, as often as the law lays them. Conditions: lengths.
-/
import Derived.Test.YtdabanocofimmaaGreatDoorLxRefE
import Derived.Test.YtdabanocofimmaaGreatDoorJSlK
import Derived.Test.YtdabanocofimmaaGreatDoorExTok3
namespace Go.Proofs.YtdabanocofimmaaGreatDoor
open Go.RowKit

theorem Lx.size_le (c : UInt8) (t : List UInt8) : Lx.sizeR (c :: t) ≤ (c :: t).length := by
  unfold Lx.sizeR
  split
  · exact Lx.runL_le _ _
  · split
    · exact Lx.runL_le _ _
    · split
      · split
        · omega
        · have := Lx.qe_le ((c :: t).drop 1)
          rw [List.length_drop] at this
          have h : (c :: t).length = t.length + 1 := rfl
          omega
      · split
        · rename_i h
          simp only [Bool.and_eq_true, decide_eq_true_eq] at h
          omega
        · split
          · exact Nat.succ_le_succ (Nat.zero_le _)
          · omega

theorem rone_guess (p : List UInt8) (w : World) (h0 : p ≠ []) (hp : p.length ≤ 1000000) : Calls Tryz.prog 43 #[tkV (Lx.guessR p)] w (Gives w (.tuple #[.string ⟨(Lx.oneR (Lx.guessR p)).1.toArray⟩, .bool (Lx.oneR (Lx.guessR p)).2])) := by
  unfold Lx.guessR
  by_cases h1 : Lx.digU (p.headD 0) = true
  · rw [if_pos h1]
    obtain ⟨ha, hb⟩ := numF_small (p.take 15) (by rw [List.length_take]; omega)
    exact rone3_any _ w ha hb
  · rw [if_neg h1]
    by_cases h2 : p.headD 0 = 39
    · rw [if_pos h2]
      refine rone4_any _ w ?_
      cases hv : Lx.parseO p with
      | none => exact Nat.zero_le _
      | some v =>
        cases p with
        | nil => exact absurd rfl h0
        | cons c t =>
          have hc : c = 39 := h2
          subst hc
          obtain ⟨_, hr, _⟩ := Lx.quote_text rfl hv
          show v.2.2.length ≤ _
          unfold rightB at hr
          rw [if_neg (by decide), if_neg (by decide), if_neg (by decide), if_pos rfl] at hr
          simp only [Bool.and_eq_true] at hr
          have := hr.2
          unfold plainB at this
          simp only [Bool.and_eq_true, decide_eq_true_eq] at this
          omega
    · rw [if_neg h2]
      by_cases h3 : Lx.words.contains p = true
      · rw [if_pos h3]
        exact rone2_any _ w
      · rw [if_neg h3]
        by_cases h4 : Lx.signs.contains p = true
        · rw [if_pos h4]
          exact rone5_any _ w
        · rw [if_neg h4]
          exact rone1_any _ w hp

end Go.Proofs.YtdabanocofimmaaGreatDoor

namespace Go.Proofs.YtdabanocofimmaaGreatDoor
open Go.RowKit

theorem ext_mk (B : ByteArray) (n : Nat) (r : List UInt8) (h : B.data.toList = r) : B.extract n B.size = ⟨(r.drop n).toArray⟩ := by
  apply ByteArray.ext
  apply Array.toList_inj.1
  have h2 : B.data.size = B.size := rfl
  rw [ByteArray.data_extract, Array.toList_extract, h, List.extract_eq_take_drop]
  show _ = r.drop n
  exact List.take_of_length_le (by rw [List.length_drop, ← h2, ← h, Array.length_toList]; omega)
theorem ext_take (B : ByteArray) (n : Nat) (r : List UInt8) (h : B.data.toList = r) : (B.extract 0 n).data.toList = r.take n := by
  rw [ByteArray.data_extract, Array.toList_extract, h, List.extract_eq_take_drop]
  rfl

set_option maxRecDepth 100000 in
set_option maxHeartbeats 4000000 in
theorem rtokens_any (s : ByteArray) (w : World) (hs : s.size ≤ 140737488355328) : Calls Tryz.prog 21 #[.string s] w (ToksIs s.data.toList w) := by
  have hlen : s.data.toList.length = s.size := by rw [Array.length_toList]; rfl
  obtain ⟨l, hl⟩ : ∃ l, s.data.toList = l := ⟨_, rfl⟩
  rw [hl] at hlen ⊢
  by_cases hlong : 2000 < s.size
  · have HE := Lib.hid (show errT l = 3 from if_pos (by omega))
    have HO := Lib.hid (show outT l = [] from if_pos (by omega))
    have hc : (2000 : Int) < (s.size : Int) := by omega
    clear hlen hl hlong hs
    go_enter Tryz.func21, Tryz.ntmps21
    go_wp2
    go_ret2
    exact ⟨_, by rw [HE.out]; rfl, by rw [HO.out]; exact OwnK.nil_ _ _ _ _ _, Below.refl _ _⟩
  · have HE := Lib.hid (show errT l = match Lx.toksL l with | none => 10 | some _ => 0 from if_neg (by omega))
    have HO := Lib.hid (show outT l = match Lx.toksL l with | none => [] | some L => L from if_neg (by omega))
    have hc : ¬ (2000 : Int) < (s.size : Int) := by omega
    have hid : (⟨l.toArray⟩ : ByteArray) = s := by rw [← hl]
    have HLe := Lib.hid (show l.length ≤ 2000 by omega)
    have HId := Lib.hid hid
    clear hlen hl hlong hs hid
    go_enter Tryz.func21, Tryz.ntmps21
    go_wp2_with fail
    go_loopw [0, 4] (fun v0 v4 wr => ∃ (A : List Lx.Tk) (r : List UInt8) (Al : Option Addr) (cl : Nat), v4 = .slice Al A.length cl ∧ v0 = .string ⟨r.toArray⟩ ∧ OwnK encT w.heap.size 43 3 wr (.slice Al A.length cl) A ∧ Below w.heap.size w wr ∧ A.length + r.length ≤ 2000 ∧ Lx.toksL l = (Lx.toksL r).map (A ++ ·)) (fun v _ _ => strLen v)
    case atStart =>
      refine ⟨[], l, none, 0, rfl, by rw [HId.out], OwnK.nil_ _ _ _ _ _, Below.refl _ _, ?_, ?_⟩
      · have := HLe.out; simp; omega
      · simp
    case round =>
      obtain ⟨A, r, Al, cl, rfl, rfl, ho, hbr, hAr, htk⟩ := hrel
      have HOw := Lib.hid ho
      have HBr := Lib.hid hbr
      have HAr := Lib.hid hAr
      have HTk := Lib.hid htk
      clear ho hbr hAr htk
      rcases nil_or r with hr | ⟨c, t, hr⟩
      · have HN := Lib.hid (show Lx.toksL l = some A by rw [HTk.out, hr, Lx.toksL_nil]; simp)
        have HE2 := Lib.hid (show errT l = 0 by rw [HE.out, HN.out])
        have HO2 := Lib.hid (show outT l = A by rw [HO.out, HN.out])
        subst hr
        have g0 : ¬ (0 : Int) < ((ByteArray.mk ([] : List UInt8).toArray).size : Int) := by decide
        go_wp2_with fail
        go_ret2
        exact ⟨_, by rw [HE2.out]; rfl, by rw [HO2.out]; exact HOw.out, HBr.out⟩
      · obtain ⟨B, hB⟩ : ∃ B : ByteArray, ⟨r.toArray⟩ = B := ⟨_, rfl⟩
        have hBs : B.size = r.length := by rw [← hB, size_mk]
        have hBd : B.data.toList = r := by rw [← hB]
        rw [hB]
        have h0 : 0 < B.size := by rw [hBs, hr]; exact Nat.succ_pos _
        have hh : r.headD 0 = B[0]'h0 := by rw [← hBd]; exact (head_at B h0).symm
        obtain ⟨k, hk⟩ : ∃ k : Int, ((B[0]'h0).toNat : Int) = k := ⟨_, rfl⟩
        have hck : (c.toNat : Int) = k := by rw [← hk, ← hh, hr]; rfl
        have g0 : (0 : Int) < (B.size : Int) := by omega
        have HBd := Lib.hid hBd
        have HBs := Lib.hid hBs
        have HR := Lib.hid hr
        have HCk := Lib.hid hck
        clear hB hBd hBs hr hh hck
        by_cases h32 : k = 32
        · have k32 : (k == 32) = true := by rw [h32]; rfl
          have g1 : (1 : Int) ≤ (B.size : Int) := by omega
          have HSk := Lib.hid (show Lx.toksL r = Lx.toksL t by
            have hc : c = 32 := by apply UInt8.toNat_inj.1; show _ = 32; have := HCk.out; omega
            rw [HR.out, hc, Lx.toksL_skip])
          clear h32
          go_wp2_with fail
          go_roundw
          case rel =>
            refine ⟨A, t, Al, cl, rfl, ?_, HOw.out, HBr.out, ?_, ?_⟩
            · have := ext_mk B 1 r HBd.out
              rw [HR.out] at this
              exact congrArg Value.string this
            · have h1 := HAr.out
              rw [HR.out] at h1
              have h2 : (c :: t).length = t.length + 1 := rfl
              omega
            · rw [HTk.out, HSk.out]
          case measure =>
            show (B.extract 1 B.size).size < B.size
            rw [ByteArray.size_extract]
            omega
        · have k32 : (k == 32) = false := by rw [beq_eq_false_iff_ne]; exact h32
          have hc32 : c ≠ 32 := by intro e; apply h32; rw [← HCk.out, e]; rfl
          have HNb := Lib.hid (show Lx.blank r = r by rw [HR.out]; exact Lx.blank_not hc32)
          have HF := Lib.hid (show Lx.refO r = Lx.firstO r by rw [HR.out]; exact Lx.refO_eq c t)
          have HNe := Lib.hid (show r ≠ [] by rw [HR.out]; simp)
          have hn1 : Lx.sizeR r ≤ r.length := by rw [HR.out]; exact Lx.size_le c t
          have HSz := Lib.hid (fun W => rsize_any B W h0 (by have := HAr.out; have := HBs.out; omega))
          rw [HBd.out] at HSz
          obtain ⟨n, hn⟩ : ∃ n, Lx.sizeR r = n := ⟨_, rfl⟩
          rw [hn] at HSz hn1
          have HNn := Lib.hid hn
          clear h32 hc32 hn
          by_cases hn0 : n = 0
          · have hz : ((n : Int) == 0) = true := by rw [hn0]; rfl
            have HN := Lib.hid (show Lx.toksL l = none by rw [HTk.out, Lx.toksL_fail HNb.out HNe.out (by rw [← HF.out]; exact Lx.refO_none (by rw [HNn.out]; exact hn0))]; rfl)
            have HE2 := Lib.hid (show errT l = 10 by rw [HE.out, HN.out])
            have HO2 := Lib.hid (show outT l = [] by rw [HO.out, HN.out])
            clear hn0 hn1
            go_wp2_with fail
            refine (HSz.out _).mono ?_
            rintro e w2 ⟨rfl, hb2⟩
            have HB2 := Lib.hid (HBr.out.trans (hb2.mono HBr.out.size))
            clear hb2
            go_wp2_with fail
            go_ret2
            exact ⟨_, by rw [HE2.out]; rfl, by rw [HO2.out]; exact OwnK.nil_ _ _ _ _ _, HB2.out⟩
          · have hz : ((n : Int) == 0) = false := by rw [beq_eq_false_iff_ne]; omega
            have g1 : (0 : Int) ≤ (n : Int) := by omega
            have g2 : (n : Int) ≤ (B.size : Int) := by have := HBs.out; omega
            obtain ⟨p, hp⟩ : ∃ p, r.take n = p := ⟨_, rfl⟩
            obtain ⟨P, hP⟩ : ∃ P, B.extract 0 n = P := ⟨_, rfl⟩
            have hPd : P.data.toList = p := by rw [← hP, ← hp]; exact ext_take B n r HBd.out
            have hPl : p.length = n := by rw [← hp, List.length_take]; omega
            have hPs : P.size = n := by rw [← hPl, ← hPd, Array.length_toList]; rfl
            have HGs := Lib.hid (fun W => rguess_any P W (by omega) (by have := HAr.out; omega))
            have HOn := Lib.hid (fun W => rone_guess p W (by intro e; rw [e] at hPl; exact hn0 hPl.symm) (by have := HAr.out; omega))
            rw [hPd] at HGs
            have hPm : (⟨p.toArray⟩ : ByteArray) = P := by rw [← hPd]
            obtain ⟨t1, ht1⟩ : ∃ t1, Lx.guessR p = t1 := ⟨_, rfl⟩
            have hro := Lx.refO_of HNn.out hn0 hp ht1
            rw [ht1] at HGs HOn
            obtain ⟨x, hx⟩ : ∃ x, (Lx.oneR t1).1 = x := ⟨_, rfl⟩
            obtain ⟨ok, hok⟩ : ∃ ok, (Lx.oneR t1).2 = ok := ⟨_, rfl⟩
            rw [hx, hok] at HOn hro
            have HRo := Lib.hid hro
            have HPm := Lib.hid hPm
            have HNl := Lib.hid (show 1 ≤ n ∧ n ≤ r.length from ⟨by omega, hn1⟩)
            clear hro hPm hx hok ht1 hPs hPl hPd hp hn0 hn1
            obtain ⟨ta, tb, tc⟩ := t1
            unfold tkV at HGs HOn
            dsimp only at HGs HOn
            obtain ⟨X, hX⟩ : ∃ X : ByteArray, ⟨x.toArray⟩ = X := ⟨_, rfl⟩
            rw [hX] at HOn
            have HX := Lib.hid hX
            obtain ⟨T, hT⟩ : ∃ T : ByteArray, ⟨tc.toArray⟩ = T := ⟨_, rfl⟩
            rw [hT] at HGs HOn
            have HT := Lib.hid hT
            clear hX hT
            go_wp2_with fail
            refine (HSz.out _).mono ?_
            rintro e w2 ⟨rfl, hb2⟩
            have HB2 := Lib.hid (HBr.out.trans (hb2.mono HBr.out.size))
            have HO2 := Lib.hid (HOw.out.keep hb2)
            clear hb2
            go_wp2_with fail
            refine (HGs.out _).mono ?_
            rintro e w3 ⟨rfl, hb3⟩
            have HB3 := Lib.hid (HB2.out.trans (hb3.mono HB2.out.size))
            have HO3 := Lib.hid (HO2.out.keep hb3)
            clear hb3
            go_upto_region 11 with fail
            have HB4 := Lib.hid (HB3.out.trans ((alloc_below w3 (.cells #[.int .i64 ta, .int .i64 tb, .string T] 43)).mono HB3.out.size))
            have HO4 := Lib.hid (HO3.out.keep (alloc_below w3 (.cells #[.int .i64 ta, .int .i64 tb, .string T] 43)))
            have hk6 : Blk (w3.alloc (.cells #[.int .i64 ta, .int .i64 tb, .string T] 43)) w3.heap.size 43 #[.int .i64 ta, .int .i64 tb, .string T] := Blk.new _ _ _
            obtain ⟨w4, hw4⟩ : ∃ w4, w3.alloc (.cells #[.int .i64 ta, .int .i64 tb, .string T] 43) = w4 := ⟨_, rfl⟩
            rw [hw4] at HB4 HO4 hk6 ⊢
            obtain ⟨b6, hb6⟩ : ∃ b, w3.heap.size = b := ⟨_, rfl⟩
            rw [hb6] at hk6 ⊢
            clear hw4 hb6
            have HK6 := Lib.hid hk6
            obtain ⟨c0, c1, c2, f0, f1, f2, hltw⟩ := hk6.three
            go_wp2_with fail
            refine (HOn.out _).mono ?_
            rintro e w5 ⟨rfl, hb5⟩
            have HK7 := Lib.hid (Blk.below HK6.out hb5 (Blk.lt HK6.out))
            have HB5 := Lib.hid (HB4.out.trans (hb5.mono HB4.out.size))
            have HO5 := Lib.hid (HO4.out.keep hb5)
            clear c0 c1 c2 f0 f1 f2 hltw hk6 hb5
            cases ok with
            | false =>
              have HN := Lib.hid (show Lx.toksL l = none by rw [HTk.out, Lx.toksL_fail HNb.out HNe.out (by rw [← HF.out, HRo.out, if_neg (by simp)])]; rfl)
              have HE2 := Lib.hid (show errT l = 10 by rw [HE.out, HN.out])
              have HO6 := Lib.hid (show outT l = [] by rw [HO.out, HN.out])
              go_wp2_with fail
              go_ret2
              exact ⟨_, by rw [HE2.out]; rfl, by rw [HO6.out]; exact OwnK.nil_ _ _ _ _ _, HB5.out⟩
            | true =>
              by_cases hxp : X = P
              · have hxq : (X.toList == P.toList) = true := by rw [hxp]; exact beq_self_eq_true _
                have HFo := Lib.hid (show Lx.firstO r = some ((ta, tb, tc), n) by
                  rw [← HF.out, HRo.out, if_pos]
                  refine ⟨rfl, ?_⟩
                  have h1 : (⟨x.toArray⟩ : ByteArray) = ⟨p.toArray⟩ := by rw [HX.out, HPm.out, hxp]
                  have h2 := congrArg (fun b : ByteArray => b.data.toList) h1
                  exact h2)
                have HSt := Lib.hid (Lx.toksL_step HNb.out HFo.out)
                obtain ⟨c0, c1, c2, f0, f1, f2, hltw⟩ := HK7.out.three
                obtain ⟨v', w6, hr6, ho6, hb6⟩ := append_one w.heap.size w5 (.slice Al A.length cl) A (ta, tb, tc) HO5.out (by have := HAr.out; have := HNl.out; omega) HB5.out.size
                obtain ⟨Al3, cl3, rfl⟩ := ownk_form ho6
                have HRn := Lib.hid hr6
                unfold tkC at HRn
                dsimp only at HRn
                rw [HT.out] at HRn
                have HO6 := Lib.hid ho6
                have HB6 := Lib.hid (HB5.out.trans hb6)
                clear hr6 ho6 hb6 hxp
                go_wp2_with (first
                  | (at_builtin; refine Lib.wpList_append_run (o := ⟨some 45, _, _, _, _, _⟩) _ rfl _ _ _ _ rfl _ _ rfl rfl _ _ HRn.out ?_)
                  | fail)
                go_roundw
                case rel =>
                  refine ⟨A ++ [(ta, tb, tc)], r.drop n, Al3, cl3, by rw [List.length_append]; rfl, ?_, HO6.out, HB6.out, ?_, ?_⟩
                  · exact congrArg Value.string (ext_mk B n r HBd.out)
                  · have := HAr.out
                    have := HNl.out
                    rw [List.length_append, List.length_singleton, List.length_drop]
                    omega
                  · rw [HTk.out, HSt.out, Lx.toksL_blank, Option.map_map]
                    congr 1
                    funext q
                    simp
                case measure =>
                  show (B.extract n B.size).size < B.size
                  rw [ByteArray.size_extract]
                  have := HNl.out
                  have := HBs.out
                  omega
              · have hxq : (X.toList == P.toList) = false := by
                  rw [beq_eq_false_iff_ne]
                  intro e
                  rw [Lib.toList_data, Lib.toList_data] at e
                  exact hxp (ByteArray.ext (Array.toList_inj.1 e))
                have HN := Lib.hid (show Lx.toksL l = none by
                  rw [HTk.out, Lx.toksL_fail HNb.out HNe.out (by
                    rw [← HF.out, HRo.out, if_neg]
                    rintro ⟨_, e⟩
                    exact hxp (by rw [← HX.out, ← HPm.out, e]))]
                  rfl)
                have HE2 := Lib.hid (show errT l = 10 by rw [HE.out, HN.out])
                have HO6 := Lib.hid (show outT l = [] by rw [HO.out, HN.out])
                go_wp2_with fail
                go_ret2
                exact ⟨_, by rw [HE2.out]; rfl, by rw [HO6.out]; exact OwnK.nil_ _ _ _ _ _, HB5.out⟩

end Go.Proofs.YtdabanocofimmaaGreatDoor

namespace Go.Proofs.YtdabanocofimmaaGreatDoor
open Go.RowKit

def fxL : List Lx.Tk := [(1, 0, [97]), (5, 0, [43]), (3, 2, []), (5, 0, [42]), (3, 3, []), (5, 0, [41])]
def fxR : List Ex.X := [⟨2, 0, 0, [], [97], [], 0, 0⟩, ⟨1, 2, 2, [], [], [], 0, 0⟩, ⟨1, 2, 3, [], [], [], 0, 0⟩, ⟨18, 0, 0, [], [], [], 1, 2⟩, ⟨16, 0, 0, [], [], [], 0, 3⟩]
def fxM : List Lx.Tk := [(5, 0, [40]), (1, 0, [97]), (5, 0, [61]), (3, 1, [])]
set_option maxRecDepth 100000
theorem fx_a1 : outT [97, 32, 43, 32, 50, 32, 42, 32, 51, 32, 41] = fxL := by kernel_rfl
theorem fx_a2 : errT [97, 32, 43, 32, 50, 32, 42, 32, 51, 32, 41] = 0 := by kernel_rfl
theorem fx_b1 : outT [40, 32, 97, 32, 61, 32, 49] = fxM := by kernel_rfl
theorem fx_b2 : errT [40, 32, 97, 32, 61, 32, 49] = 0 := by kernel_rfl
theorem fx_p : Ex.parseF fxL [] = .ok (4, [(5, 0, [41])], fxR) := by kernel_rfl
theorem fx_q : Ex.parseF fxM [] = .error 10 := by kernel_rfl
theorem fx_t : tokB fxR 4 = true := by kernel_rfl
theorem fx_u : (Ex.plainT (treeL fxR 4)).length = 5 := by kernel_rfl
theorem fx_v : varsL fxR 4 = [[97]] := by kernel_rfl
theorem fx_d : depthL fxR 4 = 3 := by kernel_rfl
theorem fx_r : rowB 0 [zEx] = false := by kernel_rfl

theorem OwnK.lo {α : Type} {enc : α → List Value} {R k : Nat} {e : TypeId} {w : World} {v : Value} {l : List α} (h : OwnK enc R e k w v l) : LoA w v := fun g o s n c hv => (h.lt g (by rw [hv]; rfl)).2
set_option maxHeartbeats 4000000 in
theorem xfixed_any (w : World) (hw : WOk w) (hB : BetwIs w) : Calls Tryz.prog 7 #[] w (Gives w (.bool true)) := by
  have HT1 := Lib.hid (rtokens_any ⟨#[97, 32, 43, 32, 50, 32, 42, 32, 51, 32, 41]⟩ w (by decide))
  have HT2 := Lib.hid (fun W => rtokens_any ⟨#[40, 32, 97, 32, 61, 32, 49]⟩ W (by decide))
  have HW := Lib.hid (fun W (hb : Below w.heap.size w W) => (show WOk W ∧ BetwIs W from ⟨hw.below hb, hB.same hb.size (hb.block _ hB.1)⟩))
  clear hw hB
  go_enter Tryz.func7, Tryz.ntmps7
  go_wp2_with fail
  refine HT1.out.mono ?_
  rintro _ w1 ⟨v1, rfl, ho1, hb1⟩
  rw [fx_a1] at ho1
  rw [fx_a2]
  obtain ⟨w1w, w1b⟩ := HW.out w1 hb1
  have HP1 := Lib.hid (xparse_any w1w w1b (ho1.read encT_len3) ho1.lo (⟨none, 0, rfl, Nat.le_refl _, fun h => absurd rfl h⟩ : SlK encX 8 w1 (.slice none 0 0) []) (fun t ht => by
    simp only [fxL, List.mem_cons, List.not_mem_nil, or_false] at ht
    rcases ht with rfl | rfl | rfl | rfl | rfl | rfl <;> decide) (by decide))
  have HB1 := Lib.hid hb1
  obtain ⟨A1, c1, rfl, _, _⟩ := ho1.read encT_len3
  rw [show fxL.length = 6 from rfl] at HP1 ⊢
  clear hb1 ho1 w1w w1b
  go_wp2_with fail
  refine HP1.out.mono ?_
  rintro _ w2 ⟨u, rfl, hp, hb2⟩
  unfold ParseR at hp
  rw [fx_p] at hp
  obtain ⟨v2, rfl, ho2, _⟩ := hp
  have hbw2 := HB1.out.trans (hb2.mono HB1.out.size)
  have HB2 := Lib.hid hbw2
  obtain ⟨g, cap, cur, rfl, _, hcur, _, _, _, _⟩ := ho2.block (by decide)
  have HO2 := Lib.hid ho2
  have hsm2 : ∀ e ∈ fxR, XSm e := by
    intro e he
    simp only [fxR, List.mem_cons, List.not_mem_nil, or_false] at he
    rcases he with rfl | rfl | rfl | rfl | rfl <;> (unfold XSm; decide)
  have HSm := Lib.hid hsm2
  have hS2 := ho2.read encX_len
  rw [show fxR.length = 5 from rfl] at HO2 hS2 ⊢
  have HS2 := Lib.hid hS2
  obtain ⟨w2w, w2b⟩ := HW.out w2 hbw2
  have HTk := Lib.hid (xtokens_any fxR 4 _ w2 w2w w2b hS2 hsm2 (by decide))
  rw [show ((fxL.length - ([(5, 0, [41])] : List Lx.Tk).length : Nat) : Int) = 5 from rfl]
  clear hb2 hbw2 ho2 hcur hsm2 hS2 w2w w2b
  go_wp2_with fail
  refine HTk.out.mono ?_
  rintro _ w3 ⟨⟨u3, rfl, ho3⟩, hb3⟩
  rw [fx_t] at ho3 ⊢
  obtain ⟨A3, c3, rfl, _, _⟩ := ho3.read encT_len3
  rw [if_pos rfl, show (Ex.plainT (treeL fxR (Int.toNat 4))).length = 5 from fx_u]
  have HB3 := Lib.hid (HB2.out.trans (hb3.mono HB2.out.size))
  have HS3 := Lib.hid (HS2.out.below hb3)
  clear hb3 ho3
  go_wp2_with fail
  refine (HT2.out w3).mono ?_
  rintro _ w4 ⟨v4, rfl, ho4, hb4⟩
  rw [fx_b1] at ho4
  rw [fx_b2]
  have hbw4 := HB3.out.trans (hb4.mono HB3.out.size)
  obtain ⟨w4w, w4b⟩ := HW.out w4 hbw4
  have HP4 := Lib.hid (xparse_any w4w w4b (ho4.read encT_len3) ho4.lo (⟨none, 0, rfl, Nat.le_refl _, fun h => absurd rfl h⟩ : SlK encX 8 w4 (.slice none 0 0) []) (fun t ht => by
    simp only [fxM, List.mem_cons, List.not_mem_nil, or_false] at ht
    rcases ht with rfl | rfl | rfl | rfl <;> decide) (by decide))
  have HB4 := Lib.hid hbw4
  have HS4 := Lib.hid (HS3.out.below hb4)
  obtain ⟨A4, c4, rfl, _, _⟩ := ho4.read encT_len3
  rw [show fxM.length = 4 from rfl] at HP4 ⊢
  clear hb4 hbw4 ho4 w4w w4b
  go_wp2_with fail
  refine HP4.out.mono ?_
  rintro _ w5 ⟨u, rfl, hp, hb5⟩
  unfold ParseR at hp
  rw [fx_q] at hp
  obtain ⟨rfl, _⟩ := hp
  have HB5 := Lib.hid (HB4.out.trans (hb5.mono HB4.out.size))
  have hS5 := HS4.out.below hb5
  have HS5 := Lib.hid hS5
  have HV := Lib.hid (xvars_any fxR 4 _ w5 (HW.out w5 HB5.out).1 hS5 HSm.out (by decide))
  clear hb5 hS5
  go_wp2_with fail
  refine HV.out.mono ?_
  rintro _ w6 ⟨u6, rfl, ho6, hb6⟩
  rw [fx_v] at ho6
  obtain ⟨g6, cap6, cur6, rfl, _, hcur6, _, _, _, htk6⟩ := ho6.block (by decide)
  have HB6 := Lib.hid (HB5.out.trans (hb6.mono HB5.out.size))
  have hS6 := HS5.out.below hb6
  obtain ⟨A', c', hv', _, hx'⟩ := id hS6
  obtain ⟨g', o', hA', _, hcell⟩ := hx' (by decide)
  injection hv' with e1 e2 e3
  rw [← e1] at hA'
  injection hA' with hA'
  injection hA' with e4 e5 _
  subst e4 e5
  have k32 : w6.cell? ⟨g, 32, none⟩ = some (.int .i64 16) := by
    have := hcell 4 _ rfl 0 (.int .i64 16) rfl
    simpa using this
  have k39 : w6.cell? ⟨g, 39, none⟩ = some (.int .i64 3) := by
    have := hcell 4 _ rfl 7 (.int .i64 3) rfl
    simpa using this
  have k24 : w6.cell? ⟨g, 24, none⟩ = some (.int .i64 18) := by
    have := hcell 3 _ rfl 0 (.int .i64 18) rfl
    simpa using this
  have q0 : w6.cell? ⟨g6, 0, none⟩ = some (.string ⟨#[97]⟩) := by
    obtain ⟨A', c', hv', _, hx'⟩ := ho6.read encY_len
    obtain ⟨g', o', hA', _, hcell⟩ := hx' (by decide)
    injection hv' with e1 e2 e3
    rw [← e1] at hA'
    injection hA' with hA'
    injection hA' with e4 e5 _
    subst e4 e5
    exact hcell 0 _ rfl 0 (.string ⟨#[97]⟩) rfl
  have HD := Lib.hid (depth_any fxR 4 _ w6 (HW.out w6 HB6.out).1 hS6 HSm.out (by decide))
  rw [fx_d] at HD
  have HRt := Lib.hid (fun W (hb : Below w.heap.size w W) => xRight_any [zEx] (.slice (some ⟨W.heap.size, 0, none⟩) 1 1) (W.alloc (.cells (exC zEx) 49)) ((HW.out W hb).1.alloc _) (sl_oneX zEx W) (fun e he => by rw [List.mem_singleton.1 he]; unfold XSm zEx; decide) (by decide))
  rw [fx_r] at HRt
  rw [show ([[97]] : List (List UInt8)).length = 1 from rfl]
  clear hb6 ho6 hcur6 htk6 hS6 hx' hcell e1 e2 e3
  go_wp2_with fail
  refine HD.out.mono ?_
  rintro _ w7 ⟨rfl, hb7⟩
  have HB7 := Lib.hid (HB6.out.trans (hb7.mono HB6.out.size))
  clear hb7 k32 k39 k24 q0
  have hR := HRt.out w7 HB7.out
  unfold exC zEx at hR
  dsimp only at hR
  have HR7 := Lib.hid hR
  clear hR
  go_wp2_with fail

  refine HR7.out.mono ?_
  rintro _ w8 ⟨rfl, hb8⟩
  have HB8 := Lib.hid (HB7.out.trans ((alloc_then hb8).mono HB7.out.size))
  clear hb8
  go_wp2_with fail
  go_ret
  exact ⟨rfl, HB8.out⟩

end Go.Proofs.YtdabanocofimmaaGreatDoor

namespace Go.Proofs.YtdabanocofimmaaGreatDoor
open Go.RowKit

def nNOT : Lx.Tk := (2, 0, [78, 79, 84])
def nNULL : Lx.Tk := (2, 0, [78, 85, 76, 76])
def nOP : Lx.Tk := (5, 0, [40])
def nSH : Lx.Tk := (5, 0, [41])
def deepT (k : Nat) (q : Bool) : List Lx.Tk := if q = true then List.replicate k nNOT ++ [nNULL] else List.replicate k nOP ++ [nNULL] ++ List.replicate k nSH
def deepB (k : Nat) (q : Bool) : Bool := match Ex.parseF (deepT k q) [] with
  | .ok (_, [], _) => decide (k ≤ 64)
  | .ok (_, _ :: _, _) => false
  | .error e => decide (64 < k) && e == 13
set_option maxRecDepth 100000 in
theorem deep_not : (List.range 60).all (fun j => deepB (j + 40) true) = true := by kernel_rfl
set_option maxRecDepth 100000 in
theorem deep_br : (List.range 60).all (fun j => deepB (j + 40) false) = true := by kernel_rfl
theorem deep_all (j : Nat) (q : Bool) (h : j < 60) : deepB (j + 40) q = true := by
  cases q
  · exact (List.all_eq_true.1 deep_br) j (List.mem_range.2 h)
  · exact (List.all_eq_true.1 deep_not) j (List.mem_range.2 h)
/-- What Parse is to answer, told by its first number. -/
theorem deep_ok (j : Nat) (q : Bool) (h : j < 60) (hk : j + 40 ≤ 64) : ∃ p row, Ex.parseF (deepT (j + 40) q) [] = .ok (p, [], row) := by
  have := deep_all j q h
  unfold deepB at this
  split at this
  · rename_i p row e
    exact ⟨p, row, e⟩
  · cases this
  · rw [Bool.and_eq_true, decide_eq_true_eq] at this
    omega
theorem deep_no (j : Nat) (q : Bool) (h : j < 60) (hk : 64 < j + 40) : Ex.parseF (deepT (j + 40) q) [] = .error 13 := by
  have := deep_all j q h
  unfold deepB at this
  split at this
  · rw [decide_eq_true_eq] at this
    omega
  · cases this
  · rename_i c e
    rw [Bool.and_eq_true, beq_iff_eq] at this
    rw [e, this.2]
theorem deepT_not (k : Nat) : deepT k true = List.replicate k nNOT ++ [nNULL] := if_pos rfl
theorem deepT_br (k : Nat) : deepT k false = List.replicate k nOP ++ [nNULL] ++ List.replicate k nSH := if_neg (by decide)
theorem deepT_safe (k : Nat) (q : Bool) (p : Lx.Tk → Prop) (h1 : p nNOT) (h2 : p nNULL) (h3 : p nOP) (h4 : p nSH) : ∀ t ∈ deepT k q, p t := by
  intro t ht
  unfold deepT at ht
  split at ht
  · rcases List.mem_append.1 ht with h | h
    · rw [List.eq_of_mem_replicate h]; exact h1
    · rw [List.mem_singleton.1 h]; exact h2
  · rcases List.mem_append.1 ht with h | h
    · rcases List.mem_append.1 h with h | h
      · rw [List.eq_of_mem_replicate h]; exact h3
      · rw [List.mem_singleton.1 h]; exact h2
    · rw [List.eq_of_mem_replicate h]; exact h4
theorem deepT_len (k : Nat) (q : Bool) : (deepT k q).length = if q = true then k + 1 else k + 1 + k := by
  unfold deepT
  split
  · simp
  · simp
    omega
end Go.Proofs.YtdabanocofimmaaGreatDoor
