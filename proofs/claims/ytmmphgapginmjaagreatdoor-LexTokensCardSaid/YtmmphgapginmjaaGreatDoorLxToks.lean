/-
  lex.Tokens: the contract, by a walk. Conditions: lengths; the world holds the library's tables (WOk).
-/
import Derived.Test.YtmmphgapginmjaaGreatDoorJLxFirst
namespace Go.Proofs.YtmmphgapginmjaaGreatDoor
open Go.RowKit

def errT (l : List UInt8) : Int := if 2000 < l.length then 3 else match Lx.toksL l with | none => 10 | some _ => 0
def outT (l : List UInt8) : List Lx.Tk := if 2000 < l.length then [] else match Lx.toksL l with | none => [] | some L => L
/-- What Tokens answers. -/
def ToksIs (l : List UInt8) (w : World) (e : Ending) (w' : World) : Prop := ∃ v, e = .returned (.tuple #[v, .int .i64 (errT l)]) ∧ OwnK encT w.heap.size 32 3 w' v (outT l) ∧ Below w.heap.size w w'
def strLen : Value → Nat
  | .string s => s.size
  | _ => 0
theorem ownk_form {α : Type} {enc : α → List Value} {k : Nat} {w : World} {v : Value} {l : List α} {base : Nat} {e : TypeId} (h : OwnK enc base e k w v l) : ∃ A c, v = .slice A l.length c := by
  rcases h.2 with ⟨h1, h2⟩ | ⟨g, cap, cur, h1, _⟩
  · exact ⟨none, 0, by rw [h1]; congr 1; exact h2.symm⟩
  · exact ⟨_, _, h1⟩
theorem nil_or (r : List UInt8) : r = [] ∨ ∃ c t, r = c :: t := by cases r <;> simp

set_option maxRecDepth 100000 in
set_option maxHeartbeats 2000000 in
theorem ltokens_any (s : ByteArray) (w : World) (hw : WOk w) (hs : s.size ≤ 140737488355328) : Calls Tryz.prog 5 #[.string s] w (ToksIs s.data.toList w) := by
  have hlen : s.data.toList.length = s.size := by rw [Array.length_toList]; rfl
  obtain ⟨l, hl⟩ : ∃ l, s.data.toList = l := ⟨_, rfl⟩
  rw [hl] at hlen ⊢
  by_cases hlong : 2000 < s.size
  · have HE := Lib.hid (show errT l = 3 from if_pos (by omega))
    have HO := Lib.hid (show outT l = [] from if_pos (by omega))
    have hc : (2000 : Int) < (s.size : Int) := by omega
    clear hlen hl hlong hs
    go_enter Tryz.func5, Tryz.ntmps5
    go_wp2
    go_ret2
    exact ⟨_, by rw [HE.out]; rfl, by rw [HO.out]; exact OwnK.nil_ _ _ _ _ _, Below.refl _ _⟩
  · have HE := Lib.hid (show errT l = match Lx.toksL l with | none => 10 | some _ => 0 from if_neg (by omega))
    have HO := Lib.hid (show outT l = match Lx.toksL l with | none => [] | some L => L from if_neg (by omega))
    have hc : ¬ (2000 : Int) < (s.size : Int) := by omega
    have HW := Lib.hid hw
    have HBe := Lib.hid (fun W => behind_any s W)
    rw [hl] at HBe
    have HLe := Lib.hid (show l.length ≤ 2000 by omega)
    clear hlen hl hlong hs hw
    go_enter Tryz.func5, Tryz.ntmps5
    go_wp2_with fail
    refine (HBe.out _).mono ?_
    rintro e w1 ⟨rfl, hb1⟩
    have HB1 := Lib.hid hb1
    clear hb1
    go_wp2_with fail
    go_loopw [4, 5] (fun v4 v5 wr => ∃ (A : List Lx.Tk) (r : List UInt8) (Al : Option Addr) (cl : Nat), v4 = .slice Al A.length cl ∧ v5 = .string ⟨r.toArray⟩ ∧ OwnK encT w.heap.size 32 3 wr (.slice Al A.length cl) A ∧ Below w.heap.size w wr ∧ Lx.blank r = r ∧ A.length + r.length ≤ 2000 ∧ Lx.toksL l = (Lx.toksL r).map (A ++ ·)) (fun _ v5 _ => strLen v5)
    case atStart =>
      refine ⟨[], Lx.blank l, none, 0, rfl, rfl, OwnK.nil_ _ _ _ _ _, HB1.out, Lx.blank_blank l, ?_, ?_⟩
      · have := Lx.blank_le l; have := HLe.out; simp; omega
      · rw [Lx.toksL_blank]; simp
    case round =>
      obtain ⟨A, r, Al, cl, rfl, rfl, ho, hbr, hbl, hAr, htk⟩ := hrel
      have HOw := Lib.hid ho
      have HBr := Lib.hid hbr
      have HBl := Lib.hid hbl
      have HAr := Lib.hid hAr
      have HTk := Lib.hid htk
      have he := isEmpty_mk r
      clear ho hbr hbl hAr htk
      rcases nil_or r with hr | ⟨c, t, hr⟩
      · have HN := Lib.hid (show Lx.toksL l = some A by rw [HTk.out, hr, Lx.toksL_nil]; simp)
        have HE2 := Lib.hid (show errT l = 0 by rw [HE.out, HN.out])
        have HO2 := Lib.hid (show outT l = A by rw [HO.out, HN.out])
        rw [hr] at he
        subst hr
        go_wp2_with fail
        go_ret2
        exact ⟨_, by rw [HE2.out]; rfl, by rw [HO2.out]; exact HOw.out, HBr.out⟩
      · have hne : r ≠ [] := by rw [hr]; simp
        have HNe := Lib.hid hne
        obtain ⟨B, hB⟩ : ∃ B : ByteArray, ⟨r.toArray⟩ = B := ⟨_, rfl⟩
        have he2 : B.toList.isEmpty = false := by rw [← hB, he, hr]; rfl
        have hBs : B.size = r.length := by rw [← hB, size_mk]
        have hBd : B.data.toList = r := by rw [← hB]
        have HF := Lib.hid (lfirst_any B wr (HW.out.below HBr.out) (by have := HAr.out; omega))
        rw [hBd] at HF
        rw [hB]
        have HBd := Lib.hid hBd
        have HBs := Lib.hid hBs
        clear he hr hne hB hBd hBs
        cases hf : Lx.firstO r with
        | none =>
          have HN := Lib.hid (show Lx.toksL l = none by rw [HTk.out, Lx.toksL_fail HBl.out HNe.out hf]; rfl)
          have HE2 := Lib.hid (show errT l = 10 by rw [HE.out, HN.out])
          have HO2 := Lib.hid (show outT l = [] by rw [HO.out, HN.out])
          rw [hf] at HF
          clear hf
          go_wp2_with fail
          refine HF.out.mono ?_
          rintro e w2 ⟨rfl, hb2⟩
          have HB2 := Lib.hid (HBr.out.trans (hb2.mono HBr.out.size))
          clear hb2
          unfold rdV tkV
          dsimp only
          go_wp2_with fail
          go_ret2
          exact ⟨_, by rw [HE2.out]; rfl, by rw [HO2.out]; exact OwnK.nil_ _ _ _ _ _, HB2.out.alloc HB2.out.size _⟩
        | some x =>
          obtain ⟨t1, n⟩ := x
          obtain ⟨_, hn1, hn2, _⟩ := Lx.first_text hf
          have HNn := Lib.hid (show 1 ≤ n ∧ n ≤ r.length from ⟨hn1, hn2⟩)
          have HSt := Lib.hid (Lx.toksL_step HBl.out hf)
          rw [hf] at HF
          have hz : ((n : Int) == 0) = false := by rw [beq_eq_false_iff_ne]; omega
          have g0 : (0 : Int) ≤ (n : Int) := by omega
          have g1 : (n : Int) ≤ (B.size : Int) := by have := HBs.out; omega
          clear hf hn1 hn2
          obtain ⟨ta, tb, tc⟩ := t1
          go_wp2_with fail
          refine HF.out.mono ?_
          rintro e w2 ⟨rfl, hb2⟩
          have hB2 := HBr.out.trans (hb2.mono HBr.out.size)
          have hOw2 := HOw.out.keep hb2
          obtain ⟨wa, hwa⟩ : ∃ wa, w2.alloc (.cells (tkC (ta, tb, tc)) 32) = wa := ⟨_, rfl⟩
          have hOwa : OwnK encT w.heap.size 32 3 wa (.slice Al A.length cl) A := by rw [← hwa]; exact hOw2.keep (alloc_below _ _)
          have hBa : Below w.heap.size w wa := by rw [← hwa]; exact hB2.trans ((alloc_below _ _).mono hB2.size)
          obtain ⟨v', w3, hr3, ho3, hb3⟩ := append_one w.heap.size wa (.slice Al A.length cl) A (ta, tb, tc) hOwa (by have := HAr.out; have := HNn.out; omega) hBa.size
          obtain ⟨Al3, cl3, rfl⟩ := ownk_form ho3
          rw [show wa.heap.size = w2.heap.size + 1 by rw [← hwa]; simp] at hr3
          have HR := Lib.hid hr3
          rw [← hwa] at HR
          unfold tkC at HR
          have HO3 := Lib.hid ho3
          have HB3 := Lib.hid (hBa.trans hb3)
          have HBh := Lib.hid (fun W => behind_any (B.extract n B.size) W)
          have hex : (B.extract n B.size).data.toList = r.drop n := by
            have h1 := HBd.out
            have h2 : B.data.size = B.size := rfl
            rw [ByteArray.data_extract, Array.toList_extract, h1, List.extract_eq_take_drop]
            exact List.take_of_length_le (by rw [List.length_drop]; have := HBs.out; omega)
          rw [hex] at HBh
          clear hex hwa hOwa hBa hOw2 hB2 hb2 hr3 ho3 hb3
          unfold rdV tkV
          dsimp only at HR ⊢
          go_wp2_with (first
            | (at_builtin; refine Lib.wpList_append_run (o := ⟨some 25, _, _, _, _, _⟩) _ rfl _ _ _ _ rfl _ _ rfl rfl _ _ HR.out ?_)
            | fail)
          refine (HBh.out _).mono ?_
          rintro e w4 ⟨rfl, hb4⟩
          have HB4 := Lib.hid (HB3.out.trans (hb4.mono HB3.out.size))
          have HO4 := Lib.hid (HO3.out.keep hb4)
          clear hb4
          go_wp2_with fail
          go_roundw
          case rel =>
            refine ⟨A ++ [(ta, tb, tc)], Lx.blank (r.drop n), Al3, cl3, by rw [List.length_append]; rfl, rfl, HO4.out, HB4.out, Lx.blank_blank _, ?_, ?_⟩
            · have := Lx.blank_le (r.drop n)
              have := HAr.out
              have := HNn.out
              rw [List.length_drop] at *
              rw [List.length_append, List.length_singleton]
              omega
            · rw [HTk.out, HSt.out, Option.map_map]
              congr 1
              funext q
              simp
          case measure =>
            show (ByteArray.mk _).size < B.size
            rw [size_mk]
            have := Lx.blank_le (r.drop n)
            have := HNn.out
            have := HBs.out
            rw [List.length_drop] at *
            omega

end Go.Proofs.YtmmphgapginmjaaGreatDoor
