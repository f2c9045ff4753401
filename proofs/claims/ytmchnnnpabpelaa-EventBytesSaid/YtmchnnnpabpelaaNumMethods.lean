/-
  (*Reader).Num, Signed, Text: the contracts, by walks. Conditions: none.
-/
import Derived.Test.YtmchnnnpabpelaaNumReader
import Derived.Lib.Strings
namespace Go.Proofs.Ytmchnnnpabpelaa
open Go.RowKit

set_option maxHeartbeats 400000 in
theorem num_nil (most : Int) (w : World) : Calls Try.prog 45 #[.pointer none, .int .i64 most] w (Same w (.int .i64 0)) := by
  go_enter Try.func45, Try.ntmps45
  go_wp2_with fail
  refine (fail_nil _).mono ?_
  rintro e w' ⟨rfl, rfl⟩
  go_wp2
  go_ret
  exact ⟨rfl, rfl⟩

/-- A reader's block behind a store to one of its fields. -/
theorem Blk.fail {w : World} {g : Nat} {b : ByteArray} {f : Bool} (h : Blk w g 73 #[.string b, .bool f]) (hb : b.size ≤ 9223372036854775807) : Rd (w.setCell ⟨g, 1, none⟩ (.bool true)) g (b.data.toList, true) ∧ But g w (w.setCell ⟨g, 1, none⟩ (.bool true)) :=
  ⟨⟨b, rfl, hb, by simpa using h.set_ 1 (.bool true)⟩, But.setCell w g 1 _⟩
theorem Blk.rest {w : World} {g : Nat} {b b' : ByteArray} {f : Bool} (h : Blk w g 73 #[.string b, .bool f]) (hb : b'.size ≤ 9223372036854775807) : Rd (w.setCell ⟨g, 0, none⟩ (.string b')) g (b'.data.toList, f) ∧ But g w (w.setCell ⟨g, 0, none⟩ (.string b')) :=
  ⟨⟨b', rfl, hb, by simpa using h.set_ 0 (.string b')⟩, But.setCell w g 0 _⟩
theorem ext_drop (b : ByteArray) (k : Nat) : (b.extract k b.size).data.toList = b.data.toList.drop k := by
  rw [Lib.extract_data]; exact List.take_of_length_le (by rw [List.length_drop, str_len]; omega)
theorem ext_take (b : ByteArray) (k : Nat) : (b.extract 0 k).data.toList = b.data.toList.take k := by
  rw [Lib.extract_data]; simp
theorem ext_size (b : ByteArray) (i j : Nat) : (b.extract i j).size ≤ b.size := by
  simp; omega

set_option maxHeartbeats 1000000 in
theorem num_any (g : Nat) (s : List UInt8 × Bool) (most : Int) (w : World) (h : Rd w g s) :
    Calls Try.prog 45 #[.pointer (some ⟨g, 0, none⟩), .int .i64 most] w (Moves w g (.int .i64 (rNum s most).1) (rNum s most).2) := by
  have hf := fail_any g s w h
  have h0 := h
  obtain ⟨b, h1, h2, h3⟩ := h
  have c0 := h3.cell 0
  have c1 := h3.cell 1
  have f0 := h3.free 0
  have f1 := h3.free 1
  simp at c0 c1
  obtain ⟨l, f⟩ := s
  simp only at h1 c1
  subst h1
  have HF := Lib.hid hf; clear hf
  have HB := Lib.hid h3; clear h3
  have H0 := Lib.hid h0; clear h0
  cases f
  · have hfst := first_any b w h2
    cases ht : takeN b.data.toList with
    | none =>
      have HN : Hid (rNum (b.data.toList, false) most = (0, (b.data.toList, true))) := by unfold rNum; simp only [ht]; rfl
      rw [fst_none ht] at hfst
      have HFi := Lib.hid hfst; clear hfst ht
      have hP := Lib.hid (Blk.fail HB.out h2)
      go_enter Try.func45, Try.ntmps45
      go_wp2_with fail
      refine HF.out.mono ?_
      rintro e w' ⟨rfl, rfl⟩
      go_wp2_with fail
      refine HFi.out.mono ?_
      rintro e w' ⟨rfl, rfl⟩
      go_wp2
      go_ret
      exact ⟨by rw [HN.out]; rfl, by rw [HN.out]; exact hP.out⟩
    | some p =>
      obtain ⟨n, k⟩ := p
      obtain ⟨k0, kl, k9⟩ := takeN_len ht
      rw [str_len] at kl
      have hk0 : ((k : Int) == 0) = false := by rw [beq_eq_false_iff_ne]; omega
      rw [fst_some ht] at hfst
      have HFi := Lib.hid hfst; clear hfst
      by_cases hm : most < (n : Int)
      · have HN : Hid (rNum (b.data.toList, false) most = (0, (b.data.toList, true))) := by unfold rNum; simp only [ht]; rw [if_pos hm]; rfl
        clear ht
        have hP := Lib.hid (Blk.fail HB.out h2)
        go_enter Try.func45, Try.ntmps45
        go_wp2_with fail
        refine HF.out.mono ?_
        rintro e w' ⟨rfl, rfl⟩
        go_wp2_with fail
        refine HFi.out.mono ?_
        rintro e w' ⟨rfl, rfl⟩
        go_wp2
        go_ret
        exact ⟨by rw [HN.out]; rfl, by rw [HN.out]; exact hP.out⟩
      · have HN : Hid (rNum (b.data.toList, false) most = ((n : Int), (b.data.toList.drop k, false))) := by unfold rNum; simp only [ht]; rw [if_neg hm]; rfl
        clear ht
        have hP := Lib.hid (Blk.rest (b' := b.extract k b.size) HB.out (by have := ext_size b k b.size; omega))
        go_enter Try.func45, Try.ntmps45
        go_wp2_with fail
        refine HF.out.mono ?_
        rintro e w' ⟨rfl, rfl⟩
        go_wp2_with fail
        refine HFi.out.mono ?_
        rintro e w' ⟨rfl, rfl⟩
        go_wp2
        go_ret
        exact ⟨by rw [HN.out]; rfl, by rw [HN.out, ← ext_drop]; exact hP.out⟩
  · have HN : Hid (rNum (b.data.toList, true) most = (0, (b.data.toList, true))) := by unfold rNum; rfl
    go_enter Try.func45, Try.ntmps45
    go_wp2_with fail
    refine HF.out.mono ?_
    rintro e w' ⟨rfl, rfl⟩
    go_wp2
    go_ret
    exact ⟨by rw [HN.out]; rfl, by rw [HN.out]; exact H0.out, But.refl _ _⟩

set_option maxHeartbeats 400000 in
theorem sig_any (g : Nat) (s : List UInt8 × Bool) (w : World) (h : Rd w g s) :
    Calls Try.prog 47 #[.pointer (some ⟨g, 0, none⟩)] w (Moves w g (.int .i64 (rSig s).1) (rSig s).2) := by
  have hn := num_any g s 2305843009213693952 w h
  have hr := rNum_rng s 2305843009213693952
  have HS : Hid ((rSig s).2 = (rNum s 2305843009213693952).2) := rfl
  have HV : Hid ((rSig s).1 = unzig (rNum s 2305843009213693952).1) := rfl
  generalize rNum s 2305843009213693952 = q at *
  obtain ⟨n, s'⟩ := q
  obtain ⟨r1, r2, _⟩ := hr
  simp only at r1 r2
  have HN := Lib.hid hn; clear hn
  by_cases ho : n % 2 = 1
  · have h3 : (n % 2 == 1) = true := by simpa using ho
    have HO := Lib.hid ho; clear ho
    go_enter Try.func47, Try.ntmps47
    go_wp2_with fail
    refine HN.out.mono ?_
    rintro e w' ⟨rfl, hr1, hb1⟩
    go_wp2
    go_ret
    refine ⟨?_, by rw [HS.out]; exact hr1, hb1⟩
    rw [HV.out]
    simp only [unzig, if_pos HO.out]
    have e9 : wrap64 (-(n + 1).tdiv 2) = -((n + 1) / 2) := by
      rw [Int.tdiv_eq_ediv_of_nonneg (by omega)]; exact IntWalk.wrap64_in _ ⟨by omega, by omega⟩
    exact congrArg (fun x => Ending.returned (Value.int IntKind.i64 x)) e9
  · have h3 : (n % 2 == 1) = false := by simpa using ho
    have HO := Lib.hid ho; clear ho
    go_enter Try.func47, Try.ntmps47
    go_wp2_with fail
    refine HN.out.mono ?_
    rintro e w' ⟨rfl, hr1, hb1⟩
    go_wp2
    go_ret
    refine ⟨?_, by rw [HS.out]; exact hr1, hb1⟩
    rw [HV.out]
    simp only [unzig, if_neg HO.out]
    rfl

set_option maxHeartbeats 400000 in
theorem rtext_nil (most : Int) (w : World) : Calls Try.prog 46 #[.pointer none, .int .i64 most] w (Same w (.string ByteArray.empty)) := by
  go_enter Try.func46, Try.ntmps46
  go_wp2_with fail
  refine (num_nil _ _).mono ?_
  rintro e w' ⟨rfl, rfl⟩
  go_wp2_with fail
  refine (fail_nil _).mono ?_
  rintro e w' ⟨rfl, rfl⟩
  go_wp2
  go_ret
  exact ⟨rfl, rfl⟩

/-- Hands back a string of these bytes; block g is then the reader s; all else is as it was. -/
def MovesS (w : World) (g : Nat) (l : List UInt8) (s : List UInt8 × Bool) (e : Ending) (w' : World) : Prop := ∃ b : ByteArray, b.data.toList = l ∧ e = .returned (.string b) ∧ Rd w' g s ∧ But g w w'

set_option maxHeartbeats 1000000 in
theorem rtext_any (g : Nat) (s : List UInt8 × Bool) (most : Int) (w : World) (h : Rd w g s) :
    Calls Try.prog 46 #[.pointer (some ⟨g, 0, none⟩), .int .i64 most] w (MovesS w g (rText s most).1 (rText s most).2) := by
  have hn := num_any g s most w h
  have hr := rNum_rng s most
  have HS : Hid (rText s most = if (rNum s most).2.2 = true then ([], (rNum s most).2) else
    if ((rNum s most).2.1.length : Int) < (rNum s most).1 then ([], ((rNum s most).2.1, true)) else
    ((rNum s most).2.1.take (rNum s most).1.toNat, ((rNum s most).2.1.drop (rNum s most).1.toNat, false))) := rfl
  generalize rNum s most = q at *
  obtain ⟨n, l, f⟩ := q
  obtain ⟨r1, r2, _⟩ := hr
  simp only at r1 r2
  simp only at HS
  have HN := Lib.hid hn; clear hn
  go_enter Try.func46, Try.ntmps46
  go_wp2_with fail
  refine HN.out.mono ?_
  rintro e w1 ⟨rfl, hr1, hb1⟩
  have hf := fail_any g (l, f) w1 hr1
  have H1 := Lib.hid hr1
  obtain ⟨b, h1, h2, h3⟩ := hr1
  simp only at h1
  subst h1
  have hbl := str_len b
  cases f
  · have HF := Lib.hid hf; clear hf
    have c0 := h3.cell 0
    have c1 := h3.cell 1
    have f0 := h3.free 0
    have f1 := h3.free 1
    simp at c0 c1
    by_cases hlt : (b.size : Int) < n
    · have HQ : Hid (rText s most = ([], (b.data.toList, true))) := Lib.hid (by rw [HS.out, if_neg (by simp), if_pos (by rw [hbl]; exact hlt)])
      have hP := Lib.hid (Blk.fail h3 h2)
      clear h3 hbl
      go_wp2_with fail
      refine HF.out.mono ?_
      rintro e w' ⟨rfl, rfl⟩
      go_wp2
      go_ret
      exact ⟨ByteArray.empty, by rw [HQ.out]; rfl, rfl, by rw [HQ.out]; exact hP.out.1, hb1.trans hP.out.2⟩
    · obtain ⟨m, rfl⟩ := Int.eq_ofNat_of_zero_le r1
      have HQ : Hid (rText s most = (b.data.toList.take m, (b.data.toList.drop m, false))) := Lib.hid (by rw [HS.out, if_neg (by simp), if_neg (by rw [hbl]; exact hlt)]; rfl)
      have hP := Lib.hid (Blk.rest (b' := b.extract m b.size) h3 (by have := ext_size b m b.size; omega))
      have hmb : m ≤ b.size := by omega
      clear h3 hbl r2 r1
      go_wp2_with fail
      refine HF.out.mono ?_
      rintro e w' ⟨rfl, rfl⟩
      go_wp2
      go_ret
      exact ⟨b.extract 0 m, by rw [HQ.out, ext_take], rfl, by rw [HQ.out, ← ext_drop]; exact hP.out.1, hb1.trans hP.out.2⟩
  · have HQ : Hid (rText s most = ([], (b.data.toList, true))) := Lib.hid (by rw [HS.out, if_pos rfl])
    have HF := Lib.hid hf; clear hf h3 hbl
    go_wp2_with fail
    refine HF.out.mono ?_
    rintro e w' ⟨rfl, rfl⟩
    go_wp2
    go_ret
    exact ⟨ByteArray.empty, by rw [HQ.out]; rfl, rfl, by rw [HQ.out]; exact H1.out, hb1⟩

end Go.Proofs.Ytmchnnnpabpelaa
