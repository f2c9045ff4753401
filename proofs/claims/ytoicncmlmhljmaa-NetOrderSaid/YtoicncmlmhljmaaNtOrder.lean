/-
  hedgerowlaw16.NetOrder: the walk: for all rows the call returns true, and nothing that was there has turned. Conditions: none.
-/
import Derived.Test.YtoicncmlmhljmaaNtFixed
import Derived.Test.YtoicncmlmhljmaaNtRows
namespace Go.Proofs.Ytoicncmlmhljmaa
open Go.RowKit

/-- The parcels are these rows, from one on, each to its number. -/
def SentIs (l : List (List UInt8)) (j : Nat) (L : List Pc) : Prop := ∀ (m : Nat) (p : Pc), L[m]? = some p → p.to = ((j + m : Nat) : Int) ∧ l[j + m]? = some p.b
theorem SentIs.snoc {l : List (List UInt8)} {L : List Pc} {k : Nat} (h : SentIs l 0 L) (hL : L.length = k) (hk : k < l.length) (v : Value) (q : Bool) : SentIs l 0 (L ++ [⟨(k : Int), l[k], v, q⟩]) := by
  intro m p hm
  by_cases h1 : m < L.length
  · rw [List.getElem?_append_left h1] at hm
    exact h m p hm
  · have h2 := (List.getElem?_eq_some_iff.1 hm).1
    have h3 : m = L.length := by simp at h2; omega
    subst h3
    rw [List.getElem?_append_right (Nat.le_refl _), Nat.sub_self] at hm
    have : p = ⟨(k : Int), l[k], v, q⟩ := by simpa using hm.symm
    subst this
    subst hL
    exact ⟨by simp, by simp⟩
theorem SentIs.tail {l : List (List UInt8)} {L : List Pc} {j : Nat} (h : SentIs l j L) : SentIs l (j + 1) (L.eraseIdx 0) := by
  intro m p hm
  cases L with
  | nil => simp at hm
  | cons x L =>
    have := h (m + 1) p (by simpa using hm)
    rwa [show j + (m + 1) = j + 1 + m from by omega] at this

set_option maxRecDepth 100000 in
set_option maxHeartbeats 2000000 in
theorem order_walk (va : Value) (l : List (List UInt8)) (w : World) (ha : RowsAt w va l) (hla : l.length ≤ 140737488355328) :
    Calls Try.prog 5 #[va] w (Law w) := by
  have HFX := Lib.hid (nfixed_any w)
  obtain ⟨A1, c1, rfl, hc1, hx1⟩ := ha.at_
  have HX := Lib.hid hx1
  clear ha hx1 hc1
  by_cases h1 : 100 < l.length
  · go_enter Try.func5, Try.ntmps5
    go_wp2_with fail
    refine HFX.out.mono ?_
    rintro e w1 ⟨rfl, hb1⟩
    go_wp2
    go_ret
    exact ⟨rfl, hb1⟩
  go_enter Try.func5, Try.ntmps5
  go_wp2_with fail
  refine HFX.out.mono ?_
  rintro e w1 ⟨rfl, hb1⟩
  have HB1 := Lib.hid hb1
  clear hb1
  go_wp2_with fail
  refine (nnew_any w.heap.size w1 HB1.out.size).mono ?_
  rintro e w2 ⟨rfl, hd2, hb2⟩
  have D2 : Hid (Nn w w2 w1.heap.size _ []) := Lib.hid ⟨hd2, HB1.out.trans (hb2.mono HB1.out.size)⟩
  generalize w1.heap.size = g at *
  have hl100 : l.length ≤ 100 := by omega
  clear hd2 hb2 h1
  go_wp2_with fail
  go_loopw [20] (fun i wr => ∃ (k : Nat) (vf : Value) (L : List Pc), k ≤ l.length ∧ i = .int .i64 k ∧ Nn w wr g vf L ∧ L.length = k ∧ SentIs l 0 L) (fun i _ => l.length - (intOf i).toNat)
  case atStart => exact ⟨0, _, [], Nat.zero_le _, rfl, D2.out, rfl, fun m p hm => by simp at hm⟩
  case round =>
    obtain ⟨k, vf, L, hk, rfl, hn, hL, hs⟩ := hrel
    have HN := Lib.hid hn
    have HL := Lib.hid hL
    have HS := Lib.hid hs
    clear hn hL hs
    by_cases hlt : k < l.length
    · obtain ⟨b0, o0, rfl, hb0, A5, n5, c5, hcell, hs5⟩ := HX.out k hlt
      have hn5 := hs5.len.1
      have hck := (HN.out.2.cell (p := ⟨b0, o0 + k, none⟩) hb0).trans hcell
      have HS5 := Lib.hid (hs5.below HN.out.2)
      have HLT := Lib.hid hlt
      have HN5 := Lib.hid hn5
      clear hs5 hcell
      by_cases hbig : 200 < n5
      · clear hn5
        go_wp2
        go_ret
        exact ⟨rfl, HN.out.2⟩
      · have hle : n5 ≤ 200 := by omega
        clear hbig hn5
        go_wp2_with fail
        refine (nsend_any (k : Int) _ l[k] wr HN.out.1 HS5.out (by have := HN5.out; omega) (by have := HL.out; omega)).mono ?_
        rintro e w4 ⟨rfl, hq⟩
        obtain ⟨v4, u4, d4⟩ := HN.out.put hq
        have D4 := Lib.hid d4
        clear hq d4
        go_wp2_with fail
        go_roundw
        case rel => exact ⟨k + 1, v4, _, HLT.out, by go_num, D4.out, by rw [List.length_append, HL.out]; rfl, HS.out.snoc HL.out HLT.out u4 false⟩
        case measure => simp [intOf]; omega
    · have hje : k = l.length := by omega
      subst hje
      clear hlt hk
      go_wp2_with fail
      go_loopw [41] (fun i wr => ∃ (k : Nat) (vf : Value) (L : List Pc), k ≤ l.length ∧ i = .int .i64 k ∧ Nn w wr g vf L ∧ L.length + k = l.length ∧ SentIs l k L) (fun i _ => l.length - (intOf i).toNat)
      case atStart => exact ⟨0, _, _, Nat.zero_le _, rfl, HN.out, HL.out, HS.out⟩
      case round =>
        obtain ⟨j, vj, M, hj, rfl, hn, hM, hs⟩ := hrel
        have HNj := Lib.hid hn
        have HM := Lib.hid hM
        have HSj := Lib.hid hs
        clear hn hM hs
        by_cases hlt : j < l.length
        · obtain ⟨b0, o0, rfl, hb0, A5, n5, c5, hcell, hs5⟩ := HX.out j hlt
          have hck := (HNj.out.2.cell (p := ⟨b0, o0 + j, none⟩) hb0).trans hcell
          have hB0 := Lib.hid hb0
          have HS5 := Lib.hid hs5
          have HLT := Lib.hid hlt
          have hM0 : 0 < M.length := by have := HM.out; omega
          clear hs5 hcell
          go_wp2_with fail
          refine (ntake_in 0 _ HNj.out.1 hM0).mono ?_
          rintro e w5 ⟨rfl, ho5, ⟨v5, h5⟩, t5⟩
          have D5 : Hid (Nn w w5 g v5 (M.eraseIdx 0)) := Lib.hid (HNj.out.turn h5 t5)
          obtain ⟨e1, e2⟩ := HSj.out 0 M[0] (List.getElem?_eq_getElem hM0)
          rw [Nat.add_zero] at e1 e2
          have e3 : M[0].b = l[j] := by
            rw [List.getElem?_eq_getElem hlt] at e2
            exact (Option.some.inj e2).symm
          rw [e3] at ho5
          rw [e1]
          have ho5' : Ob w.heap.size w5 M[0].v l[j] := ho5
          have HMl := Lib.hid (show (M.eraseIdx 0).length + (j + 1) = l.length by rw [List.length_eraseIdx_of_lt hM0]; have := HM.out; omega)
          generalize M[0].v = vp at *
          clear e1 e2 e3 h5 t5 ho5 hM0
          obtain ⟨B5, d5, rfl⟩ := ho5'.form
          have hba : Below w5.heap.size w5 (w5.alloc (.cells #[.int .i64 j, .slice B5 l[j].length d5] 35)) := (Below.refl _ _).alloc (Nat.le_refl _) _
          have D6 := Lib.hid (D5.out.below hba)
          have q1 := bytes_str _ _ _ (ho5'.keep hba).sl
          have q2 := bytes_str _ _ _ (HS5.out.below D6.out.2)
          clear ho5' hba
          go_wp2_with fail
          · exact absurd (‹(!l[j] == l[j]) = true›) (by simp)
          go_roundw
          case rel => exact ⟨j + 1, v5, _, HLT.out, by go_num, D6.out, HMl.out, HSj.out.tail⟩
          case measure => simp [intOf]; omega
        · have hM0 : M = [] := List.eq_nil_of_length_eq_zero (by have := HM.out; omega)
          subst hM0
          go_wp2_with fail
          refine (ntake_out 0 _ HNj.out.1 (by simp)).mono ?_
          rintro e w5 ⟨rfl, hb5⟩
          have D5 := Lib.hid (HNj.out.below hb5)
          clear hb5
          have D6 := Lib.hid (D5.out.alloc (.cells #[.int .i64 0, .slice none 0 0] 35))
          go_wp2_with fail
          refine (nlen_any _ D6.out.1).mono ?_
          rintro e w' ⟨rfl, rfl⟩
          go_wp2
          go_ret
          exact ⟨rfl, D6.out.2⟩

end Go.Proofs.Ytoicncmlmhljmaa
