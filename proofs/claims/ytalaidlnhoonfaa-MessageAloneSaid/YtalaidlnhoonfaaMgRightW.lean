/-
  slices.IndexFunc and ContainsFunc at a message's events, message.rightEvents, Right: the contracts, by walks. Conditions: lengths, CutOk.
-/
import Derived.Test.YtalaidlnhoonfaaQMc
namespace Go.Proofs.Ytalaidlnhoonfaa
open Go.RowKit

/-- The question whether an event is wrong, as a value. -/
def wf (q : Nat) : Value := .func (.func 42) #[] #[.pointer (some ⟨q, 0, none⟩)]
theorem any_snoc {l : List Ev} {p : Ev → Bool} {j : Nat} {e : Ev} (h : l[j]? = some e) : (l.take (j + 1)).any p = ((l.take j).any p || p e) := by
  rw [List.take_add_one, h, List.any_append]; simp
theorem any_at {l : List Ev} {p : Ev → Bool} {j : Nat} {e : Ev} (h : l[j]? = some e) (hp : p e = true) : l.any p = true := List.any_eq_true.2 ⟨e, List.mem_of_getElem? h, hp⟩

set_option maxRecDepth 100000 in
set_option maxHeartbeats 2000000 in
theorem index_any (q : Nat) (m : Mg) (s : Value) (l : List Ev) (A : Option Addr) (N c : Nat) (w : World) (h : MB w q m s) (hs : SlK encE 27 w (.slice A N c) l) (hN : l.length = N) (hN2 : N ≤ 10000) (hl : ∀ e ∈ l, Lens e) (hw : CutOk w) :
    Calls Try.prog 72 #[.slice A N c, wf q] w fun e w' => ∃ r : Int, e = .returned (.int .i64 r) ∧ decide (0 ≤ r) = l.any (wrongB m.v) ∧ Below w.heap.size w w' := by
  have HM := Lib.hid h
  have HS := Lib.hid hs
  have HN := Lib.hid hN
  have HN2 := Lib.hid hN2
  have HL := Lib.hid hl
  have HW := Lib.hid hw
  clear h hs hN hN2 hl hw
  unfold wf
  go_enter Try.func72, Try.ntmps72
  go_wp2_with fail
  go_loopw [8] (fun v8 wr => ∃ j : Nat, v8 = .int .i64 j ∧ j ≤ N ∧ (l.take j).any (wrongB m.v) = false ∧ Below w.heap.size w wr) (fun v8 _ => N - (intOf v8).toNat)
  case atStart => exact ⟨0, rfl, Nat.zero_le _, rfl, Below.refl _ _⟩
  case round =>
    obtain ⟨j, rfl, hj, ha, hb⟩ := hrel
    obtain ⟨wo, rfl⟩ : ∃ wo, wo = wr := ⟨_, rfl⟩
    have HA := Lib.hid ha
    have HB := Lib.hid hb
    by_cases hlt : j < N
    · obtain ⟨e, he⟩ : ∃ e, l[j]? = some e := ⟨l[j]'(by rw [HN.out]; exact hlt), List.getElem?_eq_getElem _⟩
      obtain ⟨gs, o, rfl, hgl, hce⟩ := (HS.out.below hb).ev he
      have HCe := Lib.hid hce
      have HAt := Lib.hid (at_Ev gs o c N j hlt wo)
      obtain ⟨b, hbw⟩ : ∃ b, wrongB m.v e = b := ⟨_, rfl⟩
      have HQ := Lib.hid (wrong_is q m s e b hbw wo (MB.keep HM.out hb) (HL.out e (List.mem_of_getElem? he)) (HW.out.below hb))
      have HSn := Lib.hid (any_snoc (p := wrongB m.v) he)
      have HAn := Lib.hid (fun hp => any_at (p := wrongB m.v) he hp)
      have HWb := Lib.hid hbw
      have HW1 := Lib.hid (IntWalk.i64_in ((j : Int) + 1) (by have := HN2.out; omega))
      have HJ1 := Lib.hid (show ¬ 9223372036854775807 < j + 1 by have := HN2.out; omega)
      clear he hgl hce hbw ha hb
      go_wp2_with (first
        | (refine wpList_val (o := ⟨some 14, _, _, _, _, _⟩) rfl (.pointer (some ⟨gs, o + j * 27, none⟩)) wo (run_indexAddr_op rfl rfl rfl HAt.out) ?_)
        | (refine' wpList_load_midif ?q1 48 (.tmp 14) ?q2 gs (o + j * 27) ?q3 (encE e) _ ?q4 Try.underlying48 ?q5 ?q6 ?_; (case q2 => rfl); (case q1 => rfl); (case q3 => rfl); (case q4 => exact HCe.out); (case q5 => rfl); (case q6 => exact (sizeE e)))
        | fail)
      refine HQ.out.mono ?_
      rintro e' w2 ⟨rfl, hb2⟩
      have HB2 := Lib.hid (show Below w.heap.size w w2 from HB.out.trans (hb2.mono HB.out.size))
      clear hb2
      cases b
      · have hw := HW1.out
        have hjm := HJ1.out
        go_wp2
        go_roundw
        case rel => exact ⟨j + 1, by go_num, by omega, by rw [HSn.out, HA.out, HWb.out]; rfl, HB2.out⟩
        case measure => simp [intOf] <;> omega
      · go_wp2
        go_ret
        exact ⟨_, rfl, by rw [HAn.out HWb.out]; exact decide_eq_true (by omega), HB2.out⟩
    · have hjN : N = j := by omega
      subst hjN
      rw [List.take_of_length_le (Nat.le_of_eq HN.out)] at ha
      have HA2 := Lib.hid ha
      clear ha hb hj hlt HA
      go_wp2
      go_ret
      exact ⟨_, rfl, by rw [HA2.out]; rfl, HB.out⟩
set_option maxRecDepth 100000 in
theorem contains_any (q : Nat) (m : Mg) (s : Value) (l : List Ev) (A : Option Addr) (N c : Nat) (b : Bool) (hb : l.any (wrongB m.v) = b) (w : World) (h : MB w q m s) (hs : SlK encE 27 w (.slice A N c) l) (hN : l.length = N) (hN2 : N ≤ 10000) (hl : ∀ e ∈ l, Lens e) (hw : CutOk w) :
    Calls Try.prog 45 #[.slice A N c, wf q] w (Gives w (.bool b)) := by
  have HI := Lib.hid (index_any q m s l A N c w h hs hN hN2 hl hw)
  subst hb
  clear h hs hN hN2 hl hw
  unfold wf at *
  go_enter Try.func45, Try.ntmps45
  go_wp2_with fail
  refine HI.out.mono ?_
  rintro e w1 ⟨r, rfl, hr, hb⟩
  have HB := Lib.hid hb
  have HR := Lib.hid hr
  clear hr hb
  go_wp2
  go_ret
  exact ⟨by rw [← HR.out]; rfl, HB.out⟩
def evsB (m : Mg) (l : List Ev) : Bool := if m.k = 1 then decide (l.length = 0) else if m.k = 2 then decide (l.length ≤ 200) && !(l.any (wrongB m.v)) else false
def rightM (m : Mg) (l : List Ev) : Bool := repB m.f && repB m.t && (m.f != m.t) && rightV m.v && evsB m l

set_option maxRecDepth 100000 in
set_option maxHeartbeats 2000000 in
theorem revs_any (m : Mg) (l : List Ev) (A : Option Addr) (N c : Nat) (w : World) (hs : SlK encE 27 w (.slice A N c) l) (hN : l.length = N) (hN2 : N ≤ 10000) (hl : ∀ e ∈ l, Lens e) (hw : CutOk w) :
    Calls Try.prog 23 #[mV m (.slice A N c)] w (Gives w (.bool (evsB m l))) := by
  obtain ⟨p, hp⟩ : ∃ p, w.heap.size = p := ⟨_, rfl⟩
  obtain ⟨X, hX⟩ : ∃ X, X = w.alloc (.cells (mC m (.slice A N c)) 26) := ⟨_, rfl⟩
  have hbX : Below w.heap.size w X := by rw [hX]; exact (Below.refl _ _).alloc (Nat.le_refl _) _
  have hmb : MB X p m (.slice A N c) := by rw [hX, ← hp]; exact MB.new_ w m _
  have HM := Lib.hid hmb
  have c0 := hmb.at_ 0 (by decide)
  have c19 := hmb.ev
  have HS := Lib.hid (hs.below hbX)
  have HX := Lib.hid hX
  have HP := Lib.hid hp
  have HB := Lib.hid hbX
  have HN := Lib.hid hN
  have HN2 := Lib.hid hN2
  have HL := Lib.hid hl
  have HW := Lib.hid (hw.below hbX)
  have HE : Hid (evsB m l = if m.k = 1 then decide (N = 0) else if m.k = 2 then decide (N ≤ 200) && !(l.any (wrongB m.v)) else false) := Lib.hid (by unfold evsB; rw [hN])
  obtain ⟨kk, hkk⟩ : ∃ kk, m.k = kk := ⟨_, rfl⟩
  rw [show m.p 0 = m.k from rfl, hkk] at c0
  rw [hkk] at HE
  clear hX hbX hmb hp hs hN hN2 hl hw hkk
  unfold mV
  by_cases k1 : kk = 1
  · subst k1
    rw [if_pos rfl] at HE
    go_enter Try.func23, Try.ntmps23
    go_upto_region 1 with fail
    rw [← HX.out, HP.out]
    by_cases hz : N = 0
    · subst hz
      go_wp2
      go_ret
      exact ⟨by rw [HE.out]; rfl, HB.out⟩
    · have d1 : ((N : Int) == 0) = false := by rw [beq_eq_false_iff_ne]; omega
      have HZ := Lib.hid (show decide (N = 0) = false from decide_eq_false hz)
      go_wp2
      go_ret
      exact ⟨by rw [HE.out, HZ.out]; rfl, HB.out⟩
  · by_cases k2 : kk = 2
    · subst k2
      rw [if_neg (by decide), if_pos rfl] at HE
      clear k1
      obtain ⟨b, hb⟩ : ∃ b, l.any (wrongB m.v) = b := ⟨_, rfl⟩
      rw [hb] at HE
      have HQ := Lib.hid (fun W hW => contains_any p m (.slice A N c) l A N c b hb W (MB.keep HM.out hW) (HS.out.below hW) HN.out HN2.out HL.out (HW.out.below hW))
      clear hb
      unfold wf at HQ
      go_enter Try.func23, Try.ntmps23
      go_upto_region 1 with fail
      rw [← HX.out, HP.out]
      by_cases hz : N ≤ 200
      · have d1 : decide ((N : Int) ≤ 200) = true := decide_eq_true (by omega)
        have HZ := Lib.hid (show decide (N ≤ 200) = true from decide_eq_true hz)
        go_wp2_with fail
        refine (HQ.out X (Below.refl _ _)).mono ?_
        rintro e w1 ⟨rfl, hb1⟩
        have HB1 := Lib.hid (HB.out.trans (hb1.mono HB.out.size))
        clear hb1
        go_wp2
        go_ret
        exact ⟨by rw [HE.out, HZ.out]; cases b <;> rfl, HB1.out⟩
      · have d1 : decide ((N : Int) ≤ 200) = false := decide_eq_false (by omega)
        have HZ := Lib.hid (show decide (N ≤ 200) = false from decide_eq_false hz)
        go_wp2
        go_ret
        exact ⟨by rw [HE.out, HZ.out]; rfl, HB.out⟩
    · rw [if_neg k1, if_neg k2] at HE
      have d1 : (kk == 1) = false := beq_eq_false_iff_ne.2 k1
      have d2 : (kk == 2) = false := beq_eq_false_iff_ne.2 k2
      go_enter Try.func23, Try.ntmps23
      go_upto_region 1 with fail
      rw [← HX.out, HP.out]
      go_wp2
      go_ret
      exact ⟨by rw [HE.out]; rfl, HB.out⟩

theorem revs_is (m : Mg) (l : List Ev) (A : Option Addr) (N c : Nat) (b : Bool) (hb : evsB m l = b) (w : World) (hs : SlK encE 27 w (.slice A N c) l) (hN : l.length = N) (hN2 : N ≤ 10000) (hl : ∀ e ∈ l, Lens e) (hw : CutOk w) :
    Calls Try.prog 23 #[mV m (.slice A N c)] w (Gives w (.bool b)) := by subst hb; exact revs_any m l A N c w hs hN hN2 hl hw

set_option maxRecDepth 100000 in
set_option maxHeartbeats 4000000 in
theorem mright_any (m : Mg) (l : List Ev) (A : Option Addr) (N c : Nat) (w : World) (hs : SlK encE 27 w (.slice A N c) l) (hN : l.length = N) (hN2 : N ≤ 10000) (hl : ∀ e ∈ l, Lens e) (hw : CutOk w) :
    Calls Try.prog 11 #[mV m (.slice A N c)] w (Gives w (.int .i64 (codeI (rightM m l)))) := by
  obtain ⟨p, hp⟩ : ∃ p, w.heap.size = p := ⟨_, rfl⟩
  obtain ⟨X, hX⟩ : ∃ X, X = w.alloc (.cells (mC m (.slice A N c)) 26) := ⟨_, rfl⟩
  have hbX : Below w.heap.size w X := by rw [hX]; exact (Below.refl _ _).alloc (Nat.le_refl _) _
  have HM := Lib.hid (show MB X p m (.slice A N c) by rw [hX, ← hp]; exact MB.new_ w m _)
  have HX := Lib.hid hX
  have HP := Lib.hid hp
  have HB := Lib.hid hbX
  have HQ := Lib.hid (fun b hb W hW => revs_is m l A N c b hb W ((hs.below hbX).below hW) hN hN2 hl ((hw.below hbX).below hW))
  have HV := Lib.hid (vright_is m.v)
  have HE : Hid (rightM m l = (repB m.f && repB m.t && (m.f != m.t) && rightV m.v && evsB m l)) := Lib.hid rfl
  have HF := Lib.hid (rep_is m.f)
  have HT := Lib.hid (rep_is m.t)
  clear hX hbX hp hs hN hN2 hl hw
  unfold mV at *
  cases hf : repB m.f
  · rw [hf] at HE
    have HF' := Lib.hid (HF.out false hf)
    clear hf HF
    go_enter Try.func11, Try.ntmps11
    go_upto_region 1 with fail
    rw [← HX.out, HP.out]
    have c1 := (MB.at_ HM.out 1 (by decide))
    rw [show m.p 1 = m.f from rfl] at c1
    go_wp2_with fail
    clear c1
    refine (HF'.out _).mono ?_
    rintro e w1 ⟨rfl, hb⟩
    have HM1 := Lib.hid (MB.keep HM.out hb)
    have HB1 := Lib.hid (HB.out.trans (hb.mono HB.out.size))
    have HY1 := Lib.hid hb
    clear hb
    go_wp2
    go_ret
    exact ⟨by rw [HE.out]; rfl, HB1.out⟩
  · rw [hf] at HE
    have HF' := Lib.hid (HF.out true hf)
    clear hf HF
    cases ht : repB m.t
    · rw [ht] at HE
      have HT' := Lib.hid (HT.out false ht)
      clear ht HT
      go_enter Try.func11, Try.ntmps11
      go_upto_region 1 with fail
      rw [← HX.out, HP.out]
      have c1 := (MB.at_ HM.out 1 (by decide))
      rw [show m.p 1 = m.f from rfl] at c1
      go_wp2_with fail
      clear c1
      refine (HF'.out _).mono ?_
      rintro e w1 ⟨rfl, hb⟩
      have HM1 := Lib.hid (MB.keep HM.out hb)
      have HB1 := Lib.hid (HB.out.trans (hb.mono HB.out.size))
      have HY1 := Lib.hid hb
      clear hb
      have c2 := (MB.at_ HM1.out 2 (by decide))
      rw [show m.p 2 = m.t from rfl] at c2
      go_wp2_with fail
      clear c2
      refine (HT'.out _).mono ?_
      rintro e w2 ⟨rfl, hb⟩
      have HM2 := Lib.hid (MB.keep HM1.out hb)
      have HB2 := Lib.hid (HB1.out.trans (hb.mono HB1.out.size))
      have HY2 := Lib.hid (HY1.out.trans (hb.mono HY1.out.size))
      clear hb
      go_wp2
      go_ret
      exact ⟨by rw [HE.out]; rfl, HB2.out⟩
    · rw [ht] at HE
      have HT' := Lib.hid (HT.out true ht)
      clear ht HT
      by_cases hn : m.f = m.t
      · have d1 : (m.f == m.t) = true := by rw [beq_iff_eq]; exact hn
        have d2 : (m.f != m.t) = false := by rw [bne, d1]; rfl
        rw [d2] at HE
        clear hn
        go_enter Try.func11, Try.ntmps11
        go_upto_region 1 with fail
        rw [← HX.out, HP.out]
        have c1 := (MB.at_ HM.out 1 (by decide))
        rw [show m.p 1 = m.f from rfl] at c1
        go_wp2_with fail
        clear c1
        refine (HF'.out _).mono ?_
        rintro e w1 ⟨rfl, hb⟩
        have HM1 := Lib.hid (MB.keep HM.out hb)
        have HB1 := Lib.hid (HB.out.trans (hb.mono HB.out.size))
        have HY1 := Lib.hid hb
        clear hb
        have c2 := (MB.at_ HM1.out 2 (by decide))
        rw [show m.p 2 = m.t from rfl] at c2
        go_wp2_with fail
        clear c2
        refine (HT'.out _).mono ?_
        rintro e w2 ⟨rfl, hb⟩
        have HM2 := Lib.hid (MB.keep HM1.out hb)
        have HB2 := Lib.hid (HB1.out.trans (hb.mono HB1.out.size))
        have HY2 := Lib.hid (HY1.out.trans (hb.mono HY1.out.size))
        clear hb
        have c1 := (MB.at_ HM2.out 1 (by decide))
        rw [show m.p 1 = m.f from rfl] at c1
        have c2 := (MB.at_ HM2.out 2 (by decide))
        rw [show m.p 2 = m.t from rfl] at c2
        go_wp2
        go_ret
        exact ⟨by rw [HE.out]; rfl, HB2.out⟩
      · have d1 : (m.f == m.t) = false := by rw [beq_eq_false_iff_ne]; exact hn
        have d2 : (m.f != m.t) = true := by rw [bne, d1]; rfl
        rw [d2] at HE
        clear hn
        cases hv : rightV m.v
        · rw [hv] at HE
          have HV' := Lib.hid (HV.out false hv)
          clear hv HV
          go_enter Try.func11, Try.ntmps11
          go_upto_region 1 with fail
          rw [← HX.out, HP.out]
          have c1 := (MB.at_ HM.out 1 (by decide))
          rw [show m.p 1 = m.f from rfl] at c1
          go_wp2_with fail
          clear c1
          refine (HF'.out _).mono ?_
          rintro e w1 ⟨rfl, hb⟩
          have HM1 := Lib.hid (MB.keep HM.out hb)
          have HB1 := Lib.hid (HB.out.trans (hb.mono HB.out.size))
          have HY1 := Lib.hid hb
          clear hb
          have c2 := (MB.at_ HM1.out 2 (by decide))
          rw [show m.p 2 = m.t from rfl] at c2
          go_wp2_with fail
          clear c2
          refine (HT'.out _).mono ?_
          rintro e w2 ⟨rfl, hb⟩
          have HM2 := Lib.hid (MB.keep HM1.out hb)
          have HB2 := Lib.hid (HB1.out.trans (hb.mono HB1.out.size))
          have HY2 := Lib.hid (HY1.out.trans (hb.mono HY1.out.size))
          clear hb
          have c1 := (MB.at_ HM2.out 1 (by decide))
          rw [show m.p 1 = m.f from rfl] at c1
          have c2 := (MB.at_ HM2.out 2 (by decide))
          rw [show m.p 2 = m.t from rfl] at c2
          go_wp2_with (first
            | (refine wpList_load_midif rfl 23 (.tmp 22) rfl p 3 rfl _ _ HM2.out.vec Try.underlying23 rfl (by kernel_rfl) ?_)
            | fail)
          clear c1 c2
          refine (HV'.out _).mono ?_
          rintro e w3 ⟨rfl, hb⟩
          have HM3 := Lib.hid (MB.keep HM2.out hb)
          have HB3 := Lib.hid (HB2.out.trans (hb.mono HB2.out.size))
          have HY3 := Lib.hid (HY2.out.trans (hb.mono HY2.out.size))
          clear hb
          go_wp2
          go_ret
          exact ⟨by rw [HE.out]; rfl, HB3.out⟩
        · rw [hv] at HE
          have HV' := Lib.hid (HV.out true hv)
          clear hv HV
          cases he : evsB m l
          · rw [he] at HE
            have HQ' := Lib.hid (HQ.out false he)
            clear he HQ
            go_enter Try.func11, Try.ntmps11
            go_upto_region 1 with fail
            rw [← HX.out, HP.out]
            have c1 := (MB.at_ HM.out 1 (by decide))
            rw [show m.p 1 = m.f from rfl] at c1
            go_wp2_with fail
            clear c1
            refine (HF'.out _).mono ?_
            rintro e w1 ⟨rfl, hb⟩
            have HM1 := Lib.hid (MB.keep HM.out hb)
            have HB1 := Lib.hid (HB.out.trans (hb.mono HB.out.size))
            have HY1 := Lib.hid hb
            clear hb
            have c2 := (MB.at_ HM1.out 2 (by decide))
            rw [show m.p 2 = m.t from rfl] at c2
            go_wp2_with fail
            clear c2
            refine (HT'.out _).mono ?_
            rintro e w2 ⟨rfl, hb⟩
            have HM2 := Lib.hid (MB.keep HM1.out hb)
            have HB2 := Lib.hid (HB1.out.trans (hb.mono HB1.out.size))
            have HY2 := Lib.hid (HY1.out.trans (hb.mono HY1.out.size))
            clear hb
            have c1 := (MB.at_ HM2.out 1 (by decide))
            rw [show m.p 1 = m.f from rfl] at c1
            have c2 := (MB.at_ HM2.out 2 (by decide))
            rw [show m.p 2 = m.t from rfl] at c2
            go_wp2_with (first
              | (refine wpList_load_midif rfl 23 (.tmp 22) rfl p 3 rfl _ _ HM2.out.vec Try.underlying23 rfl (by kernel_rfl) ?_)
              | fail)
            clear c1 c2
            refine (HV'.out _).mono ?_
            rintro e w3 ⟨rfl, hb⟩
            have HM3 := Lib.hid (MB.keep HM2.out hb)
            have HB3 := Lib.hid (HB2.out.trans (hb.mono HB2.out.size))
            have HY3 := Lib.hid (HY2.out.trans (hb.mono HY2.out.size))
            clear hb
            go_wp2_with (first
              | (refine wpList_load_if rfl 26 (.tmp 1) rfl p rfl _ _ _ _ HM3.out Try.underlying26 rfl (sizeM m _) ?_)
              | fail)
            refine (HQ'.out _ HY3.out).mono ?_
            rintro e w4 ⟨rfl, hb⟩
            have HB4 := Lib.hid (HB3.out.trans (hb.mono HB3.out.size))
            clear hb
            go_wp2
            go_ret
            exact ⟨by rw [HE.out]; rfl, HB4.out⟩
          · rw [he] at HE
            have HQ' := Lib.hid (HQ.out true he)
            clear he HQ
            go_enter Try.func11, Try.ntmps11
            go_upto_region 1 with fail
            rw [← HX.out, HP.out]
            have c1 := (MB.at_ HM.out 1 (by decide))
            rw [show m.p 1 = m.f from rfl] at c1
            go_wp2_with fail
            clear c1
            refine (HF'.out _).mono ?_
            rintro e w1 ⟨rfl, hb⟩
            have HM1 := Lib.hid (MB.keep HM.out hb)
            have HB1 := Lib.hid (HB.out.trans (hb.mono HB.out.size))
            have HY1 := Lib.hid hb
            clear hb
            have c2 := (MB.at_ HM1.out 2 (by decide))
            rw [show m.p 2 = m.t from rfl] at c2
            go_wp2_with fail
            clear c2
            refine (HT'.out _).mono ?_
            rintro e w2 ⟨rfl, hb⟩
            have HM2 := Lib.hid (MB.keep HM1.out hb)
            have HB2 := Lib.hid (HB1.out.trans (hb.mono HB1.out.size))
            have HY2 := Lib.hid (HY1.out.trans (hb.mono HY1.out.size))
            clear hb
            have c1 := (MB.at_ HM2.out 1 (by decide))
            rw [show m.p 1 = m.f from rfl] at c1
            have c2 := (MB.at_ HM2.out 2 (by decide))
            rw [show m.p 2 = m.t from rfl] at c2
            go_wp2_with (first
              | (refine wpList_load_midif rfl 23 (.tmp 22) rfl p 3 rfl _ _ HM2.out.vec Try.underlying23 rfl (by kernel_rfl) ?_)
              | fail)
            clear c1 c2
            refine (HV'.out _).mono ?_
            rintro e w3 ⟨rfl, hb⟩
            have HM3 := Lib.hid (MB.keep HM2.out hb)
            have HB3 := Lib.hid (HB2.out.trans (hb.mono HB2.out.size))
            have HY3 := Lib.hid (HY2.out.trans (hb.mono HY2.out.size))
            clear hb
            go_wp2_with (first
              | (refine wpList_load_if rfl 26 (.tmp 1) rfl p rfl _ _ _ _ HM3.out Try.underlying26 rfl (sizeM m _) ?_)
              | fail)
            refine (HQ'.out _ HY3.out).mono ?_
            rintro e w4 ⟨rfl, hb⟩
            have HB4 := Lib.hid (HB3.out.trans (hb.mono HB3.out.size))
            clear hb
            go_wp2
            go_ret
            exact ⟨by rw [HE.out]; rfl, HB4.out⟩

end Go.Proofs.Ytalaidlnhoonfaa
