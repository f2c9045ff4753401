/-
  buffer.lacks: the contract, by a walk. Conditions: lengths.
-/
import Derived.Test.YtbhckfkjbeocoaaBfStable
namespace Go.Proofs.Ytbhckfkjbeocoaa
open Go.RowKit

theorem knows_isB (f : Nat → Int) (r c : Int) (b : Bool) (h : knowsB f r c = b) (w : World) : Calls Try.prog 15 #[.agg (vA f), .agg #[.int .i64 r, .int .i64 c]] w fun e w' => e = .returned (.bool b) ∧ Below w.heap.size w w' := by
  have := knows_any f r c w; rw [h] at this; exact this
/-- Those that a vector doesn't know. -/
def lackL (f : Nat → Int) (l : List Ev) : List Ev := l.filter fun e => !knowsB f e.r e.c
theorem lack_next {f : Nat → Int} {l : List Ev} {j : Nat} {e : Ev} (h : l[j]? = some e) : lackL f (l.take (j + 1)) = lackL f (l.take j) ++ (if knowsB f e.r e.c then [] else [e]) := by
  unfold lackL
  rw [List.take_add_one, h, List.filter_append]
  congr 1
  cases hk : knowsB f e.r e.c <;> simp [hk]

set_option maxRecDepth 100000 in
set_option maxHeartbeats 2000000 in
theorem lacks_any (l : List Ev) (A : Option Addr) (N c : Nat) (f : Nat → Int) (M : Int) (w : World) (hM : (N : Int) ≤ M) (hs : SlK encE 27 w (.slice A N c) l) (hN : l.length = N) (hN2 : N ≤ 10000) :
    Calls Try.prog 17 #[.agg (vA f), .slice A N c, .int .i64 M] w fun x w' => ∃ v, x = .returned v ∧ OwnK encE w.heap.size 35 27 w' v (lackL f l) ∧ Below w.heap.size w w' := by
  obtain ⟨p, hp⟩ : ∃ p, w.heap.size = p := ⟨_, rfl⟩
  have HP := Lib.hid hp
  have HS := Lib.hid hs
  have HN := Lib.hid hN
  have HN2 := Lib.hid hN2
  have HZe := Lib.hid (zero_of_info zeroE).1
  have HM := Lib.hid hM
  clear hp hs hN hN2 hM
  go_enter Try.func17, Try.ntmps17
  go_wp2_with fail
  rw [HP.out]
  obtain ⟨X, hX⟩ : ∃ X, X = w.alloc (.cells (vA f) 27) := ⟨_, rfl⟩
  have HV0 := Lib.hid (show VB X p f by rw [hX, ← HP.out]; exact VB.new_ f rfl)
  have HY := Lib.hid (show Below p w X by rw [hX]; exact (Below.refl _ _).alloc (by rw [HP.out]; exact Nat.le_refl _) _)
  rw [← hX]
  clear hX
  go_loopw [7, 12] (fun v5 v10 wr => ∃ j : Nat, v10 = .int .i64 j ∧ j ≤ N ∧ OwnK encE p 35 27 wr v5 (lackL f (l.take j)) ∧ VB wr p f ∧ Below p w wr) (fun _ v10 _ => N - (intOf v10).toNat)
  case atStart => exact ⟨0, rfl, Nat.zero_le _, OwnK.nil_ _ _ _ _ _, HV0.out, HY.out⟩
  case round =>
    obtain ⟨j, rfl, hj, ho, hv, hbw⟩ := hrel
    obtain ⟨wo, rfl⟩ : ∃ wo, wo = wr := ⟨_, rfl⟩
    have HO := Lib.hid ho
    have hoo := ho
    have HV := Lib.hid hv
    have HBw := Lib.hid hbw
    clear ho hv hbw HY HV0
    by_cases hlt : j < N
    · obtain ⟨e, he⟩ : ∃ e, l[j]? = some e := ⟨l[j]'(by rw [HN.out]; exact hlt), List.getElem?_eq_getElem _⟩
      have hSw : SlK encE 27 wo (.slice A N c) l := HS.out.below (by rw [HP.out]; exact HBw.out)
      obtain ⟨g, o, rfl, hgl, hce⟩ := hSw.ev he
      have HCe := Lib.hid hce
      have HAt := Lib.hid (at_Ev g o c N j hlt wo)
      have HNx := Lib.hid (lack_next (f := f) he)
      have HAl := Lib.hid fun c => World.setRow_alloc_new wo (evC ev0) c 35
      have HZz := Lib.hid (show Blk (wo.alloc (.cells (evC ev0) 35)) wo.heap.size 35 (evC ev0) from Blk.new _ _ _)
      obtain ⟨X, hX⟩ : ∃ X, X = wo.alloc (.cells (evC e) 35) := ⟨_, rfl⟩
      have hbX : Below wo.heap.size wo X := by rw [hX]; exact (Below.refl _ _).alloc (Nat.le_refl _) _
      have hBX : EB X wo.heap.size e := by rw [hX]; exact Blk.new _ _ _
      have hpw : p ≤ wo.heap.size := by have := HBw.out.size; have := HP.out; omega
      have HXe := Lib.hid hX
      have HBX := Lib.hid hBX
      have HbX := Lib.hid (HBw.out.trans (hbX.mono hpw))
      have HVX := Lib.hid (VB.keep HV.out hbX)
      have HOX := Lib.hid (HO.out.keep hbX)
      have HpX := Lib.hid (Nat.le_trans hpw hbX.size)
      have hll : (lackL f (l.take j)).length ≤ 10000 := by
        have h1 : (lackL f (l.take j)).length ≤ (l.take j).length := List.length_filter_le _ _
        have h2 := List.length_take_le j l
        have h3 := HN2.out
        omega
      have HLl := Lib.hid hll
      obtain ⟨Ao, co, hvo, _, _⟩ := hoo.read encE_len
      have hmm : ¬ M ≤ ((lackL f (l.take j)).length : Int) := by
        have h1 : (lackL f (l.take j)).length ≤ (l.take j).length := List.length_filter_le _ _
        have h2 : (l.take j).length ≤ j := by simp; omega
        have h3 := HM.out
        omega
      have HMM := Lib.hid hmm
      clear hmm hoo
      subst hvo
      obtain ⟨nl, hnl⟩ : ∃ nl, (lackL f (l.take j)).length = nl := ⟨_, rfl⟩
      have HNL := Lib.hid hnl
      rw [hnl] at HO HOX HMM ⊢
      clear hnl
      clear hX hbX hBX hce hgl he hpw hSw HO HV hll
      have hw := IntWalk.i64_in ((j : Int) + 1) (by have := HN2.out; omega)
      have hjm : ¬ 9223372036854775807 < j + 1 := by have := HN2.out; omega
      have HJ1 := Lib.hid hjm
      have HW1 := Lib.hid hw
      clear hw hjm
      have hz := HZe.out
      have hmm := HMM.out
      go_wp2_with (first
        | (refine wpList_val (o := ⟨some 14, _, _, _, _, _⟩) rfl (.pointer (some ⟨g, o + j * 27, none⟩)) wo (run_indexAddr_op rfl rfl rfl HAt.out) ?_)
        | (refine' wpList_load_midif ?q1 35 (.tmp 14) ?q2 g (o + j * 27) ?q3 (encE e) _ ?q4 Try.underlying35 ?q5 ?q6 ?_; (case q2 => rfl); (case q1 => rfl); (case q3 => rfl); (case q4 => exact HCe.out); (case q5 => rfl); (case q6 => exact (sizeE e)))
        | (refine wpList_store_row (o := ⟨none, _, _, _, _, _⟩) rfl 35 (.tmp 9) (.tmp 15) rfl wo.heap.size (evC e) rfl rfl _ _ HZz.out (sizeE e) rfl (by kernel_rfl) ?_; rw [HAl.out, ← HXe.out])
        | (refine' wpList_load_if ?q1 27 (.tmp 3) ?q2 p ?q3 _ _ _ _ ?q4 Try.underlying27 ?q5 ?q6 ?_; (case q2 => rfl); (case q1 => rfl); (case q3 => rfl); (case q4 => exact HVX.out); (case q5 => rfl); (case q6 => exact (sizeV _)))
        | (refine' wpList_load_midif ?q1 29 (.tmp 22) ?q2 wo.heap.size 0 ?q3 _ _ ?q4 Try.underlying29 ?q5 ?q6 ?_; (case q2 => rfl); (case q1 => rfl); (case q3 => rfl); (case q4 => exact HBX.out.dot); (case q5 => rfl); (case q6 => exact (by kernel_rfl)))
        | fail)
      clear hz hmm
      cases hk : knowsB f e.r e.c
      · refine (knows_isB f e.r e.c false hk X).mono ?_
        rintro x w2 ⟨rfl, hb⟩
        rw [hk] at HNx
        clear hk
        have hE2 := EB.keep HBX.out hb
        have hO2 := HOX.out.keep hb
        have hV2 := VB.keep HVX.out hb
        have hp2 : p ≤ w2.heap.size := Nat.le_trans HpX.out hb.size
        have hB2 := HbX.out.trans (hb.mono HpX.out)
        have hba : Below w2.heap.size w2 (w2.alloc (.cells (evC e) 35)) := (Below.refl _ _).alloc (Nat.le_refl _) _
        have hsl : SlK encE 27 (w2.alloc (.cells (evC e) 35)) (.slice (some ⟨w2.heap.size, 0, none⟩) 1 1) [e] := ⟨_, _, rfl, Nat.le_refl _, fun _ => ⟨w2.heap.size, 0, rfl, by simp, fun q y hq => by
          have hq0 : q = 0 := by have := (List.getElem?_eq_some_iff.1 hq).1; simp at this; exact this
          subst hq0
          have hy : y = e := by simpa using hq.symm
          subst hy
          intro i u hu
          rw [Blk.cell (Blk.new w2 _ _)]
          simpa [encE] using hu⟩⟩
        obtain ⟨u', w3, hr3, ho3, hg3⟩ := append_ev p (w2.alloc (.cells (evC e) 35)) (.slice Ao nl co) _ (hO2.keep hba) _ [e] hsl (by have := HLl.out; simp; omega) (Nat.le_trans hp2 hba.size)
        have HA := Lib.hid hr3
        have hne := own_ne_blk (hO2.keep hba) (VB.keep hV2 hba) (by decide)
        have HV3 := Lib.hid (show VB w3 p f from (hg3.block p (Nat.lt_of_lt_of_le (Blk.lt hV2) hba.size) (fun h => hne h.symm)).trans (VB.keep hV2 hba))
        have HO3 := Lib.hid ho3
        have HB3 := Lib.hid ((hB2.trans (hba.mono hp2)).grown hg3 (Nat.le_trans hp2 hba.size) (fun q hq => (hO2.lt q hq).1))
        have HE2 := Lib.hid hE2
        clear hb hE2 hO2 hV2 hp2 hB2 hba hsl hr3 ho3 hg3 hne
        have hjm := HJ1.out
        have hw := HW1.out
        go_wp2_with (first
          | (refine' wpList_load_if ?q1 35 (.tmp 9) ?q2 wo.heap.size ?q3 _ _ _ _ ?q4 Try.underlying35 ?q5 ?q6 ?_; (case q2 => rfl); (case q1 => rfl); (case q3 => rfl); (case q4 => exact HE2.out); (case q5 => rfl); (case q6 => exact (sizeE e)))
          | (refine wpList_val (o := ⟨some 28, _, _, _, _, _⟩) rfl (.slice (some ⟨w2.heap.size, 0, none⟩) 1 1) (w2.alloc (.cells (evC e) 35)) (run_bsEv_op e w2 rfl rfl) ?_)
          | (at_builtin; refine Lib.wpList_append_run (o := ⟨some 29, _, _, _, _, _⟩) _ rfl _ _ _ _ rfl _ _ rfl rfl _ _ HA.out ?_)
          | fail)
        go_roundw
        case rel => exact ⟨j + 1, by go_num, by omega, by rw [HNx.out]; exact HO3.out, HV3.out, HB3.out⟩
        case measure => simp [intOf] <;> omega
      · refine (knows_isB f e.r e.c true hk X).mono ?_
        rintro x w2 ⟨rfl, hb⟩
        rw [hk] at HNx
        clear hk
        have HO2 := Lib.hid (HOX.out.keep hb)
        have HV2 := Lib.hid (VB.keep HVX.out hb)
        have HB2 := Lib.hid (HbX.out.trans (hb.mono HpX.out))
        clear hb
        have hjm := HJ1.out
        have hw := HW1.out
        go_wp2
        go_roundw
        case rel => exact ⟨j + 1, by go_num, by omega, by rw [HNx.out, if_pos trivial, List.append_nil]; exact HO2.out, HV2.out, HB2.out⟩
        case measure => simp [intOf] <;> omega
    · have hjN : j = N := by omega
      subst hjN
      rw [List.take_of_length_le (Nat.le_of_eq HN.out)] at HO
      go_wp2
      go_ret
      exact ⟨_, rfl, by rw [HP.out]; exact HO.out, by rw [HP.out]; exact HBw.out⟩


end Go.Proofs.Ytbhckfkjbeocoaa
