/-
  message.laid: the contract, by a walk. Conditions: lengths.
-/
import Derived.Test.YtalaidlnhoonfaaQMb
import Derived.Test.YtalaidlnhoonfaaQMh
import Derived.Laws.OwnMore
namespace Go.Proofs.Ytalaidlnhoonfaa
open Go.RowKit

/-- The bytes of a message's first numbers. -/
def payP (m : Mg) (k : Nat) : List UInt8 := (List.range k).flatMap fun i => putB (m.p i)
def payE (m : Mg) (n : Nat) (l : List Ev) : List UInt8 := payP m 19 ++ putB n ++ l.flatMap bytesE
def payB (m : Mg) (l : List Ev) : List UInt8 := payE m l.length l
theorem payP_next (m : Mg) (k : Nat) : payP m (k + 1) = payP m k ++ putB (m.p k) := by simp [payP, List.range_succ]
theorem payP_len (m : Mg) : ∀ k, (payP m k).length ≤ 9 * k
  | 0 => by simp [payP]
  | k + 1 => by
    rw [payP_next, List.length_append]
    have := payP_len m k
    have := putB_len (m.p k)
    omega
theorem bytesE_le (e : Ev) (hl : Lens e) : (bytesE e).length ≤ 21474836700 := by
  obtain ⟨_, _, _, _, _, _, _, _, _, _, m11⟩ := b_len e hl
  have := txtB_len e.t
  have := hl.2.2.2.2
  unfold bytesE
  rw [List.length_append]
  omega
theorem flatE_le : ∀ (l : List Ev), (∀ e ∈ l, Lens e) → (l.flatMap bytesE).length ≤ l.length * 21474836700
  | [], _ => by simp
  | e :: l, h => by
    have h1 := flatE_le l fun f hf => h f (List.mem_cons_of_mem _ hf)
    have h2 := bytesE_le e (h e List.mem_cons_self)
    rw [List.flatMap_cons, List.length_append, List.length_cons, Nat.add_mul]
    omega
theorem payE_next {m : Mg} {n : Nat} {l : List Ev} {j : Nat} {e : Ev} (h : l[j]? = some e) : payE m n (l.take (j + 1)) = payE m n (l.take j) ++ bytesE e := by
  unfold payE
  rw [List.take_add_one, h, List.flatMap_append, List.append_assoc, List.append_assoc, List.append_assoc]
  simp
theorem payE_len (m : Mg) (n : Nat) (l : List Ev) (h : ∀ e ∈ l, Lens e) : (payE m n l).length ≤ 180 + l.length * 21474836700 := by
  unfold payE
  have h1 := payP_len m 19
  have h2 := putB_len n
  have h3 := flatE_le l h
  simp only [List.length_append]
  omega
theorem at_Pt (g c n k : Nat) (h : k < n) (w : World) : (Instr.indexAt 71 (.slice (some ⟨g, 0, none⟩) n c) (.int .i64 k)).run Try.prog w = .ok (.pointer (some ⟨g, k, none⟩)) w := by
  have h2 : (k : Int) < n := by omega
  go_simp
theorem ptrL_at (g n i : Nat) (h : i < n) : (ptrL g n)[i]? = some (pf g i) := by simp [ptrL, h]
theorem own_row {w : World} {B n : Nat} {e : TypeId} {v : Value} {xs : List Value} (h : w.ownsRow B e 1 v n xs) (hn : 0 < n) : ∃ g c, v = .slice (some ⟨g, 0, none⟩) n c ∧ g < w.heap.size := by
  rcases h.2 with ⟨_, h0⟩ | ⟨g, cap, cur, rfl, _, hg, _⟩
  · omega
  · exact ⟨g, cap, rfl, (Array.getElem?_eq_some_iff.1 hg).1⟩
theorem infoU : (Try.prog.info? 5).map (fun i => (i.zero, i.size, i.bytes)) = some (some (.int .u8 0), 1, 1) := by kernel_rfl
/-- append of bytes onto a row of the call's own. -/
theorem append_bytes (R : Nat) (w : World) (v : Value) (l : List UInt8) (h : w.ownsRow R 5 1 v l.length (bs l)) (v2 : Value) (m : List UInt8) (h2 : Sl bv w v2 m) (hn : l.length + m.length ≤ 140737488355328) (hR : R ≤ w.heap.size) :
    ∃ v' w', (Builtin.append_ #[29, 29] 29 #[v, v2]).run Try.prog w = .ok v' w' ∧ w'.ownsRow R 5 1 v' (l ++ m).length (bs (l ++ m)) ∧ w.grownBy w' v.ownBlock := by
  obtain ⟨i0, hi, hz0, hz1, hz2⟩ := info_parts infoU
  obtain ⟨v', w', hr, ho, hg⟩ := run_append_sl (P := Try.prog) w R 29 29 5 i0 _ 1 Try.underlying29 hi hz0 hz1 hz2 rfl v l.length _ h v2 m h2 (fun _ => rfl) (by omega) (by omega) hR
  refine ⟨v', w', hr, ?_, hg⟩
  rw [bs_append, List.length_append]
  exact ho

set_option maxRecDepth 100000 in
set_option maxHeartbeats 4000000 in
theorem mlaid_any (m : Mg) (l : List Ev) (A : Option Addr) (N c : Nat) (w : World) (hs : SlK encE 27 w (.slice A N c) l) (hN : l.length = N) (hN2 : N ≤ 1000) (hl : ∀ e ∈ l, Lens e) :
    Calls Try.prog 19 #[mV m (.slice A N c)] w (Makes w (payB m l)) := by
  obtain ⟨p, hp⟩ : ∃ p, w.heap.size = p := ⟨_, rfl⟩
  obtain ⟨X, hX⟩ : ∃ X, X = w.alloc (.cells (mC m (.slice A N c)) 26) := ⟨_, rfl⟩
  have hbX : Below w.heap.size w X := by rw [hX]; exact (Below.refl _ _).alloc (Nat.le_refl _) _
  have HM := Lib.hid (show MB X p m (.slice A N c) by rw [hX, ← hp]; exact MB.new_ w m _)
  have HS0 := Lib.hid hs
  have HX := Lib.hid hX
  have HP := Lib.hid hp
  have HB := Lib.hid hbX
  have HN := Lib.hid hN
  have HN2 := Lib.hid hN2
  have HL := Lib.hid hl
  have HPB : Hid (payB m l = payE m N (l.take N)) := Lib.hid (by rw [List.take_of_length_le (Nat.le_of_eq hN), ← hN]; rfl)
  have HZe := Lib.hid (zero_of_info zeroE).1
  unfold Makes
  rw [hp]
  clear hX hbX hp hs hN hN2 hl
  unfold mV
  go_enter Try.func19, Try.ntmps19
  go_upto_region 1 with fail
  rw [← HX.out, HP.out]
  go_wp2_with fail
  refine (parts_any p X).mono ?_
  rintro e w1 ⟨v8, rfl, ho8, hb1⟩
  obtain ⟨g8, c8, rfl, hg8⟩ := own_row ho8 (by decide)
  have HPt := Lib.hid (show ∀ (W : World), Below w1.heap.size w1 W → ∀ i, i < 19 → W.cell? ⟨g8, i, none⟩ = some (.pointer (some ⟨p, i, none⟩)) from fun W h i hi => (h.cell (p := ⟨g8, i, none⟩) hg8).trans ((World.ownsRow.cellAt ho8 i (by omega)).trans (ptrL_at p 19 i hi)))
  have HM1 := Lib.hid (MB.keep HM.out hb1)
  have HB1 := Lib.hid (HB.out.trans (hb1.mono HB.out.size))
  have HP1 := Lib.hid (show p ≤ w1.heap.size by have := HB1.out.size; have := HP.out; omega)
  clear ho8 hg8 hb1
  go_wp2_with fail
  go_loopw [3, 10] (fun v3 v10 wr => ∃ k : Nat, v10 = .int .i64 k ∧ k ≤ 19 ∧ wr.ownsRow p 5 1 v3 (payP m k).length (bs (payP m k)) ∧ Below w1.heap.size w1 wr) (fun _ v10 _ => 19 - (intOf v10).toNat)
  case atStart => exact ⟨0, rfl, Nat.zero_le _, World.ownsRow_nil _ _ _ _, Below.refl _ _⟩
  case round =>
    obtain ⟨k, rfl, hk, ho, hb⟩ := hrel
    obtain ⟨wo, rfl⟩ : ∃ wo, wo = wr := ⟨_, rfl⟩
    by_cases hlt : k < 19
    · have HO := Lib.hid ho
      have HBo := Lib.hid hb
      have hc1 := HPt.out wo hb k hlt
      have hc2 : wo.cell? ⟨p, k, none⟩ = some (.int .i64 (m.p k)) := (MB.keep HM1.out hb).at_ k hlt
      have HAt := Lib.hid (at_Pt g8 c8 19 k hlt wo)
      have HLn := Lib.hid (show (payP m k).length ≤ 140737488350000 by have := payP_len m k; omega)
      clear ho hb
      go_wp2_with (first
        | (refine wpList_val (o := ⟨some 12, _, _, _, _, _⟩) rfl (.pointer (some ⟨g8, k, none⟩)) wo (run_indexAddr_op rfl rfl rfl HAt.out) ?_)
        | fail)
      refine (put_any _ (payP m k) (m.p k) wo (Sl.of_own HO.out) HLn.out).mono ?_
      rintro e w2 ⟨v', rfl, ho2, hb2⟩
      rw [← payP_next] at ho2
      have HO2 := Lib.hid (own_baseP ho2 (show p ≤ wo.heap.size by have := HP1.out; have := HBo.out.size; omega))
      have HB2 := Lib.hid (show Below w1.heap.size w1 w2 from HBo.out.trans (hb2.mono HBo.out.size))
      have hw := IntWalk.i64_in ((k : Int) + 1) (by omega)
      have hjm : ¬ 9223372036854775807 < k + 1 := by omega
      clear hc1 hc2 ho2 hb2
      go_wp2
      go_roundw
      case rel => exact ⟨k + 1, by go_num, by omega, HO2.out, HB2.out⟩
      case measure => simp [intOf] <;> omega
    · have hkN : k = 19 := by omega
      subst hkN
      have HO := Lib.hid ho
      have HBo := Lib.hid hb
      have hc1 : wo.cell? ⟨p, 19, none⟩ = some (.slice A N c) := (MB.keep HM1.out hb).ev
      have HLn := Lib.hid (show (payP m 19).length ≤ 140737488350000 by have := payP_len m 19; omega)
      clear ho hb hlt hk
      go_wp2_with fail
      refine (put_any _ (payP m 19) N wo (Sl.of_own HO.out) HLn.out).mono ?_
      rintro e w2 ⟨v', rfl, ho2, hb2⟩
      have hpe : payP m 19 ++ putB (N : Int) = payE m N (l.take 0) := by unfold payE; simp
      rw [hpe] at ho2
      have HO2 := Lib.hid (own_baseP ho2 (show p ≤ wo.heap.size by have := HP1.out; have := HBo.out.size; omega))
      have HB2 := Lib.hid (show Below w1.heap.size w1 w2 from HBo.out.trans (hb2.mono HBo.out.size))
      have hc1 : w2.cell? ⟨p, 19, none⟩ = some (.slice A N c) := (MB.keep HM1.out HB2.out).ev
      clear ho2 hb2 hpe
      go_wp2_with fail
      clear hc1
      go_loopw [3, 28] (fun v3 v28 wr => ∃ j : Nat, v28 = .int .i64 j ∧ j ≤ N ∧ wr.ownsRow p 5 1 v3 (payE m N (l.take j)).length (bs (payE m N (l.take j))) ∧ Below w.heap.size w wr) (fun _ v28 _ => N - (intOf v28).toNat)
      case atStart => exact ⟨0, rfl, Nat.zero_le _, HO2.out, HB1.out.trans (HB2.out.mono HB1.out.size)⟩
      case round =>
        obtain ⟨j, rfl, hj, ho, hb⟩ := hrel
        obtain ⟨wi, rfl⟩ : ∃ wi, wi = wr := ⟨_, rfl⟩
        have HO := Lib.hid ho
        have HBi := Lib.hid hb
        by_cases hlt : j < N
        · obtain ⟨e, he⟩ : ∃ e, l[j]? = some e := ⟨l[j]'(by rw [HN.out]; exact hlt), List.getElem?_eq_getElem _⟩
          obtain ⟨gs, o, rfl, hgl, hce⟩ := (HS0.out.below hb).ev he
          have HCe := Lib.hid hce
          have HAt := Lib.hid (at_Ev gs o c N j hlt wi)
          have HNx := Lib.hid (payE_next (m := m) (n := N) he)
          have HLe := Lib.hid (HL.out e (List.mem_of_getElem? he))
          have HAl := Lib.hid fun c => World.setRow_alloc_new wi (evC ev0) c 48
          have HZz := Lib.hid (show Blk (wi.alloc (.cells (evC ev0) 48)) wi.heap.size 48 (evC ev0) from Blk.new _ _ _)
          obtain ⟨Y, hY⟩ : ∃ Y, Y = wi.alloc (.cells (evC e) 48) := ⟨_, rfl⟩
          have hbY : Below wi.heap.size wi Y := by rw [hY]; exact (Below.refl _ _).alloc (Nat.le_refl _) _
          have HBY := Lib.hid (show EB Y wi.heap.size e by rw [hY]; exact Blk.new _ _ _)
          have HYe := Lib.hid hY
          have HOY := Lib.hid (own_belowP ho hbY)
          have HbY := Lib.hid (show Below w.heap.size w Y from hb.trans (hbY.mono hb.size))
          have HLn := Lib.hid (show (payE m N (l.take j)).length + 21474836700 ≤ 140737488355328 by
            have h1 := payE_len m N (l.take j) fun f hf => HL.out f (List.mem_of_mem_take hf)
            have h2 := List.length_take_le j l
            have h3 := HN2.out
            have h4 : (l.take j).length * 21474836700 ≤ 1000 * 21474836700 := Nat.mul_le_mul_right _ (by omega)
            omega)
          have HW1 := Lib.hid (IntWalk.i64_in ((j : Int) + 1) (by have := HN2.out; omega))
          have HJ1 := Lib.hid (show ¬ 9223372036854775807 < j + 1 by have := HN2.out; omega)
          clear he hgl hce hY hbY ho hb
          have hz := HZe.out
          go_upto_region 11 with (first
            | (refine wpList_val (o := ⟨some 30, _, _, _, _, _⟩) rfl (.pointer (some ⟨gs, o + j * 27, none⟩)) wi (run_indexAddr_op rfl rfl rfl HAt.out) ?_)
            | (refine' wpList_load_midif ?q1 48 (.tmp 30) ?q2 gs (o + j * 27) ?q3 (encE e) _ ?q4 Try.underlying48 ?q5 ?q6 ?_; (case q2 => rfl); (case q1 => rfl); (case q3 => rfl); (case q4 => exact HCe.out); (case q5 => rfl); (case q6 => exact (sizeE e)))
            | (refine wpList_store_row (o := ⟨none, _, _, _, _, _⟩) rfl 48 (.tmp 7) (.tmp 31) rfl wi.heap.size (evC e) rfl rfl _ _ HZz.out (sizeE e) rfl (by kernel_rfl) ?_; rw [HAl.out, ← HYe.out])
            | fail)
          clear hz HZz HAl HYe HAt HCe
          obtain ⟨b7, hb7⟩ : ∃ b7, wi.heap.size = b7 := ⟨_, rfl⟩
          rw [hb7] at HBY ⊢
          clear hb7
          try simp only [Act.put]
          go_wp2_with (first
            | (refine wpList_load_if rfl 48 (.tmp 7) rfl b7 rfl _ _ _ _ HBY.out Try.underlying48 rfl (sizeE e) ?_)
            | fail)
          refine (evput_any e Y HLe.out (by have := bytesE_le e HLe.out; omega)).mono ?_
          rintro e' w9 ⟨v34, rfl, ho34, hb9⟩
          have hbw9 : Below w.heap.size w w9 := HbY.out.trans (hb9.mono HbY.out.size)
          have hpw9 : p ≤ w9.heap.size := by have := hbw9.size; have := HP.out; omega
          obtain ⟨v', w', hr, ho', hg⟩ := append_bytes p w9 _ _ (own_belowP HOY.out hb9) v34 (bytesE e) (Sl.of_own ho34) (by have := HLn.out; have := bytesE_le e HLe.out; omega) hpw9
          have HR := Lib.hid hr
          have HO' := Lib.hid (show w'.ownsRow p 5 1 v' (payE m N (l.take (j + 1))).length (bs (payE m N (l.take (j + 1)))) by rw [HNx.out]; exact ho')
          have hb' : Below w.heap.size w w' := hbw9.grown hg hbw9.size (fun q e => by have := (HOY.out.lt q e).1; have := HP.out; omega)
          have HB' := Lib.hid hb'
          have hw := HW1.out
          have hjm := HJ1.out
          clear ho34 hb9 hbw9 hpw9 hr ho' hg hb'
          go_wp2_with (first
            | (at_builtin; refine Lib.wpList_append_run (o := ⟨some 35, _, _, _, _, _⟩) _ rfl _ _ _ _ rfl _ _ rfl rfl _ _ HR.out ?_)
            | fail)
          go_roundw
          case rel => exact ⟨j + 1, by go_num, by omega, HO'.out, HB'.out⟩
          case measure => simp [intOf] <;> omega
        · have hjN : N = j := by omega
          subst hjN
          have HPo := Lib.hid (show wi.ownsRow p 5 1 u3 (payB m l).length (bs (payB m l)) by rw [HPB.out]; exact ho)
          clear ho hb hj hlt HO
          go_wp2
          go_ret
          exact ⟨_, rfl, HPo.out, by first | exact HBi.out | (rw [← HP.out]; exact HBi.out)⟩

end Go.Proofs.Ytalaidlnhoonfaa
