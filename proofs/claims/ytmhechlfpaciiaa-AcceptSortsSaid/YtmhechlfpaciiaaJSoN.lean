/-
  Blocks sorted one after another, then pairs of blocks: mathematics of the stable sort's loops. slices.stableCmpFunc at events, of any length: the contract, by a walk. Conditions: lengths.
-/
import Derived.Test.YtmhechlfpaciiaaSoM
import Derived.Test.YtmhechlfpaciiaaSoMgC
namespace Go.Proofs.Ytmhechlfpaciiaa.So
open Go.Sort

variable {α : Type} [Inhabited α] {lt : α → α → Bool}
/-- The blocks of length s below A are sorted. -/
structure Ups (lt : α → α → Bool) (s A : Nat) (d : Array α) : Prop where
  mult : ∃ q, A = q * s
  done : ∀ q, (q + 1) * s ≤ A → SortedIn lt (q * s) ((q + 1) * s) d
/-- The blocks of length s from A on are sorted. -/
def Rest (lt : α → α → Bool) (s n A : Nat) (d : Array α) : Prop := ∀ q, A ≤ q * s → q * s < n → SortedIn lt (q * s) (min ((q + 1) * s) n) d
theorem Ups.start {s : Nat} (hs : 0 < s) (d : Array α) : Ups lt s 0 d := ⟨⟨0, (Nat.zero_mul s).symm⟩, fun q h => by
  have : s ≤ (q + 1) * s := Nat.le_mul_of_pos_left s (Nat.succ_pos q)
  omega⟩
theorem Ups.step {s A : Nat} {d d' : Array α} (h : Ups lt s A d) (hp : PermIn A (A + s) d d') (hx : SortedIn lt A (A + s) d') : Ups lt s (A + s) d' := by
  obtain ⟨q0, rfl⟩ := h.mult
  have e0 : (q0 + 1) * s = q0 * s + s := Nat.succ_mul q0 s
  refine ⟨⟨q0 + 1, e0.symm⟩, fun q hq => ?_⟩
  have e1 : (q + 1) * s = q * s + s := Nat.succ_mul q s
  by_cases hqs : (q + 1) * s ≤ q0 * s
  · exact sorted_same (h.done q hqs) fun k _ h2 => hp.2.1 k (.inl (by omega))
  · have hlt : q0 < q + 1 := Nat.lt_of_mul_lt_mul_right (a := s) (by omega)
    have hle : q ≤ q0 := by
      rw [← e0] at hq
      by_cases hs : s = 0
      · subst hs; omega
      · exact Nat.le_of_succ_le_succ (Nat.le_of_mul_le_mul_right hq (by omega))
    have : q = q0 := by omega
    subst this
    rw [e1]; exact hx
theorem Ups.last {s A n : Nat} {d d' : Array α} (h : Ups lt s A d) (hA : A ≤ n) (hn : n < A + s) (hp : PermIn A n d d') (hx : SortedIn lt A n d') : BlkS lt s n d' := fun q hq => by
  obtain ⟨q0, rfl⟩ := h.mult
  have e0 : (q0 + 1) * s = q0 * s + s := Nat.succ_mul q0 s
  have e1 : (q + 1) * s = q * s + s := Nat.succ_mul q s
  have hlt : q < q0 + 1 := Nat.lt_of_mul_lt_mul_right (a := s) (by omega)
  by_cases he : q = q0
  · subst he
    rw [Nat.min_eq_right (by omega)]; exact hx
  · have hle : (q + 1) * s ≤ q0 * s := Nat.mul_le_mul_right s (by omega)
    rw [Nat.min_eq_left (by omega)]
    exact sorted_same (h.done q hle) fun k _ h2 => hp.2.1 k (.inl (by omega))
theorem Rest.same {s n A C : Nat} {d d' : Array α} (h : Rest lt s n A d) (hAC : A ≤ C) (hp : ∀ k, C ≤ k → d'[k]! = d[k]!) : Rest lt s n C d' := fun q h1 h2 => sorted_same (h q (by omega) h2) fun k h3 _ => hp k (by omega)
theorem Rest.of {s n : Nat} {d : Array α} (h : BlkS lt s n d) : Rest lt s n 0 d := fun q _ h2 => h q h2
/-- The next pair of blocks. -/
theorem pair {s n A : Nat} {d : Array α} (hu : Ups lt (2 * s) A d) (h : Rest lt s n A d) (hs : 0 < s) (hn : A + s < n) : SortedIn lt A (A + s) d ∧ SortedIn lt (A + s) (min (A + 2 * s) n) d := by
  obtain ⟨q0, rfl⟩ := hu.mult
  have e0 : q0 * (2 * s) = (2 * q0) * s := by rw [Nat.mul_comm 2 q0, Nat.mul_assoc]
  have e1 : (2 * q0 + 1) * s = 2 * q0 * s + s := Nat.succ_mul _ s
  have e2 : (2 * q0 + 1 + 1) * s = (2 * q0 + 1) * s + s := Nat.succ_mul _ s
  rw [e0] at hn h ⊢
  have h1 := h (2 * q0) (Nat.le_refl _) (by omega)
  have h2 := h (2 * q0 + 1) (by omega) (by omega)
  rw [Nat.min_eq_left (by omega), e1] at h1
  refine ⟨h1, ?_⟩
  rw [e2, e1] at h2
  rw [show 2 * q0 * s + 2 * s = 2 * q0 * s + s + s by omega]
  exact h2
/-- A last block alone. -/
theorem alone {s n A : Nat} {d : Array α} (hu : Ups lt (2 * s) A d) (h : Rest lt s n A d) (hn : n ≤ A + s) : SortedIn lt A n d := by
  obtain ⟨q0, rfl⟩ := hu.mult
  have e0 : q0 * (2 * s) = (2 * q0) * s := by rw [Nat.mul_comm 2 q0, Nat.mul_assoc]
  have e1 : (2 * q0 + 1) * s = 2 * q0 * s + s := Nat.succ_mul _ s
  rw [e0] at hn h ⊢
  by_cases hlt : 2 * q0 * s < n
  · have h1 := h (2 * q0) (Nat.le_refl _) hlt
    rwa [Nat.min_eq_right (by omega)] at h1
  · exact fun i j h1 h2 h3 => by omega

end Go.Proofs.Ytmhechlfpaciiaa.So

namespace Go.Proofs.Ytmhechlfpaciiaa
open Go.RowKit Go.MapKept Go.Sort

theorem add_h (a b h : Nat) (e : a + b = h) (hh : h ≤ 1000000) (w : World) : (binOp .add 3 (.int .i64 (a : Nat)) (.int .i64 (b : Nat))).run Try.prog w = .ok (.int .i64 ((h : Nat) : Int)) w := by
  subst e; exact add_n a b hh w
theorem mul_h (a b h : Nat) (e : a * b = h) (hh : h ≤ 1000000) (w : World) : (binOp .mul 3 (.int .i64 (a : Nat)) (.int .i64 (b : Nat))).run Try.prog w = .ok (.int .i64 ((h : Nat) : Int)) w := by
  subst e
  have e2 : ((a : Int) * b) = ((a * b : Nat) : Int) := by push_cast; rfl
  have hi := IntWalk.i64_in ((a : Int) * b) (by rw [e2]; omega)
  clear e2
  go_simp

set_option maxRecDepth 100000 in
set_option maxHeartbeats 4000000 in
theorem stable_any (N B g cap : Nat) (d0 : Array Ev) (w : World) (h : OwnK encE B 39 27 w (.slice (some ⟨g, 0, none⟩) N cap) d0.toList) (hN : d0.size = N) (hN2 : N ≤ 100000) :
    Calls Try.prog 84 #[.slice (some ⟨g, 0, none⟩) N cap, .int .i64 (N : Nat), .func (.func 64) #[] #[]] w fun e w' => e = .returned (.tuple #[]) ∧ ∃ d, RowE w B g cap N d w' ∧ PermIn 0 N d0 d ∧ SortedIn (ltOf cfP) 0 N d := by
  have H := Lib.hid (RowE.of h hN)
  have HN := Lib.hid hN
  have HM := Lib.hid hN2
  clear h hN hN2
  go_enter Try.func84, Try.ntmps84
  go_wp2_with fail
  go_loopw [7, 8] (fun v7 v8 wr => ∃ (A C : Nat) (d : Array Ev), v7 = .int .i64 (A : Nat) ∧ v8 = .int .i64 (C : Nat) ∧ C = A + 20 ∧ A ≤ N ∧ RowE w B g cap N d wr ∧ PermIn 0 N d0 d ∧ So.Ups (ltOf cfP) 20 A d) (fun v7 _ _ => N - (intOf v7).toNat)
  case atStart => exact ⟨0, 20, d0, rfl, rfl, rfl, Nat.zero_le _, H.out, permIn_refl d0 0 N, So.Ups.start (by decide) d0⟩
  case round =>
    obtain ⟨A, C, d, rfl, rfl, hC, hA, hrow, hpm, hup⟩ := hrel
    obtain ⟨wo, rfl⟩ : ∃ wo, wo = wr := ⟨_, rfl⟩
    have HT := Lib.hid hrow
    have HPm := Lib.hid hpm
    have HUp := Lib.hid hup
    have HA := Lib.hid (And.intro hC hA)
    clear hrow hpm hup hC hA
    by_cases hlt : C ≤ N
    case pos =>
      obtain ⟨C2, hC2⟩ : ∃ C2, C + 20 = C2 := ⟨_, rfl⟩
      have HC2 := Lib.hid hC2
      have HLt := Lib.hid hlt
      clear hC2
      go_wp2_with fail
      clear hlt
      refine (insertion_any A C N B g cap d wo HT.out.1 HT.out.2.1 HM.out (by have := HA.out; omega) HLt.out).mono ?_
      rintro e w2 ⟨rfl, d2, hr2, hp2, hs2⟩
      have HR2 := Lib.hid (HT.out.then hr2)
      have HUp2 := Lib.hid (show So.Ups (ltOf cfP) 20 C d2 from by
        have e := HA.out.1
        rw [e] at hp2 hs2 ⊢
        exact HUp.out.step hp2 hs2)
      have HPm2 := Lib.hid (permIn_trans _ _ _ 0 N HPm.out (permIn_mono _ _ A C 0 N (Nat.zero_le _) HLt.out (by rw [HT.out.2.1]; exact Nat.le_refl _) hp2))
      clear hr2 hp2 hs2
      go_wp2_with (first
        | (refine wpList_val (o := ⟨some 22, _, _, _, _, _⟩) rfl (.int .i64 ((C2 : Nat) : Int)) _ (run_bin_op rfl rfl rfl (guardI _ _ _ _ _ _ _) (add_h C 20 C2 HC2.out (by have := HC2.out; have := HLt.out; have := HM.out; omega) _)) ?_)
        | fail)
      go_roundw
      case rel => exact ⟨C, C2, d2, rfl, rfl, HC2.out.symm, HLt.out, HR2.out, HPm2.out, HUp2.out⟩
      case measure => have := HLt.out; have := HA.out; simp [intOf] <;> omega
    have HLt := Lib.hid (show N < C by omega)
    go_wp2_with fail
    clear hlt
    refine (insertion_any A N N B g cap d wo HT.out.1 HT.out.2.1 HM.out HA.out.2 (Nat.le_refl _)).mono ?_
    rintro e w2 ⟨rfl, d2, hr2, hp2, hs2⟩
    have HR2 := Lib.hid (HT.out.then hr2)
    have HBk := Lib.hid (show So.BlkS (ltOf cfP) 20 N d2 from HUp.out.last HA.out.2 (by have := HA.out; have := HLt.out; omega) hp2 hs2)
    have HPm2 := Lib.hid (permIn_trans _ _ _ 0 N HPm.out (permIn_mono _ _ A N 0 N (Nat.zero_le _) (Nat.le_refl _) (by rw [HT.out.2.1]; exact Nat.le_refl _) hp2))
    clear hr2 hp2 hs2
    go_wp2_with fail
    go_loopw [6] (fun v6 wr => ∃ (s : Nat) (d : Array Ev), v6 = .int .i64 (s : Nat) ∧ 20 ≤ s ∧ RowE w B g cap N d wr ∧ PermIn 0 N d0 d ∧ So.BlkS (ltOf cfP) s N d) (fun v6 _ => N - (intOf v6).toNat)
    case atStart => exact ⟨20, d2, rfl, Nat.le_refl _, HR2.out, HPm2.out, HBk.out⟩
    case round =>
      obtain ⟨s, d3, rfl, hs, hrow, hpm, hbk⟩ := hrel
      obtain ⟨wp, rfl⟩ : ∃ wp, wp = wr := ⟨_, rfl⟩
      have HT3 := Lib.hid hrow
      have HPm3 := Lib.hid hpm
      have HBk3 := Lib.hid hbk
      have HS := Lib.hid hs
      clear hrow hpm hbk hs
      by_cases hlt : s < N
      case neg =>
        have HEnd := Lib.hid (HBk3.out.all (by omega))
        go_wp2
        go_end0
        exact ⟨rfl, d3, HT3.out, HPm3.out, HEnd.out⟩
      obtain ⟨S2, hS2⟩ : ∃ S2, 2 * s = S2 := ⟨_, rfl⟩
      have HS2 := Lib.hid hS2
      have HLt3 := Lib.hid hlt
      clear hS2
      go_wp2_with (first
        | (refine wpList_val (o := ⟨some 32, _, _, _, _, _⟩) rfl (.int .i64 ((S2 : Nat) : Int)) _ (run_bin_op rfl rfl rfl (guardI _ _ _ _ _ _ _) (mul_h 2 s S2 HS2.out (by have := HS2.out; have := HLt3.out; have := HM.out; omega) _)) ?_)
        | fail)
      clear hlt
      go_loopw [7, 8] (fun v7 v8 wr => ∃ (A C : Nat) (d : Array Ev), v7 = .int .i64 (A : Nat) ∧ v8 = .int .i64 (C : Nat) ∧ C = A + S2 ∧ A ≤ N ∧ RowE w B g cap N d wr ∧ PermIn 0 N d0 d ∧ So.Ups (ltOf cfP) (2 * s) A d ∧ So.Rest (ltOf cfP) s N A d) (fun v7 _ _ => N - (intOf v7).toNat)
      case atStart => exact ⟨0, S2, d3, rfl, rfl, (Nat.zero_add _).symm, Nat.zero_le _, HT3.out, HPm3.out, So.Ups.start (by have := HS.out; omega) d3, So.Rest.of HBk3.out⟩
      case round =>
        obtain ⟨A, C, d4, rfl, rfl, hC, hA, hrow, hpm, hup, hrs⟩ := hrel
        obtain ⟨wq, rfl⟩ : ∃ wq, wq = wr := ⟨_, rfl⟩
        have HT4 := Lib.hid hrow
        have HPm4 := Lib.hid hpm
        have HUp4 := Lib.hid hup
        have HRs4 := Lib.hid hrs
        have HA4 := Lib.hid (And.intro hC hA)
        clear hrow hpm hup hrs hC hA
        obtain ⟨M, hM⟩ : ∃ M, A + s = M := ⟨_, rfl⟩
        have HMm := Lib.hid hM
        clear hM
        by_cases hlt : C ≤ N
        case pos =>
          obtain ⟨C2, hC2⟩ : ∃ C2, C + S2 = C2 := ⟨_, rfl⟩
          have HC2 := Lib.hid hC2
          have HLt4 := Lib.hid hlt
          clear hC2
          have HO := Lib.hid (show 20 ≤ s ∧ s < N ∧ N ≤ 100000 ∧ 2 * s = S2 ∧ A + s = M ∧ C = A + S2 ∧ C ≤ N ∧ C + S2 = C2 from ⟨HS.out, HLt3.out, HM.out, HS2.out, HMm.out, HA4.out.1, hlt, HC2.out⟩)
          have HPr := Lib.hid (So.pair HUp4.out HRs4.out (by have := HO.out; omega) (by have := HO.out; omega))
          go_wp2_with (first
            | (refine wpList_val (o := ⟨some 40, _, _, _, _, _⟩) rfl (.int .i64 ((M : Nat) : Int)) _ (run_bin_op rfl rfl rfl (guardI _ _ _ _ _ _ _) (add_h A s M HMm.out (by have := HO.out; omega) _)) ?_)
            | fail)
          clear hlt
          refine Calls.mono (merge_any (C - A) A M C N B g cap d4 wq (Nat.le_refl _) HT4.out.again HM.out (by have := HO.out; omega) (by have := HO.out; omega) HLt4.out (by rw [← HMm.out]; exact HPr.out.1) (by
            have k := HPr.out.2
            have e : min (A + 2 * s) N = C := by have := HO.out; omega
            rw [e, HMm.out] at k
            exact k)) ?_
          rintro e w5 ⟨rfl, d5, hr5, hp5, hs5⟩
          have HR5 := Lib.hid (HT4.out.then hr5)
          have HUp5 := Lib.hid (show So.Ups (ltOf cfP) (2 * s) C d5 from by
            have e : C = A + 2 * s := by have := HO.out; omega
            rw [e] at hp5 hs5 ⊢
            exact HUp4.out.step hp5 hs5)
          have HRs5 := Lib.hid (show So.Rest (ltOf cfP) s N C d5 from HRs4.out.same (by have := HO.out; omega) fun k hk => hp5.2.1 k (.inr hk))
          have HPm5 := Lib.hid (permIn_trans _ _ _ 0 N HPm4.out (permIn_mono _ _ A C 0 N (Nat.zero_le _) HLt4.out (by rw [HT4.out.2.1]; exact Nat.le_refl _) hp5))
          clear hr5 hp5 hs5
          go_wp2_with (first
            | (refine wpList_val (o := ⟨some 47, _, _, _, _, _⟩) rfl (.int .i64 ((S2 : Nat) : Int)) _ (run_bin_op rfl rfl rfl (guardI _ _ _ _ _ _ _) (mul_h 2 s S2 HS2.out (by have := HO.out; omega) _)) ?_)
            | (refine wpList_val (o := ⟨some 48, _, _, _, _, _⟩) rfl (.int .i64 ((C2 : Nat) : Int)) _ (run_bin_op rfl rfl rfl (guardI _ _ _ _ _ _ _) (add_h C S2 C2 HC2.out (by have := HO.out; omega) _)) ?_)
            | fail)
          go_roundw
          case rel => exact ⟨C, C2, d5, rfl, rfl, HC2.out.symm, HLt4.out, HR5.out, HPm5.out, HUp5.out, HRs5.out⟩
          case measure => have := HO.out; simp [intOf] <;> omega
        have HO := Lib.hid (show 20 ≤ s ∧ s < N ∧ N ≤ 100000 ∧ 2 * s = S2 ∧ A + s = M ∧ C = A + S2 ∧ N < C ∧ A ≤ N from ⟨HS.out, HLt3.out, HM.out, HS2.out, HMm.out, HA4.out.1, by omega, HA4.out.2⟩)
        have HFin := Lib.hid (fun (d5 : Array Ev) (hp : PermIn A N d4 d5) (hx : SortedIn (ltOf cfP) A N d5) => show PermIn 0 N d0 d5 ∧ So.BlkS (ltOf cfP) S2 N d5 from
          ⟨permIn_trans _ _ _ 0 N HPm4.out (permIn_mono _ _ A N 0 N (Nat.zero_le _) (Nat.le_refl _) (by rw [HT4.out.2.1]; exact Nat.le_refl _) hp), by
            have k := HUp4.out.last HA4.out.2 (by have := HO.out; omega) hp hx
            rw [HS2.out] at k
            exact k⟩)
        by_cases hm : M < N
        · have HMn := Lib.hid hm
          have HPr := Lib.hid (So.pair HUp4.out HRs4.out (by have := HO.out; omega) (by have := HO.out; omega))
          go_wp2_with (first
            | (refine wpList_val (o := ⟨some 51, _, _, _, _, _⟩) rfl (.int .i64 ((M : Nat) : Int)) _ (run_bin_op rfl rfl rfl (guardI _ _ _ _ _ _ _) (add_h A s M HMm.out (by have := HO.out; omega) _)) ?_)
            | fail)
          clear hlt hm
          refine Calls.mono (merge_any (N - A) A M N N B g cap d4 wq (Nat.le_refl _) HT4.out.again HM.out (by have := HO.out; omega) HMn.out (Nat.le_refl _) (by rw [← HMm.out]; exact HPr.out.1) (by
            have k := HPr.out.2
            have e : min (A + 2 * s) N = N := by have := HO.out; omega
            rw [e, HMm.out] at k
            exact k)) ?_
          rintro e w5 ⟨rfl, d5, hr5, hp5, hs5⟩
          have HR5 := Lib.hid (HT4.out.then hr5)
          have HF := Lib.hid (HFin.out d5 hp5 hs5)
          clear hr5 hp5 hs5
          go_wp2_with (first
            | (refine wpList_val (o := ⟨some 62, _, _, _, _, _⟩) rfl (.int .i64 ((S2 : Nat) : Int)) _ (run_bin_op rfl rfl rfl (guardI _ _ _ _ _ _ _) (mul_h s 2 S2 (by rw [Nat.mul_comm]; exact HS2.out) (by have := HO.out; omega) _)) ?_)
            | fail)
          go_roundw
          case rel => exact ⟨S2, d5, rfl, by have := HO.out; omega, HR5.out, HF.out.1, HF.out.2⟩
          case measure => have := HO.out; simp [intOf] <;> omega
        · have HF := Lib.hid (HFin.out d4 (permIn_refl d4 A N) (So.alone HUp4.out HRs4.out (by have := HO.out; omega)))
          go_wp2_with (first
            | (refine wpList_val (o := ⟨some 51, _, _, _, _, _⟩) rfl (.int .i64 ((M : Nat) : Int)) _ (run_bin_op rfl rfl rfl (guardI _ _ _ _ _ _ _) (add_h A s M HMm.out (by have := HO.out; omega) _)) ?_)
            | (refine wpList_val (o := ⟨some 62, _, _, _, _, _⟩) rfl (.int .i64 ((S2 : Nat) : Int)) _ (run_bin_op rfl rfl rfl (guardI _ _ _ _ _ _ _) (mul_h s 2 S2 (by rw [Nat.mul_comm]; exact HS2.out) (by have := HO.out; omega) _)) ?_)
            | fail)
          clear hlt hm
          go_roundw
          case rel => exact ⟨S2, d4, rfl, by have := HO.out; omega, HT4.out, HF.out.1, HF.out.2⟩
          case measure => have := HO.out; simp [intOf] <;> omega

end Go.Proofs.Ytmhechlfpaciiaa
