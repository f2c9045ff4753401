/-
  A crash: the contract, by a walk. Conditions: none.
-/
import Derived.Test.YtcaechfmeiklkaaDkTurn
import Derived.Deep.CutBlock
import Derived.Deep.DeepCutAuto
import Derived.IntWalk
namespace Go.Proofs.Ytcaechfmeiklkaa
open Go.RowKit

/-- How much of the tail is left. -/
def leftB (l : List UInt8) (s : Nat) (keep : Int) : Nat := min (max keep 0).toNat (l.length - s)
/-- What is left behind a crash. -/
def crashB (l : List UInt8) (s : Nat) (keep at_ : Int) (y : UInt8) : List UInt8 := (turnB l s (leftB l s keep) at_ y).take (s + leftB l s keep)

theorem leftB_le (l : List UInt8) (s : Nat) (keep : Int) : leftB l s keep ≤ l.length - s := by unfold leftB; omega
theorem leftB_int (l : List UInt8) (s : Nat) (keep : Int) (hs : s ≤ l.length) : ((leftB l s keep : Nat) : Int) = min (max keep 0) ((l.length - s : Nat) : Int) := by unfold leftB; omega
theorem crashB_len (l : List UInt8) (s : Nat) (keep at_ : Int) (y : UInt8) (hs : s ≤ l.length) : (crashB l s keep at_ y).length = s + leftB l s keep := by
  have := leftB_le l s keep
  unfold crashB
  rw [List.length_take, turnB_len]; omega

/-- Disk g, turned into one of l and s, its bytes in the block where they were. -/
def TurnsIn (w : World) (g : Nat) (v : Value) (l : List UInt8) (s : Nat) (w' : World) : Prop := ∃ v', Dk w' g v' l s ∧ Mv g v w w' v' ∧ v'.ownBlock = v.ownBlock

/-- A disk whose bytes are cut. -/
theorem Dk.cut {w : World} {g : Nat} {A : Option Addr} {c : Nat} {l : List UInt8} {s : Nat} (h : Dk w g (.slice A l.length c) l s) (m : Nat) (hm : m ≤ l.length) (hsm : s ≤ m) :
    Dk (w.setCell ⟨g, 0, none⟩ (.slice A m c)) g (.slice A m c) (l.take m) s ∧ Mv g (.slice A l.length c) w (w.setCell ⟨g, 0, none⟩ (.slice A m c)) (.slice A m c) := by
  have hl : (l.take m).length = m := by rw [List.length_take]; omega
  have hob : (Value.slice A m c).ownBlock = (Value.slice A l.length c).ownBlock := by cases A <;> rfl
  have ho : w.ownsRow 0 5 1 (.slice A m c) m (bs (l.take m)) := by
    have h2 := h.2.1
    refine ⟨by simp [bs, hm], ?_⟩
    rcases h2.2 with ⟨hv, h0⟩ | ⟨b, cap, cur, hv, hb, hg, hnc, hcm, hcs, ht⟩
    · injection hv with h1 h2 h3
      subst h1 h3
      have : m = 0 := by omega
      subst this
      exact .inl ⟨rfl, rfl⟩
    · injection hv with h1 h2 h3
      subst h1 h3
      refine .inr ⟨b, c, cur, rfl, hb, hg, by omega, hcm, hcs, ?_⟩
      have e1 : bs (l.take m) = (bs l).take m := by simp [bs, List.map_take]
      rw [e1, ← ht, List.take_take, Nat.mul_one, Nat.mul_one, Nat.min_eq_left (by omega)]
  refine ⟨⟨?_, ?_, by omega, by have := h.2.2.2; omega⟩, ⟨rfl, rfl, rfl, by simp [World.setCell], fun k _ hkg _ => Below.heap_setCell w ⟨g, 0, none⟩ _ k hkg, .inl hob⟩⟩
  · have := h.1.set_ 0 (.slice A m c)
    simpa using this
  · rw [hl]
    exact own_at ho (fun k hk => Below.heap_setCell w ⟨g, 0, none⟩ _ k (fun e => h.ne (by rw [← hob, hk, e]))) (fun _ _ => Nat.zero_le _)

theorem Mv.trans {g : Nat} {v v' v'' : Value} {a b c : World} (h : Mv g v a b v') (k : Mv g v' b c v'') : Mv g v a c v'' := by
  refine ⟨k.os.trans h.os, k.tape.trans h.tape, k.output.trans h.output, Nat.le_trans h.size k.size, fun i hi hg hv => (k.block i (Nat.lt_of_lt_of_le hi h.size) hg fun e => ?_).trans (h.block i hi hg hv), ?_⟩
  · rcases h.fresh with f | f
    · exact hv (f ▸ e)
    · have := f i e; omega
  · rcases k.fresh with f | f
    · rcases h.fresh with f' | f'
      · exact .inl (f.trans f')
      · exact .inr fun i hi => f' i (f ▸ hi)
    · exact .inr fun i hi => Nat.le_trans h.size (f i hi)

theorem crash_tail {w w' : World} {g : Nat} {A : Option Addr} {c : Nat} (l : List UInt8) (s k : Nat) (at_ : Int) (y : UInt8) (h1 : Dk w' g (.slice A l.length c) (turnB l s k at_ y) s) (h2 : Mv g (.slice A l.length c) w w' (.slice A l.length c)) (hk : s + k ≤ l.length) :
    Dk (w'.setCell ⟨g, 0, none⟩ (.slice A (s + k) c)) g (.slice A (s + k) c) ((turnB l s k at_ y).take (s + k)) s ∧ Mv g (.slice A l.length c) w (w'.setCell ⟨g, 0, none⟩ (.slice A (s + k) c)) (.slice A (s + k) c) := by
  have h3 : Dk w' g (.slice A (turnB l s k at_ y).length c) (turnB l s k at_ y) s := by rw [turnB_len]; exact h1
  obtain ⟨h4, h5⟩ := h3.cut (s + k) (by rw [turnB_len]; exact hk) (Nat.le_add_right _ _)
  rw [turnB_len] at h5
  exact ⟨h4, h2.trans h5⟩
theorem Mv.drew {g : Nat} {v v' : Value} {w w' : World} (h : Mv g v w w' v') : Mv g v w w'.drew v' := ⟨h.os, h.tape, h.output, h.size, h.block, h.fresh⟩
theorem Mv.drewN {g n : Nat} {v v' : Value} {w w' : World} (h : Mv g v (w.drewN n) w' v') : Mv g v w w' v' := ⟨h.os, h.tape, h.output, h.size, h.block, h.fresh⟩

set_option maxRecDepth 100000 in
set_option maxHeartbeats 400000 in
theorem dcrash_some (g b c : Nat) (l : List UInt8) (s : Nat) (keep at_ : Int) (y : UInt8) (w : World) (h : Dk w g (.slice (some ⟨b, 0, none⟩) l.length c) l s) :
    Calls Try.prog 12 #[.pointer (some ⟨g, 0, none⟩), .int .i64 keep, .int .i64 at_, bv y] w fun e w' => e = .returned (.tuple #[]) ∧ TurnsIn w g (.slice (some ⟨b, 0, none⟩) l.length c) (crashB l s keep at_ y) s w' := by
  have hsl : s ≤ l.length := h.2.2.1
  have hlm : l.length ≤ 1048576 := h.2.2.2
  have hlc : l.length ≤ c := by
    rcases h.2.1.2 with ⟨hv, _⟩ | ⟨b', cap, cur, hv, _, _, hnc, _⟩
    · injection hv with h1; cases h1
    · injection hv with h1 h2 h3; subst h3; exact hnc
  have c0 := h.1.cell 0
  have c1 := h.1.cell 1
  simp at c0 c1
  have hkl := leftB_le l s keep
  have hki := leftB_int l s keep hsl
  have HD := Lib.hid h
  have HC : Hid (crashB l s keep at_ y = (turnB l s (leftB l s keep) at_ y).take (s + leftB l s keep)) := Lib.hid rfl
  obtain ⟨k, hk⟩ : ∃ k, k = leftB l s keep := ⟨_, rfl⟩
  rw [← hk] at hkl hki HC
  have hLk := Lib.hid hk
  clear hk h
  obtain ⟨n, hn⟩ : ∃ n, n = l.length := ⟨_, rfl⟩
  rw [← hn] at c0 hsl hlm hlc hkl hki
  have HN := Lib.hid hn
  clear hn
  have hmin : min (max keep 0) ((n : Int) - (s : Int)) = (k : Int) := by omega
  have hmin' : min (max keep 0) ((n - s : Nat) : Int) = (k : Int) := hki.symm
  unfold bv
  go_enter Try.func12, Try.ntmps12
  go_upto_region 1 with fail
  go_cut [8] (fun t wx => t = .slice (if c = s then some ⟨b, 0, none⟩ else some ⟨b, s, none⟩) (n - s) (c - s) ∧ ∃ q, wx = w.drewN q)
  case first =>
    by_cases hcs : c = s
    · go_quiet (fail)
      go_wp2_with fail
      go_meet
      exact ⟨by simp [hcs], _, rfl⟩
    · go_quiet (fail)
      go_wp2_with fail
      go_meet
      exact ⟨by simp [hcs], _, rfl⟩
  case rest =>
    obtain ⟨rfl, nq, rfl⟩ := hcut
    have hdw : Dk (w.drewN nq) g (.slice (some ⟨b, 0, none⟩) l.length c) l s := HD.out.below ⟨rfl, rfl, rfl, Nat.le_refl _, fun _ _ => rfl⟩
    have HDW := Lib.hid hdw
    clear hdw c0 c1
    obtain ⟨m, hm⟩ : ∃ m, m = n - s := ⟨_, rfl⟩
    rw [← hm] at hkl hki hmin' ⊢
    obtain ⟨T, hT⟩ : ∃ T : Option Addr, T = (if c = s then some ⟨b, 0, none⟩ else some ⟨b, s, none⟩) := ⟨_, rfl⟩
    rw [← hT]
    have HT := Lib.hid hT
    have HM := Lib.hid hm
    clear hT hm
    go_upto_region 2 with fail
    go_cut [9] (fun t wx => t = .int .i64 (k : Int) ∧ wx = w.drewN nq)
    case first =>
      clear hki hmin
      go_wp2_with fail
      all_goals go_meet
      all_goals exact ⟨by first | rfl | (congr 1; omega), rfl⟩
    case rest =>
      obtain ⟨rfl, rfl⟩ := hcut
      clear hmin hmin' hki
      have hkc : k ≤ c - s := by have := HM.out; omega
      have hkn : s + k ≤ n := by have := HM.out; omega
      have hkc2 : (k : Int) ≤ ((c - s : Nat) : Int) := by omega
      by_cases hcs : c = s
      · have hk0 : k = 0 := by omega
        clear hkc2
        subst hk0
        have hT := HT.out
        rw [if_pos hcs] at hT
        subst hT
        go_wp2_with fail
        refine (turn_part g (some ⟨b, 0, none⟩) c l s (w.drewN nq) HDW.out _ s 0 _ (by rw [← HN.out]; omega) (fun _ _ h0 => absurd h0 (by omega)) at_ y).mono ?_
        rintro e w' ⟨rfl, h1, h2⟩
        obtain ⟨h3, h4⟩ := crash_tail l s 0 at_ y h1 h2 (by rw [← HN.out]; exact hkn)
        have h5 : Dk (w'.setCell ⟨g, 0, none⟩ (.slice (some ⟨b, 0, none⟩) (s + 0) c)) g (.slice (some ⟨b, 0, none⟩) (s + 0) c) (crashB l s keep at_ y) s := by rw [HC.out]; exact h3
        have h6 : Dk (w'.setCell ⟨g, 0, none⟩ (.slice (some ⟨b, 0, none⟩) s s)) g (.slice (some ⟨b, 0, none⟩) s s) (crashB l s keep at_ y) s := by have q := h5; rw [Nat.add_zero, hcs] at q; exact q
        have h7 : Mv g (.slice (some ⟨b, 0, none⟩) l.length c) (w.drewN nq) (w'.setCell ⟨g, 0, none⟩ (.slice (some ⟨b, 0, none⟩) s s)) (.slice (some ⟨b, 0, none⟩) s s) := by have q := h4; rw [Nat.add_zero] at q; rw [hcs] at q ⊢; exact q
        have H5 := Lib.hid h6
        have H4 := Lib.hid (Mv.drewN h7)
        have c0 := h1.1.cell 0
        have c1 := h1.1.cell 1
        have f0 := h1.1.free 0
        simp at c0 c1
        rw [← HN.out] at c0
        clear h1 h2 h3 h4 h5 h6 h7 hkc
        have hsk : IntKind.i64.wrap ((s : Int) + (0 : Int)) = ((s + 0 : Nat) : Int) := by rw [IntWalk.i64_in _ (by omega)]; omega
        go_wp2_with fail
        go_region
        go_wp2
        go_end0
        exact ⟨rfl, _, H5.out, H4.out.drew, rfl⟩
      · have hk0 : ¬ c - s = 0 := by omega
        have hT := HT.out
        rw [if_neg hcs] at hT
        subst hT
        go_wp2_with fail
        refine (turn_part g (some ⟨b, 0, none⟩) c l s (w.drewN nq) HDW.out _ s k _ (by rw [← HN.out]; omega) (fun b' hb' h0 => by injection hb' with hb'; injection hb' with hb'; subst hb'; rfl) at_ y).mono ?_
        rintro e w' ⟨rfl, h1, h2⟩
        obtain ⟨h3, h4⟩ := crash_tail l s k at_ y h1 h2 (by rw [← HN.out]; exact hkn)
        have h5 : Dk (w'.setCell ⟨g, 0, none⟩ (.slice (some ⟨b, 0, none⟩) (s + k) c)) g (.slice (some ⟨b, 0, none⟩) (s + k) c) (crashB l s keep at_ y) s := by rw [HC.out]; exact h3
        have H5 := Lib.hid h5
        have H4 := Lib.hid (Mv.drewN h4)
        have c0 := h1.1.cell 0
        have c1 := h1.1.cell 1
        have f0 := h1.1.free 0
        simp at c0 c1
        rw [← HN.out] at c0
        clear h1 h2 h3 h4 h5 hkc
        have hsk : IntKind.i64.wrap ((s : Int) + (k : Int)) = ((s + k : Nat) : Int) := by rw [IntWalk.i64_in _ (by omega)]; omega
        go_wp2_with fail
        go_region
        go_wp2
        go_end0
        exact ⟨rfl, _, H5.out, H4.out.drew, rfl⟩

set_option maxRecDepth 100000 in
set_option maxHeartbeats 1000000 in
theorem dcrash_none (g : Nat) (l : List UInt8) (s : Nat) (keep at_ : Int) (y : UInt8) (w : World) (h : Dk w g (.slice none 0 0) l s) (hl : l = []) :
    Calls Try.prog 12 #[.pointer (some ⟨g, 0, none⟩), .int .i64 keep, .int .i64 at_, bv y] w fun e w' => e = .returned (.tuple #[]) ∧ TurnsIn w g (.slice none 0 0) (crashB l s keep at_ y) s w' := by
  subst hl
  have hs : s = 0 := by have := h.2.2.1; simpa using this
  subst hs
  have ec : crashB [] 0 keep at_ y = [] := by simp [crashB, turnB, leftB]
  rw [ec]
  have HC := h.cut (l := []) 0 (Nat.le_refl _) (Nat.le_refl _)
  obtain ⟨h3, h4⟩ := HC
  have H3 := Lib.hid h3
  have H4 := Lib.hid h4
  have c0 := h.1.cell 0
  have c1 := h.1.cell 1
  have f0 := h.1.free 0
  simp at c0 c1
  clear h h3 h4 ec
  unfold bv
  go_enter Try.func12, Try.ntmps12
  go_upto_region 1 with fail
  go_cut [8] (fun t wx => t = .slice none 0 0 ∧ ∃ q, wx = w.drewN q)
  case first =>
    go_quiet (fail)
    go_wp2_with fail
    go_meet
    exact ⟨rfl, _, rfl⟩
  case rest =>
    obtain ⟨rfl, nq, rfl⟩ := hcut
    go_upto_region 2 with fail
    go_cut [9] (fun t wx => t = .int .i64 0 ∧ wx = w.drewN nq)
    case first =>
      go_wp2_with fail
      all_goals go_meet
      all_goals exact ⟨by first | rfl | (congr 1; omega), rfl⟩
    case rest =>
      obtain ⟨rfl, rfl⟩ := hcut
      go_wp2_with fail
      refine (turn_out none 0 0 at_ _ (w.drewN nq) (by omega)).mono ?_
      rintro e w' ⟨rfl, rfl⟩
      go_wp2_with fail
      go_region
      go_wp2
      go_end0
      exact ⟨rfl, _, H3.out, ⟨H4.out.os, H4.out.tape, H4.out.output, H4.out.size, H4.out.block, H4.out.fresh⟩, rfl⟩

theorem dcrash_in (g : Nat) (v : Value) (l : List UInt8) (s : Nat) (keep at_ : Int) (y : UInt8) (w : World) (h : Dk w g v l s) :
    Calls Try.prog 12 #[.pointer (some ⟨g, 0, none⟩), .int .i64 keep, .int .i64 at_, bv y] w fun e w' => e = .returned (.tuple #[]) ∧ TurnsIn w g v (crashB l s keep at_ y) s w' := by
  rcases h.2.1.2 with ⟨rfl, h0⟩ | ⟨b, cap, cur, rfl, _⟩
  · exact dcrash_none g l s keep at_ y w h (List.eq_nil_of_length_eq_zero h0)
  · exact dcrash_some g b cap l s keep at_ y w h
theorem dcrash_any (g : Nat) (v : Value) (l : List UInt8) (s : Nat) (keep at_ : Int) (y : UInt8) (w : World) (h : Dk w g v l s) :
    Calls Try.prog 12 #[.pointer (some ⟨g, 0, none⟩), .int .i64 keep, .int .i64 at_, bv y] w fun e w' => e = .returned (.tuple #[]) ∧ Turns w g v (crashB l s keep at_ y) s w' :=
  (dcrash_in g v l s keep at_ y w h).mono fun _ _ ⟨he, v', hd, hm, _⟩ => ⟨he, v', hd, hm⟩

set_option maxHeartbeats 400000 in
theorem dtwin_nil (w : World) : Calls Try.prog 16 #[.pointer none] w fun e w' => e = .returned (.pointer none) ∧ w = w' := by
  go_enter Try.func16, Try.ntmps16
  go_wp2
  go_ret
  exact ⟨rfl, rfl⟩

end Go.Proofs.Ytcaechfmeiklkaa
