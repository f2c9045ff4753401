/-
  BufferAll's mathematics; hedgerowlaw13.knows. Conditions: none.
-/
import Derived.Test.YtbhckfkjbeocoaaBfOps
namespace Go.Proofs.Ytbhckfkjbeocoaa
open Go.RowKit

def topF : Nat → Int := fun _ => 1048576
def zeF : Nat → Int := fun _ => 0
/-- What is told once the peers below m have told that they know all. -/
def ackM (m : Nat) : Nat → Nat → Int := fun q => if 1 ≤ q ∧ q < m then topF else zeF
theorem ackM_one : ackM 1 = fun _ _ => 0 := by
  funext q i
  unfold ackM
  rw [if_neg (by omega)]; rfl
theorem ackM_succ (m : Nat) (h : 1 ≤ m) : ackF (ackM m) m topF = ackM (m + 1) := by
  funext q i
  unfold ackF ackM
  by_cases e : q = m
  · subst e
    rw [if_pos rfl, if_neg (by omega), if_pos (by omega)]
    show max (0 : Int) 1048576 = 1048576
    omega
  · rw [if_neg e]
    by_cases h2 : 1 ≤ q ∧ q < m
    · rw [if_pos h2, if_pos (by omega)]
    · rw [if_neg h2, if_neg (by omega)]
theorem peer_one {k : Nat} (j : Nat) : peerB k 0 j = decide (1 ≤ j ∧ j < k) := by
  unfold peerB
  exact decide_eq_decide.2 (by omega)
theorem stF_ack {k m : Nat} (hk : 2 ≤ k) : ∀ j, 2 ≤ j → stF k 0 (ackM m) j = if m < min j k then zeF else topF
  | 0, h => absurd h (by decide)
  | 1, h => absurd h (by decide)
  | 2, _ => by
    have h0 : peerB k 0 (0 : Nat) = false := by rw [peer_one]; simp
    have h1 : peerB k 0 (1 : Nat) = true := by rw [peer_one]; simp; omega
    have e : stF k 0 (ackM m) 2 = meetV topV (ackM m 1) := by
      show (if peerB k 0 ((1 : Nat) : Int) = true then meetV (stF k 0 (ackM m) 1) (ackM m 1) else _) = _
      rw [if_pos h1]
      show meetV (if peerB k 0 ((0 : Nat) : Int) = true then _ else topV) _ = _
      rw [if_neg (by rw [h0]; exact Bool.false_ne_true)]
    rw [e]
    funext i
    unfold meetV ackM topV
    by_cases h : 1 < m
    · rw [if_pos (by omega), if_neg (by omega)]; show min (4611686018427387904 : Int) 1048576 = 1048576; omega
    · rw [if_neg (by omega), if_pos (by omega)]; show min (4611686018427387904 : Int) 0 = 0; omega
  | j + 3, _ => by
    have ih := stF_ack (m := m) hk (j + 2) (by omega)
    show (if peerB k 0 ((j + 2 : Nat) : Int) = true then meetV (stF k 0 (ackM m) (j + 2)) (ackM m (j + 2)) else stF k 0 (ackM m) (j + 2)) = _
    rw [ih, peer_one]
    by_cases h : j + 2 < k
    · rw [if_pos (by simp; omega)]
      funext i
      unfold meetV ackM
      by_cases h1 : m < j + 2
      · rw [if_pos (by omega), if_neg (by omega), if_pos (by omega)]; show min (0 : Int) 0 = 0; omega
      · by_cases h2 : m = j + 2
        · rw [if_neg (by omega), if_neg (by omega), if_pos (by omega)]; show min (1048576 : Int) 0 = 0; omega
        · rw [if_neg (by omega), if_pos (by omega), if_neg (by omega)]; show min (1048576 : Int) 1048576 = 1048576; omega
    · rw [if_neg (by simp; omega)]
      by_cases h1 : m < k
      · rw [if_pos (by omega), if_pos (by omega)]
      · rw [if_neg (by omega), if_neg (by omega)]
theorem stable_part {k m : Nat} (hk : 2 ≤ k) (hk2 : k ≤ 16) (hm : m < k) : stF k 0 (ackM m) 16 = zeF := by
  rw [stF_ack hk 16 (by decide), if_pos (by omega)]
theorem stable_all {k : Nat} (hk : 2 ≤ k) (hk2 : k ≤ 16) : stF k 0 (ackM k) 16 = topF := by
  rw [stF_ack hk 16 (by decide), if_neg (by omega)]
theorem knows_zero (r c : Int) : knowsB zeF r c = false := by
  unfold knowsB
  cases h : dotB r c
  · rfl
  · obtain ⟨n, _, _, h1, _⟩ := (dotB_iff r c).1 h
    rw [Bool.true_and]
    exact decide_eq_false (by show ¬ c ≤ 0; omega)
theorem lack_zero (l : List Ev) : lackL zeF l = l := by
  unfold lackL
  rw [List.filter_eq_self]
  intro e _
  rw [knows_zero]; rfl
theorem add_zero {k : Nat} (hk : 2 ≤ k) (hk2 : k ≤ 16) (l : List Ev) (e : Ev) : addL k 0 (ackM 1) l e = l ++ [e] := by
  unfold addL addB
  rw [stable_part hk hk2 (by omega), knows_zero, if_neg (by simp; omega)]

/-! ### The law's own question -/
def knowsL (f : Nat → Int) (r c : Int) : Bool := decide (0 ≤ r ∧ r < 16 ∧ 1 ≤ c ∧ c ≤ 1048576 ∧ c ≤ f r.toNat)
theorem knowsL_top (r c : Int) : knowsL topF r c = knowsB topF r c := by
  unfold knowsL knowsB dotB topF
  rw [← Bool.decide_and]
  exact decide_eq_decide.2 (by omega)
set_option maxRecDepth 100000 in
set_option maxHeartbeats 1000000 in
theorem knows13_any (f : Nat → Int) (r c : Int) (w : World) : Calls Try.prog 7 #[.agg (vA f), .agg #[.int .i64 r, .int .i64 c]] w fun e w' => e = .returned (.bool (knowsL f r c)) ∧ Below w.heap.size w w' := by
  obtain ⟨X, hX⟩ : ∃ X, X = (w.alloc (.cells (vA f) 27)).alloc (.cells #[.int .i64 r, .int .i64 c] 29) := ⟨_, rfl⟩
  have hv : VB X w.heap.size f := by rw [hX]; exact (VB.new_ f rfl).alloc_ _
  have hd : Blk X (w.heap.size + 1) 29 #[.int .i64 r, .int .i64 c] := by
    rw [hX]
    have := Blk.new (w.alloc (.cells (vA f) 27)) 29 #[.int .i64 r, .int .i64 c]
    simpa using this
  have hb : Below w.heap.size w X := by rw [hX]; exact ((Below.refl _ _).alloc (Nat.le_refl _) _).alloc (by simp) _
  have HX := Lib.hid hX
  have HB := Lib.hid hb
  have c0 := Blk.cell hd 0
  have c1 := Blk.cell hd 1
  simp at c0 c1
  have HV := Lib.hid hv
  clear hX hd hb hv
  have fin : ∀ b, knowsL f r c = b → ∀ x w', x = Ending.returned (.bool b) → Below w.heap.size X w' → x = Ending.returned (.bool (knowsL f r c)) ∧ Below w.heap.size w w' := by
    rintro b rfl x w' rfl h
    exact ⟨rfl, HB.out.trans h⟩
  have HF := Lib.hid fin
  clear fin
  by_cases h1 : 0 ≤ r
  · by_cases h2 : r < 16
    · by_cases h3 : 1 ≤ c
      · by_cases h4 : c ≤ 1048576
        · obtain ⟨n, rfl⟩ : ∃ n : Nat, r = n := ⟨r.toNat, by omega⟩
          have hn : n < 16 := by omega
          have c2 := HV.out.cell_ n hn
          by_cases h5 : c ≤ f n
          · have HK := Lib.hid (show knowsL f n c = true by unfold knowsL; simp; omega)
            generalize f n = y at *
            go_enter Try.func7, Try.ntmps7
            go_upto_region 1 with fail
            rw [← HX.out]
            go_quiet (fail)
            all_goals go_wp2
            all_goals go_ret
            all_goals exact HF.out _ HK.out _ _ rfl (below_drewN _ _ _)
          · have HK := Lib.hid (show knowsL f n c = false by unfold knowsL; simp; omega)
            have hd5 : decide (c ≤ f n) = false := by simpa using h5
            generalize f n = y at *
            go_enter Try.func7, Try.ntmps7
            go_upto_region 1 with fail
            rw [← HX.out]
            go_quiet (fail)
            all_goals go_wp2
            all_goals go_ret
            all_goals exact HF.out _ HK.out _ _ rfl (below_drewN _ _ _)
        · have HK := Lib.hid (show knowsL f r c = false by unfold knowsL; simp; omega)
          have hd4 : decide (c ≤ 1048576) = false := by simpa using h4
          go_enter Try.func7, Try.ntmps7
          go_upto_region 1 with fail
          rw [← HX.out]
          go_quiet (fail)
          all_goals go_wp2
          all_goals go_ret
          all_goals exact HF.out _ HK.out _ _ rfl (below_drewN _ _ _)
      · have HK := Lib.hid (show knowsL f r c = false by unfold knowsL; simp; omega)
        have hd3 : decide (1 ≤ c) = false := by simpa using h3
        go_enter Try.func7, Try.ntmps7
        go_upto_region 1 with fail
        rw [← HX.out]
        go_quiet (fail)
        all_goals go_wp2
        all_goals go_ret
        all_goals exact HF.out _ HK.out _ _ rfl (below_drewN _ _ _)
    · have HK := Lib.hid (show knowsL f r c = false by unfold knowsL; simp; omega)
      have hd2 : decide (r < 16) = false := by simpa using h2
      go_enter Try.func7, Try.ntmps7
      go_upto_region 1 with fail
      rw [← HX.out]
      go_quiet (fail)
      all_goals go_wp2
      all_goals go_ret
      all_goals exact HF.out _ HK.out _ _ rfl (below_drewN _ _ _)
  · have HK := Lib.hid (show knowsL f r c = false by unfold knowsL; simp; omega)
    have hd1 : decide (0 ≤ r) = false := by simpa using h1
    go_enter Try.func7, Try.ntmps7
    go_upto_region 1 with fail
    rw [← HX.out]
    go_quiet (fail)
    all_goals go_wp2
    all_goals go_ret
    all_goals exact HF.out _ HK.out _ _ rfl (below_drewN _ _ _)

end Go.Proofs.Ytbhckfkjbeocoaa
