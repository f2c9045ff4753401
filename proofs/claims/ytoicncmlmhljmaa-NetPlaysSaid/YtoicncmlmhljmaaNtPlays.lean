/-
  hedgerowlaw16.NetPlays: the walk: for all acts the call returns true, and nothing that was there has turned. Conditions: none.
-/
import Derived.Test.YtoicncmlmhljmaaNtRound
namespace Go.Proofs.Ytoicncmlmhljmaa
open Go.RowKit

/-- The loop over the acts. -/
noncomputable def lpC : Code := codeAt [1, 1, 1, 1, 1, 0, 1] ((Try.f3.body).getD .skip)
theorem lpC_is : lpC = Code.block 0 (Code.loop rdC) := by rfl

set_option maxRecDepth 100000 in
set_option maxHeartbeats 4000000 in
theorem round_end {w W : World} {g c0 n0 : Nat} {A0 : Option Addr} {a : Act} {Q : Exit → Act → World → Prop} (hI : LpI w g A0 n0 c0 n0 a W)
    (hX : ∀ a', a'.tmps.size = 243 → a'.defers = [] → Q (.exit 0) a' W) : Code.wp Try.prog rdC Q a W := by
  obtain ⟨hs, hd, s3, s21, s22, s23, vf, L, hn, hr, hL, hS⟩ := hI
  obtain ⟨t, rfl, ht⟩ := frame243 a hs hd
  have t22 := (ht 22).symm.trans s22
  have t23 := (ht 23).symm.trans s23
  rw [t22, t23]
  have HX := Lib.hid hX
  clear hX hn hr hL hS ht hs hd s3 s21 s22 s23 t22 t23
  conv => arg 2; whnf
  go_wp2_with fail
  exact HX.out _ rfl rfl
theorem loop_walk {l : List Ac} {w W : World} {g c0 : Nat} {A0 : Option Addr} {a : Act} {K : Act → World → Prop} {Q' : Exit → Act → World → Prop}
    (hx : ∀ k (hk : k < l.length), ∃ b o, A0 = some ⟨b, o, none⟩ ∧ b < w.heap.size ∧ w.rangeAt b (o + k * 6) l[k].cells ∧ l[k].Ok w) (hl100 : l.length ≤ 100) (hI : LpI w g A0 l.length c0 0 a W)
    (hK : ∀ a' w', a'.tmps.size = 243 → a'.defers = [] → Below w.heap.size w w' → K a' w') (hRet : ∀ a' w', a'.tmps.getD 2 undef = .bool true → a'.defers = [] → Below w.heap.size w w' → Q' .ret a' w') :
    Code.wp Try.prog lpC (Exit.then K Q') a W := by
  rw [lpC_is]
  refine wp_block (wp_loop (fun a w' => ∃ j, j ≤ l.length ∧ LpI w g A0 l.length c0 j a w') (fun a _ => l.length - (intOf (a.tmps.getD 23 undef)).toNat) ⟨0, Nat.zero_le _, hI⟩ ?_)
  rintro a w' ⟨j, hj, hI⟩
  by_cases hlt : j < l.length
  · refine round_walk hx hl100 hI hlt (fun a' w'' h => ⟨⟨j + 1, hlt, h⟩, ?_⟩) (fun a' w'' h1 h2 h3 => hRet a' w'' h1 h2 h3)
    obtain ⟨_, _, _, _, _, h23, _⟩ := hI
    obtain ⟨_, _, _, _, _, k23, _⟩ := h
    rw [h23, k23]
    simp [intOf]
    omega
  · have hje : j = l.length := by omega
    subst hje
    have hb : Below w.heap.size w w' := by
      obtain ⟨_, _, _, _, _, _, vf, L, hn, _⟩ := hI
      exact hn.2
    exact round_end hI fun a' h1 h2 => by
      have hk := hK a' w' h1 h2 hb
      simp only [Exit.inBlock, Exit.then, if_true]
      exact hk

set_option maxRecDepth 100000 in
set_option maxHeartbeats 4000000 in
theorem plays_walk (vl : Value) (l : List Ac) (w : World) (h : ActsAt w vl l) :
    Calls Try.prog 3 #[vl] w (Law w) := by
  have HFX := Lib.hid (nfixed_any w)
  obtain ⟨A0, c0, rfl, hx⟩ := h.at_
  have HX := Lib.hid hx
  clear h hx
  by_cases h100 : 100 < l.length
  · go_enter Try.func3, Try.ntmps3
    go_wp2_with fail
    refine HFX.out.mono ?_
    rintro e w1 ⟨rfl, hb1⟩
    go_wp2
    go_ret
    exact ⟨rfl, hb1⟩
  go_enter Try.func3, Try.ntmps3
  go_wp2_with fail
  refine HFX.out.mono ?_
  rintro e w1 ⟨rfl, hb1⟩
  have HB1 := Lib.hid hb1
  clear hb1
  go_wp2_with fail
  refine (nnew_any w.heap.size w1 HB1.out.size).mono ?_
  rintro e w2 ⟨rfl, hd2, hb2⟩
  have D2 : Hid (Nn w w2 w1.heap.size _ []) := Lib.hid ⟨hd2, HB1.out.trans (hb2.mono HB1.out.size)⟩
  generalize w1.heap.size = g at *
  have hl100 : l.length ≤ 100 := by omega
  clear hd2 hb2 h100
  go_upto_block 0 with fail
  refine loop_walk (l := l) HX.out hl100 ⟨rfl, rfl, rfl, rfl, rfl, rfl, _, [], D2.out, OwnK.nil_ _ _ _ _ _, Nat.le_refl _, fun p hp => by simp at hp⟩ ?_ ?_
  · intro a' w' hs hd hb
    obtain ⟨t, rfl, ht⟩ := frame243 a' hs hd
    clear ht hs hd
    have HB := Lib.hid hb
    clear hb
    go_wp2
    go_ret
    exact ⟨rfl, HB.out⟩
  · intro a' w' h2 hd hb
    refine bodyPost_ret (results_tmp rfl _ _ _) hd ?_
    rw [h2]
    exact ⟨rfl, hb⟩

end Go.Proofs.Ytoicncmlmhljmaa
