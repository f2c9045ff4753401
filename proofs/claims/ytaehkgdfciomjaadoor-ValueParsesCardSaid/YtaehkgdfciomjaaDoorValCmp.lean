/-
  value.Elem (of a node), value.Compare, value.Link, value.OfLink, value.inner: the contracts, by walks. Conditions: none.
-/
import Derived.Test.YtaehkgdfciomjaaDoorValRight
namespace Go.Proofs.YtaehkgdfciomjaaDoor
open Go.RowKit

def cmpB (k n : Int) (a : List UInt8) (k' n' : Int) (b : List UInt8) : Int :=
  if Lib.compareInt k k' = 0 then (if Lib.compareInt n n' = 0 then Lib.compareBytes a b else Lib.compareInt n n') else Lib.compareInt k k'

set_option maxHeartbeats 1000000 in
theorem compare_any (k n : Int) (s : ByteArray) (k' n' : Int) (t : ByteArray) (w : World) : Calls Tryd.prog 12 #[valV k n s, valV k' n' t] w (Gives w (.int .i64 (cmpB k n s.data.toList k' n' t.data.toList))) := by
  have HB : Hid (∀ o o' : Obj, Below w.heap.size w ((w.alloc o).alloc o')) := Lib.hid (fun o o' => ((Below.refl _ _).alloc (Nat.le_refl _) o).alloc (by simp) o')
  unfold valV
  go_enter Tryd.func12, Tryd.ntmps12
  go_wp2_with fail
  refine (Tryd.cmp_Compare_int _ _ _).mono ?_
  rintro e w1 ⟨rfl, rfl⟩
  by_cases h1 : Lib.compareInt k k' = 0
  · have b1 : (Lib.compareInt k k' == 0) = true := by simp [h1]
    have b1' : (Lib.compareInt k k' != 0) = false := by simp [h1]
    have H1 := Lib.hid h1
    clear h1
    go_wp2_with fail
    refine (Tryd.cmp_Compare_int _ _ _).mono ?_
    rintro e w1 ⟨rfl, rfl⟩
    by_cases h2 : Lib.compareInt n n' = 0
    · have b2 : (Lib.compareInt n n' == 0) = true := by simp [h2]
      have b2' : (Lib.compareInt n n' != 0) = false := by simp [h2]
      have H2 := Lib.hid h2
      clear h2
      go_wp2_with fail
      refine (Tryd.strings_Compare _ _ _).mono ?_
      rintro e w1 ⟨rfl, rfl⟩
      go_wp2
      go_ret
      exact ⟨by simp [cmpB, H1.out, H2.out], HB.out _ _⟩
    · have b2 : (Lib.compareInt n n' == 0) = false := by simp [h2]
      have b2' : (Lib.compareInt n n' != 0) = true := by simp [h2]
      have H2 := Lib.hid h2
      clear h2
      go_wp2
      go_ret
      exact ⟨by simp [cmpB, H1.out, H2.out], HB.out _ _⟩
  · have b1 : (Lib.compareInt k k' == 0) = false := by simp [h1]
    have b1' : (Lib.compareInt k k' != 0) = true := by simp [h1]
    have H1 := Lib.hid h1
    clear h1
    go_wp2
    go_ret
    exact ⟨by simp [cmpB, H1.out], HB.out _ _⟩

theorem In1.five {w w' : World} {t : TypeId} {a b c d e : Value} (h : In1 w (.cells #[a, b, c, d, e] t) w') :
    w'.cell? ⟨w.heap.size, 1, none⟩ = some b ∧ w'.cell? ⟨w.heap.size, 2, none⟩ = some c ∧ w'.cell? ⟨w.heap.size, 3, none⟩ = some d ∧ w'.cell? ⟨w.heap.size, 4, none⟩ = some e ∧ w.heap.size < w'.heap.size :=
  ⟨by rw [h.blk.cell]; rfl, by rw [h.blk.cell]; rfl, by rw [h.blk.cell]; rfl, by rw [h.blk.cell]; rfl, h.blk.lt⟩
def elemV (k : Int) (a b c d : ByteArray) : Value := .agg #[.int .i64 k, .string a, .string b, .string c, .string d]
set_option maxHeartbeats 1000000 in
theorem elem_node (w : World) : Calls Tryd.prog 16 #[elemV 1 ⟨#[97]⟩ ⟨#[]⟩ ⟨#[]⟩ ⟨#[]⟩] w (Gives w (.bool true)) := by
  unfold elemV
  go_enter Tryd.func16, Tryd.ntmps16
  go_wp2_with fail
  refine (name_any _ _ (by decide)).mono ?_
  rintro e w1 ⟨rfl, hb1⟩
  rw [show nameB (ByteArray.mk #[97]).data.toList = true by decide]
  have k1 := In1.of hb1
  clear hb1
  obtain ⟨c1, c2, c3, c4, hlt⟩ := k1.five
  go_wp2_with fail
  refine (held_any _ _ _ (by decide)).mono ?_
  rintro e w2 ⟨rfl, hb2⟩
  rw [show heldB (ByteArray.mk #[]).data.toList false = true by decide]
  have k2 := k1.then_ hb2
  clear hb2 c1 c2 c3 c4 hlt k1
  obtain ⟨c1, c2, c3, c4, hlt⟩ := k2.five
  go_wp2_with fail
  refine (held_any _ _ _ (by decide)).mono ?_
  rintro e w3 ⟨rfl, hb3⟩
  rw [show heldB (ByteArray.mk #[]).data.toList false = true by decide]
  have k3 := k2.then_ hb3
  clear hb3 c1 c2 c3 c4 hlt k2
  obtain ⟨c1, c2, c3, c4, hlt⟩ := k3.five
  go_wp2_with fail
  refine (held_any _ _ _ (by decide)).mono ?_
  rintro e w4 ⟨rfl, hb4⟩
  rw [show heldB (ByteArray.mk #[]).data.toList false = true by decide]
  have k4 := k3.then_ hb4
  clear hb4 c1 c2 c3 c4 hlt k3
  go_wp2_with fail
  go_ret
  exact ⟨rfl, k4.below⟩

/-- The facts of a block of three cells, at its number. -/
theorem In1.three_at {w w' : World} {t : TypeId} {a b c : Value} {g : Nat} (h : In1 w (.cells #[a, b, c] t) w') (hg : w.heap.size = g) :
    w'.cell? ⟨g, 0, none⟩ = some a ∧ w'.cell? ⟨g, 1, none⟩ = some b ∧ w'.cell? ⟨g, 2, none⟩ = some c ∧
    w'.frozen? ⟨g, 0, none⟩ = false ∧ w'.frozen? ⟨g, 1, none⟩ = false ∧ w'.frozen? ⟨g, 2, none⟩ = false ∧ g < w'.heap.size := by subst hg; exact h.three
theorem set3_blk_at {w w' : World} {t : TypeId} {a b c : Value} {g : Nat} (h : In1 w (.cells #[a, b, c] t) w') (hg : w.heap.size = g) (x y z : Value) : Blk (((w'.setCell ⟨g, 0, none⟩ x).setCell ⟨g, 1, none⟩ y).setCell ⟨g, 2, none⟩ z) g t #[x, y, z] := by
  subst hg; exact set3_blk h x y z
theorem set3_below_at {w w' : World} {g : Nat} (h : Below w.heap.size w w') (hg : w.heap.size ≤ g) (a b c : Value) : Below w.heap.size w (((w'.setCell ⟨g, 0, none⟩ a).setCell ⟨g, 1, none⟩ b).setCell ⟨g, 2, none⟩ c) :=
  ((h.setCell hg a).setCell hg b).setCell hg c
def linkR (k n : Int) (l : List UInt8) : Value := if k = 5 ∧ n = 0 then nmV l else .tuple #[lkV [] [] [], .bool false]
set_option maxHeartbeats 1000000 in
theorem link_any (k n : Int) (s : ByteArray) (w : World) (hs : s.size < 4294967281) (hw : CutOk w) : Calls Tryd.prog 14 #[valV k n s] w (Gives w (linkR k n s.data.toList)) := by
  have HB : Hid (∀ o o' : Obj, Below w.heap.size w ((w.alloc o).alloc o')) := Lib.hid (fun o o' => ((Below.refl _ _).alloc (Nat.le_refl _) o).alloc (by simp) o')
  unfold valV
  cases hk : (k == 5) <;> cases hn : (n == 0)
  case true.true =>
    have hk' : k = 5 := by simpa using hk
    have hn' : n = 0 := by simpa using hn
    subst hk' hn'
    clear hk hn
    have HV : Hid (linkR 5 0 s.data.toList = nmV s.data.toList) := Lib.hid (by simp [linkR])
    go_enter Tryd.func14, Tryd.ntmps14
    go_wp2_with fail
    refine (names_any _ _ hs ((hw.alloc _).alloc _)).mono ?_
    rintro e w3 ⟨rfl, hb3⟩
    have k3 := In1.of hb3
    have hg : ∀ o : Obj, (w.alloc o).heap.size = w.heap.size + 1 := fun o => by simp
    have HG := Lib.hid hg
    clear hg
    obtain ⟨c0, c1, c2, f0, f1, f2, hlt⟩ := k3.three_at (HG.out _)
    have hb : Below w.heap.size w w3 := (alloc_below _ _).trans (k3.below.mono (by simp))
    have HV2 : Hid (nmV s.data.toList = .tuple #[if nmB s.data.toList then lkV (nmA s.data.toList) (nmT s.data.toList) (nmK s.data.toList) else lkV [] [] [], .bool (nmB s.data.toList)]) := Lib.hid rfl
    unfold nmV
    cases hq : nmB s.data.toList
    all_goals
      have HQ := Lib.hid hq
      clear hq
      simp only [Bool.false_eq_true, ↓reduceIte, lkV, sv]
      go_wp2
      (try simp only [Exit.inBlock, Exit.then])
      refine bodyPost_ret (ret_cell rfl _ _ _ _ _ _ (.bool _) rfl (set3_blk_at k3 (HG.out _) _ _ _) Tryd.underlying33 rfl (by kernel_rfl) rfl) rfl ?_
      exact ⟨by rw [HV.out, HV2.out, HQ.out]; rfl, set3_below_at hb (Nat.le_succ _) _ _ _⟩
  all_goals
    have HV : Hid (linkR k n s.data.toList = .tuple #[lkV [] [] [], .bool false]) := Lib.hid (by simp_all [linkR])
    go_enter Tryd.func14, Tryd.ntmps14
    go_wp2
    all_goals go_returns
    all_goals exact ⟨by rw [HV.out]; rfl, HB.out _ _⟩

def linkV (a b c : ByteArray) : Value := .agg #[.string a, .string b, .string c]
set_option maxHeartbeats 1000000 in
theorem ofLink_any (a b c : ByteArray) (w : World) (h : a.size + b.size + c.size ≤ 4611686018427387000) : Calls Tryd.prog 17 #[linkV a b c] w (Gives w (valV 5 0 (a ++ ⟨#[62]⟩ ++ c ++ ⟨#[62]⟩ ++ b))) := by
  have HB : Hid (∀ o o' : Obj, Below w.heap.size w ((w.alloc o).alloc o')) := Lib.hid (fun o o' => ((Below.refl _ _).alloc (Nat.le_refl _) o).alloc (by simp) o')
  unfold linkV
  have h1 : ¬ 9223372036854775807 < a.size + 1 := by omega
  have h2 : ¬ 9223372036854775807 < a.size + 1 + c.size := by omega
  have h3 : ¬ 9223372036854775807 < a.size + 1 + c.size + 1 := by omega
  have h4 : ¬ 9223372036854775807 < a.size + 1 + c.size + 1 + b.size := by omega
  have H := Lib.hid h
  clear h
  go_enter Tryd.func17, Tryd.ntmps17
  go_wp2
  go_returns
  exact ⟨rfl, HB.out _ _⟩

set_option maxHeartbeats 1000000 in
theorem inner_any (s : ByteArray) (w : World) (hs : s.size ≤ 9223372036854775807) : Calls Tryd.prog 41 #[.string s] w (SameV w (.string (if s.size < 2 then ⟨#[]⟩ else s.extract 1 (s.size - 1)))) := by
  by_cases h : s.size < 2
  · go_enter Tryd.func41, Tryd.ntmps41
    go_wp2
    go_ret
    exact ⟨rfl, rfl⟩
  · obtain ⟨E, hE⟩ : ∃ E, E = s.size - 1 := ⟨_, rfl⟩
    have hw : wrap64 ((s.size : Int) - 1) = (E : Int) := by rw [IntWalk.wrap64_in _ ⟨by omega, by omega⟩]; omega
    have h1 : (1 : Int) ≤ (E : Int) := by omega
    have h0 : (0 : Int) ≤ (E : Int) := by omega
    have h2 : (E : Int) ≤ (s.size : Int) := by omega
    have HE := Lib.hid hE
    clear hE
    go_enter Tryd.func41, Tryd.ntmps41
    go_wp2
    go_ret
    exact ⟨by rw [← HE.out]; rfl, rfl⟩

end Go.Proofs.YtaehkgdfciomjaaDoor
