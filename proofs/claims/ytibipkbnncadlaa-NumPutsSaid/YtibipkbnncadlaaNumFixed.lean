/-
  The fixed facts at the head of the layer's statements: they hold in every world. Conditions: none.
-/
import Derived.Test.YtibipkbnncadlaaNumMethods
namespace Go.Proofs.Ytibipkbnncadlaa
open Go.RowKit


theorem str_eq {b : ByteArray} {l : List UInt8} (h : b.data.toList = l) : b = ⟨l.toArray⟩ := by
  obtain ⟨⟨k⟩⟩ := b
  simp at h
  subst h
  rfl

theorem fix_bytes : ([] ++ putB 300 ++ sigB (-2) ++ (putB ((2 : Nat) : Int) ++ [104, 105]) : List UInt8) = putB 300 ++ (sigB (-2) ++ (putB (([104, 105] : List UInt8).length : Int) ++ ([104, 105] ++ []))) := by simp
theorem fix1 : rNum ([] ++ putB 300 ++ sigB (-2) ++ (putB ((2 : Nat) : Int) ++ [104, 105]), false) 1000 = (300, (sigB (-2) ++ (putB (([104, 105] : List UInt8).length : Int) ++ ([104, 105] ++ [])), false)) := by
  rw [fix_bytes]; exact rNum_put 300 _ 1000 (by omega) (by omega) (by omega)
theorem fix2 : rSig (sigB (-2) ++ (putB (([104, 105] : List UInt8).length : Int) ++ ([104, 105] ++ [])), false) = (-2, (putB (([104, 105] : List UInt8).length : Int) ++ ([104, 105] ++ []), false)) := rSig_put (-2) _ (by omega) (by omega)
theorem fix3 : rText (putB (([104, 105] : List UInt8).length : Int) ++ ([104, 105] ++ []), false) 9 = ([104, 105], ([], false)) := rText_put [104, 105] [] 9 (by simp) (by simp)
theorem fix4 : rNum ([128, 0], false) 9 = (0, ([128, 0], true)) := by rfl
theorem fix5 : ([] ++ putB 300 : List UInt8) = [172, 2] := by decide

theorem bytes_sl (w : World) (l : List UInt8) : Sl bv (w.alloc (.cells (bs l).toArray 5)) (.slice (some ⟨w.heap.size, 0, none⟩) l.length l.length) l := by
  refine ⟨_, _, rfl, Nat.le_refl _, fun _ => ⟨_, 0, rfl, by simp, fun j u hu => ?_⟩⟩
  rw [(Blk.new w _ (bs l).toArray).cell (0 + j)]
  simp [bs, hu]

theorem fix_len : ([] ++ putB 300 : List UInt8).length ≤ 100 ∧ ([] ++ putB 300 ++ sigB (-2) : List UInt8).length ≤ 100 ∧ ([] ++ putB 300 ++ sigB (-2) ++ (putB ((2 : Nat) : Int) ++ [104, 105]) : List UInt8).length ≤ 100 := by decide

set_option maxHeartbeats 1000000 in
theorem fixed_any (w : World) : Calls Try.prog 7 #[] w fun e w' => e = .returned (.bool true) ∧ Below w.heap.size w w' := by
  have FL := Lib.hid fix_len
  go_enter Try.func7, Try.ntmps7
  go_wp2_with fail
  refine (put_any _ [] 300 w (Sl.nil_ bv w) (by simp)).mono ?_
  rintro e w1 ⟨v1, rfl, ho1, hb1⟩
  have s1 := Sl.of_own ho1
  clear ho1
  go_wp2_with fail
  refine (signed_any _ _ (-2) w1 s1 (by have := FL.out.1; omega)).mono ?_
  rintro e w2 ⟨v2, rfl, ho2, hb2⟩
  have s2 := Sl.of_own ho2
  have hb := hb1.trans (hb2.mono hb1.size)
  clear ho2 s1 hb1 hb2
  go_wp2_with fail
  refine (text_any _ _ ⟨#[104, 105]⟩ w2 s2 (by have := FL.out.2.1; have : (ByteArray.mk #[104, 105]).size = 2 := rfl; omega)).mono ?_
  rintro e w3 ⟨v3, rfl, ho3, hb3⟩
  have s3 := Sl.of_own ho3
  have hb' := hb.trans (hb3.mono hb.size)
  clear ho3 s2 hb3 hb
  go_wp2_with fail
  refine (read_any _ _ w3 s3 (by have := FL.out.2.2; exact Nat.le_trans this (by omega))).mono ?_
  rintro e w4 ⟨rfl, r4, hb4⟩
  have hb := hb'.trans (hb4.mono hb'.size)
  have hg : w.heap.size ≤ w3.heap.size := hb'.size
  have hg4 : w3.heap.size < w4.heap.size := r4.lt
  clear s3 hb' hb4
  generalize w3.heap.size = g at *
  go_wp2_with fail
  refine (num_any g _ 1000 w4 r4).mono ?_
  intro e w5 H
  have H2 : Moves w4 g (.int .i64 (rNum ([] ++ putB 300 ++ sigB (-2) ++ (putB ((2 : Nat) : Int) ++ [104, 105]), false) 1000).1) (rNum ([] ++ putB 300 ++ sigB (-2) ++ (putB ((2 : Nat) : Int) ++ [104, 105]), false) 1000).2 e w5 := H
  rw [fix1] at H2
  clear H r4
  obtain ⟨rfl, r5, hb5⟩ := H2
  have hb1 := hb.trans (hb5.below hg hb.size)
  have hg5 := hb5.size
  clear hb hb5
  go_wp2_with fail
  refine (sig_any g _ w5 r5).mono ?_
  intro e w6 H
  rw [fix2] at H
  obtain ⟨rfl, r6, hb6⟩ := H
  have hb := hb1.trans (hb6.below hg hb1.size)
  have hg6 := hb6.size
  clear hb1 hb6 r5
  go_wp2_with fail
  refine (rtext_any g _ 9 w6 r6).mono ?_
  intro e w7 H
  rw [fix3] at H
  obtain ⟨b7, e7, rfl, r7, hb7⟩ := H
  obtain rfl := str_eq e7
  have hb1 := hb.trans (hb7.below hg hb.size)
  have hg7 := hb7.size
  clear hb hb7 r6 e7
  go_wp2_with fail
  have s8 := bytes_sl w7 [128, 0]
  refine (read_any _ [128, 0] _ s8 (by simp)).mono ?_
  rintro e w9 ⟨rfl, r9, hb9⟩
  have hb := hb1.trans (((Below.refl _ _).alloc (Nat.le_refl _) _).trans (hb9.mono (by simp)) |>.mono hb1.size)
  have r10 := (r7.below ((Below.refl _ _).alloc (Nat.le_refl _) (.cells (bs [128, 0]).toArray 5))).below hb9
  have hq : (w7.alloc (.cells (bs [128, 0]).toArray 5)).heap.size = w7.heap.size + 1 := by simp
  rw [hq] at r9 ⊢
  have hqg : w.heap.size ≤ w7.heap.size + 1 := by omega
  have hne : g ≠ w7.heap.size + 1 := by omega
  clear hb1 r7 s8 hb9 hq
  generalize w7.heap.size + 1 = q at *
  go_wp2_with fail
  refine (put_any _ [] 300 w9 (Sl.nil_ bv w9) (by simp)).mono ?_
  rintro e w10 ⟨v10, rfl, ho10, hb10⟩
  have hr := run_string_sl (P := Try.prog) w10 22 9 5 Try.underlying22 Try.underlying5 Try.underlying9 v10 _ (Sl.of_own ho10)
  rw [fix5] at hr
  have r11 := r10.below hb10
  have r12 := r9.below hb10
  have hb' := hb.trans (hb10.mono hb.size)
  clear ho10 hb10 hb r10 r9
  go_wp2_with fail
  refine (done_any g ([], false) w10 r11).mono ?_
  intro e w' H
  obtain ⟨rfl, rfl⟩ := (H : Same w10 (.bool true) e w')
  go_wp2_with fail
  refine (num_any q _ 9 w10 r12).mono ?_
  intro e w13 H
  rw [fix4] at H
  obtain ⟨rfl, r13, hb13⟩ := H
  have hb := hb'.trans (hb13.below hqg hb'.size)
  clear hb13 hb' hr r11 r12
  go_wp2_with fail
  refine (fail_any q _ w13 r13).mono ?_
  rintro e w' ⟨rfl, rfl⟩
  go_wp2_with fail
  refine (fail_nil w13).mono ?_
  rintro e w' ⟨rfl, rfl⟩
  go_wp2_with fail
  refine (num_nil 1 w13).mono ?_
  rintro e w' ⟨rfl, rfl⟩
  go_wp2_with fail
  refine (rtext_nil 3 w13).mono ?_
  rintro e w' ⟨rfl, rfl⟩
  go_wp2
  go_ret
  exact ⟨rfl, hb⟩

end Go.Proofs.Ytibipkbnncadlaa
