/-
  num.laid, slices.Grow, slices.Concat, slices.Clone over bytes: the contracts, by walks. Conditions: bounds on lengths.
-/
import Derived.Test.YtmchnnnpabpelaaRows
import Derived.Test.YtmchnnnpabpelaaWords
import Derived.Test.YtmchnnnpabpelaaNumMath
namespace Go.Proofs.Ytmchnnnpabpelaa
open Go.RowKit

theorem infoB : (Try.prog.info? 5).map (fun i => (i.zero, i.size, i.bytes)) = some (some (.int .u8 0), 1, 1) := by kernel_rfl

set_option maxHeartbeats 400000 in
theorem laid_none (n : Int) (w : World) (h : n < 0 ∨ 4611686018427387904 ≤ n) :
    Calls Try.prog 56 #[.int .i64 n] w fun e w' => e = .returned (.slice none 0 0) ∧ w = w' := by
  rcases h with h | h
  · go_enter Try.func56, Try.ntmps56
    go_wp2
    go_ret
    exact ⟨rfl, rfl⟩
  · have h' : ¬ n < 0 := by omega
    go_enter Try.func56, Try.ntmps56
    go_wp2
    go_ret
    exact ⟨rfl, rfl⟩

set_option maxHeartbeats 400000 in
theorem laid_some (n : Nat) (w : World) (h : n < 4611686018427387904) :
    Calls Try.prog 56 #[.int .i64 n] w fun e w' => ∃ v, e = .returned v ∧ w'.ownsRow w.heap.size 5 1 v (enc n).length (bs (enc n)) ∧ Below w.heap.size w w' := by
  obtain ⟨i0, hi, hz0, hz1, hz2⟩ := info_parts infoB
  have h9 := enc_length_9 n h
  go_enter Try.func56, Try.ntmps56
  go_wp2
  go_loopw [3, 0] (fun v t wr => ∃ (m : Nat) (p : List UInt8), t = .int .i64 m ∧ m ≤ n ∧ p ++ enc m = enc n ∧ wr.ownsRow w.heap.size 5 1 v p.length (bs p) ∧ Below w.heap.size w wr) (fun _ t _ => (intOf t).toNat)
  case atStart => exact ⟨n, [], rfl, Nat.le_refl _, rfl, World.ownsRow_nil _ _ _ _, Below.refl _ _⟩
  case round =>
    obtain ⟨m, p, rfl, hm, hp, hown, hb⟩ := hrel
    have HP := Lib.hid hp; clear hp
    have hsz := hb.size
    have hpl : p.length + (enc m).length ≤ 9 := by rw [← List.length_append, HP.out]; exact h9
    have h1 := List.length_pos_iff.2 (enc_ne m)
    by_cases hc : 127 < m
    · go_wp2_with (at_builtin; refine wpList_append_own _ rfl _ _ 43 rfl w.heap.size 5 i0 (.int .u8 0) 1 1 Try.underlying43 hi hz0 hz1 hz2 rfl (by decide) _ _ _ rfl (hown.alloc _) ⟨wr.heap.size, 0, none⟩ 1 1 [.int .u8 (m % 128 + 128)] rfl rfl (cell_one_new _ _ _) ?c2 ?c3 ?c4 ?c5 ?_)
      case c2 => intro u hu; simp at hu; subst hu; rfl
      case c3 => unfold maxLen; omega
      case c4 => omega
      case c5 => simp; omega
      intro v' w1 hown' hgrow _
      have e8 : ((UInt8.ofNat (m % 128 + 128)).toNat : Int) = (m : Int) % 128 + 128 := by rw [ofNat_toNat _ (by omega)]; omega
      have R : w1.ownsRow w.heap.size 5 1 v' (p ++ [UInt8.ofNat (m % 128 + 128)]).length (bs (p ++ [UInt8.ofNat (m % 128 + 128)])) ∧ Below w.heap.size w w1 := by
        refine ⟨?_, (hb.alloc (by omega) _).grown hgrow (by simp; omega) (fun k hk => (hown.lt k hk).1)⟩
        rw [bs_append, List.length_append]
        have : bs [UInt8.ofNat (m % 128 + 128)] = [.int .u8 ((m : Int) % 128 + 128)] := by simp only [bs, bv, List.map_cons, List.map_nil, e8]
        rw [this]; exact hown'
      clear hown' hgrow hown hb e8
      have HP' : Hid (p ++ [UInt8.ofNat (m % 128 + 128)] ++ enc (m / 128) = enc n) := Lib.hid (by rw [← HP.out, enc_big m hc]; simp)
      obtain ⟨R1, R2⟩ := R
      go_wp2
      go_roundw
      case rel => exact ⟨m / 128, p ++ [UInt8.ofNat (m % 128 + 128)], by go_num, by omega, HP'.out, R1, R2⟩
      case measure => simp [intOf]; omega
    · go_wp2_with (at_builtin; refine wpList_append_own _ rfl _ _ 43 rfl w.heap.size 5 i0 (.int .u8 0) 1 1 Try.underlying43 hi hz0 hz1 hz2 rfl (by decide) _ _ _ rfl (hown.alloc _) ⟨wr.heap.size, 0, none⟩ 1 1 [.int .u8 m] rfl rfl (cell_one_new _ _ _) ?d2 ?d3 ?d4 ?d5 ?_)
      case d2 => intro u hu; simp at hu; subst hu; rfl
      case d3 => unfold maxLen; omega
      case d4 => omega
      case d5 => simp; omega
      intro v' w1 hown' hgrow _
      have R : w1.ownsRow w.heap.size 5 1 v' (enc n).length (bs (enc n)) ∧ Below w.heap.size w w1 := by
        refine ⟨?_, (hb.alloc (by omega) _).grown hgrow (by simp; omega) (fun k hk => (hown.lt k hk).1)⟩
        rw [← HP.out, enc_small m hc, bs_append, List.length_append]
        have : bs [UInt8.ofNat m] = [.int .u8 (m : Int)] := by simp only [bs, bv, List.map_cons, List.map_nil, ofNat_toNat m (by omega)]
        rw [this]; exact hown'
      clear hown' hgrow hown hb
      obtain ⟨R1, R2⟩ := R
      go_wp2
      go_ret
      exact ⟨v', rfl, R1, R2⟩

end Go.Proofs.Ytmchnnnpabpelaa
