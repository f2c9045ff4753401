/-
  slices.Grow of nil, slices.Concat over bytes: the contracts, by walks. Conditions: bounds on lengths.
-/
import Derived.Test.YtkdfedcmhcchiaaCrcParts
import Derived.Lib.AppendZeros
namespace Go.Proofs.Ytkdfedcmhcchiaa
open Go.RowKit

theorem zeros_world (w : World) (n c : Nat) (hn : n ≤ c) (hc : c ≤ maxLen) : (w.drew.alloc (.cells (Builtin.zeroCells (Value.int .u8 0).cells n ++ Builtin.zeroCells (Value.int .u8 0).cells (c - n)) 5)).ownsRow w.heap.size 5 1 (.slice (some ⟨w.heap.size, 0, none⟩) 0 c) 0 [] := by
  refine World.ownsRow_made w.drew _ c (Nat.le_refl _) hc ?_
  simp [Builtin.zeroCells, Value.cells]; omega

set_option maxHeartbeats 400000 in
theorem grow_zero (w : World) : Calls Try.prog 40 #[.slice none 0 0, .int .i64 0] w fun e w' => e = .returned (.slice none 0 0) ∧ w = w' := by
  go_enter Try.func40, Try.ntmps40
  go_wp2
  go_ret
  exact ⟨rfl, rfl⟩

set_option maxHeartbeats 400000 in
theorem grow_some (n : Nat) (w : World) (h0 : 0 < n) (h : n ≤ 140737488355328) : Calls Try.prog 40 #[.slice none 0 0, .int .i64 n] w fun e w' => ∃ v, e = .returned v ∧ w'.ownsRow w.heap.size 5 1 v 0 [] ∧ Below w.heap.size w w' := by
  obtain ⟨i0, hi, hz0, hz1, hz2⟩ := info_parts infoB
  have hr := Lib.run_append_nil_zeros (P := Try.prog) w 34 3 34 5 i0 (.int .u8 0) .i64 .i64 Try.underlying34 Try.underlying3 hi hz0 n h0 (by omega) (by omega) (by rw [hz2]; omega)
  have hcap : n ≤ grownCap w n 0 5 := grownCap_ge w n 0 _
  have hcm : grownCap w n 0 5 ≤ maxLen := grownCap_le_maxLen w n 0 _ (by unfold maxLen; omega)
  have hown := zeros_world w n (grownCap w n 0 5) hcap hcm
  generalize grownCap w n 0 5 = C at *
  have HR := Lib.hid hr; clear hr
  have HO := Lib.hid hown; clear hown
  unfold maxLen at hcm
  go_enter Try.func40, Try.ntmps40
  go_wp2_with (at_builtin; refine Lib.wpList_append_run _ rfl _ _ _ _ rfl _ _ rfl rfl _ _ HR.out ?_)
  go_ret
  exact ⟨_, rfl, HO.out, (Below.refl _ _).drew.alloc (Nat.le_refl _) _⟩

theorem grow_any (n : Nat) (w : World) (h : n ≤ 140737488355328) : Calls Try.prog 40 #[.slice none 0 0, .int .i64 n] w fun e w' => ∃ v, e = .returned v ∧ w'.ownsRow w.heap.size 5 1 v 0 [] ∧ Below w.heap.size w w' := by
  rcases Nat.eq_zero_or_pos n with rfl | h0
  · exact (grow_zero w).mono fun e w' ⟨he, hw⟩ => ⟨_, he, World.ownsRow_nil _ _ _ _, hw ▸ Below.refl _ _⟩
  · exact grow_some n w h0 h

/-- Pieces: each slice with what it says; all of them, one behind the other. -/
def flat (ls : List (Value × List UInt8)) : List UInt8 := ls.flatMap (·.2)
theorem flat_snoc (ls : List (Value × List UInt8)) (k : Nat) (h : k < ls.length) : flat (ls.take (k + 1)) = flat (ls.take k) ++ ls[k].2 := by
  unfold flat
  rw [List.take_succ_eq_append_getElem h, List.flatMap_append]; simp
theorem flat_take (ls : List (Value × List UInt8)) (k : Nat) : (flat (ls.take k)).length ≤ (flat ls).length := by
  have : flat ls = flat (ls.take k) ++ flat (ls.drop k) := by unfold flat; rw [← List.flatMap_append, List.take_append_drop]
  rw [this, List.length_append]; omega

set_option maxHeartbeats 400000 in
theorem concat_any (b o c : Nat) (ls : List (Value × List UInt8)) (w : World) (h0 : 0 < ls.length) (hc31 : ls.length ≤ 1000) (hb : b < w.heap.size)
    (hcell : ∀ j u, ls[j]? = some u → w.cell? ⟨b, o + j, none⟩ = some u.1) (hsl : ∀ p ∈ ls, Sl bv w p.1 p.2) (hlen : (flat ls).length ≤ 140737488355328) :
    Calls Try.prog 35 #[.slice (some ⟨b, o, none⟩) ls.length c] w fun e w' => ∃ v, e = .returned v ∧ w'.ownsRow w.heap.size 5 1 v (flat ls).length (bs (flat ls)) ∧ Below w.heap.size w w' := by
  obtain ⟨i0, hi, hz0, hz1, hz2⟩ := info_parts infoB
  go_enter Try.func35, Try.ntmps35
  go_wp2
  go_loop [3, 11] (fun n i => ∃ k : Nat, k ≤ ls.length ∧ i = .int .i64 k ∧ n = .int .i64 (flat (ls.take k)).length) (fun _ i => ls.length - (intOf i).toNat)
  case atStart => exact ⟨0, Nat.zero_le _, rfl, rfl⟩
  case round =>
    obtain ⟨k, hk, rfl, rfl⟩ := hrel
    by_cases hlt : k < ls.length
    · have hck := hcell k ls[k] (List.getElem?_eq_getElem hlt)
      obtain ⟨A, cc, hv, hlc', _⟩ := hsl ls[k] (List.getElem_mem hlt)
      have hs := flat_snoc ls k hlt
      have ht := flat_take ls (k + 1)
      have hN : (flat (ls.take (k + 1))).length = (flat (ls.take k)).length + ls[k].2.length := by rw [hs, List.length_append]
      rw [hv] at hck
      generalize ls[k].2.length = m at *
      have HN := Lib.hid hN
      have hb1 : (flat (ls.take k)).length + m ≤ 140737488355328 := by omega
      clear hN hs ht hv hsl hcell
      go_wp2
      go_round
      case rel => exact ⟨k + 1, by omega, by go_num, by rw [HN.out]; go_num⟩
      case measure => simp [intOf]; omega
    · have hkk : k = ls.length := by omega
      subst hkk
      rw [List.take_length]
      go_wp2_with fail
      refine (grow_any _ _ hlen).mono ?_
      rintro e w1 ⟨v, rfl, hown1, hb1⟩
      go_wp2
      go_loopw [6, 27] (fun v i wr => ∃ k : Nat, k ≤ ls.length ∧ i = .int .i64 k ∧ wr.ownsRow w.heap.size 5 1 v (flat (ls.take k)).length (bs (flat (ls.take k))) ∧ Below w.heap.size w wr) (fun _ i _ => ls.length - (intOf i).toNat)
      case atStart => exact ⟨0, Nat.zero_le _, rfl, hown1, hb1⟩
      case round =>
        clear hown1 hb1
        obtain ⟨k, hk, rfl, hown, hbl⟩ := hrel
        by_cases hlt : k < ls.length
        · have hck := (hbl.cell (p := ⟨b, o + k, none⟩) hb).trans (hcell k ls[k] (List.getElem?_eq_getElem hlt))
          have hsk := (hsl ls[k] (List.getElem_mem hlt)).below hbl
          have hs := flat_snoc ls k hlt
          have ht := flat_take ls (k + 1)
          have hN : (flat (ls.take (k + 1))).length = (flat (ls.take k)).length + ls[k].2.length := by rw [hs, List.length_append]
          obtain ⟨v', w2, hr, ho2, hg2⟩ := run_append_sl (P := Try.prog) wr w.heap.size 34 34 5 i0 (.int .u8 0) 1 Try.underlying34 hi hz0 hz1 hz2 rfl _ _ _ hown _ _ hsk (fun _ => rfl) (by omega) (by omega) hbl.size
          have hb2 : Below w.heap.size w w2 := hbl.grown hg2 hbl.size (fun k hk => (hown.lt k hk).1)
          have ho3 : w2.ownsRow w.heap.size 5 1 v' (flat (ls.take (k + 1))).length (bs (flat (ls.take (k + 1)))) := by rw [hN, hs, bs_append]; exact ho2
          generalize ls[k].1 = x at *
          have HR := Lib.hid hr
          clear hr ho2 hg2 hN hs ht hsk hown hcell hsl
          have HO := Lib.hid ho3; clear ho3
          go_wp2_with (at_builtin; refine Lib.wpList_append_run _ rfl _ _ _ _ rfl _ _ rfl rfl _ _ HR.out ?_)
          go_roundw
          case rel => exact ⟨k + 1, by omega, by go_num, HO.out, hb2⟩
          case measure => simp [intOf]; omega
        · have hkk : k = ls.length := by omega
          subst hkk
          rw [List.take_length] at hown
          have HO := Lib.hid hown; clear hown
          go_wp2
          go_ret
          exact ⟨_, rfl, HO.out, hbl⟩

end Go.Proofs.Ytkdfedcmhcchiaa
