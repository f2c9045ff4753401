/-
  NUMBERS AS BYTES: plain mathematics; nothing of the program. num.laid, slices.Grow, slices.Concat, slices.Clone over bytes: the contracts, by walks. slices.Grow of nil, slices.Concat, slices.Clone over bytes: the contracts, by walks. num.Put, num.Signed, num.Text: the contracts, by walks. Conditions: lengths.
-/
import Derived.Test.YtejljikikhecnaaGreatNWo
import Derived.Below
import Derived.Test.YtejljikikhecnaaGreatRows
import Derived.Lib.AppendZeros
namespace Go.Proofs.YtejljikikhecnaaGreat

def encF : Nat → Nat → List UInt8
  | 0, n => [UInt8.ofNat n]
  | f + 1, n => if 127 < n then UInt8.ofNat (n % 128 + 128) :: encF f (n / 128) else [UInt8.ofNat n]
/-- A number's bytes. -/
def enc (n : Nat) : List UInt8 := encF n n

theorem encF_eq : ∀ (f g n : Nat), n ≤ f → n ≤ g → encF f n = encF g n
  | 0, 0, _, _, _ => rfl
  | 0, g + 1, n, h, _ => by
    have : ¬ 127 < n := by omega
    simp [encF, this]
  | f + 1, 0, n, _, h => by
    have : ¬ 127 < n := by omega
    simp [encF, this]
  | f + 1, g + 1, n, hf, hg => by
    by_cases h : 127 < n
    · simp only [encF, if_pos h]
      rw [encF_eq f g (n / 128) (by omega) (by omega)]
    · simp [encF, h]

theorem enc_big (n : Nat) (h : 127 < n) : enc n = UInt8.ofNat (n % 128 + 128) :: enc (n / 128) := by
  obtain ⟨m, rfl⟩ : ∃ m, n = m + 1 := ⟨n - 1, by omega⟩
  show encF (m + 1) (m + 1) = _
  simp only [encF, if_pos h]
  rw [enc, encF_eq m ((m + 1) / 128) ((m + 1) / 128) (by omega) (by omega)]
theorem enc_small (n : Nat) (h : ¬ 127 < n) : enc n = [UInt8.ofNat n] := by
  unfold enc
  cases n with
  | zero => rfl
  | succ m => simp [encF, h]
theorem enc_ne (n : Nat) : enc n ≠ [] := by
  by_cases h : 127 < n
  · rw [enc_big n h]; simp
  · rw [enc_small n h]; simp

/-- As many bytes as it takes. -/
theorem enc_length_le : ∀ (k n : Nat), n < 128 ^ (k + 1) → (enc n).length ≤ k + 1
  | 0, n, h => by rw [enc_small n (by omega)]; simp
  | k + 1, n, h => by
    by_cases hn : 127 < n
    · rw [enc_big n hn]
      have := enc_length_le k (n / 128) (by rw [Nat.div_lt_iff_lt_mul (by omega)]; rw [Nat.pow_succ] at h; omega)
      simp; omega
    · rw [enc_small n hn]; simp
theorem enc_length_9 (n : Nat) (h : n < 4611686018427387904) : (enc n).length ≤ 9 :=
  enc_length_le 8 n (by omega)

theorem enc_mono : ∀ (m n : Nat), m ≤ n → (enc m).length ≤ (enc n).length := by
  intro m
  induction m using Nat.strongRecOn with
  | ind m ih =>
    intro n h
    by_cases hm : 127 < m
    · rw [enc_big m hm, enc_big n (by omega)]
      have := ih (m / 128) (by omega) (n / 128) (by omega)
      simpa using this
    · rw [enc_small m hm]
      have := List.length_pos_iff.2 (enc_ne n)
      simp only [List.length_cons, List.length_nil]; omega

theorem ofNat_toNat (x : Nat) (h : x < 256) : (UInt8.ofNat x).toNat = x := by
  simp; omega

/-- No number's bytes are the beginning of another one's. -/
theorem enc_prefix : ∀ (m n : Nat) (l k : List UInt8), enc m ++ l = enc n ++ k → m = n ∧ l = k := by
  intro m
  induction m using Nat.strongRecOn with
  | ind m ih =>
    intro n l k h
    by_cases hm : 127 < m <;> by_cases hn : 127 < n
    · rw [enc_big m hm, enc_big n hn] at h
      simp only [List.cons_append, List.cons.injEq] at h
      obtain ⟨h1, h2⟩ := h
      have e := congrArg UInt8.toNat h1
      rw [ofNat_toNat _ (by omega), ofNat_toNat _ (by omega)] at e
      obtain ⟨e2, e3⟩ := ih (m / 128) (by omega) (n / 128) l k h2
      exact ⟨by omega, e3⟩
    · rw [enc_big m hm, enc_small n hn] at h
      simp only [List.cons_append, List.cons.injEq] at h
      have e := congrArg UInt8.toNat h.1
      rw [ofNat_toNat _ (by omega), ofNat_toNat _ (by omega)] at e
      omega
    · rw [enc_small m hm, enc_big n hn] at h
      simp only [List.cons_append, List.cons.injEq] at h
      have e := congrArg UInt8.toNat h.1
      rw [ofNat_toNat _ (by omega), ofNat_toNat _ (by omega)] at e
      omega
    · rw [enc_small m hm, enc_small n hn] at h
      simp only [List.cons_append, List.cons.injEq, List.nil_append] at h
      have e := congrArg UInt8.toNat h.1
      rw [ofNat_toNat _ (by omega), ofNat_toNat _ (by omega)] at e
      exact ⟨e, h.2⟩

/-- A signed number as one without a sign. -/
def zig (n : Int) : Nat := if n < 0 then (-2 * n - 1).toNat else (2 * n).toNat
/-- What is put: nothing beyond the range. -/
def putB (n : Int) : List UInt8 := if n < 0 ∨ 4611686018427387904 ≤ n then [] else enc n.toNat
def sigB (n : Int) : List UInt8 := if n < -1152921504606846976 ∨ 1152921504606846976 < n then [] else enc (zig n)
theorem sigB_neg (n : Int) (h1 : -1152921504606846976 ≤ n) (h2 : n < 0) : putB (-2 * n - 1) = sigB n := by
  unfold putB sigB zig
  rw [if_neg (by omega), if_neg (by omega), if_pos h2]
theorem sigB_pos (n : Int) (h1 : 0 ≤ n) (h2 : n ≤ 1152921504606846976) : putB (2 * n) = sigB n := by
  unfold putB sigB zig
  rw [if_neg (by omega), if_neg (by omega), if_neg (by omega)]
theorem sigB_none (n : Int) (h : n < -1152921504606846976 ∨ 1152921504606846976 < n) : sigB n = [] := by
  unfold sigB
  rw [if_pos h]
theorem putB_len (n : Int) : (putB n).length ≤ 9 := by
  unfold putB
  split
  · simp
  · exact enc_length_9 _ (by omega)
theorem sigB_len (n : Int) : (sigB n).length ≤ 9 := by
  unfold sigB
  split
  · simp
  · exact enc_length_9 _ (by unfold zig; split <;> omega)

end Go.Proofs.YtejljikikhecnaaGreat

namespace Go.Proofs.YtejljikikhecnaaGreat
open Go.RowKit

theorem infoB : (Tryz.prog.info? 5).map (fun i => (i.zero, i.size, i.bytes)) = some (some (.int .u8 0), 1, 1) := by kernel_rfl

set_option maxRecDepth 100000 in
set_option maxHeartbeats 400000 in
theorem laid_none (n : Int) (w : World) (h : n < 0 ∨ 4611686018427387904 ≤ n) :
    Calls Tryz.prog 90 #[.int .i64 n] w fun e w' => e = .returned (.slice none 0 0) ∧ w = w' := by
  rcases h with h | h
  · go_enter Tryz.func90, Tryz.ntmps90
    go_wp2
    go_ret
    exact ⟨rfl, rfl⟩
  · have h' : ¬ n < 0 := by omega
    go_enter Tryz.func90, Tryz.ntmps90
    go_wp2
    go_ret
    exact ⟨rfl, rfl⟩

set_option maxRecDepth 100000 in
set_option maxHeartbeats 400000 in
theorem laid_some (n : Nat) (w : World) (h : n < 4611686018427387904) :
    Calls Tryz.prog 90 #[.int .i64 n] w fun e w' => ∃ v, e = .returned v ∧ w'.ownsRow w.heap.size 5 1 v (enc n).length (bs (enc n)) ∧ Below w.heap.size w w' := by
  obtain ⟨i0, hi, hz0, hz1, hz2⟩ := info_parts infoB
  have h9 := enc_length_9 n h
  go_enter Tryz.func90, Tryz.ntmps90
  go_wp2
  go_loopw [3, 0] (fun v t wr => ∃ (m : Nat) (p : List UInt8), t = .int .i64 m ∧ m ≤ n ∧ p ++ enc m = enc n ∧ wr.ownsRow w.heap.size 5 1 v p.length (bs p) ∧ Below w.heap.size w wr) (fun _ t _ => (intOf t).toNat)
  case atStart => exact ⟨n, [], rfl, Nat.le_refl _, rfl, World.ownsRow_nil _ _ _ _, Below.refl _ _⟩
  case round =>
    obtain ⟨m, p, rfl, hm, hp, hown, hb⟩ := hrel
    have HP := Lib.hid hp; clear hp
    have hsz := hb.size
    have hpl : p.length + (enc m).length ≤ 9 := by rw [← List.length_append, HP.out]; exact h9
    have h1 := List.length_pos_iff.2 (enc_ne m)
    by_cases hc : 127 < m
    · go_wp2_with (at_builtin; refine wpList_append_own _ rfl _ _ 30 rfl w.heap.size 5 i0 (.int .u8 0) 1 1 Tryz.underlying30 hi hz0 hz1 hz2 rfl (by decide) _ _ _ rfl (hown.alloc _) ⟨wr.heap.size, 0, none⟩ 1 1 [.int .u8 (m % 128 + 128)] rfl rfl (cell_one_new _ _ _) ?c2 ?c3 ?c4 ?c5 ?_)
      case c2 => intro u hu; simp at hu; subst hu; rfl
      case c3 => unfold maxLen; omega
      case c4 => omega
      case c5 => simp; omega
      intro v' w1 hown' hgrow _
      have e8 : ((UInt8.ofNat (m % 128 + 128)).toNat : Int) = (m : Int) % 128 + 128 := by rw [ofNat_toNat _ (by omega)]; omega
      have R : w1.ownsRow w.heap.size 5 1 v' (p ++ [UInt8.ofNat (m % 128 + 128)]).length (bs (p ++ [UInt8.ofNat (m % 128 + 128)])) ∧ Below w.heap.size w w1 := by
        refine ⟨?_, (hb.alloc (by omega) _).grown hgrow (by simp; omega) (fun k hk => (hown.lt k hk).1)⟩
        rw [bs_append, List.length_append]
        have : bs [UInt8.ofNat (m % 128 + 128)] = [.int .u8 ((m : Int) % 128 + 128)] := by simp only [bs, bv, List.map_cons, List.map_nil, e8]
        rw [this]; exact hown'
      clear hown' hgrow hown hb e8
      have HP' : Hid (p ++ [UInt8.ofNat (m % 128 + 128)] ++ enc (m / 128) = enc n) := Lib.hid (by rw [← HP.out, enc_big m hc]; simp)
      obtain ⟨R1, R2⟩ := R
      go_wp2
      go_roundw
      case rel => exact ⟨m / 128, p ++ [UInt8.ofNat (m % 128 + 128)], by go_num, by omega, HP'.out, R1, R2⟩
      case measure => simp [intOf]; omega
    · go_wp2_with (at_builtin; refine wpList_append_own _ rfl _ _ 30 rfl w.heap.size 5 i0 (.int .u8 0) 1 1 Tryz.underlying30 hi hz0 hz1 hz2 rfl (by decide) _ _ _ rfl (hown.alloc _) ⟨wr.heap.size, 0, none⟩ 1 1 [.int .u8 m] rfl rfl (cell_one_new _ _ _) ?d2 ?d3 ?d4 ?d5 ?_)
      case d2 => intro u hu; simp at hu; subst hu; rfl
      case d3 => unfold maxLen; omega
      case d4 => omega
      case d5 => simp; omega
      intro v' w1 hown' hgrow _
      have R : w1.ownsRow w.heap.size 5 1 v' (enc n).length (bs (enc n)) ∧ Below w.heap.size w w1 := by
        refine ⟨?_, (hb.alloc (by omega) _).grown hgrow (by simp; omega) (fun k hk => (hown.lt k hk).1)⟩
        rw [← HP.out, enc_small m hc, bs_append, List.length_append]
        have : bs [UInt8.ofNat m] = [.int .u8 (m : Int)] := by simp only [bs, bv, List.map_cons, List.map_nil, ofNat_toNat m (by omega)]
        rw [this]; exact hown'
      clear hown' hgrow hown hb
      obtain ⟨R1, R2⟩ := R
      go_wp2
      go_ret
      exact ⟨v', rfl, R1, R2⟩

end Go.Proofs.YtejljikikhecnaaGreat

namespace Go.Proofs.YtejljikikhecnaaGreat
open Go.RowKit

theorem zeros_world (w : World) (n c : Nat) (hn : n ≤ c) (hc : c ≤ maxLen) : (w.drew.alloc (.cells (Builtin.zeroCells (Value.int .u8 0).cells n ++ Builtin.zeroCells (Value.int .u8 0).cells (c - n)) 5)).ownsRow w.heap.size 5 1 (.slice (some ⟨w.heap.size, 0, none⟩) 0 c) 0 [] := by
  refine World.ownsRow_made w.drew _ c (Nat.le_refl _) hc ?_
  simp [Builtin.zeroCells, Value.cells]; omega

set_option maxRecDepth 100000 in
set_option maxHeartbeats 400000 in
theorem grow_zero (w : World) : Calls Tryz.prog 56 #[.slice none 0 0, .int .i64 0] w fun e w' => e = .returned (.slice none 0 0) ∧ w = w' := by
  go_enter Tryz.func56, Tryz.ntmps56
  go_wp2
  go_ret
  exact ⟨rfl, rfl⟩

set_option maxRecDepth 100000 in
set_option maxHeartbeats 400000 in
theorem grow_some (n : Nat) (w : World) (h0 : 0 < n) (h : n ≤ 140737488355328) : Calls Tryz.prog 56 #[.slice none 0 0, .int .i64 n] w fun e w' => ∃ v, e = .returned v ∧ w'.ownsRow w.heap.size 5 1 v 0 [] ∧ Below w.heap.size w w' := by
  obtain ⟨i0, hi, hz0, hz1, hz2⟩ := info_parts infoB
  have hr := Lib.run_append_nil_zeros (P := Tryz.prog) w 30 3 30 5 i0 (.int .u8 0) .i64 .i64 Tryz.underlying30 Tryz.underlying3 hi hz0 n h0 (by omega) (by omega) (by rw [hz2]; omega)
  have hcap : n ≤ grownCap w n 0 5 := grownCap_ge w n 0 _
  have hcm : grownCap w n 0 5 ≤ maxLen := grownCap_le_maxLen w n 0 _ (by unfold maxLen; omega)
  have hown := zeros_world w n (grownCap w n 0 5) hcap hcm
  generalize grownCap w n 0 5 = C at *
  have HR := Lib.hid hr; clear hr
  have HO := Lib.hid hown; clear hown
  unfold maxLen at hcm
  go_enter Tryz.func56, Tryz.ntmps56
  go_wp2_with (at_builtin; refine Lib.wpList_append_run _ rfl _ _ _ _ rfl _ _ rfl rfl _ _ HR.out ?_)
  go_ret
  exact ⟨_, rfl, HO.out, (Below.refl _ _).drew.alloc (Nat.le_refl _) _⟩

theorem grow_any (n : Nat) (w : World) (h : n ≤ 140737488355328) : Calls Tryz.prog 56 #[.slice none 0 0, .int .i64 n] w fun e w' => ∃ v, e = .returned v ∧ w'.ownsRow w.heap.size 5 1 v 0 [] ∧ Below w.heap.size w w' := by
  rcases Nat.eq_zero_or_pos n with rfl | h0
  · exact (grow_zero w).mono fun e w' ⟨he, hw⟩ => ⟨_, he, World.ownsRow_nil _ _ _ _, hw ▸ Below.refl _ _⟩
  · exact grow_some n w h0 h

/-- Pieces: each slice with what it says; all of them, one behind the other. -/
def flat (ls : List (Value × List UInt8)) : List UInt8 := ls.flatMap (·.2)
theorem flat_snoc (ls : List (Value × List UInt8)) (k : Nat) (h : k < ls.length) : flat (ls.take (k + 1)) = flat (ls.take k) ++ ls[k].2 := by
  unfold flat
  rw [List.take_succ_eq_append_getElem h, List.flatMap_append]; simp
theorem flat_take (ls : List (Value × List UInt8)) (k : Nat) : (flat (ls.take k)).length ≤ (flat ls).length := by
  have : flat ls = flat (ls.take k) ++ flat (ls.drop k) := by unfold flat; rw [← List.flatMap_append, List.take_append_drop]
  rw [this, List.length_append]; omega

set_option maxRecDepth 100000 in
set_option maxHeartbeats 400000 in
theorem concat_any (b o c : Nat) (ls : List (Value × List UInt8)) (w : World) (h0 : 0 < ls.length) (hc31 : ls.length ≤ 1000) (hb : b < w.heap.size)
    (hcell : ∀ j u, ls[j]? = some u → w.cell? ⟨b, o + j, none⟩ = some u.1) (hsl : ∀ p ∈ ls, Sl bv w p.1 p.2) (hlen : (flat ls).length ≤ 140737488355328) :
    Calls Tryz.prog 21 #[.slice (some ⟨b, o, none⟩) ls.length c] w fun e w' => ∃ v, e = .returned v ∧ w'.ownsRow w.heap.size 5 1 v (flat ls).length (bs (flat ls)) ∧ Below w.heap.size w w' := by
  obtain ⟨i0, hi, hz0, hz1, hz2⟩ := info_parts infoB
  go_enter Tryz.func21, Tryz.ntmps21
  go_wp2
  go_loop [3, 11] (fun n i => ∃ k : Nat, k ≤ ls.length ∧ i = .int .i64 k ∧ n = .int .i64 (flat (ls.take k)).length) (fun _ i => ls.length - (intOf i).toNat)
  case atStart => exact ⟨0, Nat.zero_le _, rfl, rfl⟩
  case round =>
    obtain ⟨k, hk, rfl, rfl⟩ := hrel
    by_cases hlt : k < ls.length
    · have hck := hcell k ls[k] (List.getElem?_eq_getElem hlt)
      obtain ⟨A, cc, hv, hlc', _⟩ := hsl ls[k] (List.getElem_mem hlt)
      have hs := flat_snoc ls k hlt
      have ht := flat_take ls (k + 1)
      have hN : (flat (ls.take (k + 1))).length = (flat (ls.take k)).length + ls[k].2.length := by rw [hs, List.length_append]
      rw [hv] at hck
      generalize ls[k].2.length = m at *
      have HN := Lib.hid hN
      have hb1 : (flat (ls.take k)).length + m ≤ 140737488355328 := by omega
      clear hN hs ht hv hsl hcell
      go_wp2
      go_round
      case rel => exact ⟨k + 1, by omega, by go_num, by rw [HN.out]; go_num⟩
      case measure => simp [intOf]; omega
    · have hkk : k = ls.length := by omega
      subst hkk
      rw [List.take_length]
      go_wp2_with fail
      refine (grow_any _ _ hlen).mono ?_
      rintro e w1 ⟨v, rfl, hown1, hb1⟩
      go_wp2
      go_loopw [6, 27] (fun v i wr => ∃ k : Nat, k ≤ ls.length ∧ i = .int .i64 k ∧ wr.ownsRow w.heap.size 5 1 v (flat (ls.take k)).length (bs (flat (ls.take k))) ∧ Below w.heap.size w wr) (fun _ i _ => ls.length - (intOf i).toNat)
      case atStart => exact ⟨0, Nat.zero_le _, rfl, hown1, hb1⟩
      case round =>
        clear hown1 hb1
        obtain ⟨k, hk, rfl, hown, hbl⟩ := hrel
        by_cases hlt : k < ls.length
        · have hck := (hbl.cell (p := ⟨b, o + k, none⟩) hb).trans (hcell k ls[k] (List.getElem?_eq_getElem hlt))
          have hsk := (hsl ls[k] (List.getElem_mem hlt)).below hbl
          have hs := flat_snoc ls k hlt
          have ht := flat_take ls (k + 1)
          have hN : (flat (ls.take (k + 1))).length = (flat (ls.take k)).length + ls[k].2.length := by rw [hs, List.length_append]
          obtain ⟨v', w2, hr, ho2, hg2⟩ := run_append_sl (P := Tryz.prog) wr w.heap.size 30 30 5 i0 (.int .u8 0) 1 Tryz.underlying30 hi hz0 hz1 hz2 rfl _ _ _ hown _ _ hsk (fun _ => rfl) (by omega) (by omega) hbl.size
          have hb2 : Below w.heap.size w w2 := hbl.grown hg2 hbl.size (fun k hk => (hown.lt k hk).1)
          have ho3 : w2.ownsRow w.heap.size 5 1 v' (flat (ls.take (k + 1))).length (bs (flat (ls.take (k + 1)))) := by rw [hN, hs, bs_append]; exact ho2
          generalize ls[k].1 = x at *
          have HR := Lib.hid hr
          clear hr ho2 hg2 hN hs ht hsk hown hcell hsl
          have HO := Lib.hid ho3; clear ho3
          go_wp2_with (at_builtin; refine Lib.wpList_append_run _ rfl _ _ _ _ rfl _ _ rfl rfl _ _ HR.out ?_)
          go_roundw
          case rel => exact ⟨k + 1, by omega, by go_num, HO.out, hb2⟩
          case measure => simp [intOf]; omega
        · have hkk : k = ls.length := by omega
          subst hkk
          rw [List.take_length] at hown
          have HO := Lib.hid hown; clear hown
          go_wp2
          go_ret
          exact ⟨_, rfl, HO.out, hbl⟩

set_option maxRecDepth 100000 in
set_option maxHeartbeats 400000 in
theorem clone_any (v : Value) (l : List UInt8) (w : World) (h : Sl bv w v l) (hlen : l.length ≤ 140737488355328) :
    Calls Tryz.prog 115 #[v] w fun e w' => ∃ v', e = .returned v' ∧ w'.ownsRow w.heap.size 5 1 v' l.length (bs l) ∧ Below w.heap.size w w' := by
  obtain ⟨i0, hi, hz0, hz1, hz2⟩ := info_parts infoB
  have hw1 : (w.alloc (.cells #[] 5)).ownsRow w.heap.size 5 1 (.slice (some ⟨w.heap.size, 0, none⟩) 0 0) 0 [] := World.ownsRow_made w #[] 0 (Nat.le_refl _) (by unfold maxLen; omega) rfl
  have hs1 := h.alloc (.cells #[] 5)
  obtain ⟨v', w2, hr, ho2, hg2⟩ := run_append_sl (P := Tryz.prog) (w.alloc (.cells #[] 5)) w.heap.size 30 30 5 i0 (.int .u8 0) 1 Tryz.underlying30 hi hz0 hz1 hz2 rfl _ _ _ hw1 _ _ hs1 (fun _ => rfl) (by omega) (by omega) (by simp)
  have hb2 : Below w.heap.size w w2 := ((Below.refl _ _).alloc (Nat.le_refl _) _).grown hg2 (by simp) (fun k hk => (hw1.lt k hk).1)
  obtain ⟨A, c, rfl, hlc, hx⟩ := h
  simp only [Nat.zero_add, List.nil_append] at ho2
  have HR := Lib.hid hr
  have HO := Lib.hid ho2
  rcases A with _ | ad
  · have : l = [] := by
      rcases l with _ | ⟨a, t⟩
      · rfl
      · obtain ⟨b, o, hA, _⟩ := hx (by simp); cases hA
    subst this
    clear hr ho2 hg2 hs1 hw1 hx
    have hnil := fun n c => Lib.run_eql_slice_nil (P := Tryz.prog) w 30 5 none n c 0 0 Tryz.underlying30
    go_enter Tryz.func115, Tryz.ntmps115
    go_wp2
    go_ret
    exact ⟨_, rfl, World.ownsRow_nil _ _ _ _, Below.refl _ _⟩
  · clear hr ho2 hg2 hs1 hw1 hx
    have hnil := fun n c => Lib.run_eql_slice_nil (P := Tryz.prog) w 30 5 (some ad) n c 0 0 Tryz.underlying30
    go_enter Tryz.func115, Tryz.ntmps115
    go_wp2_with (at_builtin; refine Lib.wpList_append_run _ rfl _ _ _ _ rfl _ _ rfl rfl _ _ HR.out ?_)
    go_ret
    exact ⟨_, rfl, HO.out, hb2⟩

end Go.Proofs.YtejljikikhecnaaGreat

namespace Go.Proofs.YtejljikikhecnaaGreat
open Go.RowKit

/-- A call that hands back a slice of its own that reads l, and turns nothing that was there. -/
def Makes (w : World) (l : List UInt8) (e : Ending) (w' : World) : Prop :=
  ∃ v, e = .returned v ∧ w'.ownsRow w.heap.size 5 1 v l.length (bs l) ∧ Below w.heap.size w w'

theorem laid_any (n : Int) (w : World) : Calls Tryz.prog 90 #[.int .i64 n] w (Makes w (putB n)) := by
  by_cases h : n < 0 ∨ 4611686018427387904 ≤ n
  · refine (laid_none n w h).mono fun e w' ⟨he, hw⟩ => ⟨_, he, ?_, hw ▸ Below.refl _ _⟩
    simp only [putB, if_pos h]
    exact World.ownsRow_nil _ _ _ _
  · obtain ⟨m, rfl⟩ := Int.eq_ofNat_of_zero_le (show 0 ≤ n by omega)
    refine (laid_some m w (by omega)).mono fun e w' ⟨v, he, ho, hb⟩ => ⟨v, he, ?_, hb⟩
    simp only [putB, if_neg h, Int.toNat_natCast]
    exact ho

/-- A block of slices, just laid, as a slice of them. -/
theorem cells_laid (w : World) (vs : List Value) (t : TypeId) : ∀ j u, vs[j]? = some u → (w.alloc (.cells vs.toArray t)).cell? ⟨w.heap.size, 0 + j, none⟩ = some u := by
  intro j u hu
  rw [(Blk.new w t vs.toArray).cell (0 + j)]
  simpa using hu

/-- slices.Concat of a block of slices that has just been laid. -/
theorem concat_laid (W : World) (ls : List (Value × List UInt8)) (n c : Nat) (hn : n = ls.length) (h0 : 0 < n) (h31 : n ≤ 1000) (cs : Array Value) (hcs : cs = (ls.map (·.1)).toArray)
    (hsl : ∀ p ∈ ls, Sl bv W p.1 p.2) (hlen : (flat ls).length ≤ 140737488355328) :
    Calls Tryz.prog 21 #[.slice (some ⟨W.heap.size, 0, none⟩) n c] (W.alloc (.cells cs 30)) (Makes (W.alloc (.cells cs 30)) (flat ls)) := by
  subst hn hcs
  refine concat_any W.heap.size 0 c ls _ h0 h31 (by simp) ?_ (fun p hp => (hsl p hp).alloc _) hlen
  intro j u hu
  exact cells_laid W (ls.map (·.1)) 30 j u.1 (by rw [List.getElem?_map, hu]; rfl)

theorem Makes.behind {w w1 : World} {l : List UInt8} {e : Ending} {w' : World} (h : Makes w1 l e w') (hb : Below w.heap.size w w1) : Makes w l e w' := by
  obtain ⟨v3, rfl, ⟨a1, a2⟩, hb3⟩ := h
  have hs := hb.size
  refine ⟨v3, rfl, ⟨a1, ?_⟩, hb.trans (hb3.mono hs)⟩
  rcases a2 with a2 | ⟨g, cap, cur, a3, a4, a5⟩
  · exact .inl a2
  · exact .inr ⟨g, cap, cur, a3, by omega, a5⟩

set_option maxRecDepth 100000 in
set_option maxHeartbeats 400000 in
theorem put_any (v : Value) (l : List UInt8) (n : Int) (w : World) (h : Sl bv w v l) (hlen : l.length ≤ 140737488350000) :
    Calls Tryz.prog 57 #[v, .int .i64 n] w (Makes w (l ++ putB n)) := by
  have hpl := putB_len n
  obtain ⟨A, c, rfl⟩ := h.form
  go_enter Tryz.func57, Tryz.ntmps57
  go_wp2_with fail
  refine (laid_any n w).mono ?_
  rintro e w1 ⟨v1, rfl, ho1, hb1⟩
  have hs1 := (Sl.of_own ho1)
  obtain ⟨A1, c1, rfl⟩ := hs1.form
  go_wp2_with fail
  have hfl : flat [(.slice A l.length c, l), (.slice A1 (putB n).length c1, putB n)] = l ++ putB n := by simp [flat]
  refine (concat_laid w1 [(.slice A l.length c, l), (.slice A1 (putB n).length c1, putB n)] 2 2 rfl (by omega) (by omega) _ rfl ?_ (by rw [hfl, List.length_append]; omega)).mono ?_
  · intro p hp
    simp only [List.mem_cons, List.not_mem_nil, or_false] at hp
    rcases hp with rfl | rfl
    · exact h.below hb1
    · exact hs1
  · intro e w3 H
    have H2 := H.behind (hb1.alloc hb1.size _)
    rw [hfl] at H2
    obtain ⟨v3, rfl, H3⟩ := H2
    have H4 : Makes w (l ++ putB n) (.returned v3) w3 := ⟨v3, rfl, H3⟩
    clear H H3
    go_wp2
    go_ret
    exact H4

set_option maxRecDepth 100000 in
set_option maxHeartbeats 400000 in
theorem signed_any (v : Value) (l : List UInt8) (n : Int) (w : World) (h : Sl bv w v l) (hlen : l.length ≤ 140737488350000) :
    Calls Tryz.prog 92 #[v, .int .i64 n] w (Makes w (l ++ sigB n)) := by
  by_cases h1 : n < -1152921504606846976
  · have hc := clone_any v l w h (by omega)
    rw [sigB_none n (.inl h1), List.append_nil]
    go_enter Tryz.func92, Tryz.ntmps92
    go_wp2_with fail
    refine hc.mono ?_
    rintro e w1 ⟨v1, rfl, ho1, hb1⟩
    have H : Makes w l (.returned v1) w1 := ⟨v1, rfl, ho1, hb1⟩
    clear ho1 hb1 h
    go_wp2
    go_ret
    exact H
  · by_cases h2 : 1152921504606846976 < n
    · have hc := clone_any v l w h (by omega)
      rw [sigB_none n (.inr h2), List.append_nil]
      go_enter Tryz.func92, Tryz.ntmps92
      go_wp2_with fail
      refine hc.mono ?_
      rintro e w1 ⟨v1, rfl, ho1, hb1⟩
      have H : Makes w l (.returned v1) w1 := ⟨v1, rfl, ho1, hb1⟩
      clear ho1 hb1 h
      go_wp2
      go_ret
      exact H
    · by_cases h3 : n < 0
      · rw [← sigB_neg n (by omega) h3]
        go_enter Tryz.func92, Tryz.ntmps92
        go_wp2_with fail
        refine (put_any v l _ w h hlen).mono ?_
        rintro e w1 H
        obtain ⟨v1, rfl, H1⟩ := H
        have H : Makes w (l ++ putB (-2 * n - 1)) (.returned v1) w1 := ⟨v1, rfl, H1⟩
        clear H1
        go_wp2
        go_ret
        exact H
      · rw [← sigB_pos n (by omega) (by omega)]
        go_enter Tryz.func92, Tryz.ntmps92
        go_wp2_with fail
        refine (put_any v l _ w h hlen).mono ?_
        rintro e w1 H
        obtain ⟨v1, rfl, H1⟩ := H
        have H : Makes w (l ++ putB (2 * n)) (.returned v1) w1 := ⟨v1, rfl, H1⟩
        clear H1
        go_wp2
        go_ret
        exact H

theorem str_len (s : ByteArray) : s.data.toList.length = s.size := by rw [Array.length_toList]; rfl

/-- The slice that a conversion of a text makes reads its bytes. -/
theorem conv_sl (w : World) (e : TypeId) (s : ByteArray) : Sl bv (Lib.bytesWorld w e s) (.slice (some ⟨w.heap.size, 0, none⟩) s.size (grownCap w s.size 0 e)) s.data.toList := by
  refine ⟨some ⟨w.heap.size, 0, none⟩, _, by rw [str_len], by rw [str_len]; exact grownCap_ge w s.size 0 e, fun _ => ⟨_, 0, rfl, by rw [Lib.bytesWorld_size]; omega, fun j u hu => ?_⟩⟩
  have hj : j < s.size := by rw [← str_len]; exact (List.getElem?_eq_some_iff.1 hu).1
  rw [Nat.zero_add, Lib.bytesWorld_cell w e s j hj]
  simp [List.getD, hu, bv]
theorem conv_below (w : World) (e : TypeId) (s : ByteArray) : Below w.heap.size w (Lib.bytesWorld w e s) := by
  refine ⟨rfl, rfl, rfl, by rw [Lib.bytesWorld_size]; omega, fun k hk => Lib.bytesWorld_at_old w e s k hk⟩

set_option maxRecDepth 100000 in
set_option maxHeartbeats 400000 in
theorem text_any (v : Value) (l : List UInt8) (s : ByteArray) (w : World) (h : Sl bv w v l) (hlen : l.length + s.size ≤ 140737488350000) :
    Calls Tryz.prog 91 #[v, .string s] w (Makes w (l ++ (putB s.size ++ s.data.toList))) := by
  have hpl := putB_len s.size
  have hconv := fun W => Lib.run_convert_string_bytes (P := Tryz.prog) W 9 30 5 s Tryz.underlying9 Tryz.underlying30 Tryz.underlying5
  obtain ⟨A, c, rfl⟩ := h.form
  go_enter Tryz.func91, Tryz.ntmps91
  go_wp2_with fail
  refine (laid_any _ w).mono ?_
  rintro e w1 ⟨v1, rfl, ho1, hb1⟩
  have hs1 := (Sl.of_own ho1)
  obtain ⟨A1, c1, rfl⟩ := hs1.form
  go_wp2_with fail
  have hs3 := conv_sl w1 5 s
  have hb2 := conv_below w1 5 s
  have hbw : Below w.heap.size w (Lib.bytesWorld w1 5 s) := hb1.trans (hb2.mono hb1.size)
  have hfl : flat [(.slice A l.length c, l), (.slice A1 (putB s.size).length c1, putB s.size), (.slice (some ⟨w1.heap.size, 0, none⟩) s.size (grownCap w1 s.size 0 5), s.data.toList)] = l ++ (putB s.size ++ s.data.toList) := by simp [flat]
  have hln : (l ++ (putB s.size ++ s.data.toList)).length ≤ 140737488355328 := by rw [List.length_append, List.length_append, str_len]; omega
  generalize hWd : Lib.bytesWorld w1 5 s = W at *
  clear hconv
  refine (concat_laid W [(.slice A l.length c, l), (.slice A1 (putB s.size).length c1, putB s.size), (.slice (some ⟨w1.heap.size, 0, none⟩) s.size (grownCap w1 s.size 0 5), s.data.toList)] 3 3 rfl (by omega) (by omega) _ rfl ?_ (by rw [hfl]; exact hln)).mono ?_
  · intro p hp
    simp only [List.mem_cons, List.not_mem_nil, or_false] at hp
    rcases hp with rfl | rfl | rfl
    · exact (h.below hb1).below hb2
    · exact hs1.below hb2
    · exact hs3
  · intro e w3 H
    have H2 := H.behind (hbw.alloc hbw.size _)
    rw [hfl] at H2
    obtain ⟨v3, rfl, H3⟩ := H2
    have H4 : Makes w (l ++ (putB s.size ++ s.data.toList)) (.returned v3) w3 := ⟨v3, rfl, H3⟩
    clear H H3
    go_wp2
    go_ret
    exact H4

end Go.Proofs.YtejljikikhecnaaGreat
