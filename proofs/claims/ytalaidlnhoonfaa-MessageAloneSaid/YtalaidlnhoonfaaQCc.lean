/-
  Frames as lists of bytes: what a frame is, what is taken off the front, all of them. Plain mathematics. slices.Grow of nil, slices.Concat over bytes: the contracts, by walks. frame.head, frame.Size, bytes.Equal, bytes.Clone, and the reference's head: the contracts, by walks. Conditions: lengths.
-/
import Derived.Test.YtalaidlnhoonfaaQCb
import Derived.Lib.AppendZeros
import Derived.Laws.OwnMore
namespace Go.Proofs.Ytalaidlnhoonfaa.Fr

/-- What stands ahead of a payload of n bytes. -/
def headB (n : Nat) : List UInt8 := [UInt8.ofNat n, UInt8.ofNat (n / 256), UInt8.ofNat (n / 65536), 165 ^^^ UInt8.ofNat n ^^^ UInt8.ofNat (n / 256) ^^^ UInt8.ofNat (n / 65536)]
/-- A payload's frame. -/
def frameB (p : List UInt8) : List UInt8 := headB p.length ++ p ++ leB (crcOf p)
/-- The length that the first three bytes tell. -/
def lenB : List UInt8 → Nat
  | x :: y :: z :: _ => x.toNat + 256 * y.toNat + 65536 * z.toNat
  | _ => 0
/-- What is at the front: the payload, the frame's size, what is wrong. -/
def takeF (b : List UInt8) : List UInt8 × Nat × Nat :=
  if b.length < 4 then ([], 0, 2)
  else if headB (lenB b) ≠ b.take 4 then ([], 0, 7)
  else if 1048576 < lenB b then ([], 0, 3)
  else if b.length < lenB b + 8 then ([], 0, 2)
  else if leB (crcOf ((b.drop 4).take (lenB b))) ≠ (b.drop (lenB b + 4)).take 4 then ([], 0, 7)
  else ((b.drop 4).take (lenB b), lenB b + 8, 0)
theorem headB_length (n : Nat) : (headB n).length = 4 := rfl
theorem leB_length (r : BitVec 32) : (leB r).length = 4 := rfl
theorem frameB_length (p : List UInt8) : (frameB p).length = p.length + 8 := by
  simp only [frameB, List.length_append, headB_length, leB_length]; omega
theorem lenB_lt (b : List UInt8) : lenB b < 16777216 := by
  match b with
  | x :: y :: z :: t =>
    have := x.toNat_lt; have := y.toNat_lt; have := z.toNat_lt
    show x.toNat + 256 * y.toNat + 65536 * z.toNat < _
    omega
  | [] => simp [lenB]
  | [_] => simp [lenB]
  | [_, _] => simp [lenB]
theorem lenB_head (n : Nat) (t : List UInt8) (h : n < 16777216) : lenB (headB n ++ t) = n := by
  show (UInt8.ofNat n).toNat + 256 * (UInt8.ofNat (n / 256)).toNat + 65536 * (UInt8.ofNat (n / 65536)).toNat = n
  simp only [UInt8.toNat_ofNat']
  omega
/-- A frame is taken as it was put, whatever stands behind. -/
theorem takeF_frame (p t : List UInt8) (h : p.length ≤ 1048576) : takeF (frameB p ++ t) = (p, p.length + 8, 0) := by
  have hl : lenB (frameB p ++ t) = p.length := by
    rw [frameB, List.append_assoc, List.append_assoc]; exact lenB_head _ _ (by omega)
  have hlen : (frameB p ++ t).length = p.length + 8 + t.length := by rw [List.length_append, frameB_length]
  have h4 : (frameB p ++ t).take 4 = headB p.length := by
    rw [frameB, List.append_assoc, List.append_assoc, List.take_append_of_le_length (by rw [headB_length]; omega)]
    exact List.take_of_length_le (by rw [headB_length]; omega)
  have hd : (frameB p ++ t).drop 4 = p ++ (leB (crcOf p) ++ t) := by
    rw [frameB, List.append_assoc, List.append_assoc, List.drop_append_of_le_length (by rw [headB_length]; omega)]
    rw [List.drop_of_length_le (by rw [headB_length]; omega), List.nil_append]
  have hp : ((frameB p ++ t).drop 4).take p.length = p := by rw [hd]; simp
  have hs : ((frameB p ++ t).drop (p.length + 4)).take 4 = leB (crcOf p) := by
    rw [Nat.add_comm, ← List.drop_drop, hd]
    rw [List.drop_left, List.take_append_of_le_length (by rw [leB_length]; omega)]
    exact List.take_of_length_le (by rw [leB_length]; omega)
  unfold takeF
  rw [hl, hlen, if_neg (by omega), if_neg (by rw [h4]; simp), if_neg (by omega), if_neg (by omega), if_neg (by rw [hp, hs]; simp), hp]

/-- All that are there, one behind the other: fuel bounds them. -/
def allN : Nat → List UInt8 → List (List UInt8) × Nat × Nat
  | 0, _ => ([], 0, 0)
  | f + 1, b => if b = [] then ([], 0, 0) else if (takeF b).2.2 ≠ 0 then ([], 0, (takeF b).2.2)
      else ((takeF b).1 :: (allN f (b.drop (takeF b).2.1)).1, (takeF b).2.1 + (allN f (b.drop (takeF b).2.1)).2.1, (allN f (b.drop (takeF b).2.1)).2.2)
def allF (b : List UInt8) : List (List UInt8) × Nat × Nat := allN (b.length + 1) b
theorem takeF_size (b : List UInt8) (h : (takeF b).2.2 = 0) : 8 ≤ (takeF b).2.1 ∧ (takeF b).2.1 ≤ b.length ∧ (takeF b).1.length + 8 = (takeF b).2.1 := by
  unfold takeF at h ⊢
  split at h
  · cases h
  · split at h
    · cases h
    · split at h
      · cases h
      · split at h
        · cases h
        · split at h
          · cases h
          · rename_i h1 h2 h3 h4 h5
            rw [if_neg h1, if_neg h2, if_neg h3, if_neg h4, if_neg h5]
            simp only [List.length_take, List.length_drop]
            omega
theorem takeF_err (b : List UInt8) (h : (takeF b).2.2 ≠ 0) : (takeF b).1 = [] ∧ (takeF b).2.1 = 0 := by
  unfold takeF at h ⊢
  split <;> (try exact ⟨rfl, rfl⟩)
  split <;> (try exact ⟨rfl, rfl⟩)
  split <;> (try exact ⟨rfl, rfl⟩)
  split <;> (try exact ⟨rfl, rfl⟩)
  split <;> (try exact ⟨rfl, rfl⟩)
  rename_i h1 h2 h3 h4 h5
  rw [if_neg h1, if_neg h2, if_neg h3, if_neg h4, if_neg h5] at h
  exact absurd rfl h
theorem allN_fuel (f : Nat) : ∀ (g : Nat) (b : List UInt8), b.length < f → b.length < g → allN f b = allN g b := by
  induction f with
  | zero => intro g b h; omega
  | succ f ih =>
    intro g b hf hg
    cases g with
    | zero => omega
    | succ g =>
      simp only [allN]
      by_cases h0 : b = []
      · rw [if_pos h0, if_pos h0]
      · rw [if_neg h0, if_neg h0]
        by_cases he : (takeF b).2.2 = 0
        · have hs := takeF_size b he
          have hd : (b.drop (takeF b).2.1).length < b.length := by rw [List.length_drop]; omega
          rw [ih g (b.drop (takeF b).2.1) (by omega) (by omega)]
        · rw [if_pos he, if_pos he]
theorem allF_nil : allF [] = ([], 0, 0) := rfl
theorem allF_err (b : List UInt8) (h0 : b ≠ []) (he : (takeF b).2.2 ≠ 0) : allF b = ([], 0, (takeF b).2.2) := by
  unfold allF; rw [allN, if_neg h0, if_pos he]
theorem allF_cons (b : List UInt8) (h0 : b ≠ []) (he : (takeF b).2.2 = 0) : allF b = ((takeF b).1 :: (allF (b.drop (takeF b).2.1)).1, (takeF b).2.1 + (allF (b.drop (takeF b).2.1)).2.1, (allF (b.drop (takeF b).2.1)).2.2) := by
  have hs := takeF_size b he
  have hd : (b.drop (takeF b).2.1).length < b.length := by rw [List.length_drop]; omega
  unfold allF
  rw [allN, if_neg h0, if_neg (by simp [he]), allN_fuel b.length ((b.drop (takeF b).2.1).length + 1) _ hd (by omega)]

/-- Frames, one behind the other. -/
def framesB (l : List (List UInt8)) : List UInt8 := l.flatMap frameB
theorem allF_frames (l : List (List UInt8)) (t : List UInt8) (h : ∀ p ∈ l, p.length ≤ 1048576) : allF (framesB l ++ t) = (l ++ (allF t).1, (framesB l).length + (allF t).2.1, (allF t).2.2) := by
  induction l with
  | nil => simp [framesB]
  | cons p l ih =>
    have e : framesB (p :: l) ++ t = frameB p ++ (framesB l ++ t) := by simp [framesB]
    have ht := takeF_frame p (framesB l ++ t) (h p (by simp))
    have hl := frameB_length p
    rw [e, allF_cons _ (by intro h0; have := congrArg List.length h0; rw [List.length_append, hl] at this; simp at this) (by rw [ht]), ht]
    have hd : (frameB p ++ (framesB l ++ t)).drop (p.length + 8) = framesB l ++ t := by rw [← hl]; exact List.drop_left ..
    simp only [hd, ih (fun q hq => h q (by simp [hq]))]
    simp only [framesB, List.flatMap_cons, List.length_append, hl, List.cons_append]
    simp only [Prod.mk.injEq, true_and, and_true]
    omega

end Go.Proofs.Ytalaidlnhoonfaa.Fr

namespace Go.Proofs.Ytalaidlnhoonfaa.Fr
open Go.RowKit

theorem zeros_world (w : World) (n c : Nat) (hn : n ≤ c) (hc : c ≤ maxLen) : (w.drew.alloc (.cells (Builtin.zeroCells (Value.int .u8 0).cells n ++ Builtin.zeroCells (Value.int .u8 0).cells (c - n)) 5)).ownsRow w.heap.size 5 1 (.slice (some ⟨w.heap.size, 0, none⟩) 0 c) 0 [] := by
  refine World.ownsRow_made w.drew _ c (Nat.le_refl _) hc ?_
  simp [Builtin.zeroCells, Value.cells]; omega

set_option maxRecDepth 100000 in
set_option maxHeartbeats 400000 in
theorem grow_zero (w : World) : Calls Try.prog 58 #[.slice none 0 0, .int .i64 0] w fun e w' => e = .returned (.slice none 0 0) ∧ w = w' := by
  go_enter Try.func58, Try.ntmps58
  go_wp2
  go_ret
  exact ⟨rfl, rfl⟩

set_option maxRecDepth 100000 in
set_option maxHeartbeats 400000 in
theorem grow_some (n : Nat) (w : World) (h0 : 0 < n) (h : n ≤ 140737488355328) : Calls Try.prog 58 #[.slice none 0 0, .int .i64 n] w fun e w' => ∃ v, e = .returned v ∧ w'.ownsRow w.heap.size 5 1 v 0 [] ∧ Below w.heap.size w w' := by
  obtain ⟨i0, hi, hz0, hz1, hz2⟩ := info_parts infoB
  have hr := Lib.run_append_nil_zeros (P := Try.prog) w 29 3 29 5 i0 (.int .u8 0) .i64 .i64 Try.underlying29 Try.underlying3 hi hz0 n h0 (by omega) (by omega) (by rw [hz2]; omega)
  have hcap : n ≤ grownCap w n 0 5 := grownCap_ge w n 0 _
  have hcm : grownCap w n 0 5 ≤ maxLen := grownCap_le_maxLen w n 0 _ (by unfold maxLen; omega)
  have hown := zeros_world w n (grownCap w n 0 5) hcap hcm
  generalize grownCap w n 0 5 = C at *
  have HR := Lib.hid hr; clear hr
  have HO := Lib.hid hown; clear hown
  unfold maxLen at hcm
  go_enter Try.func58, Try.ntmps58
  go_wp2_with (at_builtin; refine Lib.wpList_append_run _ rfl _ _ _ _ rfl _ _ rfl rfl _ _ HR.out ?_)
  go_ret
  exact ⟨_, rfl, HO.out, (Below.refl _ _).drew.alloc (Nat.le_refl _) _⟩

theorem grow_any (n : Nat) (w : World) (h : n ≤ 140737488355328) : Calls Try.prog 58 #[.slice none 0 0, .int .i64 n] w fun e w' => ∃ v, e = .returned v ∧ w'.ownsRow w.heap.size 5 1 v 0 [] ∧ Below w.heap.size w w' := by
  rcases Nat.eq_zero_or_pos n with rfl | h0
  · exact (grow_zero w).mono fun e w' ⟨he, hw⟩ => ⟨_, he, World.ownsRow_nil _ _ _ _, hw ▸ Below.refl _ _⟩
  · exact grow_some n w h0 h

/-- Pieces: each slice with what it says; all of them, one behind the other. -/
def flat (ls : List (Value × List UInt8)) : List UInt8 := ls.flatMap (·.2)
theorem flat_snoc (ls : List (Value × List UInt8)) (k : Nat) (h : k < ls.length) : flat (ls.take (k + 1)) = flat (ls.take k) ++ ls[k].2 := by
  unfold flat
  rw [List.take_succ_eq_append_getElem h, List.flatMap_append]; simp
theorem flat_take (ls : List (Value × List UInt8)) (k : Nat) : (flat (ls.take k)).length ≤ (flat ls).length := by
  have : flat ls = flat (ls.take k) ++ flat (ls.drop k) := by unfold flat; rw [← List.flatMap_append, List.take_append_drop]
  rw [this, List.length_append]; omega

set_option maxRecDepth 100000 in
set_option maxHeartbeats 400000 in
theorem concat_any (b o c : Nat) (ls : List (Value × List UInt8)) (w : World) (h0 : 0 < ls.length) (hc31 : ls.length ≤ 1000) (hb : b < w.heap.size)
    (hcell : ∀ j u, ls[j]? = some u → w.cell? ⟨b, o + j, none⟩ = some u.1) (hsl : ∀ p ∈ ls, Sl bv w p.1 p.2) (hlen : (flat ls).length ≤ 140737488355328) :
    Calls Try.prog 33 #[.slice (some ⟨b, o, none⟩) ls.length c] w fun e w' => ∃ v, e = .returned v ∧ w'.ownsRow w.heap.size 5 1 v (flat ls).length (bs (flat ls)) ∧ Below w.heap.size w w' := by
  obtain ⟨i0, hi, hz0, hz1, hz2⟩ := info_parts infoB
  go_enter Try.func33, Try.ntmps33
  go_wp2
  go_loop [3, 11] (fun n i => ∃ k : Nat, k ≤ ls.length ∧ i = .int .i64 k ∧ n = .int .i64 (flat (ls.take k)).length) (fun _ i => ls.length - (intOf i).toNat)
  case atStart => exact ⟨0, Nat.zero_le _, rfl, rfl⟩
  case round =>
    obtain ⟨k, hk, rfl, rfl⟩ := hrel
    by_cases hlt : k < ls.length
    · have hck := hcell k ls[k] (List.getElem?_eq_getElem hlt)
      obtain ⟨A, cc, hv, hlc', _⟩ := hsl ls[k] (List.getElem_mem hlt)
      have hs := flat_snoc ls k hlt
      have ht := flat_take ls (k + 1)
      have hN : (flat (ls.take (k + 1))).length = (flat (ls.take k)).length + ls[k].2.length := by rw [hs, List.length_append]
      rw [hv] at hck
      generalize ls[k].2.length = m at *
      have HN := Lib.hid hN
      have hb1 : (flat (ls.take k)).length + m ≤ 140737488355328 := by omega
      clear hN hs ht hv hsl hcell
      go_wp2
      go_round
      case rel => exact ⟨k + 1, by omega, by go_num, by rw [HN.out]; go_num⟩
      case measure => simp [intOf]; omega
    · have hkk : k = ls.length := by omega
      subst hkk
      rw [List.take_length]
      go_wp2_with fail
      refine (grow_any _ _ hlen).mono ?_
      rintro e w1 ⟨v, rfl, hown1, hb1⟩
      go_wp2
      go_loopw [6, 27] (fun v i wr => ∃ k : Nat, k ≤ ls.length ∧ i = .int .i64 k ∧ wr.ownsRow w.heap.size 5 1 v (flat (ls.take k)).length (bs (flat (ls.take k))) ∧ Below w.heap.size w wr) (fun _ i _ => ls.length - (intOf i).toNat)
      case atStart => exact ⟨0, Nat.zero_le _, rfl, hown1, hb1⟩
      case round =>
        clear hown1 hb1
        obtain ⟨k, hk, rfl, hown, hbl⟩ := hrel
        by_cases hlt : k < ls.length
        · have hck := (hbl.cell (p := ⟨b, o + k, none⟩) hb).trans (hcell k ls[k] (List.getElem?_eq_getElem hlt))
          have hsk := (hsl ls[k] (List.getElem_mem hlt)).below hbl
          have hs := flat_snoc ls k hlt
          have ht := flat_take ls (k + 1)
          have hN : (flat (ls.take (k + 1))).length = (flat (ls.take k)).length + ls[k].2.length := by rw [hs, List.length_append]
          obtain ⟨v', w2, hr, ho2, hg2⟩ := run_append_sl (P := Try.prog) wr w.heap.size 29 29 5 i0 (.int .u8 0) 1 Try.underlying29 hi hz0 hz1 hz2 rfl _ _ _ hown _ _ hsk (fun _ => rfl) (by omega) (by omega) hbl.size
          have hb2 : Below w.heap.size w w2 := hbl.grown hg2 hbl.size (fun k hk => (hown.lt k hk).1)
          have ho3 : w2.ownsRow w.heap.size 5 1 v' (flat (ls.take (k + 1))).length (bs (flat (ls.take (k + 1)))) := by rw [hN, hs, bs_append]; exact ho2
          generalize ls[k].1 = x at *
          have HR := Lib.hid hr
          clear hr ho2 hg2 hN hs ht hsk hown hcell hsl
          have HO := Lib.hid ho3; clear ho3
          go_wp2_with (at_builtin; refine Lib.wpList_append_run _ rfl _ _ _ _ rfl _ _ rfl rfl _ _ HR.out ?_)
          go_roundw
          case rel => exact ⟨k + 1, by omega, by go_num, HO.out, hb2⟩
          case measure => simp [intOf]; omega
        · have hkk : k = ls.length := by omega
          subst hkk
          rw [List.take_length] at hown
          have HO := Lib.hid hown; clear hown
          go_wp2
          go_ret
          exact ⟨_, rfl, HO.out, hbl⟩

end Go.Proofs.Ytalaidlnhoonfaa.Fr

namespace Go.Proofs.Ytalaidlnhoonfaa.Fr
open Go.RowKit

theorem u8x (a b : UInt8) : bits .xor .u8 (a.toNat : Int) (b.toNat : Int) = ((a ^^^ b).toNat : Int) := by
  rw [u8_xor_nat _ _ a.toNat_lt b.toNat_lt, UInt8.toNat_xor]
theorem u8m (k : Nat) : ((k : Int) % 256) = ((UInt8.ofNat k).toNat : Int) := by simp
theorem headB_cells (n : Nat) : (bs (headB n)).toArray = #[.int .u8 ((n : Int) % 256), .int .u8 ((n : Int) / 256 % 256), .int .u8 ((n : Int) / 65536 % 256), .int .u8 (bits .xor .u8 (bits .xor .u8 (bits .xor .u8 165 ((n : Int) % 256)) ((n : Int) / 256 % 256)) ((n : Int) / 65536 % 256))] := by
  have e1 : ((n : Int) / 256 % 256) = ((UInt8.ofNat (n / 256)).toNat : Int) := by rw [← u8m]; rfl
  have e2 : ((n : Int) / 65536 % 256) = ((UInt8.ofNat (n / 65536)).toNat : Int) := by rw [← u8m]; rfl
  rw [e1, e2, u8m n, show (165 : Int) = ((165 : UInt8).toNat : Int) from rfl, u8x, u8x, u8x]
  rfl
theorem headB_cells2 (n : Nat) (h : n < 16777216) : (bs (headB n)).toArray = #[.int .u8 ((n : Int) % 256), .int .u8 ((n : Int) / 256 % 256), .int .u8 ((n : Int) / 65536), .int .u8 (bits .xor .u8 (bits .xor .u8 (bits .xor .u8 165 ((n : Int) % 256)) ((n : Int) / 256 % 256)) ((n : Int) / 65536))] := by
  rw [headB_cells, show ((n : Int) / 65536 % 256) = (n : Int) / 65536 by omega]

set_option maxRecDepth 100000 in
set_option maxHeartbeats 400000 in
theorem head_any (n : Nat) (w : World) (h : n < 16777216) : Calls Try.prog 34 #[.int .i64 n] w (Reads w (headB n)) := by
  have hb := (Below.refl w.heap.size w).alloc (Nat.le_refl _) (.cells (bs (headB n)).toArray 5)
  have hl := sl_laid w (headB n) _ 5 4 rfl rfl
  rw [headB_cells2 n h] at hl hb
  have HL := Lib.hid hl
  have HB := Lib.hid hb
  clear hl hb
  have hm : min (n : Int) 16777215 = n := by omega
  go_enter Try.func34, Try.ntmps34
  go_wp2
  go_ret
  exact ⟨_, rfl, HL.out, HB.out⟩

/-- A call that hands back a slice of its own that reads l, and turns nothing that was there. -/
def Makes (w : World) (l : List UInt8) (e : Ending) (w' : World) : Prop :=
  ∃ v, e = .returned v ∧ w'.ownsRow w.heap.size 5 1 v l.length (bs l) ∧ Below w.heap.size w w'
theorem Makes.reads {w : World} {l : List UInt8} {e : Ending} {w' : World} (h : Makes w l e w') : Reads w l e w' := by
  obtain ⟨v, he, ho, hb⟩ := h
  exact ⟨v, he, Sl.of_own ho, hb⟩

set_option maxRecDepth 100000 in
set_option maxHeartbeats 400000 in
theorem rhead_any (n : Nat) (w : World) (h : n < 16777216) : Calls Try.prog 50 #[.int .i64 n] w (Makes w (headB n)) := by
  have hb := (Below.refl w.heap.size w).alloc (Nat.le_refl _) (.cells (bs (headB n)).toArray 5)
  have hl := World.ownsRow_lit (base := w.heap.size) (e := 5) (size := 1) w (bs (headB n)).toArray 4 (Nat.le_refl _) (by unfold maxLen; omega) rfl
  rw [List.toList_toArray, headB_cells n] at hl
  rw [headB_cells n] at hb
  have HL := Lib.hid hl
  have HB := Lib.hid hb
  clear hl hb
  go_enter Try.func50, Try.ntmps50
  go_wp2
  go_ret
  exact ⟨_, rfl, HL.out, HB.out⟩

/-- Two rows of bytes are the same. -/
def eqB (a b : List UInt8) : Bool := a == b
theorem eqB_true (a b : List UInt8) : eqB a b = true ↔ a = b := by simp [eqB]
theorem eqB_false (a b : List UInt8) : eqB a b = false ↔ a ≠ b := by simp [eqB]

set_option maxRecDepth 100000 in
set_option maxHeartbeats 400000 in
theorem equal_any (v1 v2 : Value) (a b : List UInt8) (w : World) (h1 : Sl bv w v1 a) (h2 : Sl bv w v2 b) : Calls Try.prog 73 #[v1, v2] w fun e w' => e = .returned (.bool (eqB a b)) ∧ w = w' := by
  have r1 := run_string_sl (P := Try.prog) w 29 9 5 Try.underlying29 Try.underlying5 Try.underlying9 v1 _ h1
  have r2 := run_string_sl (P := Try.prog) w 29 9 5 Try.underlying29 Try.underlying5 Try.underlying9 v2 _ h2
  obtain ⟨A1, c1, rfl⟩ := h1.form
  obtain ⟨A2, c2, rfl⟩ := h2.form
  clear h1 h2
  go_enter Try.func73, Try.ntmps73
  go_wp2
  go_ret
  exact ⟨rfl, rfl⟩

set_option maxRecDepth 100000 in
set_option maxHeartbeats 400000 in
theorem bclone_any (v : Value) (l : List UInt8) (w : World) (h : Sl bv w v l) (hlen : l.length ≤ 140737488355328) : Calls Try.prog 75 #[v] w (Makes w l) := by
  obtain ⟨v', w2, hr, ho2, hb2⟩ := append_fresh w v l h hlen
  have HR := Lib.hid hr
  have HO := Lib.hid ho2
  have HB := Lib.hid hb2
  obtain ⟨A, c, rfl, hlc, hx⟩ := h
  clear hr ho2 hb2
  rcases A with _ | ad
  · have : l = [] := by
      rcases l with _ | ⟨a, t⟩
      · rfl
      · obtain ⟨b, o, hA, _⟩ := hx (by simp); cases hA
    subst this
    clear hx
    have hnil := fun n c => Lib.run_eql_slice_nil (P := Try.prog) w 29 5 none n c 0 0 Try.underlying29
    go_enter Try.func75, Try.ntmps75
    go_wp2
    go_ret
    exact ⟨_, rfl, World.ownsRow_nil _ _ _ _, Below.refl _ _⟩
  · clear hx
    have hnil := fun n c => Lib.run_eql_slice_nil (P := Try.prog) w 29 5 (some ad) n c 0 0 Try.underlying29
    go_enter Try.func75, Try.ntmps75
    go_wp2_with (at_builtin; refine Lib.wpList_append_run _ rfl _ _ _ _ rfl _ _ rfl rfl _ _ HR.out ?_)
    go_ret
    exact ⟨_, rfl, HO.out, HB.out⟩

/-- What Size answers. -/
def sizeF (n : Int) : Int := if n < 0 ∨ 1048576 < n then 0 else n + 8
set_option maxRecDepth 100000 in
set_option maxHeartbeats 400000 in
theorem size_any (n : Int) (w : World) : Calls Try.prog 74 #[.int .i64 n] w fun e w' => e = .returned (.int .i64 (sizeF n)) ∧ w = w' := by
  unfold sizeF
  by_cases h1 : n < 0
  · rw [if_pos (.inl h1)]
    go_enter Try.func74, Try.ntmps74
    go_wp2
    go_ret
    exact ⟨rfl, rfl⟩
  · by_cases h2 : 1048576 < n
    · rw [if_pos (.inr h2)]
      go_enter Try.func74, Try.ntmps74
      go_wp2
      go_ret
      exact ⟨rfl, rfl⟩
    · rw [if_neg (by omega)]
      go_enter Try.func74, Try.ntmps74
      go_wp2
      go_ret
      exact ⟨by go_num, rfl⟩

end Go.Proofs.Ytalaidlnhoonfaa.Fr
