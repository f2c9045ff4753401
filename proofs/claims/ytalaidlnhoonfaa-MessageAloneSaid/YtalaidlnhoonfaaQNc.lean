/-
  hedgerowref02.Put, Signed, Text: the contracts, by walks. hedgerowref02.Take: the contract, by a walk. (*hedgerowref02.Reader).Num, Signed, Text, Left: the contracts, by walks. Conditions: lengths.
-/
import Derived.Test.YtalaidlnhoonfaaQNa
import Derived.Lib.AppendStr
import Derived.Test.YtalaidlnhoonfaaQNb
import Derived.Deep.RegionWith
namespace Go.Proofs.Ytalaidlnhoonfaa
open Go.RowKit

/-- An append of one byte to a row of the call's own, as the loop makes it. -/
theorem own_byte {w : World} {B : Nat} {v v' : Value} {p : List UInt8} {w1 : World} {x : Nat} {y : Int} (hx : x < 256) (he : y = (x : Int)) (hb : B ≤ w.heap.size)
    (hown : w.ownsRow B 5 1 v p.length (bs p)) (hown' : w1.ownsRow B 5 1 v' (p.length + 1) (bs p ++ [Value.int .u8 y])) (hg : (w.alloc (.cells #[Value.int .u8 y] 5)).grownBy w1 v.ownBlock) :
    w1.ownsRow B 5 1 v' (p ++ [UInt8.ofNat x]).length (bs (p ++ [UInt8.ofNat x])) ∧ Below B w w1 := by
  refine ⟨?_, ((Below.refl B w).alloc hb _).grown hg (by simp; omega) (fun k hk => (hown.lt k hk).1)⟩
  rw [bs_append, List.length_append]
  have : bs [UInt8.ofNat x] = [.int .u8 y] := by simp only [bs, bv, List.map_cons, List.map_nil, ofNat_toNat x hx, he]
  rw [this]; exact hown'

set_option maxRecDepth 100000 in
set_option maxHeartbeats 1000000 in
theorem refput_some (v : Value) (l : List UInt8) (n : Nat) (w : World) (h : Sl bv w v l) (hlen : l.length ≤ 140737488350000) (hn : n < 4611686018427387904) :
    Calls Try.prog 53 #[v, .int .i64 n] w (Makes w (l ++ enc n)) := by
  obtain ⟨i0, hi, hz0, hz1, hz2⟩ := info_parts infoB
  have h9 := enc_length_9 n hn
  have hw1 : (w.alloc (.cells #[] 5)).ownsRow w.heap.size 5 1 (.slice (some ⟨w.heap.size, 0, none⟩) 0 0) 0 [] := World.ownsRow_made w #[] 0 (Nat.le_refl _) (by unfold maxLen; omega) rfl
  obtain ⟨v', w2, hr, ho2, hg2⟩ := run_append_sl (P := Try.prog) (w.alloc (.cells #[] 5)) w.heap.size 29 29 5 i0 (.int .u8 0) 1 Try.underlying29 hi hz0 hz1 hz2 rfl _ _ _ hw1 _ _ (h.alloc _) (fun _ => rfl) (by omega) (by omega) (by simp)
  have hb2 : Below w.heap.size w w2 := ((Below.refl _ _).alloc (Nat.le_refl _) _).grown hg2 (by simp) (fun k hk => (hw1.lt k hk).1)
  obtain ⟨A, c, rfl⟩ := h.form
  simp only [Nat.zero_add, List.nil_append] at ho2
  have HR := Lib.hid hr
  have HO : Hid (w2.ownsRow w.heap.size 5 1 v' l.length (bs l)) := Lib.hid ho2
  clear hr ho2 hg2 hw1 h
  go_enter Try.func53, Try.ntmps53
  go_wp2_with (at_builtin; refine Lib.wpList_append_run _ rfl _ _ _ _ rfl _ _ rfl rfl _ _ HR.out ?_)
  go_loopw [5, 1] (fun v t wr => ∃ (m : Nat) (p : List UInt8), t = .int .i64 m ∧ m ≤ n ∧ l.length ≤ p.length ∧ p ++ enc m = l ++ enc n ∧ wr.ownsRow w.heap.size 5 1 v p.length (bs p) ∧ Below w.heap.size w wr) (fun _ t _ => (intOf t).toNat)
  case atStart => exact ⟨n, l, rfl, Nat.le_refl _, Nat.le_refl _, rfl, HO.out, hb2⟩
  case round =>
    clear hb2
    obtain ⟨m, p, rfl, hm, hlp, hp, hown, hb⟩ := hrel
    have HP := Lib.hid hp; clear hp
    have hsz := hb.size
    have hpl : p.length + (enc m).length ≤ l.length + 9 := by rw [← List.length_append, HP.out, List.length_append]; omega
    have h1 := List.length_pos_iff.2 (enc_ne m)
    by_cases hc : 127 < m
    · go_wp2_with (at_builtin; refine wpList_append_own _ rfl _ _ 29 rfl w.heap.size 5 i0 (.int .u8 0) 1 1 Try.underlying29 hi hz0 hz1 hz2 rfl (by decide) _ _ _ rfl (hown.alloc _) ⟨wr.heap.size, 0, none⟩ 1 1 [.int .u8 (m % 128 + 128)] rfl rfl (cell_one_new _ _ _) ?c2 ?c3 ?c4 ?c5 ?_)
      case c2 => intro u hu; simp at hu; subst hu; rfl
      case c3 => unfold maxLen; omega
      case c4 => omega
      case c5 => simp; omega
      intro v' w1 hown' hgrow _
      obtain ⟨R1, R2⟩ := own_byte (x := m % 128 + 128) (by omega) (by omega) hsz hown hown' hgrow
      have R3 := hb.trans R2
      clear hown' hgrow hown hb R2
      have HP' : Hid (p ++ [UInt8.ofNat (m % 128 + 128)] ++ enc (m / 128) = l ++ enc n) := Lib.hid (by rw [← HP.out, enc_big m hc]; simp)
      go_wp2
      go_roundw
      case rel => exact ⟨m / 128, p ++ [UInt8.ofNat (m % 128 + 128)], by go_num, by omega, by rw [List.length_append]; omega, HP'.out, R1, R3⟩
      case measure => simp [intOf]; omega
    · go_wp2_with (at_builtin; refine wpList_append_own _ rfl _ _ 29 rfl w.heap.size 5 i0 (.int .u8 0) 1 1 Try.underlying29 hi hz0 hz1 hz2 rfl (by decide) _ _ _ rfl (hown.alloc _) ⟨wr.heap.size, 0, none⟩ 1 1 [.int .u8 m] rfl rfl (cell_one_new _ _ _) ?d2 ?d3 ?d4 ?d5 ?_)
      case d2 => intro u hu; simp at hu; subst hu; rfl
      case d3 => unfold maxLen; omega
      case d4 => omega
      case d5 => simp; omega
      intro v' w1 hown' hgrow _
      obtain ⟨R1, R2⟩ := own_byte (x := m) (by omega) rfl hsz hown hown' hgrow
      have R3 := hb.trans R2
      have R4 : Makes w (l ++ enc n) (.returned v') w1 := by
        refine ⟨v', rfl, ?_, R3⟩
        rw [← HP.out, enc_small m hc]; exact R1
      clear hown' hgrow hown hb R1 R2 R3
      go_wp2
      go_ret
      exact R4

/-- A call that hands back a slice that reads l, and turns nothing that was there. -/
def Reads (w : World) (l : List UInt8) (e : Ending) (w' : World) : Prop := ∃ v, e = .returned v ∧ Sl bv w' v l ∧ Below w.heap.size w w'
theorem Makes.reads {w : World} {l : List UInt8} {e : Ending} {w' : World} (h : Makes w l e w') : Reads w l e w' := by
  obtain ⟨v, he, ho, hb⟩ := h
  exact ⟨v, he, Sl.of_own ho, hb⟩

set_option maxRecDepth 100000 in
set_option maxHeartbeats 400000 in
theorem refput_any (v : Value) (l : List UInt8) (n : Int) (w : World) (h : Sl bv w v l) (hlen : l.length ≤ 140737488350000) :
    Calls Try.prog 53 #[v, .int .i64 n] w (Reads w (l ++ putB n)) := by
  by_cases h1 : n < 0
  · have H : Hid (Reads w (l ++ putB n) (.returned v) w) := Lib.hid ⟨v, rfl, by unfold putB; rw [if_pos (.inl h1), List.append_nil]; exact h, Below.refl _ _⟩
    clear h
    go_enter Try.func53, Try.ntmps53
    go_wp2
    go_ret
    exact H.out
  · by_cases h2 : 4611686018427387904 ≤ n
    · have H : Hid (Reads w (l ++ putB n) (.returned v) w) := Lib.hid ⟨v, rfl, by unfold putB; rw [if_pos (.inr h2), List.append_nil]; exact h, Below.refl _ _⟩
      clear h
      go_enter Try.func53, Try.ntmps53
      go_wp2
      go_ret
      exact H.out
    · obtain ⟨m, rfl⟩ := Int.eq_ofNat_of_zero_le (show 0 ≤ n by omega)
      have e : putB (m : Int) = enc m := by unfold putB; rw [if_neg (by omega), Int.toNat_natCast]
      rw [e]
      exact (refput_some v l m w h hlen (by omega)).mono fun _ _ H => H.reads

set_option maxRecDepth 100000 in
set_option maxHeartbeats 400000 in
theorem refsig_any (v : Value) (l : List UInt8) (n : Int) (w : World) (h : Sl bv w v l) (hlen : l.length ≤ 140737488350000) :
    Calls Try.prog 81 #[v, .int .i64 n] w (Reads w (l ++ sigB n)) := by
  by_cases h1 : n < -1152921504606846976
  · have H : Hid (Reads w (l ++ sigB n) (.returned v) w) := Lib.hid ⟨v, rfl, by rw [sigB_none n (.inl h1), List.append_nil]; exact h, Below.refl _ _⟩
    clear h
    go_enter Try.func81, Try.ntmps81
    go_wp2
    go_ret
    exact H.out
  · by_cases h2 : 1152921504606846976 < n
    · have H : Hid (Reads w (l ++ sigB n) (.returned v) w) := Lib.hid ⟨v, rfl, by rw [sigB_none n (.inr h2), List.append_nil]; exact h, Below.refl _ _⟩
      clear h
      go_enter Try.func81, Try.ntmps81
      go_wp2
      go_ret
      exact H.out
    · by_cases h3 : n < 0
      · rw [← sigB_neg n (by omega) h3]
        go_enter Try.func81, Try.ntmps81
        go_wp2_with fail
        refine (refput_any v l _ w h hlen).mono ?_
        intro e w1 H
        obtain ⟨v1, rfl, H1⟩ := H
        have H : Hid (Reads w (l ++ putB (-2 * n - 1)) (.returned v1) w1) := Lib.hid ⟨v1, rfl, H1⟩
        clear H1 h
        go_wp2
        go_ret
        exact H.out
      · rw [← sigB_pos n (by omega) (by omega)]
        go_enter Try.func81, Try.ntmps81
        go_wp2_with fail
        refine (refput_any v l _ w h hlen).mono ?_
        intro e w1 H
        obtain ⟨v1, rfl, H1⟩ := H
        have H : Hid (Reads w (l ++ putB (2 * n)) (.returned v1) w1) := Lib.hid ⟨v1, rfl, H1⟩
        clear H1 h
        go_wp2
        go_ret
        exact H.out

set_option maxRecDepth 100000 in
set_option maxHeartbeats 400000 in
theorem reftext_any (v : Value) (l : List UInt8) (s : ByteArray) (w : World) (h : Sl bv w v l) (hlen : l.length + s.size ≤ 140737488350000) :
    Calls Try.prog 80 #[v, .string s] w (Reads w (l ++ (putB s.size ++ s.data.toList))) := by
  obtain ⟨i0, hi, hz0, hz1, hz2⟩ := info_parts infoB
  have e : putB (s.size : Int) = enc s.size := by unfold putB; rw [if_neg (by omega), Int.toNat_natCast]
  have h9 := enc_length_9 s.size (by omega)
  rw [e]
  go_enter Try.func80, Try.ntmps80
  go_wp2_with fail
  refine (refput_some v l s.size w h (by omega) (by omega)).mono ?_
  intro e w1 H
  obtain ⟨v1, rfl, ho1, hb1⟩ := H
  have hle : (l ++ enc s.size).length = l.length + (enc s.size).length := by rw [List.length_append]
  obtain ⟨v2, w2, hr, ho2, hg2, _⟩ := Lib.run_append_own_string (P := Try.prog) w1 w.heap.size 29 9 29 5 i0 Try.underlying29 Try.underlying9 hi hz0 hz1 hz2 v1 _ _ ho1 s (by rw [hle]; unfold maxLen; omega) (by rw [hle]; omega) hb1.size
  have hb2 : Below w.heap.size w w2 := hb1.grown hg2 hb1.size (fun k hk => (ho1.lt k hk).1)
  have hs : Sl bv w2 v2 (l ++ (enc s.size ++ s.data.toList)) := by
    refine Sl.of_own (base := w.heap.size) (e := 5) (n := (l ++ enc s.size).length + s.size) ?_
    have : (l ++ (enc s.size ++ s.data.toList)).map bv = bs (l ++ enc s.size) ++ Lib.strCells s := by
      rw [← List.append_assoc, List.map_append]; rfl
    rw [this]; exact ho2
  have HR := Lib.hid hr
  have H : Hid (Reads w (l ++ (enc s.size ++ s.data.toList)) (.returned v2) w2) := Lib.hid ⟨v2, rfl, hs, hb2⟩
  clear hr ho2 hg2 hs hb2 ho1 hb1 hle h
  go_wp2_with (at_builtin; refine Lib.wpList_append_run _ rfl _ _ _ _ rfl _ _ rfl rfl _ _ HR.out ?_)
  go_ret
  exact H.out

end Go.Proofs.Ytalaidlnhoonfaa

namespace Go.Proofs.Ytalaidlnhoonfaa
open Go.RowKit

theorem take_at_end (l : List UInt8) (i acc : Nat) (h9 : i < 9) (hl : i < l.length) (ha : acc < 128 ^ i) (hx : l[i].toNat < 128) (h8 : i = 8 → l[i].toNat < 64)
    (ht : takeN l = fin62 (comb i acc (dec (9 - i) (l.drop i)))) :
    acc + l[i].toNat % 128 * 128 ^ i < 4611686018427387904 ∧
    (enc (acc + l[i].toNat % 128 * 128 ^ i) = l.take (i + 1) → fstV l = (((acc + l[i].toNat % 128 * 128 ^ i : Nat) : Int), ((i + 1 : Nat) : Int))) ∧
    (¬ enc (acc + l[i].toNat % 128 * 128 ^ i) = l.take (i + 1) → fstV l = (0, 0)) := by
  have hlt : acc + l[i].toNat % 128 * 128 ^ i < 4611686018427387904 := by
    by_cases e8 : i = 8
    · have := h8 e8
      subst e8
      have e : 128 ^ 8 = 72057594037927936 := by decide
      rw [e] at ha ⊢
      omega
    · have h1 := acc_step acc i l[i].toNat ha
      have h2 : 128 ^ (i + 1) ≤ 128 ^ 8 := Nat.pow_le_pow_right (by omega) (by omega)
      have e : 128 ^ 8 = 72057594037927936 := by decide
      omega
  rw [comb_end i acc l h9 hl hx] at ht
  generalize acc + l[i].toNat % 128 * 128 ^ i = n at *
  refine ⟨hlt, ?_, ?_⟩
  · intro he
    refine fst_some ?_
    have hl2 : l = enc n ++ l.drop (i + 1) := by rw [he, List.take_append_drop]
    have h3 := takeN_enc n (l.drop (i + 1)) hlt
    rw [← hl2] at h3
    have hln : (enc n).length = i + 1 := by rw [he, List.length_take]; omega
    rw [h3, hln]
  · intro he
    refine fst_none ?_
    by_cases h0 : l[i].toNat = 0 ∧ 0 < i
    · rw [ht, if_pos h0]; rfl
    · exfalso
      rw [if_neg h0] at ht
      simp only [fin62] at ht
      rw [if_pos hlt] at ht
      obtain ⟨_, h2, h3⟩ := takeN_some ht
      apply he
      rw [h2]
      conv => rhs; rw [h3]
      rw [List.take_left]
theorem take_big (l : List UInt8) (acc : Nat) (hl : 8 < l.length) (hx : 64 ≤ l[8].toNat) (ht : takeN l = fin62 (comb 8 acc (dec (9 - 8) (l.drop 8)))) : fstV l = (0, 0) := by
  refine fst_none ?_
  by_cases h : l[8].toNat < 128
  · rw [ht, comb_end 8 acc l (by omega) hl h, if_neg (by omega)]
    have e : 128 ^ 8 = 72057594037927936 := by decide
    simp only [fin62]
    rw [if_neg (by rw [e]; omega)]
  · rw [ht, comb_step 8 acc l (by omega) hl h]; rfl

/-- What a round comes to, in the walk's own forms. -/
theorem take_facts (l : List UInt8) (i acc : Nat) (h9 : i < 9) (hl : i < l.length) (ha : acc < 128 ^ i) (ht : takeN l = fin62 (comb i acc (dec (9 - i) (l.drop i)))) :
    (0 : Int) ≤ (l[i].toNat : Int) % 128 * 128 ^ i ∧ (acc : Int) + (l[i].toNat : Int) % 128 * 128 ^ i ≤ 9223372036854775807 ∧
    (acc : Int) + (l[i].toNat : Int) % 128 * 128 ^ i = ((acc + l[i].toNat % 128 * 128 ^ i : Nat) : Int) ∧ acc + l[i].toNat % 128 * 128 ^ i < 128 ^ (i + 1) ∧
    (¬ l[i].toNat < 128 → takeN l = fin62 (comb (i + 1) (acc + l[i].toNat % 128 * 128 ^ i) (dec (9 - (i + 1)) (l.drop (i + 1))))) := by
  have e : ((l[i].toNat : Int) % 128 * 128 ^ i) = ((l[i].toNat % 128 * 128 ^ i : Nat) : Int) := by push_cast; rfl
  have hp := pow_le_63 i h9
  have hst := acc_step acc i l[i].toNat ha
  rw [e]
  refine ⟨by omega, ?_, by omega, hst, ?_⟩
  · rw [Nat.pow_succ, Nat.mul_comm (128 ^ i) 128] at hst
    generalize l[i].toNat % 128 * 128 ^ i = t at *
    generalize 128 * 128 ^ i = u at *
    omega
  · intro hx; rw [ht]; exact congrArg fin62 (comb_step i acc l h9 hl hx)
theorem pow_small (i : Nat) (h : i < 8) : (0 : Int) ≤ 128 ^ i ∧ (128 : Int) ^ i * 128 ≤ 9223372036854775807 ∧ (128 : Int) ^ i * 128 = ((128 ^ (i + 1) : Nat) : Int) := by
  have e : ((128 : Int) ^ i * 128) = ((128 ^ (i + 1) : Nat) : Int) := by rw [Nat.pow_succ]; push_cast; rfl
  have h1 : 128 ^ (i + 1) ≤ 128 ^ 8 := Nat.pow_le_pow_right (by omega) (by omega)
  have e8 : 128 ^ 8 = 72057594037927936 := by decide
  refine ⟨?_, ?_, e⟩
  · have : ((128 : Int) ^ i) = ((128 ^ i : Nat) : Int) := by push_cast; rfl
    rw [this]; exact Int.natCast_nonneg _
  · rw [e]; omega

def TwoB (w : World) (p : Int × Int) (e : Ending) (w' : World) : Prop := e = .returned (.tuple #[.int .i64 p.1, .int .i64 p.2]) ∧ Below w.heap.size w w'

set_option maxHeartbeats 4000000 in
set_option maxRecDepth 100000 in
theorem take_any (v : Value) (l : List UInt8) (w : World) (h : Sl bv w v l) (hlen : l.length ≤ 140737488350000) :
    Calls Try.prog 55 #[v] w (TwoB w (fstV l)) := by
  obtain ⟨A, c, rfl, hlc, hcell⟩ := h.at_
  go_enter Try.func55, Try.ntmps55
  go_wp2
  go_loop [4, 5, 6] (fun n wt i => ∃ k acc : Nat, k ≤ 9 ∧ k ≤ l.length ∧ i = .int .i64 k ∧ n = .int .i64 acc ∧ wt = .int .i64 ((128 ^ k : Nat) : Int) ∧ acc < 128 ^ k ∧ takeN l = fin62 (comb k acc (dec (9 - k) (l.drop k)))) (fun _ _ i => 9 - (intOf i).toNat)
  case atStart => exact ⟨0, 0, by omega, by omega, rfl, rfl, rfl, by omega, takeN_start _⟩
  case round =>
    obtain ⟨i, acc, hk, hks, rfl, rfl, rfl, hacc, htk⟩ := hrel
    by_cases hlt : i < 9 ∧ i < l.length
    · obtain ⟨h9, hs⟩ := hlt
      obtain ⟨b, o, rfl, hb, hc⟩ := hcell i hs
      have hck := hc i l[i] (List.getElem?_eq_getElem hs)
      unfold bv at hck
      obtain ⟨b1, b2, he, hst, hA⟩ := take_facts l i acc h9 hs hacc htk
      have hx256 : l[i].toNat < 256 := l[i].toNat_lt
      have HE := Lib.hid he
      have HS := Lib.hid hst
      have HSl := Lib.hid h
      clear hc hcell he hst h
      by_cases h8 : i = 8 ∧ 64 ≤ l[i].toNat
      · obtain ⟨e8, hx⟩ := h8
        subst e8
        have HF := Lib.hid (take_big l acc hs hx htk)
        clear htk hA hacc HE HS b1 b2
        generalize l[8].toNat = x at *
        go_wp2
        go_ret2
        exact ⟨by rw [HF.out]; rfl, Below.refl _ _⟩
      · by_cases hx : l[i].toNat < 128
        · have ht := take_at_end l i acc h9 hs hacc hx (fun e => by omega) htk
          obtain ⟨t1, t2, t3⟩ := ht
          have HT2 := Lib.hid t2
          have HT3 := Lib.hid t3
          clear t2 t3 htk hA hacc HS
          have HP : Hid (putB ((acc : Int) + (l[i].toNat : Int) % 128 * 128 ^ i) = enc (acc + l[i].toNat % 128 * 128 ^ i)) := Lib.hid (by rw [HE.out]; unfold putB; rw [if_neg (by omega), Int.toNat_natCast])
          clear t1
          have slT : Sl bv w.drew (.slice (some ⟨b, o, none⟩) (i + 1) c) (l.take (i + 1)) := (HSl.out.take_ (k := i + 1) (by omega)).drew
          obtain ⟨X, hX⟩ := str_ex ([] ++ putB ((acc : Int) + (l[i].toNat : Int) % 128 * 128 ^ i))
          obtain ⟨Y, hY⟩ := str_ex (l.take (i + 1))
          have hXY := str_beq hX hY
          rw [List.nil_append, HP.out] at hXY
          have rY := str_run (P := Try.prog) w.drew 29 9 5 Try.underlying29 Try.underlying5 Try.underlying9 _ _ slT Y hY
          have HX := Lib.hid hX
          have HY := Lib.hid hY
          have HT := Lib.hid slT
          have wi : IntKind.i64.wrap ((i : Int) + 1) = (i : Int) + 1 := IntWalk.i64_in _ (by omega)
          have pi : (0 : Int) ≤ (i : Int) + 1 := by omega
          have ci : (i : Int) + 1 ≤ (c : Int) := by omega
          have ti : ((i : Int) + 1).toNat = i + 1 := by omega
          clear hX hY slT
          by_cases hq : enc (acc + l[i].toNat % 128 * 128 ^ i) = l.take (i + 1)
          · have HF := Lib.hid (HT2.out hq)
            rw [decide_eq_true hq] at hXY
            clear hq
            by_cases e8 : i = 8
            · subst e8
              have hx64 : l[8].toNat < 64 := by omega
              have HT9 : Hid (Sl bv w.drew (.slice (some ⟨b, o, none⟩) 9 c) (l.take 9)) := Lib.hid HT.out
              have rY9 := str_run (P := Try.prog) w.drew 29 9 5 Try.underlying29 Try.underlying5 Try.underlying9 _ _ HT9.out Y HY.out
              have w9 : IntKind.i64.wrap 9 = 9 := IntWalk.i64_in _ (by omega)
              have c9 : 9 ≤ c := by omega
              clear wi pi ci ti rY
              generalize hx' : l[8].toNat = x at *
              have HX' := Lib.hid hx'; clear hx' h8
              go_wp2_with fail
              go_region_with (first
                | (go_at_call 53; refine (refput_any _ [] _ _ (Sl.nil_ bv _) (by simp)).mono ?_; rintro e w2 ⟨v2, rfl, s2, hb2⟩; have r2 := str_run (P := Try.prog) w2 29 9 5 Try.underlying29 Try.underlying5 Try.underlying9 v2 _ s2 X HX.out; have r3 := str_run (P := Try.prog) w2 29 9 5 Try.underlying29 Try.underlying5 Try.underlying9 _ _ (HT9.out.below hb2) Y HY.out))
              all_goals (go_wp2_with fail; go_ret2; exact ⟨by rw [HF.out, ← HE.out, show (128 : Int) ^ 8 = 72057594037927936 from by decide]; rfl, (Below.refl _ _).drew.trans hb2⟩)
            · generalize hx' : l[i].toNat = x at *
              have HX' := Lib.hid hx'; clear hx' h8
              go_wp2_with fail
              go_region_with (first
                | (go_at_call 53; refine (refput_any _ [] _ _ (Sl.nil_ bv _) (by simp)).mono ?_; rintro e w2 ⟨v2, rfl, s2, hb2⟩; have r2 := str_run (P := Try.prog) w2 29 9 5 Try.underlying29 Try.underlying5 Try.underlying9 v2 _ s2 X HX.out; have r3 := str_run (P := Try.prog) w2 29 9 5 Try.underlying29 Try.underlying5 Try.underlying9 _ _ (HT.out.below hb2) Y HY.out))
              all_goals (go_wp2_with fail; go_ret2; exact ⟨by rw [HF.out, HE.out]; rfl, (Below.refl _ _).drew.trans hb2⟩)
          · have HF := Lib.hid (HT3.out hq)
            rw [decide_eq_false hq] at hXY
            clear hq
            by_cases e8 : i = 8
            · subst e8
              have hx64 : l[8].toNat < 64 := by omega
              have HT9 : Hid (Sl bv w.drew (.slice (some ⟨b, o, none⟩) 9 c) (l.take 9)) := Lib.hid HT.out
              have rY9 := str_run (P := Try.prog) w.drew 29 9 5 Try.underlying29 Try.underlying5 Try.underlying9 _ _ HT9.out Y HY.out
              have w9 : IntKind.i64.wrap 9 = 9 := IntWalk.i64_in _ (by omega)
              have c9 : 9 ≤ c := by omega
              clear wi pi ci ti rY
              generalize hx' : l[8].toNat = x at *
              have HX' := Lib.hid hx'; clear hx' h8
              go_wp2_with fail
              go_region_with (first
                | (go_at_call 53; refine (refput_any _ [] _ _ (Sl.nil_ bv _) (by simp)).mono ?_; rintro e w2 ⟨v2, rfl, s2, hb2⟩; have r2 := str_run (P := Try.prog) w2 29 9 5 Try.underlying29 Try.underlying5 Try.underlying9 v2 _ s2 X HX.out; have r3 := str_run (P := Try.prog) w2 29 9 5 Try.underlying29 Try.underlying5 Try.underlying9 _ _ (HT9.out.below hb2) Y HY.out))
              all_goals (go_wp2_with fail; go_ret2; exact ⟨by rw [HF.out]; rfl, (Below.refl _ _).drew.trans hb2⟩)
            · generalize hx' : l[i].toNat = x at *
              have HX' := Lib.hid hx'; clear hx' h8
              go_wp2_with fail
              go_region_with (first
                | (go_at_call 53; refine (refput_any _ [] _ _ (Sl.nil_ bv _) (by simp)).mono ?_; rintro e w2 ⟨v2, rfl, s2, hb2⟩; have r2 := str_run (P := Try.prog) w2 29 9 5 Try.underlying29 Try.underlying5 Try.underlying9 v2 _ s2 X HX.out; have r3 := str_run (P := Try.prog) w2 29 9 5 Try.underlying29 Try.underlying5 Try.underlying9 _ _ (HT.out.below hb2) Y HY.out))
              all_goals (go_wp2_with fail; go_ret2; exact ⟨by rw [HF.out]; rfl, (Below.refl _ _).drew.trans hb2⟩)
        · have HT := Lib.hid (hA hx)
          obtain ⟨q0, q1, q2⟩ := pow_small i (by omega)
          have HQ := Lib.hid q2
          clear hA htk hacc q2
          by_cases e8 : i = 8
          · omega
          · have hx1 : 128 ≤ l[i].toNat := by omega
            clear h8 hx
            generalize hX : l[i].toNat = x at *
            have HX := Lib.hid hX; clear hX
            go_wp2
            go_round
            case rel => exact ⟨i + 1, acc + x % 128 * 128 ^ i, by omega, by omega, by go_num, by rw [HE.out], by rw [HQ.out], HS.out, HT.out⟩
            case measure => simp [intOf]; omega
    · have HF : Hid (fstV l = (0, 0)) := fst_none (by rw [htk, comb_over i acc _ (by omega)]; rfl)
      clear htk hacc hcell h
      by_cases hi : i < l.length
      · have h9 : 9 ≤ i := by omega
        go_wp2
        go_ret2
        exact ⟨by rw [HF.out]; rfl, Below.refl _ _⟩
      · go_wp2
        go_ret2
        exact ⟨by rw [HF.out]; rfl, Below.refl _ _⟩

end Go.Proofs.Ytalaidlnhoonfaa

namespace Go.Proofs.Ytalaidlnhoonfaa
open Go.RowKit

/-- Block g is the plain reader: what is left lies below block B. -/
def Rr (w : World) (B g : Nat) (s : List UInt8 × Bool) : Prop :=
  ∃ A c, s.1.length ≤ c ∧ B ≤ g ∧ s.1.length ≤ 140737488350000 ∧ (s.1 ≠ [] → ∃ b o, A = some ⟨b, o, none⟩ ∧ b < B ∧ ∀ j u, s.1[j]? = some u → w.cell? ⟨b, o + j, none⟩ = some (bv u)) ∧ Blk w g 62 #[.slice A s.1.length c, .bool s.2]

theorem Rr.lt {w : World} {B g : Nat} {s : List UInt8 × Bool} (h : Rr w B g s) : g < w.heap.size := by
  obtain ⟨A, c, _, _, _, _, h3⟩ := h
  exact h3.lt
theorem Rr.kept {w w' : World} {B g : Nat} {s : List UInt8 × Bool} (h : Rr w B g s) (hb : ∀ k, k < w.heap.size → (k < B ∨ k = g) → w'.heap[k]? = w.heap[k]?) : Rr w' B g s := by
  obtain ⟨A, c, h1, h2, h3, h4, h5⟩ := h
  refine ⟨A, c, h1, h2, h3, fun hn => ?_, (hb g h5.lt (.inr rfl)).trans h5⟩
  obtain ⟨b, o, hA, hbB, hc⟩ := h4 hn
  exact ⟨b, o, hA, hbB, fun j u hu => (World.cell?_of_block (w := w) (a := ⟨b, o + j, none⟩) (hb b (by have := h5.lt; omega) (.inl hbB))).trans (hc j u hu)⟩
theorem Rr.below {w w' : World} {B g : Nat} {s : List UInt8 × Bool} (h : Rr w B g s) (hb : Below w.heap.size w w') : Rr w' B g s := h.kept fun k hk _ => hb.block k hk
theorem Rr.but {w w' : World} {B g h : Nat} {s : List UInt8 × Bool} (hr : Rr w B g s) (hb : But h w w') (hB : B ≤ h) (hne : g ≠ h) : Rr w' B g s :=
  hr.kept fun k hk hc => hb.block k hk (by simp; omega)
theorem Rr.sl {w : World} {B g : Nat} {s : List UInt8 × Bool} (h : Rr w B g s) : ∃ A c, Blk w g 62 #[.slice A s.1.length c, .bool s.2] ∧ s.1.length ≤ c ∧ Sl bv w (.slice A s.1.length c) s.1 ∧ s.1.length ≤ 140737488350000 := by
  obtain ⟨A, c, h1, h2, h3, h4, h5⟩ := h
  refine ⟨A, c, h5, h1, ⟨A, c, rfl, h1, fun hn => ?_⟩, h3⟩
  obtain ⟨b, o, hA, hbB, hc⟩ := h4 hn
  exact ⟨b, o, hA, by have := h5.lt; omega, hc⟩

/-- Hands v back; block g is then the plain reader s; all else is as it was. -/
def MovesR (w : World) (B g : Nat) (v : Value) (s : List UInt8 × Bool) (e : Ending) (w' : World) : Prop := e = .returned v ∧ Rr w' B g s ∧ But g w w'

/-- A plain reader behind a failure; behind a cut. -/
theorem Rr.fail {w : World} {B g : Nat} {s : List UInt8 × Bool} (h : Rr w B g s) : Rr (w.setCell ⟨g, 1, none⟩ (.bool true)) B g (s.1, true) ∧ But g w (w.setCell ⟨g, 1, none⟩ (.bool true)) := by
  obtain ⟨A, c, h1, h2, h3, h4, h5⟩ := h
  refine ⟨⟨A, c, h1, h2, h3, fun hn => ?_, by simpa using h5.set_ 1 (.bool true)⟩, But.setCell w g 1 _⟩
  obtain ⟨b, o, hA, hbB, hc⟩ := h4 hn
  refine ⟨b, o, hA, hbB, fun j u hu => ?_⟩
  rw [World.cell?_setCell_other w ⟨g, 1, none⟩ ⟨b, o + j, none⟩ _ (fun e => by injection e; omega)]
  exact hc j u hu
theorem Rr.cut {w : World} {B g : Nat} {s : List UInt8 × Bool} {A : Option Addr} {c k : Nat} {A' : Option Addr} (h : Rr w B g s) (hb : Blk w g 62 #[.slice A s.1.length c, .bool s.2]) (hlc : s.1.length ≤ c)
    (hA' : ∀ b o, A = some ⟨b, o, none⟩ → k < s.1.length → A' = some ⟨b, o + k, none⟩) :
    Rr (w.setCell ⟨g, 0, none⟩ (.slice A' (s.1.length - k) (c - k))) B g (s.1.drop k, s.2) ∧ But g w (w.setCell ⟨g, 0, none⟩ (.slice A' (s.1.length - k) (c - k))) := by
  obtain ⟨A1, c1, h1, h2, h3, h4, h5⟩ := h
  have e : (#[Value.slice A1 s.1.length c1, .bool s.2] : Array Value) = #[.slice A s.1.length c, .bool s.2] := by
    unfold Blk at h5 hb
    rw [h5] at hb
    injection hb with hb
    injection hb
  have e1 : A1 = A := by simp at e; exact e.1
  subst e1
  refine ⟨⟨A', c - k, by simp; omega, h2, by simp; omega, fun hn => ?_, ?_⟩, But.setCell w g 0 _⟩
  · have hkl : k < s.1.length := by
      rcases Nat.lt_or_ge k s.1.length with hlt | hge
      · exact hlt
      · exact absurd (List.drop_eq_nil_of_le hge) hn
    obtain ⟨b, o, hA, hbB, hc⟩ := h4 (by intro e; rw [e] at hkl; simp at hkl)
    refine ⟨b, o + k, hA' b o hA hkl, hbB, fun j u hu => ?_⟩
    rw [World.cell?_setCell_other w ⟨g, 0, none⟩ ⟨b, o + k + j, none⟩ _ (fun e => by injection e; omega)]
    have hu' : s.1[k + j]? = some u := by simpa using hu
    rw [Nat.add_assoc]
    exact hc (k + j) u hu'
  · have := hb.set_ 0 (.slice A' (s.1.length - k) (c - k))
    simpa using this

set_option maxRecDepth 100000 in
set_option maxHeartbeats 1000000 in
theorem refnum_any (B g : Nat) (s : List UInt8 × Bool) (most : Int) (w : World) (h : Rr w B g s) :
    Calls Try.prog 30 #[.pointer (some ⟨g, 0, none⟩), .int .i64 most] w (MovesR w B g (.int .i64 (rNum s most).1) (rNum s most).2) := by
  obtain ⟨A, c, hblk, hlc, hsl, hlen⟩ := h.sl
  have ht := take_any _ _ w hsl hlen
  have c0 := hblk.cell 0
  simp at c0
  have HTk := Lib.hid ht
  have HR := Lib.hid h
  have HB := Lib.hid hblk
  clear ht h hsl hblk
  obtain ⟨l, f⟩ := s
  simp only at c0 hlc hlen HTk HB
  go_enter Try.func30, Try.ntmps30
  go_wp2_with fail
  refine HTk.out.mono ?_
  rintro e w1 ⟨rfl, hb1⟩
  have HR1 := Lib.hid (HR.out.below hb1)
  have HB1 := Lib.hid (HB.out.below hb1 HB.out.lt)
  have hbut : But g w w1 := But.of_below hb1
  have c0' := HB1.out.cell 0
  have c1' := HB1.out.cell 1
  have f0' := HB1.out.free 0
  have f1' := HB1.out.free 1
  simp at c0' c1'
  clear c0 hb1
  cases f
  · cases htk : takeN l with
    | none =>
      have HN : Hid (rNum (l, false) most = (0, (l, true))) := Lib.hid (by unfold rNum; simp only [htk]; rfl)
      have hv := fst_none htk
      rw [hv]
      clear htk hv
      have hP := Lib.hid HR1.out.fail
      go_wp2
      go_ret
      exact ⟨by rw [HN.out]; rfl, by rw [HN.out]; exact hP.out.1, hbut.trans hP.out.2⟩
    | some p =>
      obtain ⟨n, k⟩ := p
      obtain ⟨k0, kl, k9⟩ := takeN_len htk
      have hk0 : ((k : Int) == 0) = false := by rw [beq_eq_false_iff_ne]; omega
      have hv := fst_some htk
      rw [hv]
      by_cases hm : most < (n : Int)
      · have HN : Hid (rNum (l, false) most = (0, (l, true))) := Lib.hid (by unfold rNum; simp only [htk]; rw [if_pos hm]; rfl)
        clear htk hv
        have hP := Lib.hid HR1.out.fail
        go_wp2
        go_ret
        exact ⟨by rw [HN.out]; rfl, by rw [HN.out]; exact hP.out.1, hbut.trans hP.out.2⟩
      · have HN : Hid (rNum (l, false) most = ((n : Int), (l.drop k, false))) := Lib.hid (by unfold rNum; simp only [htk]; rw [if_neg hm]; rfl)
        clear htk hv
        by_cases hck : c = k
        · have hkl : ¬ k < l.length := by omega
          have hP := Lib.hid (HR1.out.cut HB1.out (k := k) (A' := A) hlc (fun b o hA h => absurd h hkl))
          rw [show c - k = 0 from by omega] at hP
          go_wp2
          go_ret
          exact ⟨by rw [HN.out]; rfl, by rw [HN.out]; exact hP.out.1, hbut.trans hP.out.2⟩
        · have hP := Lib.hid (HR1.out.cut HB1.out (k := k) (A' := A.map (·.add k)) hlc (fun b o hA _ => by rw [hA]; simp [Addr.add_lit]))
          go_wp2
          go_ret
          exact ⟨by rw [HN.out]; rfl, by rw [HN.out]; exact hP.out.1, hbut.trans hP.out.2⟩
  · have HN : Hid (rNum (l, true) most = (0, (l, true))) := Lib.hid (by unfold rNum; rfl)
    have hP := Lib.hid HR1.out.fail
    generalize fstV l = q at *
    obtain ⟨q1, q2⟩ := q
    go_wp2
    go_ret
    exact ⟨by rw [HN.out]; rfl, by rw [HN.out]; exact hP.out.1, hbut.trans hP.out.2⟩

set_option maxRecDepth 100000 in
set_option maxHeartbeats 400000 in
theorem refrsig_any (B g : Nat) (s : List UInt8 × Bool) (w : World) (h : Rr w B g s) :
    Calls Try.prog 57 #[.pointer (some ⟨g, 0, none⟩)] w (MovesR w B g (.int .i64 (rSig s).1) (rSig s).2) := by
  have hn := refnum_any B g s 2305843009213693952 w h
  have hr := rNum_rng s 2305843009213693952
  have HS : Hid ((rSig s).2 = (rNum s 2305843009213693952).2) := rfl
  have HV : Hid ((rSig s).1 = unzig (rNum s 2305843009213693952).1) := rfl
  generalize rNum s 2305843009213693952 = q at *
  obtain ⟨n, s'⟩ := q
  obtain ⟨r1, r2, _⟩ := hr
  simp only at r1 r2
  have HN := Lib.hid hn; clear hn
  have r3 : n ≤ 9223372036854775800 := by omega
  clear r2
  by_cases ho : n % 2 = 1
  · have h3 : (n % 2 == 1) = true := by simpa using ho
    have HO := Lib.hid ho; clear ho
    go_enter Try.func57, Try.ntmps57
    go_wp2_with fail
    refine HN.out.mono ?_
    rintro e w' ⟨rfl, hr1, hb1⟩
    go_wp2
    go_ret
    refine ⟨?_, by rw [HS.out]; exact hr1, hb1⟩
    rw [HV.out]
    simp only [unzig, if_pos HO.out]
    have e9 : -(n / 2) - 1 = -((n + 1) / 2) := by have := HO.out; omega
    exact congrArg (fun x => Ending.returned (Value.int IntKind.i64 x)) e9
  · have h3 : (n % 2 == 1) = false := by simpa using ho
    have HO := Lib.hid ho; clear ho
    go_enter Try.func57, Try.ntmps57
    go_wp2_with fail
    refine HN.out.mono ?_
    rintro e w' ⟨rfl, hr1, hb1⟩
    go_wp2
    go_ret
    refine ⟨?_, by rw [HS.out]; exact hr1, hb1⟩
    rw [HV.out]
    simp only [unzig, if_neg HO.out]
    rfl

/-- Hands back a string of these bytes; block g is then the plain reader s; all else is as it was. -/
def MovesRS (w : World) (B g : Nat) (l : List UInt8) (s : List UInt8 × Bool) (e : Ending) (w' : World) : Prop := ∃ b : ByteArray, b.data.toList = l ∧ e = .returned (.string b) ∧ Rr w' B g s ∧ But g w w'

set_option maxRecDepth 100000 in
set_option maxHeartbeats 1000000 in
theorem refrtext_any (B g : Nat) (s : List UInt8 × Bool) (most : Int) (w : World) (h : Rr w B g s) :
    Calls Try.prog 56 #[.pointer (some ⟨g, 0, none⟩), .int .i64 most] w (MovesRS w B g (rText s most).1 (rText s most).2) := by
  have hn := refnum_any B g s most w h
  have hr := rNum_rng s most
  have HS : Hid (rText s most = if (rNum s most).2.2 = true then ([], (rNum s most).2) else
    if ((rNum s most).2.1.length : Int) < (rNum s most).1 then ([], ((rNum s most).2.1, true)) else
    ((rNum s most).2.1.take (rNum s most).1.toNat, ((rNum s most).2.1.drop (rNum s most).1.toNat, false))) := rfl
  generalize rNum s most = q at *
  obtain ⟨n, l, f⟩ := q
  obtain ⟨r1, r2, _⟩ := hr
  simp only at r1 r2
  simp only at HS
  have HN := Lib.hid hn; clear hn
  go_enter Try.func56, Try.ntmps56
  go_wp2_with fail
  refine HN.out.mono ?_
  rintro e w1 ⟨rfl, hr1, hb1⟩
  obtain ⟨A, c, hblk, hlc, hsl, hlen⟩ := hr1.sl
  have HR1 := Lib.hid hr1
  have HB1 := Lib.hid hblk
  have c0 := hblk.cell 0
  have c1 := hblk.cell 1
  have f0 := hblk.free 0
  have f1 := hblk.free 1
  simp at c0 c1
  simp only at hlc hsl hlen
  clear hblk hr1
  cases f
  · by_cases hlt : (l.length : Int) < n
    · have HQ : Hid (rText s most = ([], (l, true))) := Lib.hid (by rw [HS.out, if_neg (by simp), if_pos hlt])
      have hP := Lib.hid HR1.out.fail
      clear hsl
      go_wp2
      go_ret
      exact ⟨ByteArray.empty, by rw [HQ.out]; rfl, rfl, by rw [HQ.out]; exact hP.out.1, hb1.trans hP.out.2⟩
    · obtain ⟨m, rfl⟩ := Int.eq_ofNat_of_zero_le r1
      have HQ : Hid (rText s most = (l.take m, (l.drop m, false))) := Lib.hid (by rw [HS.out, if_neg (by simp), if_neg hlt]; rfl)
      have hml : m ≤ l.length := by omega
      obtain ⟨X, hX⟩ := str_ex (l.take m)
      have rX := str_run (P := Try.prog) w1 29 9 5 Try.underlying29 Try.underlying5 Try.underlying9 _ _ (hsl.take_ hml) X hX
      have HX := Lib.hid hX
      clear hX hsl r1 r2
      by_cases hck : c = m
      · subst hck
        have hkl : ¬ c < l.length := by omega
        have hP := Lib.hid (HR1.out.cut HB1.out (k := c) (A' := A) hlc (fun b o hA h => absurd h hkl))
        rw [show c - c = 0 from by omega, show l.length - c = 0 from by omega] at hP
        go_wp2
        go_ret
        exact ⟨X, by rw [HQ.out]; exact HX.out, rfl, by rw [HQ.out]; exact hP.out.1, hb1.trans hP.out.2⟩
      · have hP := Lib.hid (HR1.out.cut HB1.out (k := m) (A' := A.map (·.add m)) hlc (fun b o hA _ => by rw [hA]; simp [Addr.add_lit]))
        go_wp2
        go_ret
        exact ⟨X, by rw [HQ.out]; exact HX.out, rfl, by rw [HQ.out]; exact hP.out.1, hb1.trans hP.out.2⟩
  · have HQ : Hid (rText s most = ([], (l, true))) := Lib.hid (by rw [HS.out, if_pos rfl])
    have hP := Lib.hid HR1.out.fail
    clear hsl
    go_wp2
    go_ret
    exact ⟨ByteArray.empty, by rw [HQ.out]; rfl, rfl, by rw [HQ.out]; exact hP.out.1, hb1.trans hP.out.2⟩

end Go.Proofs.Ytalaidlnhoonfaa
