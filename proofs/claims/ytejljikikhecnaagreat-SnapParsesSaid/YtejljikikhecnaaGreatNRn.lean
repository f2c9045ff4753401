/-
  hedgerowref02.Put, Signed, Text: the contracts, by walks. Conditions: lengths.
-/
import Derived.Test.YtejljikikhecnaaGreatNNa
import Derived.Test.YtejljikikhecnaaGreatNSb
import Derived.Lib.AppendStr
namespace Go.Proofs.YtejljikikhecnaaGreat
open Go.RowKit

/-- An append of one byte to a row of the call's own, as the loop makes it. -/
theorem own_byte {w : World} {B : Nat} {v v' : Value} {p : List UInt8} {w1 : World} {x : Nat} {y : Int} (hx : x < 256) (he : y = (x : Int)) (hb : B ≤ w.heap.size)
    (hown : w.ownsRow B 5 1 v p.length (bs p)) (hown' : w1.ownsRow B 5 1 v' (p.length + 1) (bs p ++ [Value.int .u8 y])) (hg : (w.alloc (.cells #[Value.int .u8 y] 5)).grownBy w1 v.ownBlock) :
    w1.ownsRow B 5 1 v' (p ++ [UInt8.ofNat x]).length (bs (p ++ [UInt8.ofNat x])) ∧ Below B w w1 := by
  refine ⟨?_, ((Below.refl B w).alloc hb _).grown hg (by simp; omega) (fun k hk => (hown.lt k hk).1)⟩
  rw [bs_append, List.length_append]
  have : bs [UInt8.ofNat x] = [.int .u8 y] := by simp only [bs, bv, List.map_cons, List.map_nil, ofNat_toNat x hx, he]
  rw [this]; exact hown'

set_option maxRecDepth 100000 in
set_option maxHeartbeats 1000000 in
theorem refput_some (v : Value) (l : List UInt8) (n : Nat) (w : World) (h : Sl bv w v l) (hlen : l.length ≤ 140737488350000) (hn : n < 4611686018427387904) :
    Calls Tryz.prog 41 #[v, .int .i64 n] w (Makes w (l ++ enc n)) := by
  obtain ⟨i0, hi, hz0, hz1, hz2⟩ := info_parts infoB
  have h9 := enc_length_9 n hn
  have hw1 : (w.alloc (.cells #[] 5)).ownsRow w.heap.size 5 1 (.slice (some ⟨w.heap.size, 0, none⟩) 0 0) 0 [] := World.ownsRow_made w #[] 0 (Nat.le_refl _) (by unfold maxLen; omega) rfl
  obtain ⟨v', w2, hr, ho2, hg2⟩ := run_append_sl (P := Tryz.prog) (w.alloc (.cells #[] 5)) w.heap.size 30 30 5 i0 (.int .u8 0) 1 Tryz.underlying30 hi hz0 hz1 hz2 rfl _ _ _ hw1 _ _ (h.alloc _) (fun _ => rfl) (by omega) (by omega) (by simp)
  have hb2 : Below w.heap.size w w2 := ((Below.refl _ _).alloc (Nat.le_refl _) _).grown hg2 (by simp) (fun k hk => (hw1.lt k hk).1)
  obtain ⟨A, c, rfl⟩ := h.form
  simp only [Nat.zero_add, List.nil_append] at ho2
  have HR := Lib.hid hr
  have HO : Hid (w2.ownsRow w.heap.size 5 1 v' l.length (bs l)) := Lib.hid ho2
  clear hr ho2 hg2 hw1 h
  go_enter Tryz.func41, Tryz.ntmps41
  go_wp2_with (at_builtin; refine Lib.wpList_append_run _ rfl _ _ _ _ rfl _ _ rfl rfl _ _ HR.out ?_)
  go_loopw [5, 1] (fun v t wr => ∃ (m : Nat) (p : List UInt8), t = .int .i64 m ∧ m ≤ n ∧ l.length ≤ p.length ∧ p ++ enc m = l ++ enc n ∧ wr.ownsRow w.heap.size 5 1 v p.length (bs p) ∧ Below w.heap.size w wr) (fun _ t _ => (intOf t).toNat)
  case atStart => exact ⟨n, l, rfl, Nat.le_refl _, Nat.le_refl _, rfl, HO.out, hb2⟩
  case round =>
    clear hb2
    obtain ⟨m, p, rfl, hm, hlp, hp, hown, hb⟩ := hrel
    have HP := Lib.hid hp; clear hp
    have hsz := hb.size
    have hpl : p.length + (enc m).length ≤ l.length + 9 := by rw [← List.length_append, HP.out, List.length_append]; omega
    have h1 := List.length_pos_iff.2 (enc_ne m)
    by_cases hc : 127 < m
    · go_wp2_with (at_builtin; refine wpList_append_own _ rfl _ _ 30 rfl w.heap.size 5 i0 (.int .u8 0) 1 1 Tryz.underlying30 hi hz0 hz1 hz2 rfl (by decide) _ _ _ rfl (hown.alloc _) ⟨wr.heap.size, 0, none⟩ 1 1 [.int .u8 (m % 128 + 128)] rfl rfl (cell_one_new _ _ _) ?c2 ?c3 ?c4 ?c5 ?_)
      case c2 => intro u hu; simp at hu; subst hu; rfl
      case c3 => unfold maxLen; omega
      case c4 => omega
      case c5 => simp; omega
      intro v' w1 hown' hgrow _
      obtain ⟨R1, R2⟩ := own_byte (x := m % 128 + 128) (by omega) (by omega) hsz hown hown' hgrow
      have R3 := hb.trans R2
      clear hown' hgrow hown hb R2
      have HP' : Hid (p ++ [UInt8.ofNat (m % 128 + 128)] ++ enc (m / 128) = l ++ enc n) := Lib.hid (by rw [← HP.out, enc_big m hc]; simp)
      go_wp2
      go_roundw
      case rel => exact ⟨m / 128, p ++ [UInt8.ofNat (m % 128 + 128)], by go_num, by omega, by rw [List.length_append]; omega, HP'.out, R1, R3⟩
      case measure => simp [intOf]; omega
    · go_wp2_with (at_builtin; refine wpList_append_own _ rfl _ _ 30 rfl w.heap.size 5 i0 (.int .u8 0) 1 1 Tryz.underlying30 hi hz0 hz1 hz2 rfl (by decide) _ _ _ rfl (hown.alloc _) ⟨wr.heap.size, 0, none⟩ 1 1 [.int .u8 m] rfl rfl (cell_one_new _ _ _) ?d2 ?d3 ?d4 ?d5 ?_)
      case d2 => intro u hu; simp at hu; subst hu; rfl
      case d3 => unfold maxLen; omega
      case d4 => omega
      case d5 => simp; omega
      intro v' w1 hown' hgrow _
      obtain ⟨R1, R2⟩ := own_byte (x := m) (by omega) rfl hsz hown hown' hgrow
      have R3 := hb.trans R2
      have R4 : Makes w (l ++ enc n) (.returned v') w1 := by
        refine ⟨v', rfl, ?_, R3⟩
        rw [← HP.out, enc_small m hc]; exact R1
      clear hown' hgrow hown hb R1 R2 R3
      go_wp2
      go_ret
      exact R4

/-- A call that hands back a slice that reads l, and turns nothing that was there. -/
def Reads (w : World) (l : List UInt8) (e : Ending) (w' : World) : Prop := ∃ v, e = .returned v ∧ Sl bv w' v l ∧ Below w.heap.size w w'
theorem Makes.reads {w : World} {l : List UInt8} {e : Ending} {w' : World} (h : Makes w l e w') : Reads w l e w' := by
  obtain ⟨v, he, ho, hb⟩ := h
  exact ⟨v, he, Sl.of_own ho, hb⟩

set_option maxRecDepth 100000 in
set_option maxHeartbeats 400000 in
theorem refput_any (v : Value) (l : List UInt8) (n : Int) (w : World) (h : Sl bv w v l) (hlen : l.length ≤ 140737488350000) :
    Calls Tryz.prog 41 #[v, .int .i64 n] w (Reads w (l ++ putB n)) := by
  by_cases h1 : n < 0
  · have H : Hid (Reads w (l ++ putB n) (.returned v) w) := Lib.hid ⟨v, rfl, by unfold putB; rw [if_pos (.inl h1), List.append_nil]; exact h, Below.refl _ _⟩
    clear h
    go_enter Tryz.func41, Tryz.ntmps41
    go_wp2
    go_ret
    exact H.out
  · by_cases h2 : 4611686018427387904 ≤ n
    · have H : Hid (Reads w (l ++ putB n) (.returned v) w) := Lib.hid ⟨v, rfl, by unfold putB; rw [if_pos (.inr h2), List.append_nil]; exact h, Below.refl _ _⟩
      clear h
      go_enter Tryz.func41, Tryz.ntmps41
      go_wp2
      go_ret
      exact H.out
    · obtain ⟨m, rfl⟩ := Int.eq_ofNat_of_zero_le (show 0 ≤ n by omega)
      have e : putB (m : Int) = enc m := by unfold putB; rw [if_neg (by omega), Int.toNat_natCast]
      rw [e]
      exact (refput_some v l m w h hlen (by omega)).mono fun _ _ H => H.reads

set_option maxRecDepth 100000 in
set_option maxHeartbeats 400000 in
theorem refsig_any (v : Value) (l : List UInt8) (n : Int) (w : World) (h : Sl bv w v l) (hlen : l.length ≤ 140737488350000) :
    Calls Tryz.prog 43 #[v, .int .i64 n] w (Reads w (l ++ sigB n)) := by
  by_cases h1 : n < -1152921504606846976
  · have H : Hid (Reads w (l ++ sigB n) (.returned v) w) := Lib.hid ⟨v, rfl, by rw [sigB_none n (.inl h1), List.append_nil]; exact h, Below.refl _ _⟩
    clear h
    go_enter Tryz.func43, Tryz.ntmps43
    go_wp2
    go_ret
    exact H.out
  · by_cases h2 : 1152921504606846976 < n
    · have H : Hid (Reads w (l ++ sigB n) (.returned v) w) := Lib.hid ⟨v, rfl, by rw [sigB_none n (.inr h2), List.append_nil]; exact h, Below.refl _ _⟩
      clear h
      go_enter Tryz.func43, Tryz.ntmps43
      go_wp2
      go_ret
      exact H.out
    · by_cases h3 : n < 0
      · rw [← sigB_neg n (by omega) h3]
        go_enter Tryz.func43, Tryz.ntmps43
        go_wp2_with fail
        refine (refput_any v l _ w h hlen).mono ?_
        intro e w1 H
        obtain ⟨v1, rfl, H1⟩ := H
        have H : Hid (Reads w (l ++ putB (-2 * n - 1)) (.returned v1) w1) := Lib.hid ⟨v1, rfl, H1⟩
        clear H1 h
        go_wp2
        go_ret
        exact H.out
      · rw [← sigB_pos n (by omega) (by omega)]
        go_enter Tryz.func43, Tryz.ntmps43
        go_wp2_with fail
        refine (refput_any v l _ w h hlen).mono ?_
        intro e w1 H
        obtain ⟨v1, rfl, H1⟩ := H
        have H : Hid (Reads w (l ++ putB (2 * n)) (.returned v1) w1) := Lib.hid ⟨v1, rfl, H1⟩
        clear H1 h
        go_wp2
        go_ret
        exact H.out

set_option maxRecDepth 100000 in
set_option maxHeartbeats 400000 in
theorem reftext_any (v : Value) (l : List UInt8) (s : ByteArray) (w : World) (h : Sl bv w v l) (hlen : l.length + s.size ≤ 140737488350000) :
    Calls Tryz.prog 42 #[v, .string s] w (Reads w (l ++ (putB s.size ++ s.data.toList))) := by
  obtain ⟨i0, hi, hz0, hz1, hz2⟩ := info_parts infoB
  have e : putB (s.size : Int) = enc s.size := by unfold putB; rw [if_neg (by omega), Int.toNat_natCast]
  have h9 := enc_length_9 s.size (by omega)
  rw [e]
  go_enter Tryz.func42, Tryz.ntmps42
  go_wp2_with fail
  refine (refput_some v l s.size w h (by omega) (by omega)).mono ?_
  intro e w1 H
  obtain ⟨v1, rfl, ho1, hb1⟩ := H
  have hle : (l ++ enc s.size).length = l.length + (enc s.size).length := by rw [List.length_append]
  obtain ⟨v2, w2, hr, ho2, hg2, _⟩ := Lib.run_append_own_string (P := Tryz.prog) w1 w.heap.size 30 9 30 5 i0 Tryz.underlying30 Tryz.underlying9 hi hz0 hz1 hz2 v1 _ _ ho1 s (by rw [hle]; unfold maxLen; omega) (by rw [hle]; omega) hb1.size
  have hb2 : Below w.heap.size w w2 := hb1.grown hg2 hb1.size (fun k hk => (ho1.lt k hk).1)
  have hs : Sl bv w2 v2 (l ++ (enc s.size ++ s.data.toList)) := by
    refine Sl.of_own (base := w.heap.size) (e := 5) (n := (l ++ enc s.size).length + s.size) ?_
    have : (l ++ (enc s.size ++ s.data.toList)).map bv = bs (l ++ enc s.size) ++ Lib.strCells s := by
      rw [← List.append_assoc, List.map_append]; rfl
    rw [this]; exact ho2
  have HR := Lib.hid hr
  have H : Hid (Reads w (l ++ (enc s.size ++ s.data.toList)) (.returned v2) w2) := Lib.hid ⟨v2, rfl, hs, hb2⟩
  clear hr ho2 hg2 hs hb2 ho1 hb1 hle h
  go_wp2_with (at_builtin; refine Lib.wpList_append_run _ rfl _ _ _ _ rfl _ _ rfl rfl _ _ HR.out ?_)
  go_ret
  exact H.out

end Go.Proofs.YtejljikikhecnaaGreat
