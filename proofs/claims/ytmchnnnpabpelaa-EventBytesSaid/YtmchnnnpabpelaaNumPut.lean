/-
  num.Put, num.Signed, num.Text: the contracts, by walks. Conditions: bounds on lengths.
-/
import Derived.Test.YtmchnnnpabpelaaNumConcat
namespace Go.Proofs.Ytmchnnnpabpelaa
open Go.RowKit

/-- A call that hands back a slice of its own that reads l, and turns nothing that was there. -/
def Makes (w : World) (l : List UInt8) (e : Ending) (w' : World) : Prop :=
  ∃ v, e = .returned v ∧ w'.ownsRow w.heap.size 5 1 v l.length (bs l) ∧ Below w.heap.size w w'

theorem laid_any (n : Int) (w : World) : Calls Try.prog 56 #[.int .i64 n] w (Makes w (putB n)) := by
  by_cases h : n < 0 ∨ 4611686018427387904 ≤ n
  · refine (laid_none n w h).mono fun e w' ⟨he, hw⟩ => ⟨_, he, ?_, hw ▸ Below.refl _ _⟩
    simp only [putB, if_pos h]
    exact World.ownsRow_nil _ _ _ _
  · obtain ⟨m, rfl⟩ := Int.eq_ofNat_of_zero_le (show 0 ≤ n by omega)
    refine (laid_some m w (by omega)).mono fun e w' ⟨v, he, ho, hb⟩ => ⟨v, he, ?_, hb⟩
    simp only [putB, if_neg h, Int.toNat_natCast]
    exact ho

/-- A block of slices, just laid, as a slice of them. -/
theorem cells_laid (w : World) (vs : List Value) (t : TypeId) : ∀ j u, vs[j]? = some u → (w.alloc (.cells vs.toArray t)).cell? ⟨w.heap.size, 0 + j, none⟩ = some u := by
  intro j u hu
  rw [(Blk.new w t vs.toArray).cell (0 + j)]
  simpa using hu

/-- slices.Concat of a block of slices that has just been laid. -/
theorem concat_laid (W : World) (ls : List (Value × List UInt8)) (n c : Nat) (hn : n = ls.length) (h0 : 0 < n) (h31 : n ≤ 1000) (cs : Array Value) (hcs : cs = (ls.map (·.1)).toArray)
    (hsl : ∀ p ∈ ls, Sl bv W p.1 p.2) (hlen : (flat ls).length ≤ 140737488355328) :
    Calls Try.prog 28 #[.slice (some ⟨W.heap.size, 0, none⟩) n c] (W.alloc (.cells cs 43)) (Makes (W.alloc (.cells cs 43)) (flat ls)) := by
  subst hn hcs
  refine concat_any W.heap.size 0 c ls _ h0 h31 (by simp) ?_ (fun p hp => (hsl p hp).alloc _) hlen
  intro j u hu
  exact cells_laid W (ls.map (·.1)) 43 j u.1 (by rw [List.getElem?_map, hu]; rfl)

theorem Makes.behind {w w1 : World} {l : List UInt8} {e : Ending} {w' : World} (h : Makes w1 l e w') (hb : Below w.heap.size w w1) : Makes w l e w' := by
  obtain ⟨v3, rfl, ⟨a1, a2⟩, hb3⟩ := h
  have hs := hb.size
  refine ⟨v3, rfl, ⟨a1, ?_⟩, hb.trans (hb3.mono hs)⟩
  rcases a2 with a2 | ⟨g, cap, cur, a3, a4, a5⟩
  · exact .inl a2
  · exact .inr ⟨g, cap, cur, a3, by omega, a5⟩

set_option maxHeartbeats 400000 in
theorem put_any (v : Value) (l : List UInt8) (n : Int) (w : World) (h : Sl bv w v l) (hlen : l.length ≤ 140737488350000) :
    Calls Try.prog 42 #[v, .int .i64 n] w (Makes w (l ++ putB n)) := by
  have hpl := putB_len n
  obtain ⟨A, c, rfl⟩ := h.form
  go_enter Try.func42, Try.ntmps42
  go_wp2_with fail
  refine (laid_any n w).mono ?_
  rintro e w1 ⟨v1, rfl, ho1, hb1⟩
  have hs1 := (Sl.of_own ho1)
  obtain ⟨A1, c1, rfl⟩ := hs1.form
  go_wp2_with fail
  have hfl : flat [(.slice A l.length c, l), (.slice A1 (putB n).length c1, putB n)] = l ++ putB n := by simp [flat]
  refine (concat_laid w1 [(.slice A l.length c, l), (.slice A1 (putB n).length c1, putB n)] 2 2 rfl (by omega) (by omega) _ rfl ?_ (by rw [hfl, List.length_append]; omega)).mono ?_
  · intro p hp
    simp only [List.mem_cons, List.not_mem_nil, or_false] at hp
    rcases hp with rfl | rfl
    · exact h.below hb1
    · exact hs1
  · intro e w3 H
    have H2 := H.behind (hb1.alloc hb1.size _)
    rw [hfl] at H2
    obtain ⟨v3, rfl, H3⟩ := H2
    have H4 : Makes w (l ++ putB n) (.returned v3) w3 := ⟨v3, rfl, H3⟩
    clear H H3
    go_wp2
    go_ret
    exact H4

set_option maxHeartbeats 400000 in
theorem signed_any (v : Value) (l : List UInt8) (n : Int) (w : World) (h : Sl bv w v l) (hlen : l.length ≤ 140737488350000) :
    Calls Try.prog 44 #[v, .int .i64 n] w (Makes w (l ++ sigB n)) := by
  by_cases h1 : n < -1152921504606846976
  · have hc := clone_any v l w h (by omega)
    rw [sigB_none n (.inl h1), List.append_nil]
    go_enter Try.func44, Try.ntmps44
    go_wp2_with fail
    refine hc.mono ?_
    rintro e w1 ⟨v1, rfl, ho1, hb1⟩
    have H : Makes w l (.returned v1) w1 := ⟨v1, rfl, ho1, hb1⟩
    clear ho1 hb1 h
    go_wp2
    go_ret
    exact H
  · by_cases h2 : 1152921504606846976 < n
    · have hc := clone_any v l w h (by omega)
      rw [sigB_none n (.inr h2), List.append_nil]
      go_enter Try.func44, Try.ntmps44
      go_wp2_with fail
      refine hc.mono ?_
      rintro e w1 ⟨v1, rfl, ho1, hb1⟩
      have H : Makes w l (.returned v1) w1 := ⟨v1, rfl, ho1, hb1⟩
      clear ho1 hb1 h
      go_wp2
      go_ret
      exact H
    · by_cases h3 : n < 0
      · rw [← sigB_neg n (by omega) h3]
        go_enter Try.func44, Try.ntmps44
        go_wp2_with fail
        refine (put_any v l _ w h hlen).mono ?_
        rintro e w1 H
        obtain ⟨v1, rfl, H1⟩ := H
        have H : Makes w (l ++ putB (-2 * n - 1)) (.returned v1) w1 := ⟨v1, rfl, H1⟩
        clear H1
        go_wp2
        go_ret
        exact H
      · rw [← sigB_pos n (by omega) (by omega)]
        go_enter Try.func44, Try.ntmps44
        go_wp2_with fail
        refine (put_any v l _ w h hlen).mono ?_
        rintro e w1 H
        obtain ⟨v1, rfl, H1⟩ := H
        have H : Makes w (l ++ putB (2 * n)) (.returned v1) w1 := ⟨v1, rfl, H1⟩
        clear H1
        go_wp2
        go_ret
        exact H

theorem str_len (s : ByteArray) : s.data.toList.length = s.size := by rw [Array.length_toList]; rfl

/-- The slice that a conversion of a text makes reads its bytes. -/
theorem conv_sl (w : World) (e : TypeId) (s : ByteArray) : Sl bv (Lib.bytesWorld w e s) (.slice (some ⟨w.heap.size, 0, none⟩) s.size (grownCap w s.size 0 e)) s.data.toList := by
  refine ⟨some ⟨w.heap.size, 0, none⟩, _, by rw [str_len], by rw [str_len]; exact grownCap_ge w s.size 0 e, fun _ => ⟨_, 0, rfl, by rw [Lib.bytesWorld_size]; omega, fun j u hu => ?_⟩⟩
  have hj : j < s.size := by rw [← str_len]; exact (List.getElem?_eq_some_iff.1 hu).1
  rw [Nat.zero_add, Lib.bytesWorld_cell w e s j hj]
  simp [List.getD, hu, bv]
theorem conv_below (w : World) (e : TypeId) (s : ByteArray) : Below w.heap.size w (Lib.bytesWorld w e s) := by
  refine ⟨rfl, rfl, rfl, by rw [Lib.bytesWorld_size]; omega, fun k hk => Lib.bytesWorld_at_old w e s k hk⟩

set_option maxHeartbeats 400000 in
theorem text_any (v : Value) (l : List UInt8) (s : ByteArray) (w : World) (h : Sl bv w v l) (hlen : l.length + s.size ≤ 140737488350000) :
    Calls Try.prog 43 #[v, .string s] w (Makes w (l ++ (putB s.size ++ s.data.toList))) := by
  have hpl := putB_len s.size
  have hconv := fun W => Lib.run_convert_string_bytes (P := Try.prog) W 9 43 5 s Try.underlying9 Try.underlying43 Try.underlying5
  obtain ⟨A, c, rfl⟩ := h.form
  go_enter Try.func43, Try.ntmps43
  go_wp2_with fail
  refine (laid_any _ w).mono ?_
  rintro e w1 ⟨v1, rfl, ho1, hb1⟩
  have hs1 := (Sl.of_own ho1)
  obtain ⟨A1, c1, rfl⟩ := hs1.form
  go_wp2_with fail
  have hs3 := conv_sl w1 5 s
  have hb2 := conv_below w1 5 s
  have hbw : Below w.heap.size w (Lib.bytesWorld w1 5 s) := hb1.trans (hb2.mono hb1.size)
  have hfl : flat [(.slice A l.length c, l), (.slice A1 (putB s.size).length c1, putB s.size), (.slice (some ⟨w1.heap.size, 0, none⟩) s.size (grownCap w1 s.size 0 5), s.data.toList)] = l ++ (putB s.size ++ s.data.toList) := by simp [flat]
  have hln : (l ++ (putB s.size ++ s.data.toList)).length ≤ 140737488355328 := by rw [List.length_append, List.length_append, str_len]; omega
  generalize hWd : Lib.bytesWorld w1 5 s = W at *
  clear hconv
  refine (concat_laid W [(.slice A l.length c, l), (.slice A1 (putB s.size).length c1, putB s.size), (.slice (some ⟨w1.heap.size, 0, none⟩) s.size (grownCap w1 s.size 0 5), s.data.toList)] 3 3 rfl (by omega) (by omega) _ rfl ?_ (by rw [hfl]; exact hln)).mono ?_
  · intro p hp
    simp only [List.mem_cons, List.not_mem_nil, or_false] at hp
    rcases hp with rfl | rfl | rfl
    · exact (h.below hb1).below hb2
    · exact hs1.below hb2
    · exact hs3
  · intro e w3 H
    have H2 := H.behind (hbw.alloc hbw.size _)
    rw [hfl] at H2
    obtain ⟨v3, rfl, H3⟩ := H2
    have H4 : Makes w (l ++ (putB s.size ++ s.data.toList)) (.returned v3) w3 := ⟨v3, rfl, H3⟩
    clear H H3
    go_wp2
    go_ret
    exact H4

end Go.Proofs.Ytmchnnnpabpelaa
