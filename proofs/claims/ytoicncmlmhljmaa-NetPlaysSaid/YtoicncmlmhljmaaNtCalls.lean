/-
  Send, Double: the contracts, by walks. Conditions: lengths.
-/
import Derived.Test.YtoicncmlmhljmaaNtPut
namespace Go.Proofs.Ytoicncmlmhljmaa
open Go.RowKit

set_option maxHeartbeats 1000000 in
theorem nsend_any {R g : Nat} {v : Value} {l : List Pc} (t : Int) (vb : Value) (b : List UInt8) (w : World) (h : Nt R w g v l) (hs : Sl bv w vb b) (hl : b.length ≤ 140737488355328) (hn : l.length < 256) :
    Calls Try.prog 8 #[.pointer (some ⟨g, 0, none⟩), .int .i64 t, vb] w fun e w' => e = .returned (.int .i64 0) ∧ PutQ R g l t b false w w' := by
  have HC := Lib.hid (nput_any t vb b false w h hs hl hn)
  obtain ⟨B, d, rfl⟩ := hs.form
  clear h hs hl hn
  go_enter Try.func8, Try.ntmps8
  go_wp2_with fail
  refine HC.out.mono ?_
  rintro e w' ⟨rfl, hq⟩
  have HQ := Lib.hid hq
  clear hq
  go_wp2
  go_ret
  exact ⟨rfl, HQ.out⟩
set_option maxHeartbeats 1000000 in
theorem nsend_full {R g : Nat} {v : Value} {l : List Pc} (t : Int) (vb : Value) (b : List UInt8) (w : World) (h : Nt R w g v l) (hs : Sl bv w vb b) (hn : 256 ≤ l.length) :
    Calls Try.prog 8 #[.pointer (some ⟨g, 0, none⟩), .int .i64 t, vb] w fun e w' => e = .returned (.int .i64 6) ∧ Below w.heap.size w w' := by
  have HC := Lib.hid (nput_full t vb b false w h hs hn)
  obtain ⟨B, d, rfl⟩ := hs.form
  clear h hs hn
  go_enter Try.func8, Try.ntmps8
  go_wp2_with fail
  refine HC.out.mono ?_
  rintro e w' ⟨rfl, hq⟩
  have HQ := Lib.hid hq
  clear hq
  go_wp2
  go_ret
  exact ⟨rfl, HQ.out⟩
set_option maxHeartbeats 1000000 in
theorem nsend_nil (t : Int) (A : Option Addr) (n c : Nat) (w : World) :
    Calls Try.prog 8 #[.pointer none, .int .i64 t, .slice A n c] w fun e w' => e = .returned (.int .i64 1) ∧ w = w' := by
  go_enter Try.func8, Try.ntmps8
  go_wp2
  go_ret
  exact ⟨rfl, rfl⟩

set_option maxHeartbeats 1000000 in
theorem ndouble_out {R g : Nat} {v : Value} {l : List Pc} (i : Int) (w : World) (h : Nt R w g v l) (hi : ¬ (0 ≤ i ∧ i < l.length)) :
    Calls Try.prog 10 #[.pointer (some ⟨g, 0, none⟩), .int .i64 i] w fun e w' => e = .returned (.int .i64 5) ∧ w = w' := by
  have HC := Lib.hid (find_out i w h hi)
  clear h hi
  go_enter Try.func10, Try.ntmps10
  go_wp2_with fail
  refine HC.out.mono ?_
  rintro e w' ⟨rfl, rfl⟩
  go_wp2
  go_ret
  exact ⟨rfl, rfl⟩
theorem at_cells {w : World} {r i : Nat} {p : Pc} (h : w.rangeAt r (i * 3) (encP p)) : w.cell? ⟨r, i * 3, none⟩ = some (.int .i64 p.to) ∧ w.cell? ⟨r, i * 3 + 1, none⟩ = some p.v ∧ w.cell? ⟨r, i * 3 + 2, none⟩ = some (.bool p.t) :=
  ⟨h 0 _ rfl, h 1 _ rfl, h 2 _ rfl⟩
set_option maxHeartbeats 1000000 in
theorem ndouble_in {R g : Nat} {v : Value} {l : List Pc} (i : Nat) (w : World) (h : Nt R w g v l) (hi : i < l.length) (hl : (l[i]).b.length ≤ 140737488355328) (hn : l.length < 256) :
    Calls Try.prog 10 #[.pointer (some ⟨g, 0, none⟩), .int .i64 i] w fun e w' => e = .returned (.int .i64 0) ∧ PutQ R g l l[i].to l[i].b l[i].t w w' := by
  obtain ⟨A, c, rfl, hx⟩ := h.at_
  obtain ⟨r, rfl, hr, _, hra⟩ := hx i hi
  have hs := (h.row l[i] (List.getElem_mem hi)).sl
  have HF := Lib.hid (find_in i w h hi)
  have HC := Lib.hid (nput_any l[i].to l[i].v l[i].b l[i].t w h hs hl hn)
  obtain ⟨B, d, hv⟩ := hs.form
  obtain ⟨k0, k1, k2⟩ := at_cells hra
  rw [hv] at HC k1
  obtain ⟨p, hp⟩ : ∃ p, p = l[i] := ⟨_, rfl⟩
  rw [← hp] at k0 k1 k2 HC ⊢
  clear hp hv hx h hs hra hl hr hn hi
  go_enter Try.func10, Try.ntmps10
  go_wp2_with fail
  refine HF.out.mono ?_
  rintro e w' ⟨rfl, rfl⟩
  go_wp2_with fail
  refine HC.out.mono ?_
  rintro e w' ⟨rfl, hq⟩
  have HQ := Lib.hid hq
  clear hq
  go_wp2
  go_ret
  exact ⟨rfl, HQ.out⟩
set_option maxHeartbeats 1000000 in
theorem ndouble_full {R g : Nat} {v : Value} {l : List Pc} (i : Nat) (w : World) (h : Nt R w g v l) (hi : i < l.length) (hn : 256 ≤ l.length) :
    Calls Try.prog 10 #[.pointer (some ⟨g, 0, none⟩), .int .i64 i] w fun e w' => e = .returned (.int .i64 6) ∧ Below w.heap.size w w' := by
  obtain ⟨A, c, rfl, hx⟩ := h.at_
  obtain ⟨r, rfl, hr, _, hra⟩ := hx i hi
  have hs := (h.row l[i] (List.getElem_mem hi)).sl
  have HF := Lib.hid (find_in i w h hi)
  have HC := Lib.hid (nput_full l[i].to l[i].v l[i].b l[i].t w h hs hn)
  obtain ⟨B, d, hv⟩ := hs.form
  obtain ⟨k0, k1, k2⟩ := at_cells hra
  rw [hv] at HC k1
  obtain ⟨p, hp⟩ : ∃ p, p = l[i] := ⟨_, rfl⟩
  rw [← hp] at k0 k1 k2 HC
  clear hp hv hx h hs hra hr hn hi
  go_enter Try.func10, Try.ntmps10
  go_wp2_with fail
  refine HF.out.mono ?_
  rintro e w' ⟨rfl, rfl⟩
  go_wp2_with fail
  refine HC.out.mono ?_
  rintro e w' ⟨rfl, hq⟩
  have HQ := Lib.hid hq
  clear hq
  go_wp2
  go_ret
  exact ⟨rfl, HQ.out⟩

end Go.Proofs.Ytoicncmlmhljmaa
