/-
  Buffer's peer, alone, Len, Acked, New: the contracts, by walks. Conditions: none.
-/
import Derived.Test.YtbhckfkjbeocoaaBfBase
namespace Go.Proofs.Ytbhckfkjbeocoaa
open Go.RowKit

/-- Is a number a peer's? -/
def peerB (n s i : Int) : Bool := decide (0 ≤ i ∧ i < n ∧ i ≠ s)
theorem results_cell_tmp {P : Program} {fn : Func} {p q : Tmp} {ty : TypeId} (h : fn.results = #[.cell p ty, .tmp q]) (tmps : Array Value) (w : World) (g : Nat) (t : TypeId) (cs : Array Value) (fr : Nat × Nat) (d : TypeDesc)
    (hp : tmps.getD p undef = .pointer (some ⟨g, 0, none⟩)) (hg : w.heap[g]? = some (.cells cs t fr))
    (hu : P.underlying ty = some d) (hd : (match d with | .struct _ | .array _ _ => true | _ => false) = true) (hi : (P.info? ty).map (·.size) = some cs.size) :
    (results fn tmps).run P w = .ok (.tuple #[.agg cs, tmps.getD q undef]) w := by
  have hp' : tmps[p]?.getD undef = .pointer (some ⟨g, 0, none⟩) := by simpa using hp
  simp [results, h, hp', asAddr, run_loadVar_row w g t ty cs fr d hg hu hd hi]

theorem ret_cell {P : Program} {fn : Func} {p u : Tmp} {ty : TypeId} (h : fn.results = #[.cell p ty, .tmp u]) (tmps : Array Value) (w : World) (g : Nat) (t : TypeId) (cs : Array Value) (d : TypeDesc) (v : Value)
    (hp : tmps.getD p undef = .pointer (some ⟨g, 0, none⟩)) (hg : Blk w g t cs)
    (hu : P.underlying ty = some d) (hd : (match d with | .struct _ | .array _ _ => true | _ => false) = true) (hi : (P.info? ty).map (·.size) = some cs.size) (hv : tmps.getD u undef = v) :
    (results fn tmps).run P w = .ok (.tuple #[.agg cs, v]) w := by
  rw [results_cell_tmp h tmps w g t cs (0, 0) d hp hg hu hd hi, hv]
theorem ret_bool' {a b : Bool} (h : a = b) : Ending.returned (.bool a) = .returned (.bool b) := by rw [h]

set_option maxHeartbeats 400000 in
theorem peer_any {P : Nat} {n s : Int} {f : Nat → Nat → Int} {v : Value} (i : Int) (w : World) (hb : Bf w P n s f v) : Calls Try.prog 18 #[.pointer (some ⟨P, 0, none⟩), .int .i64 i] w fun e w' => e = .returned (.bool (peerB n s i)) ∧ Below w.heap.size w w' := by
  have c0 := hb.cn
  have c1 := hb.cs
  clear hb
  unfold peerB
  by_cases h1 : 0 ≤ i
  · by_cases h2 : i < n
    · by_cases h3 : i = s
      · subst h3
        go_enter Try.func18, Try.ntmps18
        go_wp2
        go_ret
        exact ⟨ret_bool' (by simp), Below.refl _ _⟩
      · have hd : (i == s) = false := by simpa using h3
        go_enter Try.func18, Try.ntmps18
        go_wp2
        go_ret
        exact ⟨ret_bool' (by simp [h1, h2, h3]), Below.refl _ _⟩
    · have hd : decide (i < n) = false := by simpa using h2
      go_enter Try.func18, Try.ntmps18
      go_wp2
      go_ret
      exact ⟨rfl, Below.refl _ _⟩
  · have hd : decide (0 ≤ i) = false := by simpa using h1
    go_enter Try.func18, Try.ntmps18
    go_wp2
    go_ret
    exact ⟨rfl, Below.refl _ _⟩
theorem peer_is {P : Nat} {n s : Int} {f : Nat → Nat → Int} {v : Value} (i : Int) (w : World) (hb : Bf w P n s f v) (b : Bool) (h : peerB n s i = b) : Calls Try.prog 18 #[.pointer (some ⟨P, 0, none⟩), .int .i64 i] w fun e w' => e = .returned (.bool b) ∧ Below w.heap.size w w' := by
  subst h; exact peer_any i w hb

theorem alone_any {P : Nat} {n s : Int} {f : Nat → Nat → Int} {v : Value} (w : World) (hb : Bf w P n s f v) : Calls Try.prog 14 #[.pointer (some ⟨P, 0, none⟩)] w fun e w' => e = .returned (.bool (decide (n < 2))) ∧ Below w.heap.size w w' := by
  have c0 := hb.cn
  clear hb
  go_enter Try.func14, Try.ntmps14
  go_wp2
  go_ret
  exact ⟨ret_bool' rfl, Below.refl _ _⟩

theorem blen_any {P : Nat} {n s : Int} {f : Nat → Nat → Int} {A : Option Addr} {N c : Nat} (w : World) (hb : Bf w P n s f (.slice A N c)) : Calls Try.prog 10 #[.pointer (some ⟨P, 0, none⟩)] w fun e w' => e = .returned (.int .i64 N) ∧ Below w.heap.size w w' := by
  have c0 := hb.cv
  clear hb
  go_enter Try.func10, Try.ntmps10
  go_wp2
  go_ret
  exact ⟨rfl, Below.refl _ _⟩

set_option maxRecDepth 100000 in
set_option maxHeartbeats 400000 in
theorem bnew_any (n s : Int) (w : World) (h : 1 ≤ n ∧ n ≤ 16 ∧ 0 ≤ s ∧ s < n) : Calls Try.prog 5 #[.int .i64 n, .int .i64 s] w fun e w' => e = .returned (.pointer (some ⟨w.heap.size, 0, none⟩)) ∧ Bf w' w.heap.size n s (fun _ _ => 0) (.slice none 0 0) ∧ Below w.heap.size w w' := by
  obtain ⟨C, hC⟩ : ∃ C, C = bufA n s (fun _ _ => 0) (.slice none 0 0) := ⟨_, rfl⟩
  have HB := Lib.hid (show Bf (w.alloc (.cells C 49)) w.heap.size n s (fun _ _ => 0) (.slice none 0 0) by rw [hC]; exact ⟨_, Blk.new _ _ _, bufA_bc _ _ _ _⟩)
  have HM := Lib.hid (mk_buf n s w)
  rw [← hC] at HM
  clear hC
  obtain ⟨h1, h2, h3, h4⟩ := h
  have d1 : decide (n < 1) = false := by simp; omega
  have d2 : decide (16 < n) = false := by simp; omega
  have d3 : decide (s < 0) = false := by simp; omega
  have d4 : decide (n ≤ s) = false := by simp; omega
  go_enter Try.func5, Try.ntmps5
  go_wp2_with (first
    | (refine wpList_val (o := ⟨some 22, _, _, _, _, _⟩) rfl (.agg C) w (run_build_op (vs := #[(0, .int .i64 n), (1, .int .i64 s)]) rfl (by simp only [List.map_toArray, List.map_cons, List.map_nil]; rfl) HM.out) ?_)
    | fail)
  go_ret
  exact ⟨rfl, HB.out, (Below.refl _ _).alloc (Nat.le_refl _) _⟩
theorem bnew_none (w : World) : Calls Try.prog 5 #[.int .i64 0, .int .i64 0] w fun e w' => e = .returned (.pointer none) ∧ Below w.heap.size w w' := by
  go_enter Try.func5, Try.ntmps5
  go_wp2
  go_ret
  exact ⟨rfl, Below.refl _ _⟩

set_option maxHeartbeats 400000 in
theorem acked_any {P p : Nat} {n s : Int} {f : Nat → Nat → Int} {v : Value} (w : World) (hb : Bf w P n s f v) (hp : p < 16) (hB : peerB n s p = true) : Calls Try.prog 13 #[.pointer (some ⟨P, 0, none⟩), .int .i64 p] w fun e w' => e = .returned (.tuple #[.agg (vA (f p)), .bool true]) ∧ Below w.heap.size w w' := by
  have HBf := Lib.hid hb
  have HPe := Lib.hid hB
  have HZ := Lib.hid (zero_of_info zeroV).1
  clear hb hB
  obtain ⟨X, hX⟩ : ∃ X, X = w.alloc (.cells (vA fun _ => 0) 27) := ⟨_, rfl⟩
  have HXb := Lib.hid (show Below w.heap.size w X by rw [hX]; exact (Below.refl _ _).alloc (Nat.le_refl _) _)
  have HXv := Lib.hid (show VB X w.heap.size (fun _ => 0) by rw [hX]; exact VB.new_ _ rfl)
  have HX := Lib.hid hX
  clear hX
  have hz := HZ.out
  go_enter Try.func13, Try.ntmps13
  go_upto_region 1 with fail
  clear hz
  rw [← HX.out]
  go_wp2_with fail
  refine (peer_is p X (HBf.out.keep HXb.out) true HPe.out).mono ?_
  rintro x w1 ⟨rfl, hb1⟩
  have HBf1 := Lib.hid ((HBf.out.keep HXb.out).keep hb1)
  have HV1 := Lib.hid (VB.keep HXv.out hb1)
  have HB1 := Lib.hid (HXb.out.trans (hb1.mono HXb.out.size))
  clear hb1
  have HR := Lib.hid (setRow_VB w1 w.heap.size _ (f p) HV1.out)
  have HL := Lib.hid (HB1.out.trans (setRow_below w1 w.heap.size w.heap.size (vA (f p)) (Nat.le_refl _)))
  go_wp2_with (first
    | (refine wpList_val (o := ⟨some 15, _, _, _, _, _⟩) rfl (.pointer (some ⟨P, 2 + p * 16, none⟩)) w1 (run_indexAddr_op rfl rfl rfl (at_rows P p hp w1)) ?_)
    | (refine wpList_load_midif rfl 27 (.tmp 15) rfl P (2 + p * 16) rfl _ _ (HBf1.out.row p hp) Try.underlying27 rfl (sizeV _) ?_)
    | (refine wpList_store_row rfl 27 (.tmp 4) (.tmp 16) rfl w.heap.size (vA (f p)) rfl rfl _ _ HV1.out (sizeV _) (by rw [vA_size, vA_size]) (vA_one _) ?_)
    | fail)
  exact bodyPost_ret (v := .tuple #[.agg (vA (f p)), .bool true]) (ret_cell (P := Try.prog) Try.results13 _ _ w.heap.size _ (vA (f p)) _ (.bool true) rfl HR.out Try.underlying27 rfl (sizeV _) rfl) rfl ⟨rfl, HL.out⟩

end Go.Proofs.Ytbhckfkjbeocoaa
