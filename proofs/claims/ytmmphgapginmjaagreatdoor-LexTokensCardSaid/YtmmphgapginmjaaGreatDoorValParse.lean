/-
  value.likely: the contracts, by walks, a case each. Conditions: the world holds the library's tables (WOk); of what begins with a quote: unquoted's contract is a hypothesis.
-/
import Derived.Test.YtmmphgapginmjaaGreatDoorValString
namespace Go.Proofs.YtmmphgapginmjaaGreatDoor
open Go.RowKit

def innerS (s : ByteArray) : ByteArray := if s.size < 2 then ⟨#[]⟩ else s.extract 1 (s.size - 1)
theorem inner_is (s : ByteArray) (w : World) (hs : s.size ≤ 9223372036854775807) : Calls Tryz.prog 78 #[.string s] w (SameV w (.string (innerS s))) := inner_any s w hs
/-- What a function returns whose one result is a struct that has a place in memory. -/
theorem ret_cell1 {P : Program} {fn : Func} {p : Tmp} {ty : TypeId} (h : fn.results = #[.cell p ty]) (tmps : Array Value) (w : World) (g : Nat) (t : TypeId) (cs : Array Value) (d : TypeDesc)
    (hp : tmps.getD p undef = .pointer (some ⟨g, 0, none⟩)) (hg : Blk w g t cs)
    (hu : P.underlying ty = some d) (hd : (match d with | .struct _ | .array _ _ => true | _ => false) = true) (hi : (P.info? ty).map (·.size) = some cs.size) :
    (results fn tmps).run P w = .ok (.agg cs) w := results_cell_row h tmps w g t cs (0, 0) d hp hg hu hd hi
/-- What strconv.Atoi's first answer is. -/
def numL (l : List UInt8) : Int := match Lib.atoiAll l with | .ok v => v | .range => Lib.atoiSat l | _ => 0

set_option maxHeartbeats 2000000 in
set_option maxRecDepth 100000 in
theorem likely_null (s : ByteArray) (w : World) (e1 : (s.toList == [110, 117, 108, 108]) = true) : Calls Tryz.prog 64 #[.string s] w (Gives w (valV 0 0 ⟨#[]⟩)) := by
  have HB : Hid (∀ o : Obj, Below w.heap.size w (w.alloc o)) := Lib.hid (alloc_below w)
  go_enter Tryz.func64, Tryz.ntmps64
  go_wp2
  go_returns
  exact ⟨rfl, HB.out _⟩

set_option maxHeartbeats 2000000 in
set_option maxRecDepth 100000 in
theorem likely_false (s : ByteArray) (w : World) (e1 : (s.toList == [110, 117, 108, 108]) = false) (e2 : (s.toList == [102, 97, 108, 115, 101]) = true) : Calls Tryz.prog 64 #[.string s] w (Gives w (valV 1 0 ⟨#[]⟩)) := by
  have HB : Hid (∀ o : Obj, Below w.heap.size w (w.alloc o)) := Lib.hid (alloc_below w)
  go_enter Tryz.func64, Tryz.ntmps64
  go_wp2
  go_returns
  exact ⟨rfl, HB.out _⟩

set_option maxHeartbeats 2000000 in
set_option maxRecDepth 100000 in
theorem likely_true (s : ByteArray) (w : World) (e1 : (s.toList == [110, 117, 108, 108]) = false) (e2 : (s.toList == [102, 97, 108, 115, 101]) = false) (e3 : (s.toList == [116, 114, 117, 101]) = true) : Calls Tryz.prog 64 #[.string s] w (Gives w (valV 1 1 ⟨#[]⟩)) := by
  have HB : Hid (∀ o : Obj, Below w.heap.size w (w.alloc o)) := Lib.hid (alloc_below w)
  go_enter Tryz.func64, Tryz.ntmps64
  go_wp2
  go_returns
  exact ⟨rfl, HB.out _⟩

/-- None of the three words. -/
def NoWord (s : ByteArray) : Prop := (s.toList == [110, 117, 108, 108]) = false ∧ (s.toList == [102, 97, 108, 115, 101]) = false ∧ (s.toList == [116, 114, 117, 101]) = false

set_option maxHeartbeats 2000000 in
set_option maxRecDepth 100000 in
theorem likely_paren (s : ByteArray) (w : World) (hn : NoWord s) (hs : s.size ≤ 9223372036854775807) (h0 : 0 < s.size) (hc : s[0]'h0 = 40) : Calls Tryz.prog 64 #[.string s] w (Gives w (valV 4 0 (innerS s))) := by
  have HB : Hid (∀ o : Obj, Below w.heap.size w (w.alloc o)) := Lib.hid (alloc_below w)
  obtain ⟨e1, e2, e3⟩ := hn
  have h0' : (0 : Int) < (s.size : Int) := by omega
  go_enter Tryz.func64, Tryz.ntmps64
  go_wp2_with fail
  refine (inner_is s _ hs).mono ?_
  rintro e w1 ⟨rfl, rfl⟩
  go_wp2
  go_returns
  exact ⟨rfl, HB.out _⟩

set_option maxHeartbeats 2000000 in
set_option maxRecDepth 100000 in
theorem likely_brack (s : ByteArray) (w : World) (hn : NoWord s) (hs : s.size ≤ 9223372036854775807) (h0 : 0 < s.size) (hc : s[0]'h0 = 91) : Calls Tryz.prog 64 #[.string s] w (Gives w (valV 5 0 (innerS s))) := by
  have HB : Hid (∀ o : Obj, Below w.heap.size w (w.alloc o)) := Lib.hid (alloc_below w)
  obtain ⟨e1, e2, e3⟩ := hn
  have h0' : (0 : Int) < (s.size : Int) := by omega
  go_enter Tryz.func64, Tryz.ntmps64
  go_wp2_with fail
  refine (inner_is s _ hs).mono ?_
  rintro e w1 ⟨rfl, rfl⟩
  go_wp2
  go_returns
  exact ⟨rfl, HB.out _⟩

set_option maxHeartbeats 2000000 in
set_option maxRecDepth 100000 in
theorem likely_quote (s U : ByteArray) (w : World) (hn : NoWord s) (h0 : 0 < s.size) (hc : s[0]'h0 = 39) (hU : ∀ W, Calls Tryz.prog 77 #[.string s] W (Gives W (.string U))) : Calls Tryz.prog 64 #[.string s] w (Gives w (valV 3 0 U)) := by
  obtain ⟨e1, e2, e3⟩ := hn
  have h0' : (0 : Int) < (s.size : Int) := by omega
  go_enter Tryz.func64, Tryz.ntmps64
  go_wp2_with fail
  refine (hU _).mono ?_
  rintro e w1 ⟨rfl, hb1⟩
  have k1 := In1.of hb1
  obtain ⟨c0, c1, c2, f0, f1, f2, hlt⟩ := k1.three
  have hb := k1.below
  clear hb1
  go_wp2
  (try simp only [Exit.inBlock, Exit.then])
  refine bodyPost_ret (ret_cell1 rfl _ _ _ _ _ _ rfl (set3_blk k1 _ _ _) Tryz.underlying48 rfl (by kernel_rfl)) rfl ?_
  exact ⟨rfl, set3_below hb _ _ _⟩

/-- strconv.Atoi of any text: a number, and an error or none. -/
theorem atoi_any (s : ByteArray) (w : World) (hs : s.size ≤ 281474976710656) (hw : WOk w) : Calls Tryz.prog 79 #[.string s] w fun e w' => (∃ er, e = .returned (.tuple #[.int .i64 (numL s.data.toList), er]) ∧ (er = .nilIface ∨ ∃ t p, er = .iface t p)) ∧ Below w.heap.size w w' := by
  unfold numL
  cases h : Lib.atoiAll s.data.toList
  · rename_i v
    refine (Tryz.strconv_Atoi_ok s (by omega) v h w).mono ?_
    rintro e w' ⟨rfl, hb⟩
    refine ⟨⟨_, rfl, .inl rfl⟩, ?_⟩
    rcases hb with rfl | ⟨t, rfl⟩
    · exact Below.refl _ _
    · exact Lib.bytesWorld_below _ _ _
  · obtain ⟨tp, p, hv⟩ := hw.syn
    refine (Any.strconv_Atoi_syntax_var Tryz.laysC172 s hs h tp p w hv).mono ?_
    rintro e w' ⟨N, rfl, _, _, hb⟩
    exact ⟨⟨_, rfl, .inr ⟨_, _, rfl⟩⟩, hb⟩
  · obtain ⟨tp, p, hv⟩ := hw.rng
    refine (Tryz.strconv_Atoi_range_var s hs h tp p w hv).mono ?_
    rintro e w' ⟨N, rfl, _, _, hb⟩
    exact ⟨⟨_, rfl, .inr ⟨_, _, rfl⟩⟩, hb⟩

set_option maxHeartbeats 2000000 in
set_option maxRecDepth 100000 in
theorem likely_num (s : ByteArray) (w : World) (hw : WOk w) (hn : NoWord s) (hs : s.size ≤ 281474976710656) (h0 : 0 < s.size) (c : Int) (hc : ((s[0]'h0).toNat : Int) = c) (c1 : (c == 39) = false) (c2 : (c == 40) = false) (c3 : (c == 91) = false) : Calls Tryz.prog 64 #[.string s] w (Gives w (valV 2 (numL s.data.toList) ⟨#[]⟩)) := by
  obtain ⟨e1, e2, e3⟩ := hn
  have h0' : (0 : Int) < (s.size : Int) := by omega
  have hwa := fun o => hw.alloc o
  go_enter Tryz.func64, Tryz.ntmps64
  go_wp2_with fail
  refine (atoi_any s _ hs (hwa _)).mono ?_
  rintro e w1 ⟨⟨er, rfl, her⟩, hb1⟩
  obtain ⟨q1, q2, q3⟩ : (c == 39) = false ∧ (c == 40) = false ∧ (c == 91) = false := ⟨c1, c2, c3⟩
  clear c1 c2 c3 hwa
  have k1 := In1.of hb1
  obtain ⟨c0, c1, c2, f0, f1, f2, hlt⟩ := k1.three
  have hb := k1.below
  clear hb1
  go_wp2
  (try simp only [Exit.inBlock, Exit.then])
  refine bodyPost_ret (ret_cell1 rfl _ _ _ _ _ _ rfl (set3_blk k1 _ _ _) Tryz.underlying48 rfl (by kernel_rfl)) rfl ?_
  exact ⟨rfl, set3_below hb _ _ _⟩

end Go.Proofs.YtmmphgapginmjaaGreatDoor
