/-
  value.likely: the contracts, by walks, a case each. value.Parse: the contract, by a walk. value.unquoted of any text: the contract, by a walk. Numerals: what a numeral's digits tell. Plain mathematics. Conditions: lengths.
-/
import Derived.Test.YtdabanocofimmaaGreatDoorJValQuote
import Derived.Lib.AtoiAll
import Derived.Lib.ItoaNum
import Derived.WalkKit
namespace Go.Proofs.YtdabanocofimmaaGreatDoor
open Go.RowKit

def innerS (s : ByteArray) : ByteArray := if s.size < 2 then ⟨#[]⟩ else s.extract 1 (s.size - 1)
theorem inner_is (s : ByteArray) (w : World) (hs : s.size ≤ 9223372036854775807) : Calls Tryz.prog 173 #[.string s] w (SameV w (.string (innerS s))) := inner_any s w hs
/-- What a function returns whose one result is a struct that has a place in memory. -/
theorem ret_cell1 {P : Program} {fn : Func} {p : Tmp} {ty : TypeId} (h : fn.results = #[.cell p ty]) (tmps : Array Value) (w : World) (g : Nat) (t : TypeId) (cs : Array Value) (d : TypeDesc)
    (hp : tmps.getD p undef = .pointer (some ⟨g, 0, none⟩)) (hg : Blk w g t cs)
    (hu : P.underlying ty = some d) (hd : (match d with | .struct _ | .array _ _ => true | _ => false) = true) (hi : (P.info? ty).map (·.size) = some cs.size) :
    (results fn tmps).run P w = .ok (.agg cs) w := results_cell_row h tmps w g t cs (0, 0) d hp hg hu hd hi
/-- What strconv.Atoi's first answer is. -/
def numL (l : List UInt8) : Int := match Lib.atoiAll l with | .ok v => v | .range => Lib.atoiSat l | _ => 0

set_option maxHeartbeats 2000000 in
set_option maxRecDepth 100000 in
theorem likely_null (s : ByteArray) (w : World) (e1 : (s.toList == [110, 117, 108, 108]) = true) : Calls Tryz.prog 163 #[.string s] w (Gives w (valV 0 0 ⟨#[]⟩)) := by
  have HB : Hid (∀ o : Obj, Below w.heap.size w (w.alloc o)) := Lib.hid (alloc_below w)
  go_enter Tryz.func163, Tryz.ntmps163
  go_wp2
  go_returns
  exact ⟨rfl, HB.out _⟩

set_option maxHeartbeats 2000000 in
set_option maxRecDepth 100000 in
theorem likely_false (s : ByteArray) (w : World) (e1 : (s.toList == [110, 117, 108, 108]) = false) (e2 : (s.toList == [102, 97, 108, 115, 101]) = true) : Calls Tryz.prog 163 #[.string s] w (Gives w (valV 1 0 ⟨#[]⟩)) := by
  have HB : Hid (∀ o : Obj, Below w.heap.size w (w.alloc o)) := Lib.hid (alloc_below w)
  go_enter Tryz.func163, Tryz.ntmps163
  go_wp2
  go_returns
  exact ⟨rfl, HB.out _⟩

set_option maxHeartbeats 2000000 in
set_option maxRecDepth 100000 in
theorem likely_true (s : ByteArray) (w : World) (e1 : (s.toList == [110, 117, 108, 108]) = false) (e2 : (s.toList == [102, 97, 108, 115, 101]) = false) (e3 : (s.toList == [116, 114, 117, 101]) = true) : Calls Tryz.prog 163 #[.string s] w (Gives w (valV 1 1 ⟨#[]⟩)) := by
  have HB : Hid (∀ o : Obj, Below w.heap.size w (w.alloc o)) := Lib.hid (alloc_below w)
  go_enter Tryz.func163, Tryz.ntmps163
  go_wp2
  go_returns
  exact ⟨rfl, HB.out _⟩

/-- None of the three words. -/
def NoWord (s : ByteArray) : Prop := (s.toList == [110, 117, 108, 108]) = false ∧ (s.toList == [102, 97, 108, 115, 101]) = false ∧ (s.toList == [116, 114, 117, 101]) = false

set_option maxHeartbeats 2000000 in
set_option maxRecDepth 100000 in
theorem likely_paren (s : ByteArray) (w : World) (hn : NoWord s) (hs : s.size ≤ 9223372036854775807) (h0 : 0 < s.size) (hc : s[0]'h0 = 40) : Calls Tryz.prog 163 #[.string s] w (Gives w (valV 4 0 (innerS s))) := by
  have HB : Hid (∀ o : Obj, Below w.heap.size w (w.alloc o)) := Lib.hid (alloc_below w)
  obtain ⟨e1, e2, e3⟩ := hn
  have h0' : (0 : Int) < (s.size : Int) := by omega
  go_enter Tryz.func163, Tryz.ntmps163
  go_wp2_with fail
  refine (inner_is s _ hs).mono ?_
  rintro e w1 ⟨rfl, rfl⟩
  go_wp2
  go_returns
  exact ⟨rfl, HB.out _⟩

set_option maxHeartbeats 2000000 in
set_option maxRecDepth 100000 in
theorem likely_brack (s : ByteArray) (w : World) (hn : NoWord s) (hs : s.size ≤ 9223372036854775807) (h0 : 0 < s.size) (hc : s[0]'h0 = 91) : Calls Tryz.prog 163 #[.string s] w (Gives w (valV 5 0 (innerS s))) := by
  have HB : Hid (∀ o : Obj, Below w.heap.size w (w.alloc o)) := Lib.hid (alloc_below w)
  obtain ⟨e1, e2, e3⟩ := hn
  have h0' : (0 : Int) < (s.size : Int) := by omega
  go_enter Tryz.func163, Tryz.ntmps163
  go_wp2_with fail
  refine (inner_is s _ hs).mono ?_
  rintro e w1 ⟨rfl, rfl⟩
  go_wp2
  go_returns
  exact ⟨rfl, HB.out _⟩

set_option maxHeartbeats 2000000 in
set_option maxRecDepth 100000 in
theorem likely_quote (s U : ByteArray) (w : World) (hn : NoWord s) (h0 : 0 < s.size) (hc : s[0]'h0 = 39) (hU : ∀ W, Calls Tryz.prog 172 #[.string s] W (Gives W (.string U))) : Calls Tryz.prog 163 #[.string s] w (Gives w (valV 3 0 U)) := by
  obtain ⟨e1, e2, e3⟩ := hn
  have h0' : (0 : Int) < (s.size : Int) := by omega
  go_enter Tryz.func163, Tryz.ntmps163
  go_wp2_with fail
  refine (hU _).mono ?_
  rintro e w1 ⟨rfl, hb1⟩
  have k1 := In1.of hb1
  obtain ⟨c0, c1, c2, f0, f1, f2, hlt⟩ := k1.three
  have hb := k1.below
  clear hb1
  go_wp2
  (try simp only [Exit.inBlock, Exit.then])
  refine bodyPost_ret (ret_cell1 rfl _ _ _ _ _ _ rfl (set3_blk k1 _ _ _) Tryz.underlying47 rfl (by kernel_rfl)) rfl ?_
  exact ⟨rfl, set3_below hb _ _ _⟩

/-- strconv.Atoi of any text: a number, and an error or none. -/
theorem atoi_any (s : ByteArray) (w : World) (hs : s.size ≤ 281474976710656) (hw : WOk w) : Calls Tryz.prog 174 #[.string s] w fun e w' => (∃ er, e = .returned (.tuple #[.int .i64 (numL s.data.toList), er]) ∧ (er = .nilIface ∨ ∃ t p, er = .iface t p)) ∧ Below w.heap.size w w' := by
  unfold numL
  cases h : Lib.atoiAll s.data.toList
  · rename_i v
    refine (Tryz.strconv_Atoi_ok s (by omega) v h w).mono ?_
    rintro e w' ⟨rfl, hb⟩
    refine ⟨⟨_, rfl, .inl rfl⟩, ?_⟩
    rcases hb with rfl | ⟨t, rfl⟩
    · exact Below.refl _ _
    · exact Lib.bytesWorld_below _ _ _
  · obtain ⟨tp, p, hv⟩ := hw.syn
    refine (Any.strconv_Atoi_syntax_var Tryz.laysC172 s hs h tp p w hv).mono ?_
    rintro e w' ⟨N, rfl, _, _, hb⟩
    exact ⟨⟨_, rfl, .inr ⟨_, _, rfl⟩⟩, hb⟩
  · obtain ⟨tp, p, hv⟩ := hw.rng
    refine (Tryz.strconv_Atoi_range_var s hs h tp p w hv).mono ?_
    rintro e w' ⟨N, rfl, _, _, hb⟩
    exact ⟨⟨_, rfl, .inr ⟨_, _, rfl⟩⟩, hb⟩

set_option maxHeartbeats 2000000 in
set_option maxRecDepth 100000 in
theorem likely_num (s : ByteArray) (w : World) (hw : WOk w) (hn : NoWord s) (hs : s.size ≤ 281474976710656) (h0 : 0 < s.size) (c : Int) (hc : ((s[0]'h0).toNat : Int) = c) (c1 : (c == 39) = false) (c2 : (c == 40) = false) (c3 : (c == 91) = false) : Calls Tryz.prog 163 #[.string s] w (Gives w (valV 2 (numL s.data.toList) ⟨#[]⟩)) := by
  obtain ⟨e1, e2, e3⟩ := hn
  have h0' : (0 : Int) < (s.size : Int) := by omega
  have hwa := fun o => hw.alloc o
  go_enter Tryz.func163, Tryz.ntmps163
  go_wp2_with fail
  refine (atoi_any s _ hs (hwa _)).mono ?_
  rintro e w1 ⟨⟨er, rfl, her⟩, hb1⟩
  obtain ⟨q1, q2, q3⟩ : (c == 39) = false ∧ (c == 40) = false ∧ (c == 91) = false := ⟨c1, c2, c3⟩
  clear c1 c2 c3 hwa
  have k1 := In1.of hb1
  obtain ⟨c0, c1, c2, f0, f1, f2, hlt⟩ := k1.three
  have hb := k1.below
  clear hb1
  go_wp2
  (try simp only [Exit.inBlock, Exit.then])
  refine bodyPost_ret (ret_cell1 rfl _ _ _ _ _ _ rfl (set3_blk k1 _ _ _) Tryz.underlying47 rfl (by kernel_rfl)) rfl ?_
  exact ⟨rfl, set3_below hb _ _ _⟩

end Go.Proofs.YtdabanocofimmaaGreatDoor

namespace Go.Proofs.YtdabanocofimmaaGreatDoor
open Go.RowKit

def noneV : Value := .tuple #[valV 0 0 ⟨#[]⟩, .bool false]
def parsedV (k n : Int) (u s : ByteArray) : Value := if textB k n u.data.toList = s.data.toList then .tuple #[valV k n u, .bool true] else noneV

set_option maxHeartbeats 2000000 in
set_option maxRecDepth 100000 in
theorem parse_none (s : ByteArray) (w : World) (h : s.size = 0 ∨ 130 < s.size) : Calls Tryz.prog 144 #[.string s] w (Gives w noneV) := by
  have HB : Hid (∀ o : Obj, Below w.heap.size w (w.alloc o)) := Lib.hid (alloc_below w)
  by_cases h0 : s.size = 0
  · have he : s.toList.isEmpty = true := by
      rw [Lib.toList_data]; have : s.data.toList.length = 0 := by rw [Array.length_toList]; exact h0
      simpa using List.eq_nil_of_length_eq_zero this
    clear h0 h
    go_enter Tryz.func144, Tryz.ntmps144
    go_wp2
    go_returns
    exact ⟨rfl, HB.out _⟩
  · have h1 : 130 < s.size := by omega
    have h1' : ¬ ((s.size : Int) ≤ 130) := by omega
    have h1'' : (130 : Int) < (s.size : Int) := by omega
    have he : s.toList.isEmpty = false := by
      rw [Lib.toList_data]
      cases hl : s.data.toList with
      | nil => exfalso; apply h0; have : s.data.toList.length = s.size := by rw [Array.length_toList]; rfl
               rw [hl] at this; simpa using this.symm
      | cons a t => rfl
    clear h0 h
    go_enter Tryz.func144, Tryz.ntmps144
    go_wp2
    go_returns
    exact ⟨rfl, HB.out _⟩

theorem Blk.three {w : World} {t : TypeId} {a b c : Value} {g : Nat} (h : Blk w g t #[a, b, c]) :
    w.cell? ⟨g, 0, none⟩ = some a ∧ w.cell? ⟨g, 1, none⟩ = some b ∧ w.cell? ⟨g, 2, none⟩ = some c ∧ w.frozen? ⟨g, 0, none⟩ = false ∧ w.frozen? ⟨g, 1, none⟩ = false ∧ w.frozen? ⟨g, 2, none⟩ = false ∧ g < w.heap.size :=
  ⟨by rw [h.cell]; rfl, by rw [h.cell]; rfl, by rw [h.cell]; rfl, h.free 0, h.free 1, h.free 2, h.lt⟩

set_option maxHeartbeats 2000000 in
set_option maxRecDepth 100000 in
theorem parse_any (k n : Int) (u s : ByteArray) (w : World) (hw : WOk w) (h1 : 0 < s.size) (h2 : s.size ≤ 130) (hu : u.size < 4294967281)
    (hl : ∀ W, WOk W → Calls Tryz.prog 163 #[.string s] W (Gives W (valV k n u))) : Calls Tryz.prog 144 #[.string s] w (Gives w (parsedV k n u s)) := by
  have he : s.toList.isEmpty = false := by
    rw [Lib.toList_data]
    cases hl : s.data.toList with
    | nil => exfalso; have : s.data.toList.length = s.size := by rw [Array.length_toList]; rfl
             rw [hl] at this; simp at this; omega
    | cons a t => rfl
  have h2' : ¬ ((130 : Int) < (s.size : Int)) := by omega
  have hwa := fun o => hw.alloc o
  have hwa2 := fun o o' => (hw.alloc o).alloc o'
  go_enter Tryz.func144, Tryz.ntmps144
  go_wp2_with fail
  refine (hl _ (by first | exact hw | exact hwa _ | exact hwa2 _ _)).mono ?_
  rintro e w1 ⟨rfl, hb1⟩
  unfold valV
  have k1 := In1.of hb1
  have W1 : WOk w1 := hw.below k1.below
  obtain ⟨c0, c1, c2, f0, f1, f2, hlt⟩ := k1.three
  have HW : Hid (∀ o : Obj, WOk (w1.alloc o)) := Lib.hid (fun o => W1.alloc o)
  clear hb1 hwa hwa2 W1 hw hl
  go_wp2_with fail
  refine (string_any k n u _ hu (HW.out _)).mono ?_
  rintro e w3 ⟨rfl, hb3⟩
  have k3 : In1 w _ w3 := (k1.then_ (alloc_below w1 _)).then_ hb3
  have b3 := (In1.of hb3).blk
  clear hb3 c0 c1 c2 f0 f1 f2 HW k1
  have hne : w.heap.size ≠ w1.heap.size := by omega
  obtain ⟨c0, c1, c2, f0, f1, f2, hlt3⟩ := k3.three
  obtain ⟨d0, d1, d2, _, _, _, hlt4⟩ := b3.three
  have hb := k3.below
  have hXY : (textB k n u.data.toList == s.toList) = decide (textB k n u.data.toList = s.data.toList) := by
    rw [Lib.toList_data]
    by_cases h : textB k n u.data.toList = s.data.toList
    · rw [h]; simp
    · simp [h]
  unfold sv
  by_cases hq : textB k n u.data.toList = s.data.toList
  · have HV : Hid (parsedV k n u s = .tuple #[.agg #[.int .i64 k, .int .i64 n, .string u], .bool true]) := Lib.hid (by unfold parsedV; rw [if_pos hq]; rfl)
    rw [decide_eq_true hq] at hXY
    clear hq
    go_wp2
    (try simp only [Exit.inBlock, Exit.then])
    refine bodyPost_ret (ret_cell rfl _ _ _ _ _ _ (.bool true) rfl (set3_blk k3 _ _ _) Tryz.underlying47 rfl (by kernel_rfl) rfl) rfl ?_
    exact ⟨by rw [HV.out], set3_below hb _ _ _⟩
  · have HV : Hid (parsedV k n u s = noneV) := Lib.hid (by unfold parsedV; rw [if_neg hq])
    rw [decide_eq_false hq] at hXY
    clear hq
    go_wp2
    (try simp only [Exit.inBlock, Exit.then])
    refine bodyPost_ret (ret_cell rfl _ _ _ _ _ _ (.bool false) rfl (set3_blk k3 _ _ _) Tryz.underlying47 rfl (by kernel_rfl) rfl) rfl ?_
    exact ⟨by rw [HV.out]; rfl, set3_below hb _ _ _⟩

end Go.Proofs.YtdabanocofimmaaGreatDoor

namespace Go.Proofs.YtdabanocofimmaaGreatDoor
open Go.RowKit

def innS (s : ByteArray) : ByteArray := if s.size < 2 then ⟨#[]⟩ else s.extract 1 (s.size - 1)
/-- What is written from 'pos' on; a: a sign that says 'take the next as it is' came last. -/
def unqFrom (s : ByteArray) : Nat → Nat → Bool → List UInt8
  | 0, _, _ => []
  | f + 1, pos, a => if pos < s.size then (if (Utf8.decode s pos).1 = 92 ∧ a = false then unqFrom s f (pos + (Utf8.decode s pos).2) true
      else Lib.encodeRune (Utf8.decode s pos).1 ++ unqFrom s f (pos + (Utf8.decode s pos).2) false) else []
def unqL (s : ByteArray) : List UInt8 := unqFrom (innS s) (innS s).size 0 false
theorem unqFrom_end (s : ByteArray) (f pos : Nat) (a : Bool) (h : ¬ pos < s.size) : unqFrom s f pos a = [] := by
  cases f with
  | zero => rfl
  | succ f => simp [unqFrom, h]
theorem innS_size (s : ByteArray) : (innS s).size ≤ s.size := by
  unfold innS
  split
  · exact Nat.zero_le _
  · rw [ByteArray.size_extract]; omega
theorem inner_inn (s : ByteArray) (w : World) (hs : s.size ≤ 9223372036854775807) : Calls Tryz.prog 173 #[.string s] w (SameV w (.string (innS s))) := inner_any s w hs
theorem width_pos (s : ByteArray) (pos : Nat) (h : pos < s.size) : 1 ≤ (Utf8.decode s pos).2 := by
  by_cases ha : (s[pos]'h).toNat < 128
  · rw [decode_ascii s pos h ha]; exact Nat.le_refl 1
  · exact (decode_high s pos h (by omega)).2

set_option maxHeartbeats 4000000 in
set_option maxRecDepth 1000000 in
theorem unquoted_any (s : ByteArray) (w : World) (hs : s.size ≤ 35184372088832) : Calls Tryz.prog 172 #[.string s] w (Gives w (.string ⟨(unqL s).toArray⟩)) := by
  have hU : Hid (unqL s = unqFrom (innS s) (innS s).size 0 false) := Lib.hid rfl
  have hsz : (innS s).size ≤ 35184372088832 := Nat.le_trans (innS_size s) hs
  generalize unqL s = U at *
  go_enter Tryz.func172, Tryz.ntmps172
  go_wp2_with fail
  refine (inner_inn s _ (by omega)).mono ?_
  rintro e w1 ⟨rfl, rfl⟩
  generalize innS s = t at *
  go_wp2
  go_loopw [4] (fun x wr => ∃ (pos fuel : Nat) (acc : List UInt8) (a : Bool), x = .bool a ∧ Lib.IsBuilder 141 5 w.heap.size w.heap.size (Lib.byteCells acc) wr ∧ wr.heap[w.heap.size + 1]? = some (.stringIter t pos) ∧ Below w.heap.size w wr ∧ acc ++ unqFrom t fuel pos a = U ∧ t.size ≤ pos + fuel ∧ acc.length ≤ 4 * pos) (fun _ wr => t.size - wr.iterPos (w.heap.size + 1))
  case atStart =>
    refine ⟨0, t.size, [], false, rfl, ?_, ?_, ((Below.refl _ w).alloc (Nat.le_refl _) _).alloc (by simp) _, by rw [hU.out]; rfl, by omega, by simp⟩
    · exact (Lib.fresh_isBuilder 141 5 w).elim (fun h => .inl (Own.alloc h _)) (fun h => .inr (Own.alloc h _))
    · have := World.iter_heap (w.alloc (.cells #[.pointer none, .slice none 0 0] 141)) t 0
      simpa using this
  case round =>
    obtain ⟨pos, fuel, acc, a, rfl, hI, hit, hbw, hacc, hfu, hal⟩ := hrel
    have hwz : w.heap.size + 1 < wr.heap.size := (Array.getElem?_eq_some_iff.1 hit).1
    by_cases hp : pos < t.size
    · have hnx : ∀ ty, (Instr.next (.pointer (some ⟨w.heap.size + 1, 0, none⟩)) true ty).run Tryz.prog wr = _ := fun ty => Lib.run_next_any_at wr (w.heap.size + 1) t pos ty hit hp
      have hwd := width_pos t pos hp
      have hd1 := decode_le t pos
      have hI2 : Lib.IsBuilder 141 5 w.heap.size w.heap.size (Lib.byteCells acc) (wr.iterAt (w.heap.size + 1) t (pos + (Utf8.decode t pos).2)) := hI.elim (fun h => .inl (Own.iterAt h hit _)) (fun h => .inr (Own.iterAt h hit _))
      have hit2 := Lib.iterAt_heap wr (w.heap.size + 1) t pos (pos + (Utf8.decode t pos).2) hit
      have hbw2 := Lib.below_iterAt hbw (k := w.heap.size + 1) (by omega) t (pos + (Utf8.decode t pos).2)
      have hsz2 : w.heap.size ≤ (wr.iterAt (w.heap.size + 1) t (pos + (Utf8.decode t pos).2)).heap.size := by rw [Lib.iterAt_size]; omega
      obtain ⟨f, rfl⟩ : ∃ f, fuel = f + 1 := ⟨fuel - 1, by omega⟩
      have hst : acc ++ (if (Utf8.decode t pos).1 = 92 ∧ a = false then unqFrom t f (pos + (Utf8.decode t pos).2) true else Lib.encodeRune (Utf8.decode t pos).1 ++ unqFrom t f (pos + (Utf8.decode t pos).2) false) = U := by
        rw [← hacc]; simp [unqFrom, hp]
      have hl4 := Lib.runeCells_le ((Utf8.decode t pos).1 : Int)
      rw [Lib.runeCells_length] at hl4
      have hec := Lib.byteCells_encodeRune ((Utf8.decode t pos).1 : Int)
      clear hacc
      generalize hr : (Utf8.decode t pos).1 = r at *
      generalize (Utf8.decode t pos).2 = n at *
      have HST := Lib.hid hst
      have HIT := Lib.hid hit
      have HIT2 := Lib.hid hit2
      have HEC := Lib.hid hec
      clear hst hit hit2 hec hr
      by_cases he : r = 92 ∧ a = false
      · have HU : Hid (acc ++ unqFrom t f (pos + n) true = U) := Lib.hid (by have := HST.out; rwa [if_pos he] at this)
        obtain ⟨rfl, rfl⟩ := he
        go_wp2
        go_roundw
        case rel => exact ⟨pos + n, f, acc, true, rfl, hI2, HIT2.out, hbw2, HU.out, by omega, by omega⟩
        case measure => simp only [World.iterPos, HIT2.out, HIT.out]; omega
      · have HU : Hid ((acc ++ Lib.encodeRune r) ++ unqFrom t f (pos + n) false = U) := Lib.hid (by have := HST.out; rw [if_neg he] at this; rw [List.append_assoc]; exact this)
        have hcase : ((r : Int) == 92) = false ∨ (((r : Int) == 92) = true ∧ a = true) := by
          by_cases h92 : r = 92
          · refine .inr ⟨by simp [h92], ?_⟩
            cases a
            · exact absurd ⟨h92, rfl⟩ he
            · rfl
          · exact .inl (by rw [beq_eq_false_iff_ne]; omega)
        clear he
        rcases hcase with hb | ⟨hb, rfl⟩
        all_goals
          go_wp2_with fail
          refine (rune_any w.heap.size w.heap.size _ r (by omega) (by omega) _ hI2 (by rw [Lib.byteCells_length]; omega) hsz2).mono ?_
          rintro e W1 ⟨⟨v, rfl⟩, h1, b1, k1⟩
          have HI1 := Lib.hid (k1.iter HIT2.out (by omega))
          go_wp2
          go_roundw
          case rel => exact ⟨pos + n, f, acc ++ Lib.encodeRune r, false, rfl, by rw [Lib.byteCells_append, HEC.out]; exact Or.inr h1, HI1.out, hbw2.trans b1, HU.out, by omega, by rw [List.length_append]; omega⟩
          case measure => simp only [World.iterPos, HI1.out, HIT.out]; omega
    · have hnx : ∀ ty, (Instr.next (.pointer (some ⟨w.heap.size + 1, 0, none⟩)) true ty).run Tryz.prog wr = _ := fun ty => Lib.run_next_end_at wr (w.heap.size + 1) t pos ty hit hp
      have hF : Hid (acc = U) := Lib.hid (by rw [unqFrom_end t fuel pos a hp, List.append_nil] at hacc; exact hacc)
      clear hacc hit
      go_wp2_with fail
      refine (Tryz.Builder_String_any w.heap.size w.heap.size acc _ hI (by omega)).mono ?_
      rintro e w3 ⟨rfl, b3⟩
      go_wp2
      go_ret
      exact ⟨by rw [hF.out]; rfl, hbw.trans b3⟩

end Go.Proofs.YtdabanocofimmaaGreatDoor

namespace Go.Proofs.YtdabanocofimmaaGreatDoor

theorem digs_small (u : Nat) (h : u < 10) : Lib.decDigits u = [UInt8.ofNat (48 + u)] := by rw [Lib.decDigits, dif_pos h]
theorem digs_big (u : Nat) (h : ¬ u < 10) : Lib.decDigits u = Lib.decDigits (u / 10) ++ [UInt8.ofNat (48 + u % 10)] := by rw [Lib.decDigits, dif_neg h]
theorem dig_nat (d : Nat) (h : d < 10) : (UInt8.ofNat (48 + d)).toNat = 48 + d := by simp only [UInt8.toNat_ofNat']; omega
theorem parse_digit (acc d : Nat) (t : List UInt8) (hd : d < 10) (ha : acc * 10 + d < 1844674407370955162) : Lib.parseUint10 acc (UInt8.ofNat (48 + d) :: t) = Lib.parseUint10 (acc * 10 + d) t := by
  simp only [Lib.parseUint10, dig_nat d hd]
  rw [if_pos (by omega), if_neg (by omega), if_neg (by omega), Nat.add_sub_cancel_left]
theorem parse_digs (u : Nat) (h : u < 1844674407370955162) (t : List UInt8) : Lib.parseUint10 0 (Lib.decDigits u ++ t) = Lib.parseUint10 u t := by
  induction u using Nat.strongRecOn generalizing t with
  | ind u ih =>
    by_cases h10 : u < 10
    · rw [digs_small u h10]
      show Lib.parseUint10 0 (UInt8.ofNat (48 + u) :: t) = _
      rw [parse_digit 0 u t h10 (by omega)]; simp
    · rw [digs_big u h10, List.append_assoc, ih (u / 10) (by omega) (by omega)]
      show Lib.parseUint10 (u / 10) (UInt8.ofNat (48 + u % 10) :: t) = _
      rw [parse_digit _ _ t (by omega) (by omega)]
      congr 1
      omega
theorem digs_ne (u : Nat) : Lib.decDigits u ≠ [] := by
  by_cases h : u < 10
  · rw [digs_small u h]; simp
  · rw [digs_big u h]; simp
theorem digs_head (u : Nat) : ∃ d t, d < 10 ∧ Lib.decDigits u = UInt8.ofNat (48 + d) :: t := by
  induction u using Nat.strongRecOn with
  | ind u ih =>
    by_cases h : u < 10
    · exact ⟨u, [], h, digs_small u h⟩
    · obtain ⟨d, t, hd, ht⟩ := ih (u / 10) (by omega)
      exact ⟨d, t ++ [UInt8.ofNat (48 + u % 10)], hd, by rw [digs_big u h, ht]; rfl⟩
theorem digs_len (k u : Nat) (h : u < 10 ^ (k + 1)) : (Lib.decDigits u).length ≤ k + 1 := by
  induction k generalizing u with
  | zero => rw [digs_small u (by simpa using h)]; simp
  | succ k ih =>
    by_cases h10 : u < 10
    · rw [digs_small u h10]; simp
    · rw [digs_big u h10, List.length_append]
      have := ih (u / 10) (by rw [Nat.pow_succ] at h; omega)
      simp only [List.length_cons, List.length_nil]; omega
/-- The number that a numeral tells. -/
theorem atoi_itoa (n : Int) (h1 : -1099511627776 ≤ n) (h2 : n ≤ 1099511627776) : Lib.atoiAll (Lib.itoa n) = .ok n := by
  by_cases hn : n < 0
  · have hi : Lib.itoa n = 45 :: Lib.decDigits n.natAbs := by unfold Lib.itoa; rw [if_pos hn]
    have hp := parse_digs n.natAbs (by omega) []
    rw [List.append_nil] at hp
    rw [hi]
    have hm : Lib.parseMag (Lib.decDigits n.natAbs) = .ok n.natAbs := by
      unfold Lib.parseMag; rw [if_neg (digs_ne _), hp]; rfl
    obtain ⟨c, hc⟩ : ∃ c : UInt8, c = 45 := ⟨_, rfl⟩
    have h45 : c.toNat = 45 := by rw [hc]; rfl
    rw [← hc]
    unfold Lib.atoiAll
    simp only [if_pos (show c.toNat = 43 ∨ c.toNat = 45 from .inr h45), hm]
    rw [if_neg (by simp [h45]), if_neg (by omega), if_pos h45]
    congr 1; omega
  · have hi : Lib.itoa n = Lib.decDigits n.toNat := by unfold Lib.itoa; rw [if_neg hn]
    obtain ⟨d, t, hd, ht⟩ := digs_head n.toNat
    have hp := parse_digs n.toNat (by omega) []
    rw [List.append_nil, ht] at hp
    rw [hi, ht]
    have hc := dig_nat d hd
    have h43 : ¬ ((UInt8.ofNat (48 + d)).toNat = 43 ∨ (UInt8.ofNat (48 + d)).toNat = 45) := by rw [hc]; omega
    have h45 : ¬ (UInt8.ofNat (48 + d)).toNat = 45 := by rw [hc]; omega
    have hm : Lib.parseMag (UInt8.ofNat (48 + d) :: t) = .ok n.toNat := by
      unfold Lib.parseMag; rw [if_neg (by simp), hp]; rfl
    generalize UInt8.ofNat (48 + d) = c at *
    unfold Lib.atoiAll
    simp only [if_neg h43, hm]
    rw [if_neg (by omega), if_neg (by omega), if_neg h45]
    congr 1; omega
theorem itoa_head (n : Int) : ∃ c t, Lib.itoa n = c :: t ∧ (c = 45 ∨ 48 ≤ c.toNat ∧ c.toNat ≤ 57) := by
  by_cases hn : n < 0
  · exact ⟨45, Lib.decDigits n.natAbs, by unfold Lib.itoa; rw [if_pos hn], .inl rfl⟩
  · obtain ⟨d, t, hd, ht⟩ := digs_head n.toNat
    exact ⟨_, t, by unfold Lib.itoa; rw [if_neg hn, ht], .inr (by rw [dig_nat d hd]; omega)⟩
theorem itoa_len (n : Int) (h1 : -1099511627776 ≤ n) (h2 : n ≤ 1099511627776) : (Lib.itoa n).length ≤ 14 := by
  by_cases hn : n < 0
  · have := digs_len 12 n.natAbs (by omega)
    unfold Lib.itoa; rw [if_pos hn, List.length_cons]; omega
  · have := digs_len 12 n.toNat (by omega)
    unfold Lib.itoa; rw [if_neg hn]; omega
end Go.Proofs.YtdabanocofimmaaGreatDoor
