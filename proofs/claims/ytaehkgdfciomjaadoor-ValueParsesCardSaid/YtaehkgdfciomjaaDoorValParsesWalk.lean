/-
  hedgerowlaw01.ValueParses: the walk. Conditions: the world holds the library's tables (WOk).
-/
import Derived.Test.YtaehkgdfciomjaaDoorValFixed
import Derived.Test.YtaehkgdfciomjaaDoorValRefParse
import Derived.Test.YtaehkgdfciomjaaDoorValParsesMath
import Derived.Test.YtaehkgdfciomjaaDoorRow
namespace Go.Proofs.YtaehkgdfciomjaaDoor
open Go.RowKit

set_option maxHeartbeats 4000000 in
set_option maxRecDepth 100000 in
theorem refparse_none (s : ByteArray) (w : World) (h : s.size = 0) : Calls Tryd.prog 11 #[.string s] w (Gives w (.tuple #[.agg #[.int .i64 0, .int .i64 0, .string ⟨#[]⟩], .bool false])) := by
  have he : s.toList.isEmpty = true := by
    rw [Lib.toList_data]
    have : s.data.toList.length = s.size := by rw [Array.length_toList]; rfl
    rw [h] at this
    rw [List.length_eq_zero_iff.1 this]; rfl
  clear h
  go_enter Tryd.func11, Tryd.ntmps11
  go_wp2
  (try simp only [Exit.inBlock, Exit.then])
  refine bodyPost_ret (ret_cell rfl _ _ _ _ _ _ (.bool false) rfl (Blk.new w _ _) Tryd.underlying23 rfl (by kernel_rfl) rfl) rfl ?_
  exact ⟨rfl, alloc_below _ _⟩

/-- Both parsers give one answer. -/
theorem both (s : ByteArray) (hs : s.size ≤ 200) : ∃ (k n : Int) (u : ByteArray) (b : Bool), (∀ W, WOk W → Calls Tryd.prog 9 #[.string s] W (Gives W (.tuple #[.agg #[.int .i64 k, .int .i64 n, .string u], .bool b]))) ∧ (∀ W, Calls Tryd.prog 11 #[.string s] W (Gives W (.tuple #[.agg #[.int .i64 k, .int .i64 n, .string u], .bool b]))) := by
  by_cases h0 : s.size = 0
  · exact ⟨0, 0, ⟨#[]⟩, false, fun W _ => parse_none s W (Or.inl h0), fun W => refparse_none s W h0⟩
  · have h0' : 0 < s.size := by omega
    obtain ⟨k, n, u, b, hf⟩ := firstM_shape s
    refine ⟨k, n, u, b, fun W hW => ?_, fun W => ?_⟩
    · have := parse_full s W hW
      rw [parse_eq s h0', hf] at this
      exact this
    · have := refparse_any s W h0' hs
      rw [show refV s = firstM s from rfl, hf] at this
      exact this

set_option maxHeartbeats 4000000 in
set_option maxRecDepth 100000 in
theorem parses_walk (s : ByteArray) (w : World) (hw : WOk w) :
    Calls Tryd.prog 4 #[.string s] w (Law w) := by
  go_enter Tryd.func4, Tryd.ntmps4
  go_wp2_with fail
  refine (fixed_any _ hw).mono ?_
  rintro e w1 ⟨rfl, b1⟩
  have W1 := Lib.hid (hw.below b1)
  clear hw
  by_cases h2 : 200 < s.size
  · have h2' : (200 : Int) < (s.size : Int) := by omega
    clear h2
    go_wp2
    go_ret
    exact ⟨rfl, b1⟩
  obtain ⟨k, n, u, b, hp, hr⟩ := both s (by omega)
  have HP := Lib.hid hp
  have HR := Lib.hid hr
  have h2' : ¬ (200 : Int) < (s.size : Int) := by omega
  clear h2 hp hr
  go_wp2_with fail
  refine (HP.out _ W1.out).mono ?_
  rintro e w2 ⟨rfl, hb2⟩
  have b2 := b1.trans (hb2.mono b1.size)
  clear hb2 b1 W1 HP
  have HB2 := Lib.hid b2
  clear b2
  go_wp2_with fail
  refine (HR.out _).mono ?_
  rintro e w3 ⟨rfl, hb3⟩
  have B3 : Blk w3 w2.heap.size 23 #[.int .i64 k, .int .i64 n, .string u] := (Blk.new w2 _ _).below hb3 (by simp)
  have b3 := HB2.out.trans ((alloc_then hb3).mono HB2.out.size)
  clear hb3 HR
  have hlt2 := B3.lt
  have hne : w2.heap.size ≠ w3.heap.size := by omega
  have hk : (k == k) = true := beq_self_eq_true k
  have hn : (n == n) = true := beq_self_eq_true n
  have hst : (u.toList == u.toList) = true := beq_self_eq_true _
  have hbb : (b == b) = true := by cases b <;> rfl
  have HBA := Lib.hid (b3.alloc b3.size (.cells #[.int .i64 k, .int .i64 n, .string u] 23))
  obtain ⟨c0, c1, c2, f0, f1, f2, hlt⟩ := B3.three
  clear B3 b3
  go_wp2
  all_goals go_ret
  all_goals exact ⟨rfl, HBA.out⟩

end Go.Proofs.YtaehkgdfciomjaaDoor
