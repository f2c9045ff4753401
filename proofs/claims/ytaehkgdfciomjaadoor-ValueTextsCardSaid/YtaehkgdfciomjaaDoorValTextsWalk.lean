/-
  hedgerowlaw01.ValueTexts: the walk. Conditions: the world holds the library's tables (WOk).
-/
import Derived.Test.YtaehkgdfciomjaaDoorValFixed
import Derived.Test.YtaehkgdfciomjaaDoorValRefText
import Derived.Test.YtaehkgdfciomjaaDoorValBack
import Derived.Test.YtaehkgdfciomjaaDoorRow
namespace Go.Proofs.YtaehkgdfciomjaaDoor
open Go.RowKit

set_option maxHeartbeats 4000000 in
set_option maxRecDepth 100000 in
theorem texts_walk (k n : Int) (s : ByteArray) (w : World) (hw : WOk w) :
    Calls Tryd.prog 3 #[valV k n s] w (Law w) := by
  have HW : Hid (∀ o1 : Obj, WOk (w.alloc o1)) := Lib.hid (fun o1 => hw.alloc o1)
  have HB : Hid (∀ o1 : Obj, Below w.heap.size w (w.alloc o1)) := Lib.hid (alloc_below w)
  unfold valV
  go_enter Tryd.func3, Tryd.ntmps3
  go_wp2_with fail
  refine (fixed_any _ (HW.out _)).mono ?_
  rintro e w1 ⟨rfl, hb1⟩
  have b0 : Below w.heap.size w w1 := (HB.out _).trans (hb1.mono (HB.out _).size)
  have W1 := Lib.hid (hw.below b0)
  have B1 : Blk w1 w.heap.size 23 #[.int .i64 k, .int .i64 n, .string s] := (Blk.new w _ _).below hb1 (by simp)
  clear hb1 hw HW HB
  have HB1 := Lib.hid B1
  obtain ⟨c0, c1, c2, f0, f1, f2, hlt⟩ := B1.three
  clear B1
  by_cases h2 : 200 < s.size
  · have h2' : (200 : Int) < (s.size : Int) := by omega
    clear h2
    go_wp2
    go_ret
    exact ⟨rfl, b0⟩
  have hs : Hid (s.size ≤ 200) := Lib.hid (by omega)
  have h2' : ¬ (200 : Int) < (s.size : Int) := by omega
  clear h2
  go_wp2_with fail
  refine (string_any k n s _ (by have := hs.out; omega) W1.out).mono ?_
  rintro e w2 ⟨rfl, hb2⟩
  have b2 := b0.trans (hb2.mono b0.size)
  have W2 := Lib.hid (W1.out.below hb2)
  have B2 := HB1.out.below hb2 HB1.out.lt
  clear c0 c1 c2 f0 f1 f2 hlt hb2 b0 HB1 W1
  have HB2 := Lib.hid B2
  obtain ⟨c0, c1, c2, f0, f1, f2, hlt⟩ := B2.three
  clear B2
  obtain ⟨T, hT⟩ : ∃ T, T = textB k n s.data.toList := ⟨_, rfl⟩
  have HT := Lib.hid hT
  rw [← hT]
  clear hT
  unfold sv
  go_wp2_with fail
  refine (reftext_any k n s _ (by have := hs.out; omega)).mono ?_
  rintro e w3 ⟨rfl, hb3⟩
  rw [← HT.out]
  have b3 := b2.trans (hb3.mono b2.size)
  have W3 := Lib.hid (W2.out.below hb3)
  have B3 := HB2.out.below hb3 HB2.out.lt
  clear c0 c1 c2 f0 f1 f2 hlt hb3 b2 HB2 W2
  have HB3 := Lib.hid B3
  obtain ⟨c0, c1, c2, f0, f1, f2, hlt⟩ := B3.three
  clear B3
  unfold sv
  have HP : Hid (∀ W, WOk W → Calls Tryd.prog 9 #[.string ⟨T.toArray⟩] W (Gives W (if rightB k n s.data.toList = true then .tuple #[valV k n s, .bool true] else noneV))) := Lib.hid (fun W hW => by
    have := parse_text k n s W hW (by have := hs.out; omega)
    rw [← HT.out] at this
    exact this)
  clear HT
  go_wp2_with fail
  refine (HP.out _ W3.out).mono ?_
  rintro e w4 ⟨rfl, hb4⟩
  have b4 := b3.trans (hb4.mono b3.size)
  have B4 := HB3.out.below hb4 HB3.out.lt
  clear c0 c1 c2 f0 f1 f2 hlt hb4 b3 HB3 W3 HP
  have HB4 := Lib.hid B4
  have d4 : ∀ o : Obj, Blk (w4.alloc o) w.heap.size 23 #[.int .i64 k, .int .i64 n, .string s] := fun o => B4.alloc o
  obtain ⟨c0, c1, c2, f0, f1, f2, hlt⟩ := B4.three
  clear B4
  have HBA := Lib.hid b4
  clear b4
  cases hr : rightB k n s.data.toList with
  | false =>
    have HR := Lib.hid hr
    clear hr
    simp only [Bool.false_eq_true, ↓reduceIte, noneV, valV]
    go_wp2_with fail
    refine (refright_any k n s _ (by have := hs.out; omega)).mono ?_
    rintro e w5 ⟨rfl, hb5⟩
    rw [HR.out]
    have B5 := (d4 _).below hb5 (d4 _).lt
    have C5 : Blk w5 w4.heap.size 23 #[.int .i64 0, .int .i64 0, .string ⟨#[]⟩] := (Blk.new w4 _ _).below hb5 (by simp)
    have b5 := HBA.out.trans ((alloc_then hb5).mono HBA.out.size)
    clear c0 c1 c2 f0 f1 f2 hlt d4 hb5
    have hk : (k == k) = true := beq_self_eq_true k
    have hn : (n == n) = true := beq_self_eq_true n
    have hst : (s.toList == s.toList) = true := beq_self_eq_true _
    obtain ⟨c0, c1, c2, f0, f1, f2, hlt⟩ := B5.three
    obtain ⟨g0, g1, g2, i0, i1, i2, hlg⟩ := C5.three
    clear B5 C5
    go_wp2
    all_goals go_ret
    all_goals exact ⟨rfl, b5⟩
  | true =>
    have HR := Lib.hid hr
    clear hr
    simp only [↓reduceIte, valV]
    go_wp2_with fail
    refine (refright_any k n s _ (by have := hs.out; omega)).mono ?_
    rintro e w5 ⟨rfl, hb5⟩
    rw [HR.out]
    have B5 := (d4 _).below hb5 (d4 _).lt
    have C5 : Blk w5 w4.heap.size 23 #[.int .i64 k, .int .i64 n, .string s] := (Blk.new w4 _ _).below hb5 (by simp)
    have b5 := HBA.out.trans ((alloc_then hb5).mono HBA.out.size)
    clear c0 c1 c2 f0 f1 f2 hlt d4 hb5
    have hk : (k == k) = true := beq_self_eq_true k
    have hn : (n == n) = true := beq_self_eq_true n
    have hst : (s.toList == s.toList) = true := beq_self_eq_true _
    obtain ⟨c0, c1, c2, f0, f1, f2, hlt⟩ := B5.three
    obtain ⟨g0, g1, g2, i0, i1, i2, hlg⟩ := C5.three
    clear B5 C5
    go_wp2
    all_goals go_ret
    all_goals exact ⟨rfl, b5⟩

end Go.Proofs.YtaehkgdfciomjaaDoor
