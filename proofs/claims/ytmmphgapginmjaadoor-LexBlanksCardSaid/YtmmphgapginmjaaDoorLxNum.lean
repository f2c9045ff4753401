/-
  lex's readers of a number, a text and a sign: the contracts, by walks. Conditions: lengths; the world holds the library's tables (WOk).
-/
import Derived.Test.YtmmphgapginmjaaDoorLxRead
namespace Go.Proofs.YtmmphgapginmjaaDoor
open Go.RowKit

theorem set3_alloc_blk {w w' : World} {t : TypeId} {a b c : Value} (h : In1 w (.cells #[a, b, c] t) w') (x y z : Value) (o : Obj) : Blk ((((w'.setCell ⟨w.heap.size, 0, none⟩ x).setCell ⟨w.heap.size, 1, none⟩ y).setCell ⟨w.heap.size, 2, none⟩ z).alloc o) w.heap.size t #[x, y, z] := Blk.below (set3_blk h x y z) (alloc_below _ o) (Blk.lt (set3_blk h x y z))
theorem set3_alloc_below {w w' : World} (h : Below w.heap.size w w') (a b c : Value) (o : Obj) : Below w.heap.size w ((((w'.setCell ⟨w.heap.size, 0, none⟩ a).setCell ⟨w.heap.size, 1, none⟩ b).setCell ⟨w.heap.size, 2, none⟩ c).alloc o) := (set3_below h a b c).trans ((alloc_below _ o).mono (set3_below h a b c).size)

set_option maxRecDepth 100000 in
set_option maxHeartbeats 2000000 in
theorem lnumber_any (s : ByteArray) (w : World) (hw : WOk w) (hs : s.size ≤ 140737488355328) : Calls Tryd.prog 19 #[.string s] w (Gives w (rdV (Lx.numO s.data.toList))) := by
  have hlen : s.data.toList.length = s.size := by rw [Array.length_toList]; rfl
  have hle := Lx.runL_le Lx.inNums s.data.toList
  have HRun := Lib.hid (fun W => run_any s Lx.inNums W hs (by decide) (by decide))
  have HW := Lib.hid hw
  have HV : Hid (rdV (Lx.numO s.data.toList) = match Lx.parseO (Lx.runL Lx.inNums s.data.toList) with | some v => .tuple #[tkV (3, v.2.1, []), .int .i64 ((Lx.runL Lx.inNums s.data.toList).length : Nat)] | none => .tuple #[tkV (0, 0, []), .int .i64 0]) := Lib.hid (by
    unfold Lx.numO
    cases Lx.parseO (Lx.runL Lx.inNums s.data.toList) <;> rfl)
  generalize Lx.runL Lx.inNums s.data.toList = a at *
  have hsa : (ByteArray.mk a.toArray).size = a.length := size_mk a
  have HN := Lib.hid (fun W hW => lparse_any ⟨a.toArray⟩ W hW)
  rw [show (ByteArray.mk a.toArray).data.toList = a by simp] at HN
  clear hlen hle hs hw
  cases hp : Lx.parseO a with
  | none =>
    have HF := Lib.hid (show Value.tuple #[tkV (0, 0, []), .int .i64 0] = rdV (Lx.numO s.data.toList) by rw [HV.out, hp])
    rw [hp] at HN
    clear hp
    go_enter Tryd.func19, Tryd.ntmps19
    go_wp2_with fail
    refine (HRun.out _).mono ?_
    rintro e w1 ⟨rfl, hb1⟩
    have k1 := In1.of hb1
    clear hb1
    go_wp2_with fail
    refine (HN.out _ (HW.out.below k1.below)).mono ?_
    rintro e w2 ⟨rfl, hb2⟩
    have k2 := k1.then_ hb2
    clear hb2 k1
    unfold parV noneV valV
    obtain ⟨c0, c1, c2, f0, f1, f2, hlt⟩ := k2.three
    have hb := k2.below
    go_wp2_with fail
    (try simp only [Exit.inBlock, Exit.then])
    refine bodyPost_ret (ret_cell rfl _ _ _ _ _ _ (.int .i64 0) rfl (set3_alloc_blk k2 _ _ _ _) Tryd.underlying30 rfl infoTk rfl) rfl ?_
    exact ⟨by rw [← HF.out]; rfl, set3_alloc_below hb _ _ _ _⟩
  | some v =>
    obtain ⟨vk, vn, vt⟩ := v
    have HF := Lib.hid (show Value.tuple #[tkV (3, vn, []), .int .i64 (a.length : Nat)] = rdV (Lx.numO s.data.toList) by rw [HV.out, hp])
    rw [hp] at HN
    clear hp
    go_enter Tryd.func19, Tryd.ntmps19
    go_wp2_with fail
    refine (HRun.out _).mono ?_
    rintro e w1 ⟨rfl, hb1⟩
    have k1 := In1.of hb1
    clear hb1
    go_wp2_with fail
    refine (HN.out _ (HW.out.below k1.below)).mono ?_
    rintro e w2 ⟨rfl, hb2⟩
    have k2 := k1.then_ hb2
    clear hb2 k1
    unfold parV valV
    obtain ⟨c0, c1, c2, f0, f1, f2, hlt⟩ := k2.three
    have hb := k2.below
    go_wp2_with fail
    (try simp only [Exit.inBlock, Exit.then])
    refine bodyPost_ret (ret_cell rfl _ _ _ _ _ _ (.int .i64 (a.length : Nat)) rfl (set3_alloc_blk k2 _ _ _ _) Tryd.underlying30 rfl infoTk (by first | rfl | (rw [hsa]; rfl))) rfl ?_
    exact ⟨by rw [← HF.out]; rfl, set3_alloc_below hb _ _ _ _⟩

end Go.Proofs.YtmmphgapginmjaaDoor
