/-
  lex's readers of one token (name, number, text, sign, first): the contracts, by walks. lex's readers of a number, a text and a sign: the contracts, by walks. Conditions: lengths.
-/
import Derived.Test.YtmmphgapginmjaaGreatDoorJLxBase
namespace Go.Proofs.YtmmphgapginmjaaGreatDoor
open Go.RowKit

theorem infoTk : (Tryz.prog.info? 32).map (·.size) = some 3 := by kernel_rfl
theorem contains_is (L : List (List UInt8)) (n : Nat) (hn : L.length = n) (x : List UInt8) : Lib.containsS ((L.map fun y => (⟨y.toArray⟩ : ByteArray)).take n) ⟨x.toArray⟩ = L.contains x := by
  rw [List.take_of_length_le (by rw [List.length_map, hn]; exact Nat.le_refl _)]
  have h : Lib.containsS (L.map fun y => (⟨y.toArray⟩ : ByteArray)) ⟨x.toArray⟩ = true ↔ L.contains x = true := by
    rw [Lib.containsS_iff, List.contains_iff_mem, List.mem_map]
    constructor
    · rintro ⟨y, hy, e⟩
      have : y = x := by
        have := congrArg (fun b : ByteArray => b.data.toList) e
        simpa using this
      exact this ▸ hy
    · intro hx; exact ⟨x, hx, rfl⟩
  cases h1 : Lib.containsS (L.map fun y => (⟨y.toArray⟩ : ByteArray)) ⟨x.toArray⟩ <;> cases h2 : L.contains x <;> simp_all
theorem strA_cell {w : World} {b : Nat} {t : TypeId} {L : List (List UInt8)} (hB : Blk w b t (strA L)) {k : Nat} (hk : k < L.length) : w.cell? ⟨b, k, none⟩ = some (.string ⟨(L[k]'hk).toArray⟩) := by
  rw [hB.cell]
  unfold strA
  rw [List.getElem?_toArray, List.getElem?_map, List.getElem?_eq_getElem hk]
  rfl
theorem contains_any (L : List (List UInt8)) (x : List UInt8) (b n : Nat) (w : World) (hn : L.length = n) (hN : n ≤ 1000) (hB : Blk w b 9 (strA L)) :
    Calls Tryz.prog 45 #[.slice (some ⟨b, 0, none⟩) n n, .string ⟨x.toArray⟩] w (SameV w (.bool (L.contains x))) := by
  refine (Tryz.slices_Contains_string b 0 n n (L.map fun y => (⟨y.toArray⟩ : ByteArray)) ⟨x.toArray⟩ w (by rw [List.length_map]; omega) (by omega) (fun j hj => ?_)).mono fun e w' h => ⟨?_, h.2.symm⟩
  · rw [List.length_map] at hj
    rw [Nat.zero_add, strA_cell hB hj]
    simp [List.getD, hj]
  · rw [h.1, contains_is L n hn x]
theorem Gives.trans_ {w w1 w' : World} {v : Value} {e : Ending} (h : Gives w1 v e w') (hb : Below w.heap.size w w1) : Gives w v e w' := ⟨h.1, hb.trans (h.2.mono hb.size)⟩

set_option maxRecDepth 100000 in
set_option maxHeartbeats 2000000 in
theorem lname_any (s : ByteArray) (w : World) (hs : s.size ≤ 140737488355328) : Calls Tryz.prog 21 #[.string s] w (Gives w (rdV (Lx.nameO s.data.toList))) := by
  have hlen : s.data.toList.length = s.size := by rw [Array.length_toList]; rfl
  have hle := Lx.runL_le Lx.inNames s.data.toList
  have HRun := Lib.hid (fun W => run_any s Lx.inNames W hs (by decide) (by decide))
  have HV : Hid (rdV (Lx.nameO s.data.toList) = if nameB (Lx.runL Lx.inNames s.data.toList) = true then .tuple #[tkV (if Lx.words.contains (Lx.runL Lx.inNames s.data.toList) = true then 2 else 1, 0, Lx.runL Lx.inNames s.data.toList), .int .i64 ((Lx.runL Lx.inNames s.data.toList).length : Nat)] else .tuple #[tkV (0, 0, []), .int .i64 0]) := Lib.hid (by
    unfold Lx.nameO
    split <;> rfl)
  generalize Lx.runL Lx.inNames s.data.toList = a at *
  have HL := Lib.hid (show a.length ≤ 140737488355328 by omega)
  have hsa : (ByteArray.mk a.toArray).size = a.length := size_mk a
  have HN := Lib.hid (fun W => name_any ⟨a.toArray⟩ W (by rw [size_mk]; have := HL.out; omega))
  rw [show (ByteArray.mk a.toArray).data.toList = a by simp] at HN
  clear hlen hle hs
  go_enter Tryz.func21, Tryz.ntmps21
  go_wp2_with fail
  refine (HRun.out _).mono ?_
  rintro e w1 ⟨rfl, hb1⟩
  have k1 := In1.of hb1
  clear hb1
  go_wp2_with fail
  refine (HN.out _).mono ?_
  rintro e w2 ⟨rfl, hb2⟩
  have k2 := k1.then_ hb2
  clear hb2 k1
  cases q1 : nameB a with
  | false =>
    have HF := Lib.hid (show Value.tuple #[tkV (0, 0, []), .int .i64 0] = rdV (Lx.nameO s.data.toList) by rw [HV.out, q1]; rfl)
    clear q1
    obtain ⟨c0, c1, c2, f0, f1, f2, hlt⟩ := k2.three
    have hb := k2.below
    go_wp2_with fail
    (try simp only [Exit.inBlock, Exit.then])
    refine bodyPost_ret (ret_cell rfl _ _ _ _ _ _ (.int .i64 0) rfl (set3_blk k2 _ _ _) Tryz.underlying32 rfl infoTk rfl) rfl ?_
    exact ⟨by rw [← HF.out]; rfl, set3_below hb _ _ _⟩
  | true =>
    have HQ := Lib.hid q1
    clear q1
    go_wp2_with fail
    refine (words_any _).mono ?_
    rintro e w3 ⟨rfl, rfl⟩
    have HBw := Lib.hid (show Blk (w2.alloc (.cells (strA Lx.words) 9)) w2.heap.size 9 (strA Lx.words) from Blk.new _ _ _)
    have k3 := k2.then_ (alloc_below w2 (.cells (strA Lx.words) 9))
    obtain ⟨wv, hwv⟩ : ∃ wv, w2.alloc (.cells (strA Lx.words) 9) = wv := ⟨_, rfl⟩
    rw [hwv] at HBw k3 ⊢
    clear hwv k2
    go_wp2_with fail
    refine (contains_any Lx.words a _ 26 wv rfl (by omega) HBw.out).mono ?_
    rintro e w4 ⟨rfl, rfl⟩
    obtain ⟨c0, c1, c2, f0, f1, f2, hlt⟩ := k3.three
    have hb := k3.below
    cases q2 : Lx.words.contains a with
    | true =>
      have HF := Lib.hid (show Value.tuple #[tkV (2, 0, a), .int .i64 (a.length : Nat)] = rdV (Lx.nameO s.data.toList) by rw [HV.out, HQ.out, q2]; rfl)
      clear q2
      go_wp2_with fail
      (try simp only [Exit.inBlock, Exit.then])
      refine bodyPost_ret (ret_cell rfl _ _ _ _ _ _ (.int .i64 (a.length : Nat)) rfl (set3_blk k3 _ _ _) Tryz.underlying32 rfl infoTk (by first | rfl | (rw [hsa]; rfl))) rfl ?_
      exact ⟨by rw [← HF.out]; rfl, set3_below hb _ _ _⟩
    | false =>
      have HF := Lib.hid (show Value.tuple #[tkV (1, 0, a), .int .i64 (a.length : Nat)] = rdV (Lx.nameO s.data.toList) by rw [HV.out, HQ.out, q2]; rfl)
      clear q2
      go_wp2_with fail
      (try simp only [Exit.inBlock, Exit.then])
      refine bodyPost_ret (ret_cell rfl _ _ _ _ _ _ (.int .i64 (a.length : Nat)) rfl (set3_blk k3 _ _ _) Tryz.underlying32 rfl infoTk (by first | rfl | (rw [hsa]; rfl))) rfl ?_
      exact ⟨by rw [← HF.out]; rfl, set3_below hb _ _ _⟩

end Go.Proofs.YtmmphgapginmjaaGreatDoor

namespace Go.Proofs.YtmmphgapginmjaaGreatDoor
open Go.RowKit

theorem set3_alloc_blk {w w' : World} {t : TypeId} {a b c : Value} (h : In1 w (.cells #[a, b, c] t) w') (x y z : Value) (o : Obj) : Blk ((((w'.setCell ⟨w.heap.size, 0, none⟩ x).setCell ⟨w.heap.size, 1, none⟩ y).setCell ⟨w.heap.size, 2, none⟩ z).alloc o) w.heap.size t #[x, y, z] := Blk.below (set3_blk h x y z) (alloc_below _ o) (Blk.lt (set3_blk h x y z))
theorem set3_alloc_below {w w' : World} (h : Below w.heap.size w w') (a b c : Value) (o : Obj) : Below w.heap.size w ((((w'.setCell ⟨w.heap.size, 0, none⟩ a).setCell ⟨w.heap.size, 1, none⟩ b).setCell ⟨w.heap.size, 2, none⟩ c).alloc o) := (set3_below h a b c).trans ((alloc_below _ o).mono (set3_below h a b c).size)

set_option maxRecDepth 100000 in
set_option maxHeartbeats 2000000 in
theorem lnumber_any (s : ByteArray) (w : World) (hw : WOk w) (hs : s.size ≤ 140737488355328) : Calls Tryz.prog 22 #[.string s] w (Gives w (rdV (Lx.numO s.data.toList))) := by
  have hlen : s.data.toList.length = s.size := by rw [Array.length_toList]; rfl
  have hle := Lx.runL_le Lx.inNums s.data.toList
  have HRun := Lib.hid (fun W => run_any s Lx.inNums W hs (by decide) (by decide))
  have HW := Lib.hid hw
  have HV : Hid (rdV (Lx.numO s.data.toList) = match Lx.parseO (Lx.runL Lx.inNums s.data.toList) with | some v => .tuple #[tkV (3, v.2.1, []), .int .i64 ((Lx.runL Lx.inNums s.data.toList).length : Nat)] | none => .tuple #[tkV (0, 0, []), .int .i64 0]) := Lib.hid (by
    unfold Lx.numO
    cases Lx.parseO (Lx.runL Lx.inNums s.data.toList) <;> rfl)
  generalize Lx.runL Lx.inNums s.data.toList = a at *
  have hsa : (ByteArray.mk a.toArray).size = a.length := size_mk a
  have HN := Lib.hid (fun W hW => lparse_any ⟨a.toArray⟩ W hW)
  rw [show (ByteArray.mk a.toArray).data.toList = a by simp] at HN
  clear hlen hle hs hw
  cases hp : Lx.parseO a with
  | none =>
    have HF := Lib.hid (show Value.tuple #[tkV (0, 0, []), .int .i64 0] = rdV (Lx.numO s.data.toList) by rw [HV.out, hp])
    rw [hp] at HN
    clear hp
    go_enter Tryz.func22, Tryz.ntmps22
    go_wp2_with fail
    refine (HRun.out _).mono ?_
    rintro e w1 ⟨rfl, hb1⟩
    have k1 := In1.of hb1
    clear hb1
    go_wp2_with fail
    refine (HN.out _ (HW.out.below k1.below)).mono ?_
    rintro e w2 ⟨rfl, hb2⟩
    have k2 := k1.then_ hb2
    clear hb2 k1
    unfold parV noneV valV
    obtain ⟨c0, c1, c2, f0, f1, f2, hlt⟩ := k2.three
    have hb := k2.below
    go_wp2_with fail
    (try simp only [Exit.inBlock, Exit.then])
    refine bodyPost_ret (ret_cell rfl _ _ _ _ _ _ (.int .i64 0) rfl (set3_alloc_blk k2 _ _ _ _) Tryz.underlying32 rfl infoTk rfl) rfl ?_
    exact ⟨by rw [← HF.out]; rfl, set3_alloc_below hb _ _ _ _⟩
  | some v =>
    obtain ⟨vk, vn, vt⟩ := v
    have HF := Lib.hid (show Value.tuple #[tkV (3, vn, []), .int .i64 (a.length : Nat)] = rdV (Lx.numO s.data.toList) by rw [HV.out, hp])
    rw [hp] at HN
    clear hp
    go_enter Tryz.func22, Tryz.ntmps22
    go_wp2_with fail
    refine (HRun.out _).mono ?_
    rintro e w1 ⟨rfl, hb1⟩
    have k1 := In1.of hb1
    clear hb1
    go_wp2_with fail
    refine (HN.out _ (HW.out.below k1.below)).mono ?_
    rintro e w2 ⟨rfl, hb2⟩
    have k2 := k1.then_ hb2
    clear hb2 k1
    unfold parV valV
    obtain ⟨c0, c1, c2, f0, f1, f2, hlt⟩ := k2.three
    have hb := k2.below
    go_wp2_with fail
    (try simp only [Exit.inBlock, Exit.then])
    refine bodyPost_ret (ret_cell rfl _ _ _ _ _ _ (.int .i64 (a.length : Nat)) rfl (set3_alloc_blk k2 _ _ _ _) Tryz.underlying32 rfl infoTk (by first | rfl | (rw [hsa]; rfl))) rfl ?_
    exact ⟨by rw [← HF.out]; rfl, set3_alloc_below hb _ _ _ _⟩

end Go.Proofs.YtmmphgapginmjaaGreatDoor
