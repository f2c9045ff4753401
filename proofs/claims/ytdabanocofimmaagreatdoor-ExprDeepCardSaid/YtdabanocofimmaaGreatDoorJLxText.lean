/-
  lex.text and lex.sign: the contracts, by walks. lex.first, and what a token's text is (spelt, right, Is): the contracts, by walks. Conditions: lengths.
-/
import Derived.Test.YtdabanocofimmaaGreatDoorJLxQuo
namespace Go.Proofs.YtdabanocofimmaaGreatDoor
open Go.RowKit

set_option maxRecDepth 100000 in
set_option maxHeartbeats 2000000 in
theorem ltext_any (s : ByteArray) (w : World) (hw : WOk w) (hs : s.size ≤ 140737488355328) : Calls Tryz.prog 129 #[.string s] w (Gives w (rdV (Lx.textO s.data.toList))) := by
  have HQ := Lib.hid (fun W => lquoted_any s W (by omega))
  have HW := Lib.hid hw
  have HV : Hid (rdV (Lx.textO s.data.toList) = match Lx.parseO (Lx.quotedL s.data.toList) with | some v => .tuple #[tkV (4, 0, v.2.2), .int .i64 ((Lx.quotedL s.data.toList).length : Nat)] | none => .tuple #[tkV (0, 0, []), .int .i64 0]) := Lib.hid (by
    unfold Lx.textO
    cases Lx.parseO (Lx.quotedL s.data.toList) <;> rfl)
  generalize Lx.quotedL s.data.toList = a at *
  have hsa : (ByteArray.mk a.toArray).size = a.length := size_mk a
  have HN := Lib.hid (fun W hW => lparse_any ⟨a.toArray⟩ W hW)
  rw [show (ByteArray.mk a.toArray).data.toList = a by simp] at HN
  clear hs hw
  cases hp : Lx.parseO a with
  | none =>
    have HF := Lib.hid (show Value.tuple #[tkV (0, 0, []), .int .i64 0] = rdV (Lx.textO s.data.toList) by rw [HV.out, hp])
    rw [hp] at HN
    clear hp
    go_enter Tryz.func129, Tryz.ntmps129
    go_wp2_with fail
    refine (HQ.out _).mono ?_
    rintro e w1 ⟨rfl, rfl⟩
    have k1 := In1.of (Below.refl (w.alloc (.cells #[.int .i64 0, .int .i64 0, .string ⟨#[]⟩] 43)).heap.size _)
    go_wp2_with fail
    refine (HN.out _ (HW.out.alloc _)).mono ?_
    rintro e w2 ⟨rfl, hb2⟩
    have k2 := k1.then_ hb2
    clear hb2 k1
    unfold parV noneV valV
    obtain ⟨c0, c1, c2, f0, f1, f2, hlt⟩ := k2.three
    have hb := k2.below
    go_wp2_with fail
    (try simp only [Exit.inBlock, Exit.then])
    refine bodyPost_ret (ret_cell rfl _ _ _ _ _ _ (.int .i64 0) rfl (set3_alloc_blk k2 _ _ _ _) Tryz.underlying43 rfl infoTk rfl) rfl ?_
    exact ⟨by rw [← HF.out]; rfl, set3_alloc_below hb _ _ _ _⟩
  | some v =>
    obtain ⟨vk, vn, vt⟩ := v
    have HF := Lib.hid (show Value.tuple #[tkV (4, 0, vt), .int .i64 (a.length : Nat)] = rdV (Lx.textO s.data.toList) by rw [HV.out, hp])
    rw [hp] at HN
    clear hp
    go_enter Tryz.func129, Tryz.ntmps129
    go_wp2_with fail
    refine (HQ.out _).mono ?_
    rintro e w1 ⟨rfl, rfl⟩
    have k1 := In1.of (Below.refl (w.alloc (.cells #[.int .i64 0, .int .i64 0, .string ⟨#[]⟩] 43)).heap.size _)
    go_wp2_with fail
    refine (HN.out _ (HW.out.alloc _)).mono ?_
    rintro e w2 ⟨rfl, hb2⟩
    have k2 := k1.then_ hb2
    clear hb2 k1
    unfold parV valV
    obtain ⟨c0, c1, c2, f0, f1, f2, hlt⟩ := k2.three
    have hb := k2.below
    go_wp2_with fail
    (try simp only [Exit.inBlock, Exit.then])
    refine bodyPost_ret (ret_cell rfl _ _ _ _ _ _ (.int .i64 (a.length : Nat)) rfl (set3_alloc_blk k2 _ _ _ _) Tryz.underlying43 rfl infoTk (by first | rfl | (rw [hsa]; rfl))) rfl ?_
    exact ⟨by rw [← HF.out]; rfl, set3_alloc_below hb _ _ _ _⟩

theorem sign_next (l : List UInt8) (k : Nat) (hk : k < Lx.signs.length) : (Lx.signs.take (k + 1)).foldl (Lx.longer l) [] = Lx.longer l ((Lx.signs.take k).foldl (Lx.longer l) []) (Lx.signs[k]'hk) := by
  rw [List.take_add_one, List.getElem?_eq_getElem hk]
  show ((Lx.signs.take k) ++ [_]).foldl _ _ = _
  rw [List.foldl_append]
  rfl
theorem isEmpty_mk (g : List UInt8) : (ByteArray.mk g.toArray).toList.isEmpty = g.isEmpty := by rw [Lib.toList_data]
set_option maxRecDepth 100000 in
set_option maxHeartbeats 2000000 in
theorem lsign_any (s : ByteArray) (w : World) : Calls Tryz.prog 130 #[.string s] w (Gives w (rdV (Lx.signO s.data.toList))) := by
  have HV : Hid (rdV (Lx.signO s.data.toList) = if Lx.signL s.data.toList = [] then .tuple #[tkV (0, 0, []), .int .i64 0] else .tuple #[tkV (5, 0, Lx.signL s.data.toList), .int .i64 ((Lx.signL s.data.toList).length : Nat)]) := Lib.hid (by
    unfold Lx.signO
    split <;> rfl)
  go_enter Tryz.func130, Tryz.ntmps130
  go_wp2_with fail
  refine (signs_any _).mono ?_
  rintro e w1 ⟨rfl, rfl⟩
  have k1 := (In1.of (Below.refl (w.alloc (.cells #[.int .i64 0, .int .i64 0, .string ⟨#[]⟩] 43)).heap.size _)).then_ (alloc_below _ (.cells (strA Lx.signs) 9))
  have HBs := Lib.hid (show Blk ((w.alloc (.cells #[.int .i64 0, .int .i64 0, .string ⟨#[]⟩] 43)).alloc (.cells (strA Lx.signs) 9)) (w.alloc (.cells #[.int .i64 0, .int .i64 0, .string ⟨#[]⟩] 43)).heap.size 9 (strA Lx.signs) from Blk.new _ _ _)
  obtain ⟨wv, hwv⟩ : ∃ wv, (w.alloc (.cells #[.int .i64 0, .int .i64 0, .string ⟨#[]⟩] 43)).alloc (.cells (strA Lx.signs) 9) = wv := ⟨_, rfl⟩
  rw [hwv] at HBs k1 ⊢
  clear hwv
  obtain ⟨b, hb⟩ : ∃ b, (w.alloc (.cells #[.int .i64 0, .int .i64 0, .string ⟨#[]⟩] 43)).heap.size = b := ⟨_, rfl⟩
  rw [hb] at HBs ⊢
  clear hb
  have K1 := Lib.hid k1
  clear k1
  go_wp2_with fail
  go_loopw [4, 9] (fun v4 v9 wr => ∃ (k : Nat) (g : List UInt8), v9 = .int .i64 (k : Nat) ∧ v4 = .string ⟨g.toArray⟩ ∧ wr = wv ∧ k ≤ 20 ∧ (Lx.signs.take k).foldl (Lx.longer s.data.toList) [] = g) (fun _ v9 _ => 20 - (intOf v9).toNat)
  case atStart => exact ⟨0, [], rfl, rfl, rfl, Nat.zero_le _, rfl⟩
  case round =>
    obtain ⟨k, g, rfl, rfl, rfl, hk, hg⟩ := hrel
    by_cases hlt : k < 20
    · have HG := Lib.hid (sign_next s.data.toList k hlt)
      rw [hg] at HG
      have hcell := strA_cell HBs.out (k := k) hlt
      obtain ⟨one, hone⟩ : ∃ one, Lx.signs[k]'hlt = one := ⟨_, rfl⟩
      rw [hone] at hcell HG
      obtain ⟨k1, hk1⟩ : ∃ k1, k + 1 = k1 := ⟨_, rfl⟩
      have hw1 : wrap64 ((k : Int) + 1) = (k1 : Int) := by rw [IntWalk.wrap64_in _ ⟨by omega, by omega⟩]; omega
      have HI := Lib.hid (show k + 1 = k1 ∧ k < 20 from ⟨hk1, hlt⟩)
      have g1 : (k : Int) < 20 := by omega
      have g0 : (0 : Int) ≤ (k : Int) := by omega
      rw [hk1] at HG
      obtain ⟨n1, hn1⟩ : ∃ n1, (ByteArray.mk one.toArray).size = n1 := ⟨_, rfl⟩
      obtain ⟨n2, hn2⟩ : ∃ n2, (ByteArray.mk g.toArray).size = n2 := ⟨_, rfl⟩
      have HL := Lib.hid (show one.length = n1 ∧ g.length = n2 from ⟨by rw [← hn1, size_mk], by rw [← hn2, size_mk]⟩)
      clear hk1 hone hg hk hlt
      have HP := Lib.hid (fun W => Tryz.strings_HasPrefix s ⟨one.toArray⟩ W)
      rw [show (ByteArray.mk one.toArray).data.toList = one by simp] at HP
      by_cases hlen : n2 < n1
      · cases hp : Lib.hasPrefix s.data.toList one with
        | true =>
          have HN := Lib.hid (show Lx.longer s.data.toList g one = one by unfold Lx.longer; rw [hp, HL.out.1, HL.out.2, decide_eq_true hlen]; rfl)
          rw [hp] at HP
          clear hp
          go_wp2_with fail
          refine (HP.out _).mono ?_
          rintro e w4 ⟨rfl, rfl⟩
          go_wp2_with fail
          go_roundw
          case rel => exact ⟨k1, one, by first | rfl | rw [hw1] | exact congrArg (Value.int .i64) (by have := HI.out; omega), rfl, by first | trivial | rfl, by have := HI.out; omega, by rw [HG.out, HN.out]⟩
          case measure => have := HI.out; simp [intOf]; omega
        | false =>
          have HN := Lib.hid (show Lx.longer s.data.toList g one = g by unfold Lx.longer; rw [hp, Bool.and_false]; rfl)
          rw [hp] at HP
          clear hp
          go_wp2_with fail
          refine (HP.out _).mono ?_
          rintro e w4 ⟨rfl, rfl⟩
          go_wp2_with fail
          go_roundw
          case rel => exact ⟨k1, g, by first | rfl | rw [hw1] | exact congrArg (Value.int .i64) (by have := HI.out; omega), rfl, by first | trivial | rfl, by have := HI.out; omega, by rw [HG.out, HN.out]⟩
          case measure => have := HI.out; simp [intOf]; omega
      · have HN := Lib.hid (show Lx.longer s.data.toList g one = g by unfold Lx.longer; rw [HL.out.1, HL.out.2, decide_eq_false hlen]; rfl)
        go_wp2_with fail
        go_roundw
        case rel => exact ⟨k1, g, by first | rfl | rw [hw1] | exact congrArg (Value.int .i64) (by have := HI.out; omega), rfl, by first | trivial | rfl, by have := HI.out; omega, by rw [HG.out, HN.out]⟩
        case measure => have := HI.out; simp [intOf]; omega
    · have hk20 : k = 20 := by omega
      subst hk20
      have HG := Lib.hid (show Lx.signL s.data.toList = g from hg)
      have hsa : (ByteArray.mk g.toArray).size = g.length := size_mk g
      obtain ⟨c0, c1, c2, f0, f1, f2, hlt2⟩ := K1.out.three
      have hb := K1.out.below
      have he := isEmpty_mk g
      clear hg
      cases g with
      | nil =>
        have HF := Lib.hid (show Value.tuple #[tkV (0, 0, []), .int .i64 0] = rdV (Lx.signO s.data.toList) by rw [HV.out, HG.out]; rfl)
        go_wp2_with fail
        (try simp only [Exit.inBlock, Exit.then])
        refine bodyPost_ret (ret_cell rfl _ _ _ _ _ _ (.int .i64 0) rfl (set3_blk K1.out _ _ _) Tryz.underlying43 rfl infoTk rfl) rfl ?_
        exact ⟨by rw [← HF.out]; rfl, set3_below hb _ _ _⟩
      | cons c t =>
        have HF := Lib.hid (show Value.tuple #[tkV (5, 0, c :: t), .int .i64 ((c :: t).length : Nat)] = rdV (Lx.signO s.data.toList) by rw [HV.out, HG.out]; rfl)
        obtain ⟨L, hL⟩ : ∃ L, (c :: t).length = L := ⟨_, rfl⟩
        rw [hL] at hsa HF
        obtain ⟨B, hB⟩ : ∃ B : ByteArray, ⟨(c :: t).toArray⟩ = B := ⟨_, rfl⟩
        have HF2 := Lib.hid (show Value.tuple #[.agg #[.int .i64 5, .int .i64 0, .string B], .int .i64 (L : Nat)] = rdV (Lx.signO s.data.toList) by rw [← hB]; exact HF.out)
        have he2 : B.toList.isEmpty = false := by rw [← hB]; exact he
        rw [hB] at hsa ⊢
        clear he hL hB HG HF
        go_wp2_with fail
        (try simp only [Exit.inBlock, Exit.then])
        refine bodyPost_ret (ret_cell rfl _ _ _ _ _ _ (.int .i64 (L : Nat)) rfl (set3_blk K1.out _ _ _) Tryz.underlying43 rfl infoTk (by first | rfl | (rw [hsa]; rfl))) rfl ?_
        exact ⟨by rw [← HF2.out], set3_below hb _ _ _⟩

end Go.Proofs.YtdabanocofimmaaGreatDoor

namespace Go.Proofs.YtdabanocofimmaaGreatDoor
open Go.RowKit

theorem nameO_pos {l : List UInt8} {t : Lx.Tk} {n : Nat} (h : Lx.nameO l = some (t, n)) : 0 < n := by
  obtain ⟨k1, _, k3⟩ := Lx.nameO_some h
  cases hr : Lx.runL Lx.inNames l with
  | nil => rw [hr] at k1; cases k1
  | cons a b => rw [k3, hr]; simp
theorem numO_pos {l : List UInt8} {t : Lx.Tk} {n : Nat} (h : Lx.numO l = some (t, n)) : 0 < n := by
  obtain ⟨v, k1, _, k3⟩ := Lx.numO_some h
  have := List.length_pos_iff.2 (Lx.parseO_ne k1)
  omega
theorem textO_pos {l : List UInt8} {t : Lx.Tk} {n : Nat} (h : Lx.textO l = some (t, n)) : 0 < n := by
  obtain ⟨v, k1, _, k3⟩ := Lx.textO_some h
  have := List.length_pos_iff.2 (Lx.parseO_ne k1)
  omega

set_option maxRecDepth 100000 in
set_option maxHeartbeats 2000000 in
theorem lfirst_any (s : ByteArray) (w : World) (hw : WOk w) (hs : s.size ≤ 140737488355328) : Calls Tryz.prog 119 #[.string s] w (Gives w (rdV (Lx.firstO s.data.toList))) := by
  have HV : Hid (Lx.firstO s.data.toList = match Lx.nameO s.data.toList with | some x => some x | none => match Lx.numO s.data.toList with | some x => some x | none => match Lx.textO s.data.toList with | some x => some x | none => Lx.signO s.data.toList) := Lib.hid rfl
  have HW := Lib.hid hw
  have H1 := Lib.hid (fun W => lname_any s W hs)
  have H2 := Lib.hid (fun W hW => lnumber_any s W hW hs)
  have H3 := Lib.hid (fun W hW => ltext_any s W hW hs)
  have H4 := Lib.hid (fun W => lsign_any s W)
  clear hw hs
  cases h1 : Lx.nameO s.data.toList with
  | some x =>
    obtain ⟨t, n⟩ := x
    have hn := nameO_pos h1
    have HF := Lib.hid (show Value.tuple #[tkV t, .int .i64 (n : Nat)] = rdV (Lx.firstO s.data.toList) by rw [HV.out, h1]; rfl)
    rw [h1] at H1
    clear h1 HV H2 H3 H4
    obtain ⟨tk, tn, tt⟩ := t
    go_enter Tryz.func119, Tryz.ntmps119
    go_wp2_with fail
    refine (H1.out _).mono ?_
    rintro e w1 ⟨rfl, hb1⟩
    have k1 := In1.of hb1
    clear hb1
    unfold rdV tkV
    dsimp only
    obtain ⟨c0, c1, c2, f0, f1, f2, hlt⟩ := k1.three
    have hb := k1.below
    go_wp2_with fail
    (try simp only [Exit.inBlock, Exit.then])
    refine bodyPost_ret (ret_cell rfl _ _ _ _ _ _ (.int .i64 (n : Nat)) rfl (set3_alloc_blk k1 _ _ _ _) Tryz.underlying43 rfl infoTk rfl) rfl ?_
    exact ⟨by rw [← HF.out]; rfl, set3_alloc_below hb _ _ _ _⟩
  | none =>
    rw [h1] at H1 HV
    clear h1
    cases h2 : Lx.numO s.data.toList with
    | some x =>
      obtain ⟨t, n⟩ := x
      have hn := numO_pos h2
      have HF := Lib.hid (show Value.tuple #[tkV t, .int .i64 (n : Nat)] = rdV (Lx.firstO s.data.toList) by rw [HV.out, h2]; rfl)
      rw [h2] at H2
      clear h2 HV H3 H4
      obtain ⟨tk, tn, tt⟩ := t
      go_enter Tryz.func119, Tryz.ntmps119
      go_wp2_with fail
      refine (H1.out _).mono ?_
      rintro e w1 ⟨rfl, hb1⟩
      have k1 := (In1.of hb1).then_ (alloc_below w1 (.cells #[.int .i64 0, .int .i64 0, .string ⟨#[]⟩] 43))
      clear hb1
      unfold rdV tkV
      dsimp only
      go_wp2_with fail
      refine (H2.out _ (HW.out.below k1.below)).mono ?_
      rintro e w2 ⟨rfl, hb2⟩
      have k2 := k1.then_ hb2
      clear hb2 k1
      unfold rdV tkV
      dsimp only
      obtain ⟨c0, c1, c2, f0, f1, f2, hlt⟩ := k2.three
      have hb := k2.below
      go_wp2_with fail
      (try simp only [Exit.inBlock, Exit.then])
      refine bodyPost_ret (ret_cell rfl _ _ _ _ _ _ (.int .i64 (n : Nat)) rfl (set3_alloc_blk k2 _ _ _ _) Tryz.underlying43 rfl infoTk rfl) rfl ?_
      exact ⟨by rw [← HF.out]; rfl, set3_alloc_below hb _ _ _ _⟩
    | none =>
      rw [h2] at H2 HV
      clear h2
      cases h3 : Lx.textO s.data.toList with
      | some x =>
        obtain ⟨t, n⟩ := x
        have hn := textO_pos h3
        have HF := Lib.hid (show Value.tuple #[tkV t, .int .i64 (n : Nat)] = rdV (Lx.firstO s.data.toList) by rw [HV.out, h3]; rfl)
        rw [h3] at H3
        clear h3 HV H4
        obtain ⟨tk, tn, tt⟩ := t
        go_enter Tryz.func119, Tryz.ntmps119
        go_wp2_with fail
        refine (H1.out _).mono ?_
        rintro e w1 ⟨rfl, hb1⟩
        have k1 := (In1.of hb1).then_ (alloc_below w1 (.cells #[.int .i64 0, .int .i64 0, .string ⟨#[]⟩] 43))
        clear hb1
        unfold rdV tkV
        dsimp only
        go_wp2_with fail
        refine (H2.out _ (HW.out.below k1.below)).mono ?_
        rintro e w2 ⟨rfl, hb2⟩
        have k2 := (k1.then_ hb2).then_ (alloc_below w2 (.cells #[.int .i64 0, .int .i64 0, .string ⟨#[]⟩] 43))
        clear hb2 k1
        unfold rdV tkV
        dsimp only
        go_wp2_with fail
        refine (H3.out _ (HW.out.below k2.below)).mono ?_
        rintro e w3 ⟨rfl, hb3⟩
        have k3 := k2.then_ hb3
        clear hb3 k2
        unfold rdV tkV
        dsimp only
        obtain ⟨c0, c1, c2, f0, f1, f2, hlt⟩ := k3.three
        have hb := k3.below
        go_wp2_with fail
        (try simp only [Exit.inBlock, Exit.then])
        refine bodyPost_ret (ret_cell rfl _ _ _ _ _ _ (.int .i64 (n : Nat)) rfl (set3_alloc_blk k3 _ _ _ _) Tryz.underlying43 rfl infoTk rfl) rfl ?_
        exact ⟨by rw [← HF.out]; rfl, set3_alloc_below hb _ _ _ _⟩
      | none =>
        rw [h3] at H3 HV
        clear h3
        obtain ⟨t, n, ht⟩ : ∃ (t : Lx.Tk) (n : Nat), rdV (Lx.signO s.data.toList) = .tuple #[tkV t, .int .i64 (n : Nat)] := by
          cases h4 : Lx.signO s.data.toList with
          | none => exact ⟨(0, 0, []), 0, rfl⟩
          | some x => obtain ⟨t, n⟩ := x; exact ⟨t, n, rfl⟩
        have HF := Lib.hid (show Value.tuple #[tkV t, .int .i64 (n : Nat)] = rdV (Lx.firstO s.data.toList) by rw [HV.out, ← ht])
        rw [ht] at H4
        clear ht HV
        obtain ⟨tk, tn, tt⟩ := t
        go_enter Tryz.func119, Tryz.ntmps119
        go_wp2_with fail
        refine (H1.out _).mono ?_
        rintro e w1 ⟨rfl, hb1⟩
        have k1 := (In1.of hb1).then_ (alloc_below w1 (.cells #[.int .i64 0, .int .i64 0, .string ⟨#[]⟩] 43))
        clear hb1
        unfold rdV tkV
        dsimp only
        go_wp2_with fail
        refine (H2.out _ (HW.out.below k1.below)).mono ?_
        rintro e w2 ⟨rfl, hb2⟩
        have k2 := (k1.then_ hb2).then_ (alloc_below w2 (.cells #[.int .i64 0, .int .i64 0, .string ⟨#[]⟩] 43))
        clear hb2 k1
        unfold rdV tkV
        dsimp only
        go_wp2_with fail
        refine (H3.out _ (HW.out.below k2.below)).mono ?_
        rintro e w3 ⟨rfl, hb3⟩
        have k3 := (k2.then_ hb3).then_ (alloc_below w3 (.cells #[.int .i64 0, .int .i64 0, .string ⟨#[]⟩] 43))
        clear hb3 k2
        unfold rdV tkV
        dsimp only
        go_wp2_with fail
        refine (H4.out _).mono ?_
        rintro e w4 ⟨rfl, hb4⟩
        have k4 := k3.then_ hb4
        clear hb4 k3
        unfold tkV
        obtain ⟨c0, c1, c2, f0, f1, f2, hlt⟩ := k4.three
        have hb := k4.below
        go_wp2_with fail
        (try simp only [Exit.inBlock, Exit.then])
        refine bodyPost_ret (ret_cell rfl _ _ _ _ _ _ (.int .i64 (n : Nat)) rfl (set3_blk k4 _ _ _) Tryz.underlying43 rfl infoTk rfl) rfl ?_
        exact ⟨by rw [← HF.out]; rfl, set3_below hb _ _ _⟩

end Go.Proofs.YtdabanocofimmaaGreatDoor
