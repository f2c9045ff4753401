/-
  lex.first, and what a token's text is (spelt, right, Is): the contracts, by walks. Conditions: lengths; the world holds the library's tables (WOk).
-/
import Derived.Test.YtmmphgapginmjaaDoorLxText
namespace Go.Proofs.YtmmphgapginmjaaDoor
open Go.RowKit

theorem nameO_pos {l : List UInt8} {t : Lx.Tk} {n : Nat} (h : Lx.nameO l = some (t, n)) : 0 < n := by
  obtain ⟨k1, _, k3⟩ := Lx.nameO_some h
  cases hr : Lx.runL Lx.inNames l with
  | nil => rw [hr] at k1; cases k1
  | cons a b => rw [k3, hr]; simp
theorem numO_pos {l : List UInt8} {t : Lx.Tk} {n : Nat} (h : Lx.numO l = some (t, n)) : 0 < n := by
  obtain ⟨v, k1, _, k3⟩ := Lx.numO_some h
  have := List.length_pos_iff.2 (Lx.parseO_ne k1)
  omega
theorem textO_pos {l : List UInt8} {t : Lx.Tk} {n : Nat} (h : Lx.textO l = some (t, n)) : 0 < n := by
  obtain ⟨v, k1, _, k3⟩ := Lx.textO_some h
  have := List.length_pos_iff.2 (Lx.parseO_ne k1)
  omega

set_option maxRecDepth 100000 in
set_option maxHeartbeats 2000000 in
theorem lfirst_any (s : ByteArray) (w : World) (hw : WOk w) (hs : s.size ≤ 140737488355328) : Calls Tryd.prog 13 #[.string s] w (Gives w (rdV (Lx.firstO s.data.toList))) := by
  have HV : Hid (Lx.firstO s.data.toList = match Lx.nameO s.data.toList with | some x => some x | none => match Lx.numO s.data.toList with | some x => some x | none => match Lx.textO s.data.toList with | some x => some x | none => Lx.signO s.data.toList) := Lib.hid rfl
  have HW := Lib.hid hw
  have H1 := Lib.hid (fun W => lname_any s W hs)
  have H2 := Lib.hid (fun W hW => lnumber_any s W hW hs)
  have H3 := Lib.hid (fun W hW => ltext_any s W hW hs)
  have H4 := Lib.hid (fun W => lsign_any s W)
  clear hw hs
  cases h1 : Lx.nameO s.data.toList with
  | some x =>
    obtain ⟨t, n⟩ := x
    have hn := nameO_pos h1
    have HF := Lib.hid (show Value.tuple #[tkV t, .int .i64 (n : Nat)] = rdV (Lx.firstO s.data.toList) by rw [HV.out, h1]; rfl)
    rw [h1] at H1
    clear h1 HV H2 H3 H4
    obtain ⟨tk, tn, tt⟩ := t
    go_enter Tryd.func13, Tryd.ntmps13
    go_wp2_with fail
    refine (H1.out _).mono ?_
    rintro e w1 ⟨rfl, hb1⟩
    have k1 := In1.of hb1
    clear hb1
    unfold rdV tkV
    dsimp only
    obtain ⟨c0, c1, c2, f0, f1, f2, hlt⟩ := k1.three
    have hb := k1.below
    go_wp2_with fail
    (try simp only [Exit.inBlock, Exit.then])
    refine bodyPost_ret (ret_cell rfl _ _ _ _ _ _ (.int .i64 (n : Nat)) rfl (set3_alloc_blk k1 _ _ _ _) Tryd.underlying30 rfl infoTk rfl) rfl ?_
    exact ⟨by rw [← HF.out]; rfl, set3_alloc_below hb _ _ _ _⟩
  | none =>
    rw [h1] at H1 HV
    clear h1
    cases h2 : Lx.numO s.data.toList with
    | some x =>
      obtain ⟨t, n⟩ := x
      have hn := numO_pos h2
      have HF := Lib.hid (show Value.tuple #[tkV t, .int .i64 (n : Nat)] = rdV (Lx.firstO s.data.toList) by rw [HV.out, h2]; rfl)
      rw [h2] at H2
      clear h2 HV H3 H4
      obtain ⟨tk, tn, tt⟩ := t
      go_enter Tryd.func13, Tryd.ntmps13
      go_wp2_with fail
      refine (H1.out _).mono ?_
      rintro e w1 ⟨rfl, hb1⟩
      have k1 := (In1.of hb1).then_ (alloc_below w1 (.cells #[.int .i64 0, .int .i64 0, .string ⟨#[]⟩] 30))
      clear hb1
      unfold rdV tkV
      dsimp only
      go_wp2_with fail
      refine (H2.out _ (HW.out.below k1.below)).mono ?_
      rintro e w2 ⟨rfl, hb2⟩
      have k2 := k1.then_ hb2
      clear hb2 k1
      unfold rdV tkV
      dsimp only
      obtain ⟨c0, c1, c2, f0, f1, f2, hlt⟩ := k2.three
      have hb := k2.below
      go_wp2_with fail
      (try simp only [Exit.inBlock, Exit.then])
      refine bodyPost_ret (ret_cell rfl _ _ _ _ _ _ (.int .i64 (n : Nat)) rfl (set3_alloc_blk k2 _ _ _ _) Tryd.underlying30 rfl infoTk rfl) rfl ?_
      exact ⟨by rw [← HF.out]; rfl, set3_alloc_below hb _ _ _ _⟩
    | none =>
      rw [h2] at H2 HV
      clear h2
      cases h3 : Lx.textO s.data.toList with
      | some x =>
        obtain ⟨t, n⟩ := x
        have hn := textO_pos h3
        have HF := Lib.hid (show Value.tuple #[tkV t, .int .i64 (n : Nat)] = rdV (Lx.firstO s.data.toList) by rw [HV.out, h3]; rfl)
        rw [h3] at H3
        clear h3 HV H4
        obtain ⟨tk, tn, tt⟩ := t
        go_enter Tryd.func13, Tryd.ntmps13
        go_wp2_with fail
        refine (H1.out _).mono ?_
        rintro e w1 ⟨rfl, hb1⟩
        have k1 := (In1.of hb1).then_ (alloc_below w1 (.cells #[.int .i64 0, .int .i64 0, .string ⟨#[]⟩] 30))
        clear hb1
        unfold rdV tkV
        dsimp only
        go_wp2_with fail
        refine (H2.out _ (HW.out.below k1.below)).mono ?_
        rintro e w2 ⟨rfl, hb2⟩
        have k2 := (k1.then_ hb2).then_ (alloc_below w2 (.cells #[.int .i64 0, .int .i64 0, .string ⟨#[]⟩] 30))
        clear hb2 k1
        unfold rdV tkV
        dsimp only
        go_wp2_with fail
        refine (H3.out _ (HW.out.below k2.below)).mono ?_
        rintro e w3 ⟨rfl, hb3⟩
        have k3 := k2.then_ hb3
        clear hb3 k2
        unfold rdV tkV
        dsimp only
        obtain ⟨c0, c1, c2, f0, f1, f2, hlt⟩ := k3.three
        have hb := k3.below
        go_wp2_with fail
        (try simp only [Exit.inBlock, Exit.then])
        refine bodyPost_ret (ret_cell rfl _ _ _ _ _ _ (.int .i64 (n : Nat)) rfl (set3_alloc_blk k3 _ _ _ _) Tryd.underlying30 rfl infoTk rfl) rfl ?_
        exact ⟨by rw [← HF.out]; rfl, set3_alloc_below hb _ _ _ _⟩
      | none =>
        rw [h3] at H3 HV
        clear h3
        obtain ⟨t, n, ht⟩ : ∃ (t : Lx.Tk) (n : Nat), rdV (Lx.signO s.data.toList) = .tuple #[tkV t, .int .i64 (n : Nat)] := by
          cases h4 : Lx.signO s.data.toList with
          | none => exact ⟨(0, 0, []), 0, rfl⟩
          | some x => obtain ⟨t, n⟩ := x; exact ⟨t, n, rfl⟩
        have HF := Lib.hid (show Value.tuple #[tkV t, .int .i64 (n : Nat)] = rdV (Lx.firstO s.data.toList) by rw [HV.out, ← ht])
        rw [ht] at H4
        clear ht HV
        obtain ⟨tk, tn, tt⟩ := t
        go_enter Tryd.func13, Tryd.ntmps13
        go_wp2_with fail
        refine (H1.out _).mono ?_
        rintro e w1 ⟨rfl, hb1⟩
        have k1 := (In1.of hb1).then_ (alloc_below w1 (.cells #[.int .i64 0, .int .i64 0, .string ⟨#[]⟩] 30))
        clear hb1
        unfold rdV tkV
        dsimp only
        go_wp2_with fail
        refine (H2.out _ (HW.out.below k1.below)).mono ?_
        rintro e w2 ⟨rfl, hb2⟩
        have k2 := (k1.then_ hb2).then_ (alloc_below w2 (.cells #[.int .i64 0, .int .i64 0, .string ⟨#[]⟩] 30))
        clear hb2 k1
        unfold rdV tkV
        dsimp only
        go_wp2_with fail
        refine (H3.out _ (HW.out.below k2.below)).mono ?_
        rintro e w3 ⟨rfl, hb3⟩
        have k3 := (k2.then_ hb3).then_ (alloc_below w3 (.cells #[.int .i64 0, .int .i64 0, .string ⟨#[]⟩] 30))
        clear hb3 k2
        unfold rdV tkV
        dsimp only
        go_wp2_with fail
        refine (H4.out _).mono ?_
        rintro e w4 ⟨rfl, hb4⟩
        have k4 := k3.then_ hb4
        clear hb4 k3
        unfold tkV
        obtain ⟨c0, c1, c2, f0, f1, f2, hlt⟩ := k4.three
        have hb := k4.below
        go_wp2_with fail
        (try simp only [Exit.inBlock, Exit.then])
        refine bodyPost_ret (ret_cell rfl _ _ _ _ _ _ (.int .i64 (n : Nat)) rfl (set3_blk k4 _ _ _) Tryd.underlying30 rfl infoTk rfl) rfl ?_
        exact ⟨by rw [← HF.out]; rfl, set3_below hb _ _ _⟩

end Go.Proofs.YtmmphgapginmjaaDoor
