/-
  hedgerowref01.Parse of any text, and hedgerowref18.guess: the contracts, by walks. Conditions: lengths.
-/
import Derived.Test.YtdabanocofimmaaGreatDoorLxRefC
namespace Go.Proofs.YtdabanocofimmaaGreatDoor
open Go.RowKit

set_option maxHeartbeats 1000000 in
theorem refparse_long (s : ByteArray) (w : World) (h : 200 < s.size) : Calls Tryz.prog 69 #[.string s] w (Gives w noneV) := by
  have h1 : (200 : Int) < (s.size : Int) := by omega
  have he : s.toList.isEmpty = false := by
    rw [Lib.toList_data]
    cases hl : s.data.toList with
    | nil => exfalso; have : s.data.toList.length = s.size := by rw [Array.length_toList]; rfl
             rw [hl] at this; simp at this; omega
    | cons a t => rfl
  have HB : Hid (∀ o : Obj, Below w.heap.size w (w.alloc o)) := Lib.hid (alloc_below w)
  clear h
  go_enter Tryz.func69, Tryz.ntmps69
  go_wp2
  go_returns
  exact ⟨rfl, HB.out _⟩
theorem refparse_is (s : ByteArray) (w : World) (h0 : 0 < s.size) : Calls Tryz.prog 69 #[.string s] w (Gives w (parV (Lx.parseO s.data.toList))) := by
  have hst := str_id s
  by_cases h : 200 < s.size
  · have : Lx.parseO s.data.toList = none := by
      unfold Lx.parseO
      rw [hst]
      cases hf : Lx.fits s (lik s) with
      | false => rfl
      | true =>
        exfalso
        unfold Lx.fits at hf
        simp only [Bool.and_eq_true, decide_eq_true_eq] at hf
        have h1 := Lx.text_len _ _ _ hf.1
        rw [hf.2, Array.length_toList] at h1
        have : s.data.size = s.size := rfl
        omega
    rw [this]
    exact refparse_long s w h
  · have h2 := refparse_any s w h0 (by omega)
    have : refV s = parV (Lx.parseO s.data.toList) := by
      unfold Lx.parseO
      rw [hst]
      have hm : refV s = firstM s := rfl
      have hf2 : Lx.fits s (lik s) = fits s (lik s) := rfl
      rw [hm, hf2]
      cases hf : fits s (lik s)
      · rw [firstM_no s hf]; rfl
      · rw [firstM_yes s hf]; rfl
    rw [this] at h2
    exact h2

set_option maxRecDepth 100000 in
set_option maxHeartbeats 4000000 in
theorem rguess_any (s : ByteArray) (w : World) (h0 : 0 < s.size) (hs : s.size ≤ 1000000) : Calls Tryz.prog 42 #[.string s] w (Gives w (tkV (Lx.guessR s.data.toList))) := by
  obtain ⟨c, hc⟩ : ∃ c : Int, ((s[0]'h0).toNat : Int) = c := ⟨_, rfl⟩
  have hh : s.data.toList.headD 0 = s[0]'h0 := (head_at s h0).symm
  have h39 : (s[0]'h0 = 39) ↔ c = 39 := by rw [← hc]; exact ⟨fun e => by rw [e]; rfl, fun e => by apply UInt8.toNat_inj.1; show _ = 39; omega⟩
  have hid : (⟨s.data.toList.toArray⟩ : ByteArray) = s := str_id s
  obtain ⟨qw, hqw⟩ : ∃ q, Lx.words.contains s.data.toList = q := ⟨_, rfl⟩
  obtain ⟨qs, hqs⟩ : ∃ q, Lx.signs.contains s.data.toList = q := ⟨_, rfl⟩
  have HR : Hid (Lx.guessR s.data.toList = if digI c = true then ((3, numF (s.data.toList.take 15), []) : Lx.Tk) else if c = 39 then (4, 0, match Lx.parseO s.data.toList with | some v => v.2.2 | none => [])
      else if qw = true then (2, 0, s.data.toList) else if qs = true then (5, 0, s.data.toList) else (1, 0, s.data.toList)) := Lib.hid (by
    unfold Lx.guessR
    rw [hh, hqw, hqs]
    simp only [h39]
    rw [show Lx.digU (s[0]'h0) = digI c by rw [← hc]; rfl]
    rfl)
  have HInW := Lib.hid (show ∀ b W, Blk W b 9 (strA Lx.words) → Calls Tryz.prog 67 #[.slice (some ⟨b, 0, none⟩) 26 26, .string s] W (SameV W (.bool qw)) from fun b W hB => by
    have := rin_any Lx.words s.data.toList b 26 W rfl (by omega) hB
    rwa [hqw, hid] at this)
  have HInS := Lib.hid (show ∀ b W, Blk W b 9 (strA Lx.signs) → Calls Tryz.prog 67 #[.slice (some ⟨b, 0, none⟩) 20 20, .string s] W (SameV W (.bool qs)) from fun b W hB => by
    have := rin_any Lx.signs s.data.toList b 20 W rfl (by omega) hB
    rwa [hqs, hid] at this)
  have HP := Lib.hid (fun W => refparse_is s W h0)
  have HS := Lib.hid hs
  have g0 : (0 : Int) < (s.size : Int) := by omega
  have hc0 : 0 ≤ c := by omega
  have HId := Lib.hid hid
  clear hh hqw hqs h39 hs hid
  have hcase : (48 ≤ c ∧ c ≤ 57) ∨ c = 39 ∨ (c < 48 ∧ c ≠ 39) ∨ 57 < c := by omega
  clear hc0
  rcases hcase with hcs | hcs | hcs | hcs
  · have k0 : (48 : Int) ≤ c := by omega
    have k1 : c ≤ 57 := by omega
    have HF := Lib.hid (show ((3, numF (s.data.toList.take 15), []) : Lx.Tk) = Lx.guessR s.data.toList by rw [HR.out, if_pos (by unfold digI; simp; omega)])
    clear hcs
    go_enter Tryz.func42, Tryz.ntmps42
    go_wp2
    clear k0 k1 g0
    obtain ⟨W, hW⟩ : ∃ W, w.alloc (.cells #[.int .i64 0, .int .i64 0, .string ⟨#[]⟩] 43) = W := ⟨_, rfl⟩
    rw [hW]
    have HIn := Lib.hid (show In1 w (.cells #[.int .i64 0, .int .i64 0, .string ⟨#[]⟩] 43) W by rw [← hW]; exact In1.of (Below.refl _ _))
    clear hW
    go_loopw [4, 5] (fun n i wr => ∃ k : Nat, k ≤ s.size ∧ k ≤ 15 ∧ i = .int .i64 k ∧ n = .int .i64 (numF (s.data.toList.take k)) ∧ wr = W) (fun _ i _ => s.size - (intOf i).toNat)
    case atStart => exact ⟨0, by omega, by omega, rfl, rfl, rfl⟩
    case round =>
      obtain ⟨k, hk, hk15, rfl, rfl, rfl⟩ := hrel
      have hb := numF_small (s.data.toList.take k) (by rw [List.length_take]; omega)
      by_cases hlt : k < s.size ∧ k < 15
      · obtain ⟨hlt, hl15⟩ := hlt
        have hsn : Hid (numF (s.data.toList.take (k + 1)) = numF (s.data.toList.take k) * 10 + (s[k]'hlt).toNat - 48) := Lib.hid (by
          have hl : k < s.data.toList.length := by rw [Array.length_toList]; exact hlt
          rw [List.take_succ_eq_append_getElem hl, numF_snoc]; rfl)
        have hx : (s[k]'hlt).toNat < 256 := (s[k]'hlt).toNat_lt
        generalize numF (s.data.toList.take k) = a at *
        have g1 : (k : Int) < (s.size : Int) := by omega
        have g2 : (k : Int) < 15 := by omega
        have e1 : wrap64 (a * 10) = a * 10 := IntWalk.wrap64_in _ ⟨by omega, by omega⟩
        have e2 : wrap64 (a * 10 + ((s[k]'hlt).toNat : Int)) = a * 10 + ((s[k]'hlt).toNat : Int) := IntWalk.wrap64_in _ ⟨by omega, by omega⟩
        have e3 : wrap64 (a * 10 + ((s[k]'hlt).toNat : Int) - 48) = a * 10 + ((s[k]'hlt).toNat : Int) - 48 := IntWalk.wrap64_in _ ⟨by omega, by omega⟩
        go_wp2
        refine ⟨⟨k + 1, by omega, by omega, by go_num, by rw [hsn.out], by first | trivial | rfl⟩, by simp [intOf]; omega⟩
      · have hall : s.data.toList.take k = s.data.toList.take 15 := by
          by_cases h15 : k = 15
          · rw [h15]
          · have hl : s.data.toList.length = s.size := by rw [Array.length_toList]; rfl
            rw [List.take_of_length_le (by omega), List.take_of_length_le (by omega)]
        rw [hall] at hb ⊢
        generalize numF (s.data.toList.take 15) = a at *
        have g12 : ((k : Int) < (s.size : Int) → ¬ (k : Int) < 15) := by omega
        obtain ⟨c0, c1, c2, f0, f1, f2, hltw⟩ := HIn.out.three
        have hbw := HIn.out.below
        clear hall hb hlt
        by_cases g1 : (k : Int) < (s.size : Int)
        · have g2 := g12 g1
          clear g12
          go_wp2
          (try simp only [Exit.inBlock, Exit.then])
          refine bodyPost_ret (ret_cell1 rfl _ _ _ _ _ _ rfl (set3_blk HIn.out _ _ _) Tryz.underlying43 rfl infoTk) rfl ?_
          exact ⟨by rw [← HF.out]; rfl, set3_below hbw _ _ _⟩
        · clear g12
          go_wp2
          (try simp only [Exit.inBlock, Exit.then])
          refine bodyPost_ret (ret_cell1 rfl _ _ _ _ _ _ rfl (set3_blk HIn.out _ _ _) Tryz.underlying43 rfl infoTk) rfl ?_
          exact ⟨by rw [← HF.out]; rfl, set3_below hbw _ _ _⟩
  · have k0 : ¬ (48 : Int) ≤ c := by omega
    have k6 : (c == 39) = true := by rw [hcs]; rfl
    obtain ⟨vk, vn, vt, vb, hv⟩ : ∃ vk vn vt vb, parV (Lx.parseO s.data.toList) = .tuple #[.agg #[.int .i64 vk, .int .i64 vn, .string ⟨vt⟩], .bool vb] ∧ (match Lx.parseO s.data.toList with | some v => v.2.2 | none => []).toArray = vt := by
      cases Lx.parseO s.data.toList with
      | none => exact ⟨0, 0, _, false, rfl, rfl⟩
      | some v => exact ⟨v.1, v.2.1, _, true, rfl, rfl⟩
    have HF := Lib.hid (show Value.agg #[.int .i64 4, .int .i64 0, .string ⟨vt⟩] = tkV (Lx.guessR s.data.toList) by rw [HR.out, if_neg (by unfold digI; simp; omega), if_pos hcs, ← hv.2]; rfl)
    rw [hv.1] at HP
    clear hcs hv
    go_enter Tryz.func42, Tryz.ntmps42
    go_wp2_with fail
    refine (HP.out _).mono ?_
    rintro e w1 ⟨rfl, hb1⟩
    have k1 := In1.of hb1
    clear hb1
    obtain ⟨c0, c1, c2, f0, f1, f2, hltw⟩ := k1.three
    have hbw := k1.below
    go_wp2_with fail
    (try simp only [Exit.inBlock, Exit.then])
    refine bodyPost_ret (ret_cell1 rfl _ _ _ _ _ _ rfl (set3_alloc_blk k1 _ _ _ _) Tryz.underlying43 rfl infoTk) rfl ?_
    exact ⟨by rw [← HF.out], set3_alloc_below hbw _ _ _ _⟩
  · have k0 : ¬ (48 : Int) ≤ c := by omega
    have k6 : (c == 39) = false := by rw [beq_eq_false_iff_ne]; omega
    have HF := Lib.hid (show Lx.guessR s.data.toList = if qw = true then ((2, 0, s.data.toList) : Lx.Tk) else if qs = true then (5, 0, s.data.toList) else (1, 0, s.data.toList) by rw [HR.out, if_neg (by unfold digI; simp; omega), if_neg (by omega)])
    clear hcs
    go_enter Tryz.func42, Tryz.ntmps42
    go_wp2_with fail
    refine (rwords_any _).mono ?_
    rintro e w1 ⟨rfl, rfl⟩
    have j1 := (In1.of (Below.refl (w.alloc (.cells #[.int .i64 0, .int .i64 0, .string ⟨#[]⟩] 43)).heap.size _)).then_ (alloc_below _ (.cells (strA Lx.words) 9))
    have HBl := Lib.hid (show Blk ((w.alloc (.cells #[.int .i64 0, .int .i64 0, .string ⟨#[]⟩] 43)).alloc (.cells (strA Lx.words) 9)) (w.alloc (.cells #[.int .i64 0, .int .i64 0, .string ⟨#[]⟩] 43)).heap.size 9 (strA Lx.words) from Blk.new _ _ _)
    obtain ⟨wv, hwv⟩ : ∃ wv, (w.alloc (.cells #[.int .i64 0, .int .i64 0, .string ⟨#[]⟩] 43)).alloc (.cells (strA Lx.words) 9) = wv := ⟨_, rfl⟩
    rw [hwv] at HBl j1 ⊢
    clear hwv
    obtain ⟨b1, hb1⟩ : ∃ b, (w.alloc (.cells #[.int .i64 0, .int .i64 0, .string ⟨#[]⟩] 43)).heap.size = b := ⟨_, rfl⟩
    rw [hb1] at HBl ⊢
    clear hb1
    have J1 := Lib.hid j1
    clear j1
    go_wp2_with fail
    refine (HInW.out _ wv HBl.out).mono ?_
    rintro e w2 ⟨rfl, rfl⟩
    cases qw with
    | true =>
      have HF2 := Lib.hid (show ((2, 0, s.data.toList) : Lx.Tk) = Lx.guessR s.data.toList by rw [HF.out]; rfl)
      obtain ⟨c0, c1, c2, f0, f1, f2, hltw⟩ := J1.out.three
      have hbw := J1.out.below
      go_wp2_with fail
      (try simp only [Exit.inBlock, Exit.then])
      refine bodyPost_ret (ret_cell1 rfl _ _ _ _ _ _ rfl (set3_blk J1.out _ _ _) Tryz.underlying43 rfl infoTk) rfl ?_
      exact ⟨by rw [← HF2.out]; unfold tkV; dsimp only, set3_below hbw _ _ _⟩
    | false =>
      go_wp2_with fail
      refine (rsigns_any _).mono ?_
      rintro e w2 ⟨rfl, rfl⟩
      have j2 := J1.out.then_ (alloc_below wv (.cells (strA Lx.signs) 9))
      have HB2 := Lib.hid (show Blk (wv.alloc (.cells (strA Lx.signs) 9)) wv.heap.size 9 (strA Lx.signs) from Blk.new _ _ _)
      obtain ⟨wu, hwu⟩ : ∃ wu, wv.alloc (.cells (strA Lx.signs) 9) = wu := ⟨_, rfl⟩
      rw [hwu] at HB2 j2 ⊢
      clear hwu
      obtain ⟨b2, hb2⟩ : ∃ b, wv.heap.size = b := ⟨_, rfl⟩
      rw [hb2] at HB2 ⊢
      clear hb2
      have J2 := Lib.hid j2
      clear j2
      go_wp2_with fail
      refine (HInS.out _ wu HB2.out).mono ?_
      rintro e w3 ⟨rfl, rfl⟩
      obtain ⟨c0, c1, c2, f0, f1, f2, hltw⟩ := J2.out.three
      have hbw := J2.out.below
      cases qs with
      | true =>
        have HF2 := Lib.hid (show ((5, 0, s.data.toList) : Lx.Tk) = Lx.guessR s.data.toList by rw [HF.out]; rfl)
        go_wp2_with fail
        (try simp only [Exit.inBlock, Exit.then])
        refine bodyPost_ret (ret_cell1 rfl _ _ _ _ _ _ rfl (set3_blk J2.out _ _ _) Tryz.underlying43 rfl infoTk) rfl ?_
        exact ⟨by rw [← HF2.out]; unfold tkV; dsimp only, set3_below hbw _ _ _⟩
      | false =>
        have HF2 := Lib.hid (show ((1, 0, s.data.toList) : Lx.Tk) = Lx.guessR s.data.toList by rw [HF.out]; rfl)
        go_wp2_with fail
        (try simp only [Exit.inBlock, Exit.then])
        refine bodyPost_ret (ret_cell1 rfl _ _ _ _ _ _ rfl (set3_blk J2.out _ _ _) Tryz.underlying43 rfl infoTk) rfl ?_
        exact ⟨by rw [← HF2.out]; unfold tkV; dsimp only, set3_below hbw _ _ _⟩
  · have k0 : (48 : Int) ≤ c := by omega
    have k1 : ¬ c ≤ 57 := by omega
    have k6 : (c == 39) = false := by rw [beq_eq_false_iff_ne]; omega
    have HF := Lib.hid (show Lx.guessR s.data.toList = if qw = true then ((2, 0, s.data.toList) : Lx.Tk) else if qs = true then (5, 0, s.data.toList) else (1, 0, s.data.toList) by rw [HR.out, if_neg (by unfold digI; simp; omega), if_neg (by omega)])
    clear hcs
    go_enter Tryz.func42, Tryz.ntmps42
    go_wp2_with fail
    refine (rwords_any _).mono ?_
    rintro e w1 ⟨rfl, rfl⟩
    have j1 := (In1.of (Below.refl (w.alloc (.cells #[.int .i64 0, .int .i64 0, .string ⟨#[]⟩] 43)).heap.size _)).then_ (alloc_below _ (.cells (strA Lx.words) 9))
    have HBl := Lib.hid (show Blk ((w.alloc (.cells #[.int .i64 0, .int .i64 0, .string ⟨#[]⟩] 43)).alloc (.cells (strA Lx.words) 9)) (w.alloc (.cells #[.int .i64 0, .int .i64 0, .string ⟨#[]⟩] 43)).heap.size 9 (strA Lx.words) from Blk.new _ _ _)
    obtain ⟨wv, hwv⟩ : ∃ wv, (w.alloc (.cells #[.int .i64 0, .int .i64 0, .string ⟨#[]⟩] 43)).alloc (.cells (strA Lx.words) 9) = wv := ⟨_, rfl⟩
    rw [hwv] at HBl j1 ⊢
    clear hwv
    obtain ⟨b1, hb1⟩ : ∃ b, (w.alloc (.cells #[.int .i64 0, .int .i64 0, .string ⟨#[]⟩] 43)).heap.size = b := ⟨_, rfl⟩
    rw [hb1] at HBl ⊢
    clear hb1
    have J1 := Lib.hid j1
    clear j1
    go_wp2_with fail
    refine (HInW.out _ wv HBl.out).mono ?_
    rintro e w2 ⟨rfl, rfl⟩
    cases qw with
    | true =>
      have HF2 := Lib.hid (show ((2, 0, s.data.toList) : Lx.Tk) = Lx.guessR s.data.toList by rw [HF.out]; rfl)
      obtain ⟨c0, c1, c2, f0, f1, f2, hltw⟩ := J1.out.three
      have hbw := J1.out.below
      go_wp2_with fail
      (try simp only [Exit.inBlock, Exit.then])
      refine bodyPost_ret (ret_cell1 rfl _ _ _ _ _ _ rfl (set3_blk J1.out _ _ _) Tryz.underlying43 rfl infoTk) rfl ?_
      exact ⟨by rw [← HF2.out]; unfold tkV; dsimp only, set3_below hbw _ _ _⟩
    | false =>
      go_wp2_with fail
      refine (rsigns_any _).mono ?_
      rintro e w2 ⟨rfl, rfl⟩
      have j2 := J1.out.then_ (alloc_below wv (.cells (strA Lx.signs) 9))
      have HB2 := Lib.hid (show Blk (wv.alloc (.cells (strA Lx.signs) 9)) wv.heap.size 9 (strA Lx.signs) from Blk.new _ _ _)
      obtain ⟨wu, hwu⟩ : ∃ wu, wv.alloc (.cells (strA Lx.signs) 9) = wu := ⟨_, rfl⟩
      rw [hwu] at HB2 j2 ⊢
      clear hwu
      obtain ⟨b2, hb2⟩ : ∃ b, wv.heap.size = b := ⟨_, rfl⟩
      rw [hb2] at HB2 ⊢
      clear hb2
      have J2 := Lib.hid j2
      clear j2
      go_wp2_with fail
      refine (HInS.out _ wu HB2.out).mono ?_
      rintro e w3 ⟨rfl, rfl⟩
      obtain ⟨c0, c1, c2, f0, f1, f2, hltw⟩ := J2.out.three
      have hbw := J2.out.below
      cases qs with
      | true =>
        have HF2 := Lib.hid (show ((5, 0, s.data.toList) : Lx.Tk) = Lx.guessR s.data.toList by rw [HF.out]; rfl)
        go_wp2_with fail
        (try simp only [Exit.inBlock, Exit.then])
        refine bodyPost_ret (ret_cell1 rfl _ _ _ _ _ _ rfl (set3_blk J2.out _ _ _) Tryz.underlying43 rfl infoTk) rfl ?_
        exact ⟨by rw [← HF2.out]; unfold tkV; dsimp only, set3_below hbw _ _ _⟩
      | false =>
        have HF2 := Lib.hid (show ((1, 0, s.data.toList) : Lx.Tk) = Lx.guessR s.data.toList by rw [HF.out]; rfl)
        go_wp2_with fail
        (try simp only [Exit.inBlock, Exit.then])
        refine bodyPost_ret (ret_cell1 rfl _ _ _ _ _ _ rfl (set3_blk J2.out _ _ _) Tryz.underlying43 rfl infoTk) rfl ?_
        exact ⟨by rw [← HF2.out]; unfold tkV; dsimp only, set3_below hbw _ _ _⟩

end Go.Proofs.YtdabanocofimmaaGreatDoor
