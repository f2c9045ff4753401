/-
  hedgerowlaw18.LexLong answers true: the walk. Conditions: the world holds the library's tables (WOk).
-/
import Derived.Test.YtmmphgapginmjaaDoorLxSame
import Derived.Test.YtmmphgapginmjaaDoorStrLaid
namespace Go.Proofs.YtmmphgapginmjaaDoor
open Go.RowKit

theorem plus_first (n : Nat) : Lx.firstO (List.replicate (n + 1) 43) = some ((5, 0, [43]), 1) := by
  cases n with
  | zero => kernel_rfl
  | succ n =>
    rw [List.replicate_succ, List.replicate_succ]
    generalize List.replicate n (43 : UInt8) = y
    rw [Lx.firstO_cons, if_neg (by decide), if_neg (by decide), if_neg (by decide)]
    have h : Lx.signL (43 :: 43 :: y) = [43] := by kernel_rfl
    unfold Lx.signO
    rw [h]
    rfl
theorem plus_blank (n : Nat) : Lx.blank (List.replicate n 43) = List.replicate n 43 := by
  cases n with
  | zero => rfl
  | succ n => rw [List.replicate_succ]; exact Lx.blank_not (by decide)
theorem plus_toks : ∀ n : Nat, Lx.toksL (List.replicate n 43) = some (List.replicate n (5, 0, [43]))
  | 0 => rfl
  | n + 1 => by
    rw [Lx.toksL_step (plus_blank _) (plus_first n)]
    rw [List.replicate_succ, List.drop_succ_cons, List.drop_zero, plus_blank, plus_toks n]
    rfl
theorem infoBy : (Tryd.prog.info? 5).map (fun i => (i.zero, i.size, i.bytes)) = some (some (.int .u8 0), 1, 1) := by kernel_rfl
theorem make_bytes (w : World) (n : Nat) (hn : n ≤ 1000000) : ∃ w' cs, (Instr.makeSlice 23 (.int .i64 (n : Int)) (.int .i64 (n : Int))).run Tryd.prog w = .ok (.slice (some ⟨w.heap.size, 0, none⟩) n n) w' ∧ Blk w' w.heap.size 5 cs ∧ cs.size = n ∧ Below w.heap.size w w' := by
  obtain ⟨i, hi, hz0, hz1, hz2⟩ := info_parts infoBy
  obtain ⟨w', hr, ho, hg⟩ := run_makeSlice_full (P := Tryd.prog) (w := w) w.heap.size 23 5 i _ 1 Tryd.underlying23 hi hz0 hz1 .i64 .i64 n (by omega) (by rw [hz2]; omega) (by unfold maxLen; omega) (Nat.le_refl _)
  rcases ho.2 with ⟨h1, _⟩ | ⟨g, cap, cur, hv, hB, hgb, h1, h2, h3, h4⟩
  · cases h1
  · injection hv with e1 e2 e3
    injection e1 with e1
    injection e1 with e1
    subst e1
    subst e3
    exact ⟨w', cur, hr, hgb, by rw [h3, Nat.mul_one], ⟨hg.os, hg.tape, hg.output, hg.size, fun k hk => hg.block k hk (by simp)⟩⟩
theorem at_By (g c n k : Nat) (h : k < n) (w : World) : (Instr.indexAt 23 (.slice (some ⟨g, 0, none⟩) n c) (.int .i64 k)).run Tryd.prog w = .ok (.pointer (some ⟨g, k, none⟩)) w := by
  have h2 : (k : Int) < n := by omega
  go_simp
theorem rem_u8 (m d r : Nat) (e : m % d = r) (hd : 0 < d) (hd2 : d < 256) (_hm : m ≤ 255) (w : World) : (binOp .rem 5 (.int .u8 (m : Nat)) (.int .u8 (d : Nat))).run Tryd.prog w = .ok (.int .u8 (r : Nat)) w := by
  have h1 : ((m : Nat) : Int).tmod ((d : Nat) : Int) = (r : Nat) := by rw [← e]; rfl
  have h2 : ((d : Nat) : Int) ≠ 0 := by omega
  have h5 : ¬ d = 0 := by omega
  have h3 : r < d := by rw [← e]; exact Nat.mod_lt _ hd
  have h4 : IntKind.u8.wrap ((r : Nat) : Int) = (r : Nat) := by rw [IntKind.wrap_u8']; omega
  clear e
  go_simp
theorem conv_u8 (r : Nat) (h : r ≤ 255) (w : World) : (convert 5 3 (.int .u8 (r : Nat))).run Tryd.prog w = .ok (.int .i64 (r : Nat)) w := by
  have h4 : IntKind.i64.wrap ((r : Nat) : Int) = (r : Nat) := IntWalk.i64_in _ (by omega)
  go_simp
theorem add_nat (a b h : Nat) (e : a + b = h) (hh : h ≤ 1000000) (w : World) : (binOp .add 3 (.int .i64 (a : Nat)) (.int .i64 (b : Nat))).run Tryd.prog w = .ok (.int .i64 (h : Nat)) w := by
  have h4 : IntKind.i64.wrap (((a : Nat) : Int) + ((b : Nat) : Int)) = (h : Nat) := by rw [IntWalk.i64_in _ (by omega)]; omega
  clear e
  go_simp
theorem guardIT (o : BinOp) (t : TypeId) (x y : Operand) (k k' : IntKind) (a b : Int) (w : World) : (eqGuard o t x y (.int k a) (.int k' b)).run Tryd.prog w = .ok () w := by
  unfold eqGuard
  cases o <;> rfl

set_option maxRecDepth 100000 in
set_option maxHeartbeats 2000000 in
theorem long_walk (m : Nat) (hm : m ≤ 255) (w : World) (hw : WOk w) : Calls Tryd.prog 3 #[.int .u8 (m : Nat)] w (Gives w (.bool true)) := by
  obtain ⟨r, hr⟩ : ∃ r, m % 3 = r := ⟨_, rfl⟩
  have hr3 : r < 3 := by omega
  obtain ⟨n, hn⟩ : ∃ n, 2000 + r = n := ⟨_, rfl⟩
  have HM := Lib.hid (And.intro hm hr)
  have HN := Lib.hid (And.intro hn hr3)
  have HW := Lib.hid hw
  clear hm hr hn hr3 hw
  go_enter Tryd.func3, Tryd.ntmps3
  go_wp2_with fail
  refine (lfixed_any _ HW.out).mono ?_
  rintro e w1 ⟨rfl, hb1⟩
  have HB1 := Lib.hid hb1
  clear hb1
  obtain ⟨w2, cs0, h1, h2, h3, h4⟩ := make_bytes w1 n (by have := HN.out; omega)
  have HR := Lib.hid h1
  have HC0 := Lib.hid h2
  have HZ0 := Lib.hid h3
  have HB2 := Lib.hid (HB1.out.trans (h4.mono HB1.out.size))
  obtain ⟨G, hG⟩ : ∃ G, w1.heap.size = G := ⟨_, rfl⟩
  rw [hG] at HR HC0
  have HG := Lib.hid (show w.heap.size ≤ G by rw [← hG]; exact HB1.out.size)
  clear h1 h2 h3 h4 hG
  go_wp2_with (first
    | (refine wpList_val (o := ⟨some 10, _, _, _, _, _⟩) rfl (.int .u8 (r : Nat)) w1 (run_bin_op rfl rfl rfl (guardIT _ _ _ _ _ _ _ _ _) (rem_u8 m 3 r HM.out.2 (by omega) (by omega) HM.out.1 _)) ?_)
    | (refine wpList_val (o := ⟨some 11, _, _, _, _, _⟩) rfl (.int .i64 (r : Nat)) w1 (run_convert_op rfl rfl (conv_u8 r (by have := HN.out; omega) _)) ?_)
    | (refine wpList_val (o := ⟨some 12, _, _, _, _, _⟩) rfl (.int .i64 (n : Nat)) w1 (run_bin_op rfl rfl rfl (guardIT _ _ _ _ _ _ _ _ _) (add_nat 2000 r n HN.out.1 (by have := HN.out; omega) _)) ?_)
    | (refine wpList_val (o := ⟨some 13, _, _, _, _, _⟩) rfl (.slice (some ⟨G, 0, none⟩) n n) w2 (run_makeS_op rfl rfl rfl HR.out) ?_)
    | fail)
  go_loopw [16] (fun v16 wr => ∃ (k : Nat) (cs : Array Value), v16 = .int .i64 (k : Nat) ∧ k ≤ n ∧ Below w.heap.size w wr ∧ Blk wr G 5 cs ∧ cs.size = n ∧ ∀ j, j < k → cs[j]? = some (.int .u8 43)) (fun v16 _ => n - (intOf v16).toNat)
  case atStart => exact ⟨0, cs0, rfl, Nat.zero_le _, HB2.out, HC0.out, HZ0.out, fun j h => absurd h (Nat.not_lt_zero j)⟩
  case round =>
    obtain ⟨k, cs, rfl, hk, hbr, hbc, hcs, hdone⟩ := hrel
    have HBr := Lib.hid hbr
    have HBc := Lib.hid hbc
    have HCs := Lib.hid hcs
    have HDn := Lib.hid hdone
    clear hbr hbc hcs hdone
    by_cases hlt : k < n
    · obtain ⟨k1, hk1⟩ : ∃ k1, k + 1 = k1 := ⟨_, rfl⟩
      have HK := Lib.hid (And.intro hk1 hlt)
      have hw1 : wrap64 ((k : Int) + 1) = (k1 : Int) := by have := HN.out; rw [IntWalk.wrap64_in _ ⟨by omega, by omega⟩]; omega
      have hcell : wr.cell? ⟨G, k, none⟩ = some (cs[k]'(by rw [HCs.out]; exact hlt)) := by rw [HBc.out.cell, Array.getElem?_eq_getElem]
      have hfree := HBc.out.free k
      have hGlt := Blk.lt HBc.out
      have HBs := Lib.hid (HBc.out.set_ k (.int .u8 43))
      generalize cs[k]'(by rw [HCs.out]; exact hlt) = old at hcell
      have hkn : (k : Int) < (n : Int) := by omega
      clear hk hk1 hlt
      go_wp2_with (first
        | (refine wpList_val (o := ⟨some 21, _, _, _, _, _⟩) rfl (.pointer (some ⟨G, k, none⟩)) wr (run_indexAddr_op rfl rfl rfl (at_By G n n k HK.out.2 wr)) ?_)
        | fail)
      go_roundw
      case rel =>
        refine ⟨k1, cs.setIfInBounds k (.int .u8 43), by first | rfl | rw [hw1], by have := HK.out; omega, HBr.out.setCell HG.out _, HBs.out, by rw [Array.size_setIfInBounds]; exact HCs.out, fun j hj => ?_⟩
        by_cases hjk : j = k
        · subst hjk
          rw [Array.getElem?_setIfInBounds_self_of_lt (by rw [HCs.out]; exact HK.out.2)]
        · rw [Array.getElem?_setIfInBounds_ne (fun e => hjk e.symm)]
          exact HDn.out j (by have := HK.out; omega)
      case measure =>
        have := HK.out
        (try rw [hw1])
        show n - (intOf (.int .i64 _)).toNat < n - (intOf (.int .i64 _)).toNat
        simp only [intOf, Int.toNat_natCast]
        omega
    · have hkn : k = n := by omega
      subst hkn
      have hsl : Sl bv wr (.slice (some ⟨G, 0, none⟩) k k) (List.replicate k 43) := by
        have hl : (List.replicate k (43 : UInt8)).length = k := List.length_replicate
        refine ⟨some ⟨G, 0, none⟩, k, by rw [hl], by rw [hl]; exact Nat.le_refl _, fun _ => ⟨G, 0, rfl, Blk.lt HBc.out, fun j u hu => ?_⟩⟩
        have hj : j < k := by have := (List.getElem?_eq_some_iff.1 hu).1; rwa [hl] at this
        have hu2 : u = 43 := by
          rw [List.getElem?_replicate, if_pos hj] at hu
          exact (Option.some.inj hu).symm
        rw [Nat.zero_add, HBc.out.cell, HDn.out j hj, hu2]
        rfl
      have HCv := Lib.hid (run_string_sl (P := Tryd.prog) wr 23 9 5 Tryd.underlying23 Tryd.underlying5 Tryd.underlying9 _ _ hsl)
      have HT := Lib.hid (ltokens_any ⟨(List.replicate k (43 : UInt8)).toArray⟩ wr (HW.out.below HBr.out) (by rw [size_mk, List.length_replicate]; have := HN.out; omega))
      rw [show (ByteArray.mk (List.replicate k (43 : UInt8)).toArray).data.toList = List.replicate k 43 by simp] at HT
      have hkk : ¬ (k : Int) < (k : Int) := by omega
      clear hsl hk hlt
      go_wp2_with (first
        | (refine wpList_val (o := ⟨some 25, _, _, _, _, _⟩) rfl (.string ⟨(List.replicate k (43 : UInt8)).toArray⟩) wr (run_convert_op rfl rfl HCv.out) ?_)
        | fail)
      refine HT.out.mono ?_
      rintro e w5 ⟨v, rfl, ho, hb5⟩
      obtain ⟨Al, cl, rfl⟩ := ownk_form ho
      have HB5 := Lib.hid (HBr.out.trans (hb5.mono HBr.out.size))
      clear ho hb5 hkk
      by_cases hr0 : r = 0
      · have hk2 : k = 2000 := by have := HN.out; omega
        rw [show errT (List.replicate k 43) = 0 by unfold errT; rw [if_neg (by rw [List.length_replicate]; omega), plus_toks],
          show (outT (List.replicate k 43)).length = 2000 by unfold outT; rw [if_neg (by rw [List.length_replicate]; omega), plus_toks, List.length_replicate]; exact hk2]
        have hq : ¬ (0 : Int) < (r : Int) := by omega
        clear hk2 hr0
        go_wp2_with (first
          | (refine wpList_val (o := ⟨some 30, _, _, _, _, _⟩) rfl (.int .u8 (r : Nat)) _ (run_bin_op rfl rfl rfl (guardIT _ _ _ _ _ _ _ _ _) (rem_u8 m 3 r HM.out.2 (by omega) (by omega) HM.out.1 _)) ?_)
          | fail)
        go_ret
        exact ⟨rfl, HB5.out⟩
      · have hk2 : 2000 < k := by have := HN.out; omega
        rw [show errT (List.replicate k 43) = 3 from if_pos (by rw [List.length_replicate]; exact hk2), show (outT (List.replicate k 43)).length = 0 by rw [show outT (List.replicate k 43) = [] from if_pos (by rw [List.length_replicate]; exact hk2)]; rfl]
        have hq : (0 : Int) < (r : Int) := by omega
        clear hk2 hr0
        go_wp2_with (first
          | (refine wpList_val (o := ⟨some 30, _, _, _, _, _⟩) rfl (.int .u8 (r : Nat)) _ (run_bin_op rfl rfl rfl (guardIT _ _ _ _ _ _ _ _ _) (rem_u8 m 3 r HM.out.2 (by omega) (by omega) HM.out.1 _)) ?_)
          | fail)
        go_ret
        exact ⟨rfl, HB5.out⟩

end Go.Proofs.YtmmphgapginmjaaDoor
