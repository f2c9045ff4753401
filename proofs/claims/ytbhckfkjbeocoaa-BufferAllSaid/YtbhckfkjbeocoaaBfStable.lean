/-
  Buffer.Stable: the contract, by a walk. Conditions: none.
-/
import Derived.Test.YtbhckfkjbeocoaaBfPeer
namespace Go.Proofs.Ytbhckfkjbeocoaa
open Go.RowKit

def topV : Nat → Int := fun _ => 4611686018427387904
/-- What the first k are known to know. -/
def stF (n s : Int) (f : Nat → Nat → Int) : Nat → Nat → Int
  | 0 => topV
  | k + 1 => if peerB n s k then meetV (stF n s f k) (f k) else stF n s f k
theorem meet_is (f g h : Nat → Int) (e : meetV f g = h) (w : World) : Calls Try.prog 20 #[.agg (vA f), .agg (vA g)] w fun e w' => e = .returned (.agg (vA h)) ∧ Below w.heap.size w w' := by
  subst e; exact meet_any f g w

set_option maxRecDepth 100000 in
set_option maxHeartbeats 2000000 in
theorem stable_any {P : Nat} {n s : Int} {f : Nat → Nat → Int} {v : Value} (w : World) (hb : Bf w P n s f v) : Calls Try.prog 12 #[.pointer (some ⟨P, 0, none⟩)] w fun e w' => e = .returned (.agg (vA (stF n s f 16))) ∧ Below w.heap.size w w' := by
  have HZ := Lib.hid (zero_of_info zeroV).1
  have HBf := Lib.hid hb
  obtain ⟨L, hL⟩ : ∃ L, L = bufL f := ⟨_, rfl⟩
  have HLi := Lib.hid (show ∀ p : Nat, p < 16 → ∀ w : World, (Instr.index 47 (.agg L.toArray) (.int .i64 p)).run Try.prog w = .ok (.agg (vA (f p))) w by rw [hL]; exact fun p hp w => index_bufL f p hp w)
  have HLa := Lib.hid (show ∀ W : World, Bf W P n s f v → W.rangeAt P 2 L by rw [hL]; exact fun W h => h.all)
  have HLs := Lib.hid (show (Try.prog.info? 47).map (·.size) = some L.length by rw [hL]; exact size_bufL f)
  clear hb hL
  have hz := HZ.out
  go_enter Try.func12, Try.ntmps12
  go_wp2_with fail
  clear hz
  obtain ⟨q, hq⟩ : ∃ q, w.heap.size = q := ⟨_, rfl⟩
  have hX1 : VB ((w.alloc (.cells (vA fun _ => 0) 27)).alloc (.cells (vA fun _ => 0) 27)) (q + 1) (fun _ => 0) := VB.new_ _ (by simp [hq])
  have hX0 : VB ((w.alloc (.cells (vA fun _ => 0) 27)).alloc (.cells (vA fun _ => 0) 27)) q (fun _ => 0) := (VB.new_ _ hq.symm).alloc_ _
  have hXb : Below q w ((w.alloc (.cells (vA fun _ => 0) 27)).alloc (.cells (vA fun _ => 0) 27)) := by rw [← hq]; exact ((Below.refl _ _).alloc (Nat.le_refl _) _).alloc (by simp) _
  have HX1 := Lib.hid hX1
  have HX0 := Lib.hid hX0
  have HXb := Lib.hid hXb
  have HQ := Lib.hid hq
  clear hX1 hX0 hXb
  rw [hq]
  clear hq
  generalize (w.alloc (.cells (vA fun _ => 0) 27)).alloc (.cells (vA fun _ => 0) 27) = X at *
  go_loopw [4, 10] (fun _ i wr => ∃ k : Nat, k ≤ 16 ∧ i = .int .i64 k ∧ VB wr (q + 1) (partV topV k) ∧ VB wr q (fun _ => 0) ∧ Below q w wr) (fun _ i _ => 16 - (intOf i).toNat)
  case atStart => exact ⟨0, by omega, rfl, HX1.out.of_eq (fun i _ => by simp [partV]), HX0.out, HXb.out⟩
  case round =>
    obtain ⟨k, hk, rfl, hb1, hb0, hbl⟩ := hrel
    by_cases hlt : k < 16
    · have c1 := hb1.cell_ k hlt
      have f1 := Blk.free hb1 k
      have hset := (hb1.put k (topV k)).of_eq (partV_succ topV k)
      have hb0' := Blk.far hb0 (p := ⟨q + 1, k, none⟩) (by simp) (.int .i64 (topV k))
      have hbl' := hbl.setCell (p := ⟨q + 1, k, none⟩) (by simp) (.int .i64 (topV k))
      have HS := Lib.hid hset
      have HT := Lib.hid hb0'
      have HU := Lib.hid hbl'
      clear hset hb0' hbl' hb1 hb0 hbl
      generalize partV topV k k = z at *
      go_wp2
      go_roundw
      case rel => exact ⟨k + 1, by omega, by go_num, HS.out, HT.out, HU.out⟩
      case measure => simp [intOf]; omega
    · have hkk : k = 16 := by omega
      subst hkk
      have HB1 := Lib.hid (hb1.of_eq (partV_full topV))
      have HB0 := Lib.hid hb0
      have HBL := Lib.hid hbl
      have HPw := Lib.hid (HBf.out.same (hbl.block P (by rw [← HQ.out]; exact HBf.out.lt)))
      clear hb1 hb0 hbl hlt hk
      go_wp2_with (first
        | (refine wpList_load_midif rfl 47 (.tmp 18) rfl P 2 rfl L _ (HLa.out _ HPw.out) Try.underlying47 rfl HLs.out ?_)
        | fail)
      clear HX1 HX0 HXb
      go_loopw [5, 6, 20] (fun _ _ i wr => ∃ k : Nat, k ≤ 16 ∧ i = .int .i64 k ∧ VB wr (q + 1) (stF n s f k) ∧ VB wr q (fun _ => 0) ∧ Bf wr P n s f v ∧ q + 1 < wr.heap.size ∧ Below q w wr) (fun _ _ i _ => 16 - (intOf i).toNat)
      case atStart => exact ⟨0, by omega, rfl, HB1.out, HB0.out, HPw.out, Blk.lt HB1.out, HBL.out⟩
      case round =>
        obtain ⟨k, hk, rfl, hb1, hb0, hP, hq2, hbl⟩ := hrel
        obtain ⟨wo, rfl⟩ : ∃ wo, wo = wr := ⟨_, rfl⟩
        by_cases hlt : k < 16
        · have HIx := Lib.hid (HLi.out k hlt wo)
          have HAl := Lib.hid fun c => World.setRow_alloc_new wo (vA fun _ => 0) c 27
          have HZz := Lib.hid (show Blk (wo.alloc (.cells (vA fun _ => 0) 27)) wo.heap.size 27 (vA fun _ => 0) from Blk.new _ _ _)
          obtain ⟨Y, hY⟩ : ∃ Y, Y = wo.alloc (.cells (vA (f k)) 27) := ⟨_, rfl⟩
          have hbY : Below wo.heap.size wo Y := by rw [hY]; exact (Below.refl _ _).alloc (Nat.le_refl _) _
          have HYv := Lib.hid (show VB Y wo.heap.size (f k) by rw [hY]; exact VB.new_ _ rfl)
          have HY1 := Lib.hid (VB.keep hb1 hbY)
          have HY0 := Lib.hid (VB.keep hb0 hbY)
          have HYP := Lib.hid (hP.keep hbY)
          have HYb := Lib.hid (hbl.trans (hbY.mono (by omega)))
          have HYq := Lib.hid (show q + 1 < Y.heap.size from Nat.lt_of_lt_of_le hq2 hbY.size)
          have HY := Lib.hid hY
          have HQ2 := Lib.hid hq2
          clear hb1 hb0 hP hbl hY hbY hq2 HB1 HB0 HPw HBL
          have hz := HZ.out
          go_upto_region 12 with (first
            | (refine wpList_val (o := ⟨some 23, _, _, _, _, _⟩) rfl (.agg (vA (f k))) wo (run_index_op rfl rfl rfl HIx.out) ?_)
            | (refine wpList_store_row rfl 27 (.tmp 6) (.tmp 23) rfl wo.heap.size (vA (f k)) rfl rfl _ _ HZz.out (sizeV _) (by rw [vA_size, vA_size]) (vA_one _) ?_; rw [HAl.out, ← HY.out])
            | fail)
          clear hz
          go_wp2_with fail
          cases hpe : peerB n s k
          · refine (peer_is k Y HYP.out false hpe).mono ?_
            rintro x w2 ⟨rfl, hb⟩
            have HS1 := Lib.hid (show VB w2 (q + 1) (stF n s f (k + 1)) by
              have e : stF n s f (k + 1) = stF n s f k := by simp [stF, hpe]
              rw [e]; exact VB.keep HY1.out hb)
            have HS0 := Lib.hid (VB.keep HY0.out hb)
            have HSP := Lib.hid (HYP.out.keep hb)
            have HSb := Lib.hid (HYb.out.trans (hb.mono (by have := HYq.out; omega)))
            have HSq := Lib.hid (Nat.lt_of_lt_of_le HYq.out hb.size)
            clear hb hpe
            go_wp2
            go_roundw
            case rel => exact ⟨k + 1, by omega, by go_num, HS1.out, HS0.out, HSP.out, HSq.out, HSb.out⟩
            case measure => simp [intOf]; omega
          · refine (peer_is k Y HYP.out true hpe).mono ?_
            rintro x w2 ⟨rfl, hb⟩
            have e : meetV (stF n s f k) (f k) = stF n s f (k + 1) := by simp [stF, hpe]
            have HE := Lib.hid e
            have HS1 := Lib.hid (VB.keep HY1.out hb)
            have HS0 := Lib.hid (VB.keep HY0.out hb)
            have HSv := Lib.hid (VB.keep HYv.out hb)
            have HSP := Lib.hid (HYP.out.keep hb)
            have HSb := Lib.hid (HYb.out.trans (hb.mono (by have := HYq.out; omega)))
            have HSq := Lib.hid (Nat.lt_of_lt_of_le HYq.out hb.size)
            clear hb hpe e
            go_wp2_with (first
              | (refine wpList_load_if rfl 27 (.tmp 3) rfl (q + 1) rfl _ _ _ _ HS1.out Try.underlying27 rfl (sizeV _) ?_)
              | (refine wpList_load_if rfl 27 (.tmp 6) rfl wo.heap.size rfl _ _ _ _ HSv.out Try.underlying27 rfl (sizeV _) ?_)
              | fail)
            refine (meet_is _ _ _ HE.out w2).mono ?_
            rintro x w3 ⟨rfl, hb⟩
            have hs1 := VB.keep HS1.out hb
            have HT1 := Lib.hid hs1
            have hU1 := setRow_VB w3 (q + 1) _ (stF n s f (k + 1)) hs1
            have hU0 : VB (w3.setRow (q + 1) (vA (stF n s f (k + 1)))) q (fun _ => 0) := (setRow_other w3 (q + 1) q _ (by omega)).trans (VB.keep HS0.out hb)
            have hPq : P ≠ q + 1 := by have := HBf.out.lt; have := HQ.out; omega
            have hUP : Bf (w3.setRow (q + 1) (vA (stF n s f (k + 1)))) P n s f v := (HSP.out.keep hb).same (setRow_other w3 (q + 1) P _ hPq)
            have hUb := (HSb.out.trans (hb.mono (by have := HSq.out; omega))).trans (setRow_below w3 (q + 1) q (vA (stF n s f (k + 1))) (by omega))
            have hUq : q + 1 < (w3.setRow (q + 1) (vA (stF n s f (k + 1)))).heap.size := Blk.lt hU1
            have HU1 := Lib.hid hU1
            have HU0 := Lib.hid hU0
            have HUP := Lib.hid hUP
            have HUb := Lib.hid hUb
            have HUq := Lib.hid hUq
            clear hb hs1 hU1 hU0 hPq hUP hUb hUq
            go_wp2_with (first
              | (refine wpList_store_row rfl 27 (.tmp 3) (.tmp 29) rfl (q + 1) (vA (stF n s f (k + 1))) rfl rfl _ _ HT1.out (sizeV _) (by rw [vA_size, vA_size]) (vA_one _) ?_)
              | fail)
            go_roundw
            case rel => exact ⟨k + 1, by omega, by go_num, HU1.out, HU0.out, HUP.out, HUq.out, HUb.out⟩
            case measure => simp [intOf]; omega
        · have hkk : k = 16 := by omega
          subst hkk
          have hrow := setRow_VB wo q _ (stF n s f 16) hb0
          have hbl' := hbl.trans (setRow_below wo q q (vA (stF n s f 16)) (Nat.le_refl _))
          have HE1 := Lib.hid hb1
          have HE0 := Lib.hid hb0
          have HR := Lib.hid hrow
          have HL := Lib.hid hbl'
          clear hb1 hb0 hP hq2 hrow hbl' hbl hlt hk
          go_wp2_with (first
            | (refine wpList_load_row rfl 27 (.tmp 3) rfl (q + 1) rfl _ _ _ _ HE1.out Try.underlying27 rfl (sizeV _) ?_)
            | (refine wpList_store_row rfl 27 (.tmp 2) (.tmp 31) rfl q (vA (stF n s f 16)) rfl rfl _ _ HE0.out (sizeV _) (by rw [vA_size, vA_size]) (vA_one _) ?_))
          exact bodyPost_ret (v := .agg (vA (stF n s f 16))) (results_cell_row (P := Try.prog) Try.results12 _ _ q _ (vA (stF n s f 16)) _ _ rfl HR.out Try.underlying27 rfl (sizeV _)) rfl ⟨rfl, by rw [HQ.out]; exact HL.out⟩
theorem stable_is {P : Nat} {n s : Int} {f : Nat → Nat → Int} {v : Value} (g : Nat → Int) (hg : stF n s f 16 = g) (w : World) (hb : Bf w P n s f v) : Calls Try.prog 12 #[.pointer (some ⟨P, 0, none⟩)] w fun e w' => e = .returned (.agg (vA g)) ∧ Below w.heap.size w w' := by
  subst hg; exact stable_any w hb

end Go.Proofs.Ytbhckfkjbeocoaa
