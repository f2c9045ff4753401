/-
  The law's laid: the contract, by a walk. Conditions: bounds on lengths.
-/
import Derived.Test.YtkdfedcmhcchiaaJnFixed
namespace Go.Proofs.Ytkdfedcmhcchiaa
open Go.RowKit

/-- The ends that are told. -/
def endCs (l : List (UInt8 × List UInt8)) (n : Nat) : List Value := (List.range n).map fun j => Value.int .i64 (endL (l.map payJ) j)
theorem endCs_one (l : List (UInt8 × List UInt8)) (n : Nat) : ∀ u ∈ endCs l n, u.oneCell' = true := by
  intro u hu
  obtain ⟨_, _, rfl⟩ := List.mem_map.1 hu
  rfl
theorem endCs_snoc (l : List (UInt8 × List UInt8)) (n : Nat) : endCs l (n + 1) = endCs l n ++ [.int .i64 (endL (l.map payJ) n)] := by
  unfold endCs
  rw [List.range_succ, List.map_append]
  rfl
theorem infoI : (Try.prog.info? 3).map (fun i => (i.zero, i.size, i.bytes)) = some (some (.int .i64 0), 1, 8) := by kernel_rfl

/-- How much is synced when k records have been laid, if those ahead of n are to be. -/
def syncJ (l : List (UInt8 × List UInt8)) (n k : Nat) : Nat := if n < k then endL (l.map payJ) n else 0

/-- A row of ints stays where a disk turns. -/
theorem Mv.ints {g : Nat} {v v' u : Value} {w w' : World} {l : List UInt8} {s n : Nat} {xs : List Value} {B : Nat} (hm : Mv g v w w' v') (hd : Dk w g v l s) (hk : w.ownsRow B 3 1 u n xs) : w'.ownsRow B 3 1 u n xs := by
  have ht : (5 : TypeId) ≠ 3 := by decide
  refine own_at hk (fun k e => hm.block k (hk.lt k e).2 (fun eg => own_ne hk hd.1 (by decide) (eg ▸ e)) fun ev => ?_) (fun k e => (hk.lt k e).1)
  rcases hk.2 with ⟨rfl, _⟩ | ⟨b, cap, cur, rfl, _, hb, _⟩
  · simp [Value.ownBlock] at e
  · have hbk : b = k := by simpa [Value.ownBlock] using e
    subst hbk
    rcases hd.2.1.2 with ⟨rfl, _⟩ | ⟨b2, cap2, cur2, rfl, _, hb2, _⟩
    · simp [Value.ownBlock] at ev
    · have : b2 = b := by simpa [Value.ownBlock] using ev
      subst this
      rw [hb] at hb2
      injection hb2 with h
      injection h with _ h _
      exact ht h.symm
/-- A disk stays where a row of ints of the call's own grows. -/
theorem Dkn.ints {w0 w w' : World} {g : Nat} {v u : Value} {l : List UInt8} {s n : Nat} {xs : List Value} (h : Dkn w0 w g v l s) (hk : w.ownsRow w0.heap.size 3 1 u n xs) (hg : w.grownBy w' u.ownBlock) : Dkn w0 w' g v l s := by
  refine ⟨h.1.at_ (hg.block g h.1.lt fun e => ?_) (fun k hkv => hg.block k (h.1.vlt k hkv) fun e => ?_), h.2.1, h.2.2.1, ?_⟩
  · exact own_ne hk h.1.1 (by decide) e.symm
  · rcases hk.2 with ⟨rfl, _⟩ | ⟨b, cap, cur, rfl, _, hb, _⟩
    · simp [Value.ownBlock] at e
    · have hbk : k = b := by simpa [Value.ownBlock] using e
      subst hbk
      rcases h.1.2.1.2 with ⟨rfl, _⟩ | ⟨b2, cap2, cur2, rfl, _, hb2, _⟩
      · simp [Value.ownBlock] at hkv
      · have : b2 = k := by simpa [Value.ownBlock] using hkv
        subst this
        rw [hb] at hb2
        injection hb2 with h
        injection h with _ h _
        exact absurd h (by decide)
  · exact h.base.grown hg h.size fun k e => (hk.lt k e).1

/-- What laid hands back. -/
def LaidIs (w : World) (l : List (UInt8 × List UInt8)) (s : Nat) (e : Ending) (w' : World) : Prop :=
  ∃ g v u, e = .returned (.tuple #[.pointer (some ⟨g, 0, none⟩), u]) ∧ Dkn w w' g v (framesB (l.map payJ)) s ∧ w'.ownsRow w.heap.size 3 1 u (l.length + 1) (endCs l (l.length + 1))

set_option maxRecDepth 100000 in
set_option maxHeartbeats 1000000 in
theorem laid_any (vl : Value) (l : List (UInt8 × List UInt8)) (n : Nat) (w : World) (hr : RecsAt w vl l) (hs : sizeJ l ≤ 1000000) (hn : n ≤ l.length) :
    Calls Try.prog 9 #[vl, .int .i64 n] w (LaidIs w l (endL (l.map payJ) n)) := by
  have hll := sizeJ_len l
  obtain ⟨i0, hi, hz0, hz1, hz2⟩ := info_parts infoI
  obtain ⟨A, c, rfl, hlc, hx⟩ := hr.at_
  have HX := Lib.hid hx
  clear hx hr
  go_enter Try.func9, Try.ntmps9
  go_wp2_with fail
  refine (dnew_any w).mono ?_
  rintro e w1 ⟨rfl, hd1, hb1⟩
  have D1 := Lib.hid (Dkn.new w hd1 rfl hb1)
  obtain ⟨g, hg⟩ : ∃ g, g = w.heap.size := ⟨_, rfl⟩
  rw [← hg] at D1 ⊢
  clear hd1 hb1 hg
  have D2 := Lib.hid (D1.out.alloc (.cells #[.int .i64 0] 3))
  have hi2 : (w1.alloc (.cells #[.int .i64 0] 3)).ownsRow w.heap.size 3 1 (.slice (some ⟨w1.heap.size, 0, none⟩) 1 1) 1 (endCs l 1) := World.ownsRow_lit w1 #[.int .i64 0] 1 D1.out.size (by unfold maxLen; omega) rfl
  have HI2 := Lib.hid hi2
  clear hi2
  go_wp2_with fail
  go_loopw [7, 14] (fun u i wr => ∃ (k : Nat) (vf : Value), k ≤ l.length ∧ i = .int .i64 k ∧ Dkn w wr g vf (framesB ((l.take k).map payJ)) (syncJ l n k) ∧ wr.ownsRow w.heap.size 3 1 u (k + 1) (endCs l (k + 1))) (fun _ i _ => l.length - (intOf i).toNat)
  case atStart => exact ⟨0, _, Nat.zero_le _, rfl, D2.out, HI2.out⟩
  case round =>
    obtain ⟨k, vf, hk, rfl, hdf, ho7⟩ := hrel
    have DF := Lib.hid hdf
    have HO7 := Lib.hid ho7
    obtain ⟨A7, c7, rfl⟩ := own_form ho7
    clear hdf ho7
    have hfl : (framesB ((l.take k).map payJ)).length = endL (l.map payJ) k := by unfold endL; rw [← List.map_take]
    have HFL := Lib.hid hfl
    clear hfl
    by_cases hlt : k < l.length
    · obtain ⟨bq, o, rfl, hbl, A2, n2, c2, hr, hs2, hn2⟩ := HX.out k hlt
      have c0 := (DF.out.base.cell (p := ⟨bq, o + k * 2 + 0, none⟩) hbl).trans (hr 0 _ rfl)
      have c1 := (DF.out.base.cell (p := ⟨bq, o + k * 2 + 1, none⟩) hbl).trans (hr 1 _ rfl)
      have hsn := sizeJ_snoc l k hlt
      have hsl := sizeJ_le l (k + 1)
      have hfs := frames_snoc l k hlt
      have hsk : (framesB ((l.take k).map payJ)).length = sizeJ (l.take k) := rfl
      have HLT := Lib.hid hlt
      obtain ⟨kk, dd, hkd⟩ : ∃ kk dd, l[k]'hlt = (kk, dd) := ⟨_, _, rfl⟩
      rw [hkd] at c0 hs2 hn2 hsn hfs
      simp only at c0 hs2 hn2 hsn hfs
      have HFS := Lib.hid hfs
      have HS2 := Lib.hid hs2
      rw [Nat.add_zero] at c0
      have hfit : (framesB ((l.take k).map payJ)).length + (dd.length + 9) ≤ 1048576 := by omega
      have HFIT := Lib.hid hfit
      have hen : (framesB ((l.take k).map payJ) ++ frameB (payJ (kk, dd))).length = endL (l.map payJ) (k + 1) := by rw [← hfs]; unfold endL; rw [← List.map_take]
      have hen2 : endL (l.map payJ) (k + 1) ≤ 1000000 := by rw [← hen, ← hfs]; exact Nat.le_trans hsl hs
      have HEN := Lib.hid hen
      have HEN2 := Lib.hid hen2
      have DA := Lib.hid (DF.out.alloc (.cells #[bv kk, .slice A2 n2 c2] 37))
      have OA := Lib.hid (HO7.out.alloc (.cells #[bv kk, .slice A2 n2 c2] 37))
      have RA := Lib.hid (Blk.new wr 37 #[bv kk, .slice A2 n2 c2])
      have hgt : g ≠ wr.heap.size := by have := DF.out.dk.lt; omega
      have HGT := Lib.hid hgt
      have HKN := Lib.hid (show n ≤ l.length from hn)
      clear hr hs2 hn2 hsn hsl hfs hsk hfit hkd hgt hen hen2
      unfold bv at c0 DA OA RA
      go_upto_if 21 with fail
      go_cut [] (fun wx => Dkn w wx g vf (framesB ((l.take k).map payJ)) (syncJ l n (k + 1)) ∧ wx.ownsRow w.heap.size 3 1 (.slice A7 (k + 1) c7) (k + 1) (endCs l (k + 1)) ∧ Blk wx wr.heap.size 37 #[.int .u8 (kk.toNat : Int), .slice A2 n2 c2])
      case first =>
        by_cases hkn : k = n
        · have h3 : ((k : Int) == (n : Int)) = true := by rw [beq_iff_eq]; omega
          have hsy : syncJ l n (k + 1) = endL (l.map payJ) k := by unfold syncJ; rw [if_pos (by omega), hkn]
          have HSY := Lib.hid hsy
          clear hsy hkn
          go_wp2_with fail
          refine (dsync_any g vf _ _ _ DA.out.dk).mono ?_
          rintro e w3 ⟨rfl, hd3, hm3⟩
          rw [HFL.out, ← HSY.out] at hd3
          have D3 := Lib.hid (DA.out.turn hd3 hm3)
          have O3 := Lib.hid (hm3.ints DA.out.dk OA.out)
          have R3 := Lib.hid (hm3.blk DA.out.dk RA.out (Ne.symm HGT.out) (by decide))
          clear hd3 hm3
          go_wp2_with fail
          go_meet
          exact ⟨D3.out, O3.out, R3.out⟩
        · have h3 : ((k : Int) == (n : Int)) = false := by rw [beq_eq_false_iff_ne]; omega
          have hsy : syncJ l n (k + 1) = syncJ l n k := by
            unfold syncJ
            by_cases h : n < k
            · rw [if_pos (by omega), if_pos h]
            · rw [if_neg (by omega), if_neg h]
          have HSY := Lib.hid hsy
          clear hsy hkn
          go_wp2_with fail
          go_meet
          exact ⟨by rw [HSY.out]; exact DA.out, OA.out, RA.out⟩
      case rest =>
        obtain ⟨hd3, ho3, hr3⟩ := hcut
        have D3 := Lib.hid hd3
        have O3 := Lib.hid ho3
        have b0 := hr3.cell 0
        have b1 := hr3.cell 1
        simp at b0 b1
        have HAP := Lib.hid (append_any g vf (.slice A2 n2 c2) _ dd _ kk wc D3.out.dk (HS2.out.below D3.out.base) HFIT.out)
        clear hd3 ho3 hr3 DA OA RA
        unfold bv at HAP
        go_wp2_with fail
        refine HAP.out.mono ?_
        rintro e w4 ⟨rfl, v4, hd4, hm4⟩
        have D4 := Lib.hid (D3.out.turn hd4 hm4)
        have O4 := Lib.hid (hm4.ints D3.out.dk O3.out)
        clear hd4 hm4 HAP b0 b1 D3 O3
        go_wp2_with fail
        refine (dbytes_any g v4 _ _ w4 D4.out.dk).mono ?_
        rintro e w5 ⟨v5, rfl, ho5, hb5⟩
        rw [HEN.out] at ho5
        have D5 := Lib.hid (D4.out.below hb5)
        have O5 := Lib.hid (O4.out.kept (row := none) ⟨hb5.os, hb5.tape, hb5.output, hb5.size, fun i hi _ => hb5.block i hi⟩ (by cases A7 <;> simp [Value.ownBlock]))
        obtain ⟨A5, c5, rfl⟩ := own_form ho5
        clear ho5 hb5 D4 O4
        have hE := HEN2.out
        have hO := O5.out.alloc (.cells #[.int .i64 (endL (l.map payJ) (k + 1) : Nat)] 3)
        have hsl1 : Sl (fun m : Nat => Value.int .i64 (m : Int)) (w5.alloc (.cells #[.int .i64 (endL (l.map payJ) (k + 1) : Nat)] 3)) (.slice (some ⟨w5.heap.size, 0, none⟩) 1 1) [endL (l.map payJ) (k + 1)] := by
          refine ⟨_, _, rfl, Nat.le_refl _, fun _ => ⟨w5.heap.size, 0, rfl, by simp, fun j u hu => ?_⟩⟩
          have hj : j = 0 := by have := (List.getElem?_eq_some_iff.1 hu).1; simpa using this
          subst hj
          have : u = endL (l.map payJ) (k + 1) := by simpa using hu.symm
          subst this
          exact (Blk.new w5 3 #[.int .i64 (endL (l.map payJ) (k + 1) : Nat)]).cell 0
        obtain ⟨v6, w6, hr6, ho6, hg6⟩ := run_append_sl (P := Try.prog) (w5.alloc (.cells #[.int .i64 (endL (l.map payJ) (k + 1) : Nat)] 3)) w.heap.size 27 27 3 i0 (.int .i64 0) 8 Try.underlying27 hi hz0 hz1 hz2 rfl _ _ _ hO _ _ hsl1 (fun _ => rfl) (by have := HLT.out; simp; omega) (by have := HLT.out; simp; omega) (by have := D5.out.size; simp; omega)
        have ho6' : w6.ownsRow w.heap.size 3 1 v6 (k + 2) (endCs l (k + 2)) := by rw [endCs_snoc l (k + 1)]; exact ho6
        have D6 := Lib.hid ((D5.out.alloc _).ints hO hg6)
        have O6 := Lib.hid ho6'
        have HR6 := Lib.hid hr6
        obtain ⟨A6, c6, rfl⟩ := own_form ho6'
        rw [← HFS.out] at D6
        clear hO hsl1 hr6 ho6 ho6' hg6 D5 O5
        generalize endL (l.map payJ) (k + 1) = E at *
        go_wp2_with (at_builtin; refine Lib.wpList_append_run _ rfl _ _ _ _ rfl _ _ rfl rfl _ _ HR6.out ?_)
        go_roundw
        case rel => exact ⟨k + 1, v4, HLT.out, by go_num, D6.out, O6.out⟩
        case measure => have := HLT.out; simp [intOf]; omega
    · have hkk : k = l.length := by omega
      subst hkk
      have hd := DF.out
      have hf := HFL.out
      rw [List.take_length] at hd hf
      have DL := Lib.hid hd
      have HFE := Lib.hid hf
      clear hd hf DF
      by_cases hnl : n = l.length
      · have h3 : (l.length : Int) ≤ (n : Int) := by omega
        have hsy : (framesB (l.map payJ)).length = endL (l.map payJ) n := by rw [HFE.out, hnl]
        have HSY := Lib.hid hsy
        clear hsy hnl
        go_wp2_with fail
        refine (dsync_any g vf _ _ _ DL.out.dk).mono ?_
        rintro e w3 ⟨rfl, hd3, hm3⟩
        rw [HSY.out] at hd3
        have D3 := Lib.hid (DL.out.turn hd3 hm3)
        have O3 := Lib.hid (hm3.ints DL.out.dk HO7.out)
        clear hd3 hm3
        go_wp2
        go_ret2
        exact ⟨_, _, _, rfl, D3.out, O3.out⟩
      · have h3 : ¬ (l.length : Int) ≤ (n : Int) := by omega
        have hsy : syncJ l n l.length = endL (l.map payJ) n := by unfold syncJ; rw [if_pos (by omega)]
        rw [hsy] at DL
        clear hsy hnl
        go_wp2
        go_ret2
        exact ⟨_, _, _, rfl, DL.out, HO7.out⟩

end Go.Proofs.Ytkdfedcmhcchiaa
