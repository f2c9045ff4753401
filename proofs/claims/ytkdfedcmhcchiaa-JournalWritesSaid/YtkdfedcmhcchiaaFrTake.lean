/-
  frame.Take: the contract, by a walk. Conditions: a bound on the length.
-/
import Derived.Test.YtkdfedcmhcchiaaFrPut
import Derived.Test.YtkdfedcmhcchiaaSlice
import Derived.Deep.QuietTactic
import Derived.BigQuiet
import Derived.Deep.RegionWith
namespace Go.Proofs.Ytkdfedcmhcchiaa
open Go.RowKit

theorem sizeU : (Try.prog.info? 5).map (·.size) = some 1 := by kernel_rfl
/-- What Take hands back. -/
def Took (w : World) (t : List UInt8 × Nat × Nat) (e : Ending) (w' : World) : Prop := ∃ v, e = .returned (.tuple #[v, .int .i64 t.2.1, .int .i64 t.2.2]) ∧ w'.ownsRow w.heap.size 5 1 v t.1.length (bs t.1) ∧ Below w.heap.size w w'

theorem three (b : List UInt8) (h : ¬ b.length < 4) : ∃ x y z t, b = x :: y :: z :: t ∧ 1 ≤ t.length := by
  match b with
  | x :: y :: z :: t => exact ⟨x, y, z, t, rfl, by simp at h; omega⟩
  | [] => simp at h
  | [_] => simp at h
  | [_, _] => simp at h

theorem i64_or_nat (a b : Nat) (ha : a < 1073741824) (hb : b < 1073741824) : bits .or .i64 (a : Int) (b : Int) = ((a ||| b : Nat) : Int) := by
  have hx : a ||| b < 2 ^ 30 := Nat.or_lt_two_pow (by omega) (by omega)
  have h1 : (BitVec.ofInt 64 (a : Int)).toNat = a := by rw [BitVec.ofInt_natCast, BitVec.toNat_ofNat]; exact Nat.mod_eq_of_lt (by omega)
  have h2 : (BitVec.ofInt 64 (b : Int)).toNat = b := by rw [BitVec.ofInt_natCast, BitVec.toNat_ofNat]; exact Nat.mod_eq_of_lt (by omega)
  show IntKind.i64.wrap ((BitVec.ofInt 64 (a : Int) ||| BitVec.ofInt 64 (b : Int)).toNat : Int) = _
  rw [BitVec.toNat_or, h1, h2, IntKind.wrap_i64]
  omega
theorem or3 (x y z : Nat) (hx : x < 256) (hy : y < 256) (hz : z < 256) : bits .or .i64 (bits .or .i64 (x : Int) ((y : Int) * 256)) ((z : Int) * 65536) = ((x + 256 * y + 65536 * z : Nat) : Int) := by
  rw [show ((y : Int) * 256) = ((y * 256 : Nat) : Int) by omega, show ((z : Int) * 65536) = ((z * 65536 : Nat) : Int) by omega, i64_or_nat _ _ (by omega) (by omega)]
  rw [nat_join8' (y * 256) x (by omega) (by omega), i64_or_nat _ _ (by omega) (by omega), nat_join16' (z * 65536) _ (by omega) (by omega)]
  congr 1
  omega
/-- A slice's first part, where its place is known. -/
theorem Sl.hi_at {α : Type} {f : α → Value} {w : World} {b o n c : Nat} {l : List α} (h : Sl f w (.slice (some ⟨b, o, none⟩) n c) l) (k : Nat) (hk : k ≤ n) : Sl f w (.slice (some ⟨b, o, none⟩) k c) (l.take k) := by
  have := h.hi k hk
  have e : slA (some ⟨b, o, none⟩) c 0 = some ⟨b, o, none⟩ := by
    unfold slA
    split
    · rfl
    · simp [Addr.add]
  rwa [e] at this
theorem Sl.part_at {α : Type} {f : α → Value} {w : World} {b o n c : Nat} {l : List α} (h : Sl f w (.slice (some ⟨b, o, none⟩) n c) l) (lo hi : Nat) (hlo : lo ≤ hi) (hhi : hi ≤ n) (hc : lo < c) : Sl f w (.slice (some ⟨b, o + lo, none⟩) (hi - lo) (c - lo)) ((l.take hi).drop lo) := by
  have := h.part lo hi hlo hhi
  have e : slA (some ⟨b, o, none⟩) c lo = some ⟨b, o + lo, none⟩ := by
    unfold slA
    rw [if_neg (by omega)]
    simp [Addr.add_lit]
  rwa [e] at this
theorem below_drewN (w : World) (n : Nat) : Below w.heap.size w (w.drewN n) := ⟨rfl, rfl, rfl, Nat.le_refl _, fun _ _ => rfl⟩
theorem own_le {w : World} {B B' : Nat} {e : TypeId} {v : Value} {n : Nat} {xs : List Value} (h : w.ownsRow B e 1 v n xs) (hB : B' ≤ B) : w.ownsRow B' e 1 v n xs :=
  ⟨h.1, h.2.elim Or.inl fun ⟨g, cap, cur, hv, hg, r⟩ => Or.inr ⟨g, cap, cur, hv, Nat.le_trans hB hg, r⟩⟩
theorem take_drop4 (b : List UInt8) (n : Nat) : (b.take (4 + n)).drop 4 = (b.drop 4).take n := by
  rw [List.drop_take]; congr 1; omega
theorem take_drop8 (b : List UInt8) (n : Nat) : (b.take (n + 8)).drop (4 + n) = (b.drop (n + 4)).take 4 := by
  rw [List.drop_take, Nat.add_comm 4 n]; congr 1; omega

set_option maxHeartbeats 1000000 in
theorem ftake_any (v : Value) (b : List UInt8) (w : World) (h : Sl bv w v b) (hlen : b.length ≤ 140737400000000) : Calls Try.prog 36 #[v] w (Took w (takeF b)) := by
  have HS := Lib.hid h
  obtain ⟨A, c, rfl, hlc, hcell⟩ := h.at_
  by_cases h4 : b.length < 4
  · have ht : takeF b = ([], 0, 2) := by unfold takeF; rw [if_pos h4]
    rw [ht]
    clear hcell h ht
    go_enter Try.func36, Try.ntmps36
    go_wp2
    go_ret3
    exact ⟨_, rfl, World.ownsRow_nil _ _ _ _, Below.refl _ _⟩
  · obtain ⟨b0, o, rfl, hb0, hc⟩ := hcell 0 (by omega)
    obtain ⟨x, y, z, t, hb, ht⟩ := three b h4
    have hc0 := hc 0 x (by rw [hb]; rfl)
    have hc1 := hc 1 y (by rw [hb]; rfl)
    have hc2 := hc 2 z (by rw [hb]; rfl)
    have hn : lenB b = x.toNat + 256 * y.toNat + 65536 * z.toNat := by rw [hb]; rfl
    have hx := x.toNat_lt
    have hy := y.toNat_lt
    have hz := z.toNat_lt
    unfold bv at hc0 hc1 hc2
    rw [Nat.add_zero] at hc0
    have HN := Lib.hid hn
    clear hn hc hcell h hb
    generalize x.toNat = x at *
    generalize y.toNat = y at *
    generalize z.toNat = z at *
    go_enter Try.func36, Try.ntmps36
    go_upto_region 3 with fail
    go_cut [5] (fun n wx => n = .int .i64 (lenB b) ∧ ∃ k, wx = w.drewN k)
    case first =>
      go_quiet (fail)
      go_wp2_with fail
      go_meet
      exact ⟨by rw [or3 x y z hx hy hz, HN.out], _, rfl⟩
    case rest =>
      obtain ⟨rfl, nq, rfl⟩ := hcut
      have hnl := lenB_lt b
      have HT : Hid (takeF b = if headB (lenB b) ≠ b.take 4 then ([], 0, 7) else if 1048576 < lenB b then ([], 0, 3) else if b.length < lenB b + 8 then ([], 0, 2) else if leB (crcOf ((b.drop 4).take (lenB b))) ≠ (b.drop (lenB b + 4)).take 4 then ([], 0, 7) else ((b.drop 4).take (lenB b), lenB b + 8, 0)) := Lib.hid (by unfold takeF; rw [if_neg h4])
      have hp4 := HS.out.hi_at 4 (by omega)
      have HP := Lib.hid hp4
      clear hp4 hc0 hc1 hc2 HN
      generalize hN : lenB b = N at *
      clear hN
      go_upto_region 4 with fail
      go_cut [33] (fun q wx => q = .bool (!eqB (b.take 4) (headB N)) ∧ Below w.heap.size w wx)
      case first =>
        go_region_with (first
          | (go_at_call 37; refine (head_any N _ hnl).mono ?_; rintro e w2 ⟨v2, rfl, hs2, hb2⟩; have HS2 := Lib.hid hs2; have HB2 := Lib.hid hb2; clear hs2 hb2)
          | (go_at_call 41; refine (equal_any _ _ (b.take 4) (headB N) w2 (Sl.below (w := (w.drewN nq).drew) HP.out HB2.out) HS2.out).mono ?_; rintro e w' ⟨rfl, rfl⟩))
        all_goals go_wp2_with fail
        all_goals go_meet
        all_goals exact ⟨rfl, (below_drewN w (nq + 1)).trans HB2.out⟩
      case rest =>
        obtain ⟨rfl, hb2⟩ := hcut
        cases he : eqB (b.take 4) (headB N)
        · have ht : takeF b = ([], 0, 7) := by rw [HT.out, if_pos (fun e => (eqB_false _ _).1 he e.symm)]
          have HT2 := Lib.hid ht
          clear ht
          go_wp2
          go_ret3
          rw [HT2.out]
          exact ⟨_, rfl, World.ownsRow_nil _ _ _ _, hb2⟩
        · have he2 := ((eqB_true _ _).1 he).symm
          have HE := Lib.hid he2
          clear he2 he
          by_cases hbig : 1048576 < N
          · have ht : takeF b = ([], 0, 3) := by rw [HT.out, if_neg (by simp [HE.out]), if_pos hbig]
            have HT2 := Lib.hid ht
            clear ht
            go_wp2
            go_ret3
            rw [HT2.out]
            exact ⟨_, rfl, World.ownsRow_nil _ _ _ _, hb2⟩
          · have hsz : sizeF (N : Int) = (N : Int) + 8 := by unfold sizeF; rw [if_neg (by omega)]
            by_cases hshort : b.length < N + 8
            · have ht : takeF b = ([], 0, 2) := by rw [HT.out, if_neg (by simp [HE.out]), if_neg hbig, if_pos hshort]
              have HT2 := Lib.hid ht
              clear ht
              go_wp2_with fail
              refine (size_any N _).mono ?_
              rintro e w' ⟨rfl, rfl⟩
              rw [hsz]
              clear hsz
              go_wp2
              go_ret3
              rw [HT2.out]
              exact ⟨_, rfl, World.ownsRow_nil _ _ _ _, hb2⟩
            · have hc9 := HS.out.len.2
              have hpa := HS.out.part_at 4 (4 + N) (by omega) (by omega) (by omega)
              have hpb := HS.out.part_at (4 + N) (N + 8) (by omega) (by omega) (by omega)
              rw [take_drop4] at hpa
              rw [take_drop8] at hpb
              rw [show 4 + N - 4 = N by omega] at hpa
              have HPA := Lib.hid (hpa.below hb2)
              have HPB := Lib.hid (hpb.below hb2)
              clear hpa hpb
              go_wp2_with fail
              refine (size_any N _).mono ?_
              rintro e w' ⟨rfl, rfl⟩
              rw [hsz]
              clear hsz
              go_wp2_with fail
              have e1 : ¬ c = 4 := by omega
              have e2 : ¬ c = 4 + N := by omega
              go_quiet (fail)
              go_wp2_with fail
              obtain ⟨p, hp⟩ : ∃ p, p = (b.drop 4).take N := ⟨_, rfl⟩
              have hpl : p.length ≤ 1048576 := by rw [hp, List.length_take]; omega
              have HPA2 : Hid (Sl bv wc (.slice (some ⟨b0, o + 4, none⟩) N (c - 4)) p) := Lib.hid (by rw [hp]; exact HPA.out)
              have HPP := Lib.hid hp
              have HBW := Lib.hid hb2
              clear hp e1 e2 hb2 HPA
              refine (of_any _ p _ (Sl.below (w := wc) HPA2.out (below_drewN wc _)) (by omega)).mono ?_
              rintro e w3 ⟨he, hb3⟩
              subst he
              have HB3 := Lib.hid ((below_drewN wc _).trans hb3)
              clear hb3
              go_wp2_with fail
              refine (bytes_any (crcOf p) w3).mono ?_
              rintro e w4 ⟨v4, rfl, hs4, hb4⟩
              have HB4 := Lib.hid (HB3.out.trans (hb4.mono HB3.out.size))
              have HS4 := Lib.hid hs4
              obtain ⟨A4, c4, rfl⟩ := hs4.form
              clear hs4 hb4
              go_wp2_with fail
              refine (equal_any _ _ ((b.drop (N + 4)).take 4) (leB (crcOf p)) w4 (HPB.out.below HB4.out) HS4.out).mono ?_
              rintro e w' ⟨rfl, rfl⟩
              cases hq : eqB ((b.drop (N + 4)).take 4) (leB (crcOf p))
              · have ht : takeF b = ([], 0, 7) := by
                  rw [HT.out, if_neg (by simp [HE.out]), if_neg hbig, if_neg hshort, ← HPP.out, if_pos (fun e => (eqB_false _ _).1 hq e.symm)]
                have HT2 := Lib.hid ht
                clear ht hq
                go_wp2
                go_ret3
                rw [HT2.out]
                exact ⟨_, rfl, World.ownsRow_nil _ _ _ _, HBW.out.trans (HB4.out.mono HBW.out.size)⟩
              · have ht : takeF b = (p, N + 8, 0) := by
                  have := (eqB_true _ _).1 hq
                  rw [HT.out, if_neg (by simp [HE.out]), if_neg hbig, if_neg hshort, ← HPP.out, if_neg (by simp [this])]
                have HT2 := Lib.hid ht
                clear ht hq
                go_wp2_with fail
                refine (bclone_any _ p w4 (HPA2.out.below HB4.out) (by omega)).mono ?_
                rintro e w5 ⟨v5, rfl, hs5, hb5⟩
                have hs6 := own_le hs5 (HBW.out.trans (HB4.out.mono HBW.out.size)).size
                have HS5 := Lib.hid hs6
                have HB5 := Lib.hid (HB4.out.trans (hb5.mono HB4.out.size))
                clear hs5 hs6 hb5
                go_wp2
                go_ret3
                rw [HT2.out]
                exact ⟨_, rfl, HS5.out, HBW.out.trans (HB5.out.mono HBW.out.size)⟩

end Go.Proofs.Ytkdfedcmhcchiaa
