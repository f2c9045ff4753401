/-
  frame.Put and the reference's Put: the contracts, by walks. frame.Take: the contract, by a walk. frame.Whole: the contract, by a walk. The reference's Take: the contract, by a walk. Conditions: lengths.
-/
import Derived.Test.YtalaidlnhoonfaaQCc
import Derived.Test.YtalaidlnhoonfaaSlice
import Derived.Deep.QuietTactic
import Derived.BigQuiet
import Derived.Deep.RegionWith
namespace Go.Proofs.Ytalaidlnhoonfaa.Fr
open Go.RowKit

/-- A block of slices, just laid, as a slice of them. -/
theorem cells_laid (w : World) (vs : List Value) (t : TypeId) : ∀ j u, vs[j]? = some u → (w.alloc (.cells vs.toArray t)).cell? ⟨w.heap.size, 0 + j, none⟩ = some u := by
  intro j u hu
  rw [(Blk.new w t vs.toArray).cell (0 + j)]
  simpa using hu

/-- slices.Concat of a block of slices that has just been laid. -/
theorem concat_laid (W : World) (ls : List (Value × List UInt8)) (n c : Nat) (hn : n = ls.length) (h0 : 0 < n) (h31 : n ≤ 1000) (cs : Array Value) (hcs : cs = (ls.map (·.1)).toArray)
    (hsl : ∀ p ∈ ls, Sl bv W p.1 p.2) (hlen : (flat ls).length ≤ 140737488355328) :
    Calls Try.prog 33 #[.slice (some ⟨W.heap.size, 0, none⟩) n c] (W.alloc (.cells cs 29)) (Makes (W.alloc (.cells cs 29)) (flat ls)) := by
  subst hn hcs
  refine concat_any W.heap.size 0 c ls _ h0 h31 (by simp) ?_ (fun p hp => (hsl p hp).alloc _) hlen
  intro j u hu
  exact cells_laid W (ls.map (·.1)) 29 j u.1 (by rw [List.getElem?_map, hu]; rfl)

theorem Makes.behind {w w1 : World} {l : List UInt8} {e : Ending} {w' : World} (h : Makes w1 l e w') (hb : Below w.heap.size w w1) : Makes w l e w' := by
  obtain ⟨v3, rfl, ⟨a1, a2⟩, hb3⟩ := h
  have hs := hb.size
  refine ⟨v3, rfl, ⟨a1, ?_⟩, hb.trans (hb3.mono hs)⟩
  rcases a2 with a2 | ⟨g, cap, cur, a3, a4, a5⟩
  · exact .inl a2
  · exact .inr ⟨g, cap, cur, a3, by omega, a5⟩

set_option maxRecDepth 100000 in
set_option maxHeartbeats 400000 in
theorem fput_any (v1 v2 : Value) (a p : List UInt8) (w : World) (h1 : Sl bv w v1 a) (h2 : Sl bv w v2 p) (hp : p.length < 16777216) (ha : a.length ≤ 140737400000000) :
    Calls Try.prog 18 #[v1, v2] w (Makes w (a ++ frameB p)) := by
  have H1 := Lib.hid h1
  have H2 := Lib.hid h2
  obtain ⟨A1, c1, rfl⟩ := h1.form
  obtain ⟨A2, c2, rfl⟩ := h2.form
  clear h1 h2
  go_enter Try.func18, Try.ntmps18
  go_wp2_with fail
  refine (head_any p.length w hp).mono ?_
  rintro e w1 ⟨v3, rfl, hs3, hb3⟩
  have HS3 := Lib.hid hs3
  have HB3 := Lib.hid hb3
  obtain ⟨A3, c3, rfl⟩ := hs3.form
  clear hs3 hb3
  go_wp2_with fail
  refine (of_any _ p w1 (H2.out.below HB3.out) (by omega)).mono ?_
  rintro e w2 ⟨he, hb4⟩
  subst he
  have HB4 := Lib.hid (HB3.out.trans (hb4.mono HB3.out.size))
  have HS4 := Lib.hid (HS3.out.below hb4)
  clear hb4
  go_wp2_with fail
  refine (bytes_any (crcOf p) w2).mono ?_
  rintro e w3 ⟨v5, rfl, hs5, hb5⟩
  have HB5 := Lib.hid (HB4.out.trans (hb5.mono HB4.out.size))
  have HS5 := Lib.hid hs5
  have HS6 := Lib.hid (HS4.out.below hb5)
  obtain ⟨A5, c5, rfl⟩ := hs5.form
  clear hs5 hb5
  go_wp2_with fail
  have hfl : flat [(.slice A1 a.length c1, a), (.slice A3 (headB p.length).length c3, headB p.length), (.slice A2 p.length c2, p), (.slice A5 (leB (crcOf p)).length c5, leB (crcOf p))] = a ++ frameB p := by simp [flat, frameB]
  refine (concat_laid w3 [(.slice A1 a.length c1, a), (.slice A3 (headB p.length).length c3, headB p.length), (.slice A2 p.length c2, p), (.slice A5 (leB (crcOf p)).length c5, leB (crcOf p))] 4 4 rfl (by omega) (by omega) _ rfl ?_ (by rw [hfl, List.length_append, frameB_length]; omega)).mono ?_
  · intro q hq
    simp only [List.mem_cons, List.not_mem_nil, or_false] at hq
    rcases hq with rfl | rfl | rfl | rfl
    · exact H1.out.below HB5.out
    · exact HS6.out
    · exact H2.out.below HB5.out
    · exact HS5.out
  · intro e w' H
    rw [hfl] at H
    have H' := H.behind (HB5.out.alloc HB5.out.size _)
    obtain ⟨v, rfl, ho, hb⟩ := H'
    have HO := Lib.hid ho
    clear ho H hfl
    go_wp2
    go_ret
    exact ⟨_, rfl, HO.out, hb⟩

set_option maxRecDepth 100000 in
set_option maxHeartbeats 1000000 in
theorem rput_any (v1 v2 : Value) (a p : List UInt8) (w : World) (h1 : Sl bv w v1 a) (h2 : Sl bv w v2 p) (hp : p.length < 16777216) (ha : a.length ≤ 140737400000000) :
    Calls Try.prog 27 #[v1, v2] w (Makes w (a ++ frameB p)) := by
  have H1 := Lib.hid h1
  have H2 := Lib.hid h2
  obtain ⟨A1, c1, rfl⟩ := h1.form
  obtain ⟨A2, c2, rfl⟩ := h2.form
  clear h1 h2
  obtain ⟨H, hH⟩ : ∃ H, H = headB p.length := ⟨_, rfl⟩
  obtain ⟨L, hL⟩ : ∃ L, L = leB (crcOf p) := ⟨_, rfl⟩
  have hH4 : H.length = 4 := by rw [hH, headB_length]
  have hL4 : L.length = 4 := by rw [hL, leB_length]
  obtain ⟨G, hG⟩ : ∃ G, G = a ++ frameB p := ⟨_, rfl⟩
  have hF : a ++ (H ++ p) ++ L = G := by rw [hG, hH, hL]; simp [frameB]
  rw [← hG]
  have HF := Lib.hid hF
  have hrh := rhead_any p.length w hp
  have hrb := fun w => rbytes_any (crcOf p) w
  rw [← hH] at hrh
  rw [← hL] at hrb
  have HRH := Lib.hid hrh
  have HRB := Lib.hid hrb
  have HH4 := Lib.hid hH4
  have HL4 := Lib.hid hL4
  clear hrh hrb hH hL hF hH4 hL4 hG
  go_enter Try.func27, Try.ntmps27
  go_wp2_with fail
  refine HRH.out.mono ?_
  rintro e w1 ⟨v3, rfl, ho3, hb3⟩
  obtain ⟨v4, w4, hr4, ho4, hb4⟩ := append_more w w1 v3 H ho3 hb3 _ p (H2.out.below hb3) (by rw [HH4.out]; omega)
  obtain ⟨A3, c3, rfl⟩ := (Sl.of_own ho3).form
  obtain ⟨B, hB⟩ : ∃ B, B = H ++ p := ⟨_, rfl⟩
  have hBl : B.length = 4 + p.length := by rw [hB, List.length_append, HH4.out]
  have hF2 := HF.out
  rw [← hB] at ho4 hF2
  have HF2 := Lib.hid hF2
  clear hF2
  have HR4 := Lib.hid hr4
  have HS4 := Lib.hid (Sl.of_own ho4)
  have HB4 := Lib.hid hb4
  have HBl := Lib.hid hBl
  clear hr4 ho4 hb4 ho3 hb3 hB hBl
  obtain ⟨A4, c4, rfl⟩ := HS4.out.form
  obtain ⟨v6, w6, hr6, ho6, hb6⟩ := append_fresh w4 (.slice A1 a.length c1) a (H1.out.below HB4.out) (by omega)
  have HR6 := Lib.hid hr6
  obtain ⟨v7, w7, hr7, ho7, hb7⟩ := append_more w4 w6 v6 a ho6 hb6 _ B (HS4.out.below hb6) (by rw [HBl.out]; omega)
  obtain ⟨A6, c6, rfl⟩ := (Sl.of_own ho6).form
  obtain ⟨C, hC⟩ : ∃ C, C = a ++ B := ⟨_, rfl⟩
  have hCl : C.length = a.length + 4 + p.length := by rw [hC, List.length_append, HBl.out]; omega
  have hF3 := HF2.out
  rw [← hC] at ho7 hF3
  have HF3 := Lib.hid hF3
  clear hF3
  have HR7 := Lib.hid hr7
  have HO7 := Lib.hid ho7
  have HB7 := Lib.hid hb7
  have HCl := Lib.hid hCl
  clear hr6 ho6 hb6 hr7 ho7 hb7 hC hCl
  obtain ⟨A7, c7, rfl⟩ := (Sl.of_own HO7.out).form
  have HBW := Lib.hid (HB4.out.trans (HB7.out.mono HB4.out.size))
  go_wp2_with (first
    | (at_builtin; refine Lib.wpList_append_run (o := ⟨some 10, _, _, _, _, _⟩) _ rfl _ _ _ _ rfl _ _ rfl rfl _ _ HR4.out ?_)
    | (at_builtin; refine Lib.wpList_append_run (o := ⟨some 13, _, _, _, _, _⟩) _ rfl _ _ _ _ rfl _ _ rfl rfl _ _ HR6.out ?_)
    | (at_builtin; refine Lib.wpList_append_run (o := ⟨some 15, _, _, _, _, _⟩) _ rfl _ _ _ _ rfl _ _ rfl rfl _ _ HR7.out ?_)
    | fail)
  refine (rof_any _ p w7 (H2.out.below HBW.out) (by omega)).mono ?_
  rintro e w' ⟨he, rfl⟩
  subst he
  go_wp2_with fail
  refine (HRB.out w7).mono ?_
  rintro e w8 ⟨v8, rfl, hs8, hb8⟩
  obtain ⟨A8, c8, rfl⟩ := hs8.form
  obtain ⟨v9, w9, hr9, ho9, hb9⟩ := append_more w4 w8 _ C (HO7.out.kept (row := none) ⟨hb8.os, hb8.tape, hb8.output, hb8.size, fun i hi _ => hb8.block i hi⟩ (by cases A7 <;> simp [Value.ownBlock])) (HB7.out.trans (hb8.mono HB7.out.size)) _ L hs8 (by rw [HCl.out, HL4.out]; omega)
  have HR9 := Lib.hid hr9
  rw [HF3.out] at ho9
  have HO9 := Lib.hid (Makes.behind ⟨v9, rfl, ho9, hb9⟩ HB4.out)
  clear hr9 ho9 hb9 hs8 hb8
  obtain ⟨v, hv, hO, hB⟩ := HO9.out
  injection hv with hv
  subst hv
  have HO := Lib.hid hO
  have HBF := Lib.hid hB
  clear hO hB
  go_wp2_with (at_builtin; refine Lib.wpList_append_run (o := ⟨some 19, _, _, _, _, _⟩) _ rfl _ _ _ _ rfl _ _ rfl rfl _ _ HR9.out ?_)
  go_ret
  exact ⟨_, rfl, HO.out, HBF.out⟩

end Go.Proofs.Ytalaidlnhoonfaa.Fr

namespace Go.Proofs.Ytalaidlnhoonfaa.Fr
open Go.RowKit

theorem sizeU : (Try.prog.info? 5).map (·.size) = some 1 := by kernel_rfl
/-- What Take hands back. -/
def Took (w : World) (t : List UInt8 × Nat × Nat) (e : Ending) (w' : World) : Prop := ∃ v, e = .returned (.tuple #[v, .int .i64 t.2.1, .int .i64 t.2.2]) ∧ w'.ownsRow w.heap.size 5 1 v t.1.length (bs t.1) ∧ Below w.heap.size w w'

theorem three (b : List UInt8) (h : ¬ b.length < 4) : ∃ x y z t, b = x :: y :: z :: t ∧ 1 ≤ t.length := by
  match b with
  | x :: y :: z :: t => exact ⟨x, y, z, t, rfl, by simp at h; omega⟩
  | [] => simp at h
  | [_] => simp at h
  | [_, _] => simp at h

theorem i64_or_nat (a b : Nat) (ha : a < 1073741824) (hb : b < 1073741824) : bits .or .i64 (a : Int) (b : Int) = ((a ||| b : Nat) : Int) := by
  have hx : a ||| b < 2 ^ 30 := Nat.or_lt_two_pow (by omega) (by omega)
  have h1 : (BitVec.ofInt 64 (a : Int)).toNat = a := by rw [BitVec.ofInt_natCast, BitVec.toNat_ofNat]; exact Nat.mod_eq_of_lt (by omega)
  have h2 : (BitVec.ofInt 64 (b : Int)).toNat = b := by rw [BitVec.ofInt_natCast, BitVec.toNat_ofNat]; exact Nat.mod_eq_of_lt (by omega)
  show IntKind.i64.wrap ((BitVec.ofInt 64 (a : Int) ||| BitVec.ofInt 64 (b : Int)).toNat : Int) = _
  rw [BitVec.toNat_or, h1, h2, IntKind.wrap_i64]
  omega
theorem or3 (x y z : Nat) (hx : x < 256) (hy : y < 256) (hz : z < 256) : bits .or .i64 (bits .or .i64 (x : Int) ((y : Int) * 256)) ((z : Int) * 65536) = ((x + 256 * y + 65536 * z : Nat) : Int) := by
  rw [show ((y : Int) * 256) = ((y * 256 : Nat) : Int) by omega, show ((z : Int) * 65536) = ((z * 65536 : Nat) : Int) by omega, i64_or_nat _ _ (by omega) (by omega)]
  rw [nat_join8' (y * 256) x (by omega) (by omega), i64_or_nat _ _ (by omega) (by omega), nat_join16' (z * 65536) _ (by omega) (by omega)]
  congr 1
  omega
/-- A slice's first part, where its place is known. -/
theorem _root_.Go.Proofs.Ytalaidlnhoonfaa.Sl.hi_at {α : Type} {f : α → Value} {w : World} {b o n c : Nat} {l : List α} (h : Sl f w (.slice (some ⟨b, o, none⟩) n c) l) (k : Nat) (hk : k ≤ n) : Sl f w (.slice (some ⟨b, o, none⟩) k c) (l.take k) := by
  have := h.hi k hk
  have e : slA (some ⟨b, o, none⟩) c 0 = some ⟨b, o, none⟩ := by
    unfold slA
    split
    · rfl
    · simp [Addr.add]
  rwa [e] at this
theorem _root_.Go.Proofs.Ytalaidlnhoonfaa.Sl.part_at {α : Type} {f : α → Value} {w : World} {b o n c : Nat} {l : List α} (h : Sl f w (.slice (some ⟨b, o, none⟩) n c) l) (lo hi : Nat) (hlo : lo ≤ hi) (hhi : hi ≤ n) (hc : lo < c) : Sl f w (.slice (some ⟨b, o + lo, none⟩) (hi - lo) (c - lo)) ((l.take hi).drop lo) := by
  have := h.part lo hi hlo hhi
  have e : slA (some ⟨b, o, none⟩) c lo = some ⟨b, o + lo, none⟩ := by
    unfold slA
    rw [if_neg (by omega)]
    simp [Addr.add_lit]
  rwa [e] at this
theorem below_drewN (w : World) (n : Nat) : Below w.heap.size w (w.drewN n) := ⟨rfl, rfl, rfl, Nat.le_refl _, fun _ _ => rfl⟩
theorem own_le {w : World} {B B' : Nat} {e : TypeId} {v : Value} {n : Nat} {xs : List Value} (h : w.ownsRow B e 1 v n xs) (hB : B' ≤ B) : w.ownsRow B' e 1 v n xs :=
  ⟨h.1, h.2.elim Or.inl fun ⟨g, cap, cur, hv, hg, r⟩ => Or.inr ⟨g, cap, cur, hv, Nat.le_trans hB hg, r⟩⟩
theorem take_drop4 (b : List UInt8) (n : Nat) : (b.take (4 + n)).drop 4 = (b.drop 4).take n := by
  rw [List.drop_take]; congr 1; omega
theorem take_drop8 (b : List UInt8) (n : Nat) : (b.take (n + 8)).drop (4 + n) = (b.drop (n + 4)).take 4 := by
  rw [List.drop_take, Nat.add_comm 4 n]; congr 1; omega

set_option maxRecDepth 100000 in
set_option maxHeartbeats 1000000 in
theorem ftake_any (v : Value) (b : List UInt8) (w : World) (h : Sl bv w v b) (hlen : b.length ≤ 140737400000000) : Calls Try.prog 46 #[v] w (Took w (takeF b)) := by
  have HS := Lib.hid h
  obtain ⟨A, c, rfl, hlc, hcell⟩ := h.at_
  by_cases h4 : b.length < 4
  · have ht : takeF b = ([], 0, 2) := by unfold takeF; rw [if_pos h4]
    rw [ht]
    clear hcell h ht
    go_enter Try.func46, Try.ntmps46
    go_wp2
    go_ret3
    exact ⟨_, rfl, World.ownsRow_nil _ _ _ _, Below.refl _ _⟩
  · obtain ⟨b0, o, rfl, hb0, hc⟩ := hcell 0 (by omega)
    obtain ⟨x, y, z, t, hb, ht⟩ := three b h4
    have hc0 := hc 0 x (by rw [hb]; rfl)
    have hc1 := hc 1 y (by rw [hb]; rfl)
    have hc2 := hc 2 z (by rw [hb]; rfl)
    have hn : lenB b = x.toNat + 256 * y.toNat + 65536 * z.toNat := by rw [hb]; rfl
    have hx := x.toNat_lt
    have hy := y.toNat_lt
    have hz := z.toNat_lt
    unfold bv at hc0 hc1 hc2
    rw [Nat.add_zero] at hc0
    have HN := Lib.hid hn
    clear hn hc hcell h hb
    generalize x.toNat = x at *
    generalize y.toNat = y at *
    generalize z.toNat = z at *
    go_enter Try.func46, Try.ntmps46
    go_upto_region 3 with fail
    go_cut [5] (fun n wx => n = .int .i64 (lenB b) ∧ ∃ k, wx = w.drewN k)
    case first =>
      go_quiet (fail)
      go_wp2_with fail
      go_meet
      exact ⟨by rw [or3 x y z hx hy hz, HN.out], _, rfl⟩
    case rest =>
      obtain ⟨rfl, nq, rfl⟩ := hcut
      have hnl := lenB_lt b
      have HT : Hid (takeF b = if headB (lenB b) ≠ b.take 4 then ([], 0, 7) else if 1048576 < lenB b then ([], 0, 3) else if b.length < lenB b + 8 then ([], 0, 2) else if leB (crcOf ((b.drop 4).take (lenB b))) ≠ (b.drop (lenB b + 4)).take 4 then ([], 0, 7) else ((b.drop 4).take (lenB b), lenB b + 8, 0)) := Lib.hid (by unfold takeF; rw [if_neg h4])
      have hp4 := HS.out.hi_at 4 (by omega)
      have HP := Lib.hid hp4
      clear hp4 hc0 hc1 hc2 HN
      generalize hN : lenB b = N at *
      clear hN
      go_upto_region 4 with fail
      go_cut [33] (fun q wx => q = .bool (!eqB (b.take 4) (headB N)) ∧ Below w.heap.size w wx)
      case first =>
        go_region_with (first
          | (go_at_call 34; refine (head_any N _ hnl).mono ?_; rintro e w2 ⟨v2, rfl, hs2, hb2⟩; have HS2 := Lib.hid hs2; have HB2 := Lib.hid hb2; clear hs2 hb2)
          | (go_at_call 73; refine (equal_any _ _ (b.take 4) (headB N) w2 (Sl.below (w := (w.drewN nq).drew) HP.out HB2.out) HS2.out).mono ?_; rintro e w' ⟨rfl, rfl⟩))
        all_goals go_wp2_with fail
        all_goals go_meet
        all_goals exact ⟨rfl, (below_drewN w (nq + 1)).trans HB2.out⟩
      case rest =>
        obtain ⟨rfl, hb2⟩ := hcut
        cases he : eqB (b.take 4) (headB N)
        · have ht : takeF b = ([], 0, 7) := by rw [HT.out, if_pos (fun e => (eqB_false _ _).1 he e.symm)]
          have HT2 := Lib.hid ht
          clear ht
          go_wp2
          go_ret3
          rw [HT2.out]
          exact ⟨_, rfl, World.ownsRow_nil _ _ _ _, hb2⟩
        · have he2 := ((eqB_true _ _).1 he).symm
          have HE := Lib.hid he2
          clear he2 he
          by_cases hbig : 1048576 < N
          · have ht : takeF b = ([], 0, 3) := by rw [HT.out, if_neg (by simp [HE.out]), if_pos hbig]
            have HT2 := Lib.hid ht
            clear ht
            go_wp2
            go_ret3
            rw [HT2.out]
            exact ⟨_, rfl, World.ownsRow_nil _ _ _ _, hb2⟩
          · have hsz : sizeF (N : Int) = (N : Int) + 8 := by unfold sizeF; rw [if_neg (by omega)]
            by_cases hshort : b.length < N + 8
            · have ht : takeF b = ([], 0, 2) := by rw [HT.out, if_neg (by simp [HE.out]), if_neg hbig, if_pos hshort]
              have HT2 := Lib.hid ht
              clear ht
              go_wp2_with fail
              refine (size_any N _).mono ?_
              rintro e w' ⟨rfl, rfl⟩
              rw [hsz]
              clear hsz
              go_wp2
              go_ret3
              rw [HT2.out]
              exact ⟨_, rfl, World.ownsRow_nil _ _ _ _, hb2⟩
            · have hc9 := HS.out.len.2
              have hpa := HS.out.part_at 4 (4 + N) (by omega) (by omega) (by omega)
              have hpb := HS.out.part_at (4 + N) (N + 8) (by omega) (by omega) (by omega)
              rw [take_drop4] at hpa
              rw [take_drop8] at hpb
              rw [show 4 + N - 4 = N by omega] at hpa
              have HPA := Lib.hid (hpa.below hb2)
              have HPB := Lib.hid (hpb.below hb2)
              clear hpa hpb
              go_wp2_with fail
              refine (size_any N _).mono ?_
              rintro e w' ⟨rfl, rfl⟩
              rw [hsz]
              clear hsz
              go_wp2_with fail
              have e1 : ¬ c = 4 := by omega
              have e2 : ¬ c = 4 + N := by omega
              go_quiet (fail)
              go_wp2_with fail
              obtain ⟨p, hp⟩ : ∃ p, p = (b.drop 4).take N := ⟨_, rfl⟩
              have hpl : p.length ≤ 1048576 := by rw [hp, List.length_take]; omega
              have HPA2 : Hid (Sl bv wc (.slice (some ⟨b0, o + 4, none⟩) N (c - 4)) p) := Lib.hid (by rw [hp]; exact HPA.out)
              have HPP := Lib.hid hp
              have HBW := Lib.hid hb2
              clear hp e1 e2 hb2 HPA
              refine (of_any _ p _ (Sl.below (w := wc) HPA2.out (below_drewN wc _)) (by omega)).mono ?_
              rintro e w3 ⟨he, hb3⟩
              subst he
              have HB3 := Lib.hid ((below_drewN wc _).trans hb3)
              clear hb3
              go_wp2_with fail
              refine (bytes_any (crcOf p) w3).mono ?_
              rintro e w4 ⟨v4, rfl, hs4, hb4⟩
              have HB4 := Lib.hid (HB3.out.trans (hb4.mono HB3.out.size))
              have HS4 := Lib.hid hs4
              obtain ⟨A4, c4, rfl⟩ := hs4.form
              clear hs4 hb4
              go_wp2_with fail
              refine (equal_any _ _ ((b.drop (N + 4)).take 4) (leB (crcOf p)) w4 (HPB.out.below HB4.out) HS4.out).mono ?_
              rintro e w' ⟨rfl, rfl⟩
              cases hq : eqB ((b.drop (N + 4)).take 4) (leB (crcOf p))
              · have ht : takeF b = ([], 0, 7) := by
                  rw [HT.out, if_neg (by simp [HE.out]), if_neg hbig, if_neg hshort, ← HPP.out, if_pos (fun e => (eqB_false _ _).1 hq e.symm)]
                have HT2 := Lib.hid ht
                clear ht hq
                go_wp2
                go_ret3
                rw [HT2.out]
                exact ⟨_, rfl, World.ownsRow_nil _ _ _ _, HBW.out.trans (HB4.out.mono HBW.out.size)⟩
              · have ht : takeF b = (p, N + 8, 0) := by
                  have := (eqB_true _ _).1 hq
                  rw [HT.out, if_neg (by simp [HE.out]), if_neg hbig, if_neg hshort, ← HPP.out, if_neg (by simp [this])]
                have HT2 := Lib.hid ht
                clear ht hq
                go_wp2_with fail
                refine (bclone_any _ p w4 (HPA2.out.below HB4.out) (by omega)).mono ?_
                rintro e w5 ⟨v5, rfl, hs5, hb5⟩
                have hs6 := own_le hs5 (HBW.out.trans (HB4.out.mono HBW.out.size)).size
                have HS5 := Lib.hid hs6
                have HB5 := Lib.hid (HB4.out.trans (hb5.mono HB4.out.size))
                clear hs5 hs6 hb5
                go_wp2
                go_ret3
                rw [HT2.out]
                exact ⟨_, rfl, HS5.out, HBW.out.trans (HB5.out.mono HBW.out.size)⟩

end Go.Proofs.Ytalaidlnhoonfaa.Fr

namespace Go.Proofs.Ytalaidlnhoonfaa.Fr
open Go.RowKit

/-- The payload of one frame, and what is wrong. -/
def wholeF (b : List UInt8) : List UInt8 × Nat := if (takeF b).2.2 ≠ 0 then ([], (takeF b).2.2) else if (takeF b).2.1 < b.length then ([], 2) else ((takeF b).1, 0)

set_option maxRecDepth 100000 in
set_option maxHeartbeats 2000000 in
theorem whole_any (v : Value) (b : List UInt8) (w : World) (h : Sl bv w v b) (hlen : b.length ≤ 140737400000000) : Calls Try.prog 24 #[v] w fun e w' =>
    ∃ u, e = .returned (.tuple #[u, .int .i64 (wholeF b).2]) ∧ w'.ownsRow w.heap.size 5 1 u (wholeF b).1.length (bs (wholeF b).1) ∧ Below w.heap.size w w' := by
  have HF : Hid (wholeF b = if (takeF b).2.2 ≠ 0 then ([], (takeF b).2.2) else if (takeF b).2.1 < b.length then ([], 2) else ((takeF b).1, 0)) := Lib.hid rfl
  have HS := Lib.hid h
  have HL := Lib.hid hlen
  obtain ⟨A, c, rfl⟩ := h.form
  obtain ⟨n, hn⟩ : ∃ n, b.length = n := ⟨_, rfl⟩
  rw [hn] at HS HF ⊢
  clear h hlen hn
  go_enter Try.func24, Try.ntmps24
  go_wp2_with fail
  refine (ftake_any _ b w HS.out HL.out).mono ?_
  rintro e w1 ⟨u, rfl, ho, hb⟩
  obtain ⟨t, ht⟩ : ∃ t, takeF b = t := ⟨_, rfl⟩
  obtain ⟨p, z, x⟩ := t
  rw [ht] at ho HF ⊢
  dsimp only at ho HF ⊢
  have HO := Lib.hid ho
  have HB := Lib.hid hb
  clear ho hb ht
  by_cases hx : x = 0
  · subst hx
    by_cases hz : z < n
    · rw [if_neg (by decide), if_pos hz] at HF
      have d2 : decide ((z : Int) < (n : Int)) = true := decide_eq_true (by omega)

      go_wp2
      go_ret2
      exact ⟨_, by rw [HF.out]; rfl, by rw [HF.out]; exact World.ownsRow_nil _ _ _ _, HB.out⟩
    · rw [if_neg (by decide), if_neg hz] at HF
      have d2 : decide ((z : Int) < (n : Int)) = false := decide_eq_false (by omega)

      go_wp2
      go_ret2
      exact ⟨_, by rw [HF.out]; rfl, by rw [HF.out]; exact HO.out, HB.out⟩
  · rw [if_pos hx] at HF
    have d1 : ((x : Int) == 0) = false := by rw [beq_eq_false_iff_ne]; omega
    clear hx
    go_wp2
    go_ret2
    exact ⟨_, by rw [HF.out]; rfl, by rw [HF.out]; exact World.ownsRow_nil _ _ _ _, HB.out⟩

end Go.Proofs.Ytalaidlnhoonfaa.Fr

namespace Go.Proofs.Ytalaidlnhoonfaa.Fr
open Go.RowKit

/-- What the reference's Take hands back: a part of what came in. -/
def RTook (w : World) (v : Value) (b : List UInt8) (t : List UInt8 × Nat × Nat) (e : Ending) (w' : World) : Prop := ∃ A n c, e = .returned (.tuple #[.slice A n c, .int .i64 t.2.1, .int .i64 t.2.2]) ∧ (∀ w0, Sl bv w0 v b → Sl bv w0 (.slice A n c) t.1) ∧ Below w.heap.size w w'
theorem take_drop8r (b : List UInt8) (n : Nat) : (b.take (n + 8)).drop (n + 4) = (b.drop (n + 4)).take 4 := by
  rw [Nat.add_comm n 4, take_drop8, Nat.add_comm n 4]

set_option maxRecDepth 100000 in
set_option maxHeartbeats 4000000 in
theorem rtake_any (v : Value) (b : List UInt8) (w : World) (h : Sl bv w v b) (hlen : b.length ≤ 140737400000000) : Calls Try.prog 29 #[v] w (RTook w v b (takeF b)) := by
  have HS := Lib.hid h
  obtain ⟨A, c, rfl, hlc, hcell⟩ := h.at_
  by_cases h4 : b.length < 4
  · have ht : takeF b = ([], 0, 2) := by unfold takeF; rw [if_pos h4]
    rw [ht]
    clear hcell h ht
    go_enter Try.func29, Try.ntmps29
    go_wp2
    go_ret3
    exact ⟨none, 0, 0, rfl, fun _ _ => Sl.nil_ _ _, Below.refl _ _⟩
  · obtain ⟨b0, o, rfl, hb0, hc⟩ := hcell 0 (by omega)
    obtain ⟨x, y, z, t, hb, ht⟩ := three b h4
    have hc0 := hc 0 x (by rw [hb]; rfl)
    have hc1 := hc 1 y (by rw [hb]; rfl)
    have hc2 := hc 2 z (by rw [hb]; rfl)
    have hn : lenB b = x.toNat + 256 * y.toNat + 65536 * z.toNat := by rw [hb]; rfl
    have hx := x.toNat_lt
    have hy := y.toNat_lt
    have hz := z.toNat_lt
    unfold bv at hc0 hc1 hc2
    rw [Nat.add_zero] at hc0
    have HN := Lib.hid hn
    clear hn hc hcell h hb
    generalize x.toNat = x at *
    generalize y.toNat = y at *
    generalize z.toNat = z at *
    have s1 : IntKind.i64.wrap (256 * (y : Int)) = 256 * (y : Int) := IntWalk.i64_in _ (by omega)
    have s2 : IntKind.i64.wrap ((x : Int) + 256 * (y : Int)) = (x : Int) + 256 * (y : Int) := IntWalk.i64_in _ (by omega)
    have s3 : IntKind.i64.wrap (65536 * (z : Int)) = 65536 * (z : Int) := IntWalk.i64_in _ (by omega)
    have s4 : IntKind.i64.wrap ((x : Int) + 256 * (y : Int) + 65536 * (z : Int)) = (x : Int) + 256 * (y : Int) + 65536 * (z : Int) := IntWalk.i64_in _ (by omega)
    go_enter Try.func29, Try.ntmps29
    go_upto_region 3 with fail
    go_cut [5] (fun n wx => n = .int .i64 (lenB b) ∧ ∃ k, wx = w.drewN k)
    case first =>
      go_quiet (fail)
      go_wp2_with fail
      go_meet
      exact ⟨by rw [HN.out]; go_num, _, rfl⟩
    case rest =>
      clear s1 s2 s3 s4
      obtain ⟨rfl, nq, rfl⟩ := hcut
      have hnl := lenB_lt b
      have HT : Hid (takeF b = if headB (lenB b) ≠ b.take 4 then ([], 0, 7) else if 1048576 < lenB b then ([], 0, 3) else if b.length < lenB b + 8 then ([], 0, 2) else if leB (crcOf ((b.drop 4).take (lenB b))) ≠ (b.drop (lenB b + 4)).take 4 then ([], 0, 7) else ((b.drop 4).take (lenB b), lenB b + 8, 0)) := Lib.hid (by unfold takeF; rw [if_neg h4])
      have hp4 := HS.out.hi_at 4 (by omega)
      have HP := Lib.hid hp4
      clear hp4 hc0 hc1 hc2 HN
      generalize hN : lenB b = N at *
      clear hN
      go_upto_region 4 with fail
      go_cut [31] (fun q wx => q = .bool (!eqB (headB N) (b.take 4)) ∧ Below w.heap.size w wx)
      case first =>
        have r4 := run_string_sl (P := Try.prog) (w.drewN (nq + 1)) 29 9 5 Try.underlying29 Try.underlying5 Try.underlying9 _ _ (HP.out : Sl bv (w.drewN (nq + 1)) _ _)
        go_region_with (first
          | (go_at_call 50; refine (rhead_any N _ hnl).mono ?_; rintro e w2 ⟨v2, rfl, ho2, hb2⟩; have r2 := run_string_sl (P := Try.prog) w2 29 9 5 Try.underlying29 Try.underlying5 Try.underlying9 v2 _ (Sl.of_own ho2); have r4' := run_string_sl (P := Try.prog) w2 29 9 5 Try.underlying29 Try.underlying5 Try.underlying9 _ _ (Sl.below (w := w.drewN (nq + 1)) HP.out hb2); have HB2 := Lib.hid hb2; clear ho2 hb2))
        all_goals go_wp2_with fail
        all_goals go_meet
        all_goals exact ⟨by simp [eqB], (below_drewN w (nq + 1)).trans HB2.out⟩
      case rest =>
        obtain ⟨rfl, hb2⟩ := hcut
        cases he : eqB (headB N) (b.take 4)
        · have ht : takeF b = ([], 0, 7) := by rw [HT.out, if_pos ((eqB_false _ _).1 he)]
          have HT2 := Lib.hid ht
          clear ht
          go_wp2
          go_ret3
          rw [HT2.out]
          exact ⟨none, 0, 0, rfl, fun _ _ => Sl.nil_ _ _, hb2⟩
        · have he2 := (eqB_true _ _).1 he
          have HE := Lib.hid he2
          clear he2 he
          by_cases hbig : 1048576 < N
          · have ht : takeF b = ([], 0, 3) := by rw [HT.out, if_neg (by simp [HE.out]), if_pos hbig]
            have HT2 := Lib.hid ht
            clear ht
            go_wp2
            go_ret3
            rw [HT2.out]
            exact ⟨none, 0, 0, rfl, fun _ _ => Sl.nil_ _ _, hb2⟩
          · by_cases hshort : b.length < N + 8
            · have ht : takeF b = ([], 0, 2) := by rw [HT.out, if_neg (by simp [HE.out]), if_neg hbig, if_pos hshort]
              have HT2 := Lib.hid ht
              clear ht
              go_wp2
              go_ret3
              rw [HT2.out]
              exact ⟨none, 0, 0, rfl, fun _ _ => Sl.nil_ _ _, hb2⟩
            · have hc9 := HS.out.len.2
              have hpa := HS.out.part_at 4 (N + 4) (by omega) (by omega) (by omega)
              have hpb := HS.out.part_at (N + 4) (N + 8) (by omega) (by omega) (by omega)
              rw [show N + 4 - 4 = N by omega, Nat.add_comm N 4, take_drop4] at hpa
              rw [take_drop8r, show N + 8 - (N + 4) = 4 by omega] at hpb
              have HPA := Lib.hid (hpa.below hb2)
              have HPB := Lib.hid (hpb.below hb2)
              clear hpa hpb
              obtain ⟨p, hp⟩ : ∃ p, p = (b.drop 4).take N := ⟨_, rfl⟩
              have hpl : p.length ≤ 1048576 := by rw [hp, List.length_take]; omega
              have HPP := Lib.hid hp
              have HBW := Lib.hid hb2
              clear hp hb2
              have e1 : ¬ c = 4 := by omega
              have e2 : ¬ c = N + 4 := by omega
              go_upto_region 10 with fail
              have r5 := run_string_sl (P := Try.prog) wc.drew 29 9 5 Try.underlying29 Try.underlying5 Try.underlying9 _ _ (HPB.out : Sl bv wc.drew _ _)
              have hpa2 : Sl bv wc.drew (.slice (some ⟨b0, o + 4, none⟩) N (c - 4)) p := by rw [HPP.out]; exact HPA.out
              have hof := rof_any _ p wc.drew hpa2 (by omega)
              have HOF := Lib.hid hof
              have HPA2 := Lib.hid hpa2
              clear hof hpa2
              go_cut [53] (fun q wx => q = .bool (!eqB (leB (crcOf p)) ((b.drop (N + 4)).take 4)) ∧ Below w.heap.size w wx)
              case first =>
                have q1 : (0 : Int) ≤ (N : Int) + 4 := by omega
                have q2 : (0 : Int) ≤ (N : Int) + 8 := by omega
                have q3 : (4 : Int) ≤ (N : Int) + 4 := by omega
                have q4 : (N : Int) + 4 ≤ (N : Int) + 8 := by omega
                have q5 : (N : Int) + 4 ≤ (c : Int) := by omega
                have q6 : (N : Int) + 8 ≤ (c : Int) := by omega
                have q7 : 4 ≤ N + 4 := by omega
                have q8 : N + 4 ≤ c := by omega
                have q9 : N + 8 ≤ c := by omega
                have q10 : N + 4 ≤ N + 8 := by omega
                have t1 : IntKind.i64.wrap ((N : Int) + 4) = (N : Int) + 4 := IntWalk.i64_in _ (by omega)
                have t2 : IntKind.i64.wrap ((N : Int) + 8) = (N : Int) + 8 := IntWalk.i64_in _ (by omega)
                have t3 : ((N : Int) + 4).toNat = N + 4 := by omega
                have t4 : ((N : Int) + 8).toNat = N + 8 := by omega
                go_region_with (first
                  | (go_at_call 52; refine HOF.out.mono ?_; rintro e w' ⟨he, rfl⟩; subst he)
                  | (go_at_call 51; refine (rbytes_any (crcOf p) _).mono ?_; rintro e w4 ⟨v4, rfl, hs4, hb4⟩; have r6 := run_string_sl (P := Try.prog) w4 29 9 5 Try.underlying29 Try.underlying5 Try.underlying9 v4 _ hs4; have r7 := run_string_sl (P := Try.prog) w4 29 9 5 Try.underlying29 Try.underlying5 Try.underlying9 _ _ (Sl.below (w := wc.drew) HPB.out hb4); have HB4 := Lib.hid hb4; clear hs4 hb4))
                all_goals go_wp2_with fail
                all_goals go_meet
                all_goals exact ⟨by simp [eqB], HBW.out.trans (((Below.refl _ _).drew.trans HB4.out).mono HBW.out.size)⟩
              case rest =>
                clear r5
                obtain ⟨rfl, hb5⟩ := hcut
                cases hq : eqB (leB (crcOf p)) ((b.drop (N + 4)).take 4)
                · have ht : takeF b = ([], 0, 7) := by
                    rw [HT.out, if_neg (by simp [HE.out]), if_neg hbig, if_neg hshort, ← HPP.out, if_pos ((eqB_false _ _).1 hq)]
                  have HT2 := Lib.hid ht
                  clear ht hq
                  go_wp2
                  go_ret3
                  rw [HT2.out]
                  exact ⟨none, 0, 0, rfl, fun _ _ => Sl.nil_ _ _, hb5⟩
                · have ht : takeF b = (p, N + 8, 0) := by
                    have := (eqB_true _ _).1 hq
                    rw [HT.out, if_neg (by simp [HE.out]), if_neg hbig, if_neg hshort, ← HPP.out, if_neg (by simp [this])]
                  have HT2 := Lib.hid ht
                  clear ht hq
                  go_wp2
                  go_ret3
                  rw [HT2.out]
                  refine ⟨_, _, _, rfl, fun w0 h0 => ?_, hb5⟩
                  have h9 := h0.part_at 4 (N + 4) (by omega) (by omega) (by omega)
                  rw [show N + 4 - 4 = N by omega, Nat.add_comm N 4, take_drop4, ← HPP.out] at h9
                  exact h9

end Go.Proofs.Ytalaidlnhoonfaa.Fr
