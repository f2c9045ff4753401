/-
  frame.Put and the reference's Put: the contracts, by walks. Conditions: bounds on lengths.
-/
import Derived.Test.YtkdfedcmhcchiaaFrHead
namespace Go.Proofs.Ytkdfedcmhcchiaa
open Go.RowKit

/-- A block of slices, just laid, as a slice of them. -/
theorem cells_laid (w : World) (vs : List Value) (t : TypeId) : ∀ j u, vs[j]? = some u → (w.alloc (.cells vs.toArray t)).cell? ⟨w.heap.size, 0 + j, none⟩ = some u := by
  intro j u hu
  rw [(Blk.new w t vs.toArray).cell (0 + j)]
  simpa using hu

/-- slices.Concat of a block of slices that has just been laid. -/
theorem concat_laid (W : World) (ls : List (Value × List UInt8)) (n c : Nat) (hn : n = ls.length) (h0 : 0 < n) (h31 : n ≤ 1000) (cs : Array Value) (hcs : cs = (ls.map (·.1)).toArray)
    (hsl : ∀ p ∈ ls, Sl bv W p.1 p.2) (hlen : (flat ls).length ≤ 140737488355328) :
    Calls Try.prog 35 #[.slice (some ⟨W.heap.size, 0, none⟩) n c] (W.alloc (.cells cs 34)) (Makes (W.alloc (.cells cs 34)) (flat ls)) := by
  subst hn hcs
  refine concat_any W.heap.size 0 c ls _ h0 h31 (by simp) ?_ (fun p hp => (hsl p hp).alloc _) hlen
  intro j u hu
  exact cells_laid W (ls.map (·.1)) 34 j u.1 (by rw [List.getElem?_map, hu]; rfl)

theorem Makes.behind {w w1 : World} {l : List UInt8} {e : Ending} {w' : World} (h : Makes w1 l e w') (hb : Below w.heap.size w w1) : Makes w l e w' := by
  obtain ⟨v3, rfl, ⟨a1, a2⟩, hb3⟩ := h
  have hs := hb.size
  refine ⟨v3, rfl, ⟨a1, ?_⟩, hb.trans (hb3.mono hs)⟩
  rcases a2 with a2 | ⟨g, cap, cur, a3, a4, a5⟩
  · exact .inl a2
  · exact .inr ⟨g, cap, cur, a3, by omega, a5⟩

set_option maxHeartbeats 400000 in
theorem fput_any (v1 v2 : Value) (a p : List UInt8) (w : World) (h1 : Sl bv w v1 a) (h2 : Sl bv w v2 p) (hp : p.length < 16777216) (ha : a.length ≤ 140737400000000) :
    Calls Try.prog 34 #[v1, v2] w (Makes w (a ++ frameB p)) := by
  have H1 := Lib.hid h1
  have H2 := Lib.hid h2
  obtain ⟨A1, c1, rfl⟩ := h1.form
  obtain ⟨A2, c2, rfl⟩ := h2.form
  clear h1 h2
  go_enter Try.func34, Try.ntmps34
  go_wp2_with fail
  refine (head_any p.length w hp).mono ?_
  rintro e w1 ⟨v3, rfl, hs3, hb3⟩
  have HS3 := Lib.hid hs3
  have HB3 := Lib.hid hb3
  obtain ⟨A3, c3, rfl⟩ := hs3.form
  clear hs3 hb3
  go_wp2_with fail
  refine (of_any _ p w1 (H2.out.below HB3.out) (by omega)).mono ?_
  rintro e w2 ⟨he, hb4⟩
  subst he
  have HB4 := Lib.hid (HB3.out.trans (hb4.mono HB3.out.size))
  have HS4 := Lib.hid (HS3.out.below hb4)
  clear hb4
  go_wp2_with fail
  refine (bytes_any (crcOf p) w2).mono ?_
  rintro e w3 ⟨v5, rfl, hs5, hb5⟩
  have HB5 := Lib.hid (HB4.out.trans (hb5.mono HB4.out.size))
  have HS5 := Lib.hid hs5
  have HS6 := Lib.hid (HS4.out.below hb5)
  obtain ⟨A5, c5, rfl⟩ := hs5.form
  clear hs5 hb5
  go_wp2_with fail
  have hfl : flat [(.slice A1 a.length c1, a), (.slice A3 (headB p.length).length c3, headB p.length), (.slice A2 p.length c2, p), (.slice A5 (leB (crcOf p)).length c5, leB (crcOf p))] = a ++ frameB p := by simp [flat, frameB]
  refine (concat_laid w3 [(.slice A1 a.length c1, a), (.slice A3 (headB p.length).length c3, headB p.length), (.slice A2 p.length c2, p), (.slice A5 (leB (crcOf p)).length c5, leB (crcOf p))] 4 4 rfl (by omega) (by omega) _ rfl ?_ (by rw [hfl, List.length_append, frameB_length]; omega)).mono ?_
  · intro q hq
    simp only [List.mem_cons, List.not_mem_nil, or_false] at hq
    rcases hq with rfl | rfl | rfl | rfl
    · exact H1.out.below HB5.out
    · exact HS6.out
    · exact H2.out.below HB5.out
    · exact HS5.out
  · intro e w' H
    rw [hfl] at H
    have H' := H.behind (HB5.out.alloc HB5.out.size _)
    obtain ⟨v, rfl, ho, hb⟩ := H'
    have HO := Lib.hid ho
    clear ho H hfl
    go_wp2
    go_ret
    exact ⟨_, rfl, HO.out, hb⟩

set_option maxHeartbeats 1000000 in
theorem rput_any (v1 v2 : Value) (a p : List UInt8) (w : World) (h1 : Sl bv w v1 a) (h2 : Sl bv w v2 p) (hp : p.length < 16777216) (ha : a.length ≤ 140737400000000) :
    Calls Try.prog 14 #[v1, v2] w (Makes w (a ++ frameB p)) := by
  have H1 := Lib.hid h1
  have H2 := Lib.hid h2
  obtain ⟨A1, c1, rfl⟩ := h1.form
  obtain ⟨A2, c2, rfl⟩ := h2.form
  clear h1 h2
  obtain ⟨H, hH⟩ : ∃ H, H = headB p.length := ⟨_, rfl⟩
  obtain ⟨L, hL⟩ : ∃ L, L = leB (crcOf p) := ⟨_, rfl⟩
  have hH4 : H.length = 4 := by rw [hH, headB_length]
  have hL4 : L.length = 4 := by rw [hL, leB_length]
  obtain ⟨G, hG⟩ : ∃ G, G = a ++ frameB p := ⟨_, rfl⟩
  have hF : a ++ (H ++ p) ++ L = G := by rw [hG, hH, hL]; simp [frameB]
  rw [← hG]
  have HF := Lib.hid hF
  have hrh := rhead_any p.length w hp
  have hrb := fun w => rbytes_any (crcOf p) w
  rw [← hH] at hrh
  rw [← hL] at hrb
  have HRH := Lib.hid hrh
  have HRB := Lib.hid hrb
  have HH4 := Lib.hid hH4
  have HL4 := Lib.hid hL4
  clear hrh hrb hH hL hF hH4 hL4 hG
  go_enter Try.func14, Try.ntmps14
  go_wp2_with fail
  refine HRH.out.mono ?_
  rintro e w1 ⟨v3, rfl, ho3, hb3⟩
  obtain ⟨v4, w4, hr4, ho4, hb4⟩ := append_more w w1 v3 H ho3 hb3 _ p (H2.out.below hb3) (by rw [HH4.out]; omega)
  obtain ⟨A3, c3, rfl⟩ := (Sl.of_own ho3).form
  obtain ⟨B, hB⟩ : ∃ B, B = H ++ p := ⟨_, rfl⟩
  have hBl : B.length = 4 + p.length := by rw [hB, List.length_append, HH4.out]
  have hF2 := HF.out
  rw [← hB] at ho4 hF2
  have HF2 := Lib.hid hF2
  clear hF2
  have HR4 := Lib.hid hr4
  have HS4 := Lib.hid (Sl.of_own ho4)
  have HB4 := Lib.hid hb4
  have HBl := Lib.hid hBl
  clear hr4 ho4 hb4 ho3 hb3 hB hBl
  obtain ⟨A4, c4, rfl⟩ := HS4.out.form
  obtain ⟨v6, w6, hr6, ho6, hb6⟩ := append_fresh w4 (.slice A1 a.length c1) a (H1.out.below HB4.out) (by omega)
  have HR6 := Lib.hid hr6
  obtain ⟨v7, w7, hr7, ho7, hb7⟩ := append_more w4 w6 v6 a ho6 hb6 _ B (HS4.out.below hb6) (by rw [HBl.out]; omega)
  obtain ⟨A6, c6, rfl⟩ := (Sl.of_own ho6).form
  obtain ⟨C, hC⟩ : ∃ C, C = a ++ B := ⟨_, rfl⟩
  have hCl : C.length = a.length + 4 + p.length := by rw [hC, List.length_append, HBl.out]; omega
  have hF3 := HF2.out
  rw [← hC] at ho7 hF3
  have HF3 := Lib.hid hF3
  clear hF3
  have HR7 := Lib.hid hr7
  have HO7 := Lib.hid ho7
  have HB7 := Lib.hid hb7
  have HCl := Lib.hid hCl
  clear hr6 ho6 hb6 hr7 ho7 hb7 hC hCl
  obtain ⟨A7, c7, rfl⟩ := (Sl.of_own HO7.out).form
  have HBW := Lib.hid (HB4.out.trans (HB7.out.mono HB4.out.size))
  go_wp2_with (first
    | (at_builtin; refine Lib.wpList_append_run (o := ⟨some 10, _, _, _, _, _⟩) _ rfl _ _ _ _ rfl _ _ rfl rfl _ _ HR4.out ?_)
    | (at_builtin; refine Lib.wpList_append_run (o := ⟨some 13, _, _, _, _, _⟩) _ rfl _ _ _ _ rfl _ _ rfl rfl _ _ HR6.out ?_)
    | (at_builtin; refine Lib.wpList_append_run (o := ⟨some 15, _, _, _, _, _⟩) _ rfl _ _ _ _ rfl _ _ rfl rfl _ _ HR7.out ?_)
    | fail)
  refine (rof_any _ p w7 (H2.out.below HBW.out) (by omega)).mono ?_
  rintro e w' ⟨he, rfl⟩
  subst he
  go_wp2_with fail
  refine (HRB.out w7).mono ?_
  rintro e w8 ⟨v8, rfl, hs8, hb8⟩
  obtain ⟨A8, c8, rfl⟩ := hs8.form
  obtain ⟨v9, w9, hr9, ho9, hb9⟩ := append_more w4 w8 _ C (HO7.out.kept (row := none) ⟨hb8.os, hb8.tape, hb8.output, hb8.size, fun i hi _ => hb8.block i hi⟩ (by cases A7 <;> simp [Value.ownBlock])) (HB7.out.trans (hb8.mono HB7.out.size)) _ L hs8 (by rw [HCl.out, HL4.out]; omega)
  have HR9 := Lib.hid hr9
  rw [HF3.out] at ho9
  have HO9 := Lib.hid (Makes.behind ⟨v9, rfl, ho9, hb9⟩ HB4.out)
  clear hr9 ho9 hb9 hs8 hb8
  obtain ⟨v, hv, hO, hB⟩ := HO9.out
  injection hv with hv
  subst hv
  have HO := Lib.hid hO
  have HBF := Lib.hid hB
  clear hO hB
  go_wp2_with (at_builtin; refine Lib.wpList_append_run (o := ⟨some 19, _, _, _, _, _⟩) _ rfl _ _ _ _ rfl _ _ rfl rfl _ _ HR9.out ?_)
  go_ret
  exact ⟨_, rfl, HO.out, HBF.out⟩

end Go.Proofs.Ytkdfedcmhcchiaa
