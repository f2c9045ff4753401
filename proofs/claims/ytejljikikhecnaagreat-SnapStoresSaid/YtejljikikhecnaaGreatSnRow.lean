/-
  snap.layRow at entries, at events, at items: the contracts, by walks. Conditions: lengths.
-/
import Derived.Test.YtejljikikhecnaaGreatSnLay
import Derived.Test.YtejljikikhecnaaGreatNKe
namespace Go.Proofs.YtejljikikhecnaaGreat
open Go.RowKit Go.MapKept Go.Sort

def cN (q : Dt × Va) : Array Value := #[.int .i64 q.1.r, .int .i64 q.1.c, .int .i64 q.2.k, .int .i64 q.2.n, .string q.2.t]
def cI (y : El × Value) : Array Value := #[.int .i64 y.1.k, .string y.1.a, .string y.1.b, .string y.1.c, .string y.1.d, y.2]
def zN : Dt × Va := (⟨0, 0⟩, ⟨0, 0, ⟨#[]⟩⟩)
def zI : El × Value := (⟨0, ⟨#[]⟩, ⟨#[]⟩, ⟨#[]⟩, ⟨#[]⟩⟩, .slice none 0 0)
theorem zeroN : (Tryz.prog.info? 63).map (fun i => (i.zero, i.size)) = some (some (.agg (cN zN)), 5) := by kernel_rfl
theorem zeroI : (Tryz.prog.info? 61).map (fun i => (i.zero, i.size)) = some (some (.agg (cI zI)), 6) := by kernel_rfl
theorem sizeNn (q : Dt × Va) : (Tryz.prog.info? 63).map (·.size) = some (cN q).size := (zero_of_info zeroN).2
theorem sizeIi (y : El × Value) : (Tryz.prog.info? 61).map (·.size) = some (cI y).size := (zero_of_info zeroI).2
theorem cN_one (q : Dt × Va) : (cN q).all (·.oneCell') = true := by simp [cN, Value.oneCell']
theorem cE_one (e : Ev) : (evC e).all (·.oneCell') = true := by simp [evC, Value.oneCell']
theorem at_En (g o c n k : Nat) (h : k < n) (w : World) : (Instr.indexAt 59 (.slice (some ⟨g, o, none⟩) n c) (.int .i64 k)).run Tryz.prog w = .ok (.pointer (some ⟨g, o + k * 5, none⟩)) w := by
  have h2 : (k : Int) < n := by omega
  go_simp
theorem at_It (g o c n k : Nat) (h : k < n) (w : World) : (Instr.indexAt 24 (.slice (some ⟨g, o, none⟩) n c) (.int .i64 k)).run Tryz.prog w = .ok (.pointer (some ⟨g, o + k * 6, none⟩)) w := by
  have h2 : (k : Int) < n := by omega
  go_simp
theorem SlK.at_ {α : Type} {enc : α → List Value} {k : Nat} {w : World} {A : Option Addr} {n c j : Nat} {l : List α} {e : α} (h : SlK enc k w (.slice A n c) l) (hj : l[j]? = some e) : ∃ g o, A = some ⟨g, o, none⟩ ∧ g < w.heap.size ∧ w.rangeAt g (o + j * k) (enc e) := by
  obtain ⟨A', c', hv', _, hcells⟩ := h
  obtain ⟨g, o, rfl, hgl, hcell⟩ := hcells (fun e => by rw [e] at hj; cases hj)
  injection hv' with e1 e2 e3
  exact ⟨g, o, e1, hgl, hcell j e hj⟩
theorem grownBy_below {w w' : World} (hb : Below w.heap.size w w') (row : Option Nat) : w.grownBy w' row := ⟨hb.os, hb.tape, hb.output, hb.size, fun i hi _ => hb.block i hi⟩
theorem own_belowS {w w' : World} {B n : Nat} {e : TypeId} {v : Value} {xs : List Value} (h : w.ownsRow B e 1 v n xs) (hb : Below w.heap.size w w') : w'.ownsRow B e 1 v n xs :=
  h.kept (row := none) (grownBy_below hb none) (by cases hv : v.ownBlock <;> simp)
theorem infoU : (Tryz.prog.info? 5).map (fun i => (i.zero, i.size, i.bytes)) = some (some (.int .u8 0), 1, 1) := by kernel_rfl
/-- append of bytes onto a row of the call's own. -/
theorem append_bytes (R : Nat) (w : World) (v : Value) (l : List UInt8) (h : w.ownsRow R 5 1 v l.length (bs l)) (v2 : Value) (m : List UInt8) (h2 : Sl bv w v2 m) (hn : l.length + m.length ≤ 140737488355328) (hR : R ≤ w.heap.size) :
    ∃ v' w', (Builtin.append_ #[30, 30] 30 #[v, v2]).run Tryz.prog w = .ok v' w' ∧ w'.ownsRow R 5 1 v' (l ++ m).length (bs (l ++ m)) ∧ w.grownBy w' v.ownBlock := by
  obtain ⟨i0, hi, hz0, hz1, hz2⟩ := info_parts infoU
  obtain ⟨v', w', hr, ho, hg⟩ := run_append_sl (P := Tryz.prog) w R 30 30 5 i0 _ 1 Tryz.underlying30 hi hz0 hz1 hz2 rfl v l.length _ h v2 m h2 (fun _ => rfl) (by omega) (by omega) hR
  refine ⟨v', w', hr, ?_, hg⟩
  rw [bs_append, List.length_append]
  exact ho
/-- The bytes of the first j. -/
def rowP (N : Nat) (bl : List (List UInt8)) (j : Nat) : List UInt8 := putB N ++ (bl.take j).flatten
theorem rowP_next {N j : Nat} {bl : List (List UInt8)} {b : List UInt8} (h : bl[j]? = some b) : rowP N bl (j + 1) = rowP N bl j ++ b := by
  unfold rowP
  rw [List.take_add_one, h, List.flatten_append, List.append_assoc]
  simp
theorem rowP_le (N : Nat) (bl : List (List UInt8)) (j : Nat) : (rowP N bl j).length ≤ (putB N ++ bl.flatten).length := by
  unfold rowP
  have h := congrArg List.length (congrArg List.flatten (List.take_append_drop j bl))
  rw [List.flatten_append, List.length_append] at h
  simp only [List.length_append]
  omega
set_option maxRecDepth 100000 in
set_option maxHeartbeats 4000000 in
theorem layRowN_any (l : List (Dt × Va)) (bl : List (List UInt8)) (A : Option Addr) (N c : Nat) (w : World) (hs : SlK enN 5 w (.slice A N c) l) (hN : l.length = N) (hB : bl.length = N) (hN2 : N ≤ 1000000) (hT : (putB N ++ bl.flatten).length ≤ 140737488350000)
    (ho1 : ∀ y ∈ l, (cN y).all (·.oneCell') = true)
    (hc : ∀ (i : Nat) (y : Dt × Va) (b : List UInt8), l[i]? = some y → bl[i]? = some b → ∀ W, Below w.heap.size w W → Calls Tryz.prog 60 #[.agg (cN y)] W (Makes W b)) :
    Calls Tryz.prog 59 #[.slice A N c, .func (.func 60) #[] #[]] w (Makes w (putB N ++ bl.flatten)) := by
  obtain ⟨p, hp⟩ : ∃ p, w.heap.size = p := ⟨_, rfl⟩
  have HS0 := Lib.hid hs
  have HN := Lib.hid hN
  have HBl := Lib.hid hB
  have HN2 := Lib.hid hN2
  have HT := Lib.hid hT
  have HO1 := Lib.hid ho1
  have HC := Lib.hid hc
  have HP := Lib.hid hp
  have HPB : Hid (putB N ++ bl.flatten = rowP N bl N) := Lib.hid (by unfold rowP; rw [List.take_of_length_le (Nat.le_of_eq hB)])
  have HZe := Lib.hid (zero_of_info zeroN).1
  unfold Makes
  rw [hp]
  clear hs hN hB hN2 hT ho1 hc hp
  go_enter Tryz.func59, Tryz.ntmps59
  go_wp2_with fail
  refine (put_any _ [] N w (Sl.nil_ _ _) (by simp)).mono ?_
  rintro e w2 ⟨v', rfl, ho2, hb2⟩
  have hpe : [] ++ putB (N : Int) = rowP N bl 0 := by unfold rowP; simp
  rw [hpe, HP.out] at ho2
  have HO2 := Lib.hid ho2
  have HB2 := Lib.hid hb2
  clear ho2 hb2 hpe
  go_wp2_with fail
  go_loopw [5, 13] (fun v5 v13 wr => ∃ j : Nat, v13 = .int .i64 j ∧ j ≤ N ∧ wr.ownsRow p 5 1 v5 (rowP N bl j).length (bs (rowP N bl j)) ∧ Below w.heap.size w wr) (fun _ v13 _ => N - (intOf v13).toNat)
  case atStart => exact ⟨0, rfl, Nat.zero_le _, HO2.out, HB2.out⟩
  case round =>
    obtain ⟨j, rfl, hj, ho, hb⟩ := hrel
    obtain ⟨wi, rfl⟩ : ∃ wi, wi = wr := ⟨_, rfl⟩
    have HO := Lib.hid ho
    have HBi := Lib.hid hb
    by_cases hlt : j < N
    · obtain ⟨y, he⟩ : ∃ y, l[j]? = some y := ⟨l[j]'(by rw [HN.out]; exact hlt), List.getElem?_eq_getElem _⟩
      obtain ⟨b, hbl⟩ : ∃ b, bl[j]? = some b := ⟨bl[j]'(by rw [HBl.out]; exact hlt), List.getElem?_eq_getElem _⟩
      obtain ⟨gs, o, rfl, hgl, hce⟩ := (HS0.out.below hb).at_ he
      have HCe := Lib.hid hce
      have HAt := Lib.hid (at_En gs o c N j hlt wi)
      have HNx := Lib.hid (rowP_next (N := N) hbl)
      have HLn := Lib.hid (show (rowP N bl (j + 1)).length ≤ 140737488350000 from Nat.le_trans (rowP_le N bl (j + 1)) HT.out)
      have HOy := Lib.hid (HO1.out y (List.mem_of_getElem? he))
      have HAl := Lib.hid fun c => World.setRow_alloc_new wi (cN zN) c 63
      have HZz := Lib.hid (show Blk (wi.alloc (.cells (cN zN) 63)) wi.heap.size 63 (cN zN) from Blk.new _ _ _)
      obtain ⟨Y, hY⟩ : ∃ Y, Y = wi.alloc (.cells (cN y) 63) := ⟨_, rfl⟩
      have hbY : Below wi.heap.size wi Y := by rw [hY]; exact (Below.refl _ _).alloc (Nat.le_refl _) _
      have HBY := Lib.hid (show Blk Y wi.heap.size 63 (cN y) by rw [hY]; exact Blk.new _ _ _)
      have HYe := Lib.hid hY
      have HOY := Lib.hid (own_belowS ho hbY)
      have hbW : Below w.heap.size w Y := hb.trans (hbY.mono hb.size)
      have HCy := Lib.hid (HC.out j y b he hbl Y hbW)
      have HbY := Lib.hid hbW
      have HW1 := Lib.hid (IntWalk.i64_in ((j : Int) + 1) (by have := HN2.out; omega))
      have HJ1 := Lib.hid (show ¬ 9223372036854775807 < j + 1 by have := HN2.out; omega)
      clear he hbl hgl hce hY hbY ho hb hbW
      have hz := HZe.out
      go_upto_region 5 with (first
        | (refine wpList_val (o := ⟨some 15, _, _, _, _, _⟩) rfl (.pointer (some ⟨gs, o + j * 5, none⟩)) wi (run_indexAddr_op rfl rfl rfl HAt.out) ?_)
        | (refine' wpList_load_midif ?q1 63 (.tmp 15) ?q2 gs (o + j * 5) ?q3 (enN y) _ ?q4 Tryz.underlying63 ?q5 ?q6 ?_; (case q2 => rfl); (case q1 => rfl); (case q3 => rfl); (case q4 => exact HCe.out); (case q5 => rfl); (case q6 => exact (sizeNn y)))
        | (refine wpList_store_row (o := ⟨none, _, _, _, _, _⟩) rfl 63 (.tmp 7) (.tmp 16) rfl wi.heap.size (cN y) rfl rfl _ _ HZz.out (sizeNn y) rfl HOy.out ?_; rw [HAl.out, ← HYe.out])
        | fail)
      clear hz HZz HAl HYe HAt HCe
      obtain ⟨b7, hb7⟩ : ∃ b7, wi.heap.size = b7 := ⟨_, rfl⟩
      rw [hb7] at HBY ⊢
      clear hb7
      try simp only [Act.put]
      go_wp2_with (first
        | (refine wpList_load_if rfl 63 (.tmp 7) rfl b7 rfl _ _ _ _ HBY.out Tryz.underlying63 rfl (sizeNn y) ?_)
        | fail)
      refine HCy.out.mono ?_
      rintro e' w9 ⟨v34, rfl, ho34, hb9⟩
      have hbw9 : Below w.heap.size w w9 := HbY.out.trans (hb9.mono HbY.out.size)
      have hpw9 : p ≤ w9.heap.size := by have := hbw9.size; have := HP.out; omega
      have hln := HLn.out
      rw [HNx.out, List.length_append] at hln
      obtain ⟨v', w', hr, ho', hg⟩ := append_bytes p w9 _ _ (own_belowS HOY.out hb9) v34 b (Sl.of_own ho34) (by omega) hpw9
      have HR := Lib.hid hr
      have HO' := Lib.hid (show w'.ownsRow p 5 1 v' (rowP N bl (j + 1)).length (bs (rowP N bl (j + 1))) by rw [HNx.out]; exact ho')
      have hb' : Below w.heap.size w w' := hbw9.grown hg hbw9.size (fun q e => by have := (HOY.out.lt q e).1; have := HP.out; omega)
      have HB' := Lib.hid hb'
      have hw := HW1.out
      have hjm := HJ1.out
      clear ho34 hb9 hbw9 hpw9 hr ho' hg hb' hln
      go_wp2_with (first
        | (at_builtin; refine Lib.wpList_append_run (o := ⟨some 21, _, _, _, _, _⟩) _ rfl _ _ _ _ rfl _ _ rfl rfl _ _ HR.out ?_)
        | fail)
      go_roundw
      case rel => exact ⟨j + 1, by go_num, by omega, HO'.out, HB'.out⟩
      case measure => simp [intOf] <;> omega
    · have hjN : N = j := by omega
      subst hjN
      have HPo := Lib.hid (show wi.ownsRow p 5 1 u5 (putB N ++ bl.flatten).length (bs (putB N ++ bl.flatten)) by rw [HPB.out]; exact ho)
      clear ho hb hj hlt HO
      go_wp2
      go_ret
      exact ⟨_, rfl, HPo.out, by first | exact HBi.out | (rw [← HP.out]; exact HBi.out)⟩
set_option maxRecDepth 100000 in
set_option maxHeartbeats 4000000 in
theorem layRowE_any (l : List (Ev)) (bl : List (List UInt8)) (A : Option Addr) (N c : Nat) (w : World) (hs : SlK encE 27 w (.slice A N c) l) (hN : l.length = N) (hB : bl.length = N) (hN2 : N ≤ 1000000) (hT : (putB N ++ bl.flatten).length ≤ 140737488350000)
    (ho1 : ∀ y ∈ l, (evC y).all (·.oneCell') = true)
    (hc : ∀ (i : Nat) (y : Ev) (b : List UInt8), l[i]? = some y → bl[i]? = some b → ∀ W, Below w.heap.size w W → Calls Tryz.prog 26 #[.agg (evC y)] W (Makes W b)) :
    Calls Tryz.prog 25 #[.slice A N c, .func (.func 26) #[] #[]] w (Makes w (putB N ++ bl.flatten)) := by
  obtain ⟨p, hp⟩ : ∃ p, w.heap.size = p := ⟨_, rfl⟩
  have HS0 := Lib.hid hs
  have HN := Lib.hid hN
  have HBl := Lib.hid hB
  have HN2 := Lib.hid hN2
  have HT := Lib.hid hT
  have HO1 := Lib.hid ho1
  have HC := Lib.hid hc
  have HP := Lib.hid hp
  have HPB : Hid (putB N ++ bl.flatten = rowP N bl N) := Lib.hid (by unfold rowP; rw [List.take_of_length_le (Nat.le_of_eq hB)])
  have HZe := Lib.hid (zero_of_info zeroE).1
  unfold Makes
  rw [hp]
  clear hs hN hB hN2 hT ho1 hc hp
  go_enter Tryz.func25, Tryz.ntmps25
  go_wp2_with fail
  refine (put_any _ [] N w (Sl.nil_ _ _) (by simp)).mono ?_
  rintro e w2 ⟨v', rfl, ho2, hb2⟩
  have hpe : [] ++ putB (N : Int) = rowP N bl 0 := by unfold rowP; simp
  rw [hpe, HP.out] at ho2
  have HO2 := Lib.hid ho2
  have HB2 := Lib.hid hb2
  clear ho2 hb2 hpe
  go_wp2_with fail
  go_loopw [5, 13] (fun v5 v13 wr => ∃ j : Nat, v13 = .int .i64 j ∧ j ≤ N ∧ wr.ownsRow p 5 1 v5 (rowP N bl j).length (bs (rowP N bl j)) ∧ Below w.heap.size w wr) (fun _ v13 _ => N - (intOf v13).toNat)
  case atStart => exact ⟨0, rfl, Nat.zero_le _, HO2.out, HB2.out⟩
  case round =>
    obtain ⟨j, rfl, hj, ho, hb⟩ := hrel
    obtain ⟨wi, rfl⟩ : ∃ wi, wi = wr := ⟨_, rfl⟩
    have HO := Lib.hid ho
    have HBi := Lib.hid hb
    by_cases hlt : j < N
    · obtain ⟨y, he⟩ : ∃ y, l[j]? = some y := ⟨l[j]'(by rw [HN.out]; exact hlt), List.getElem?_eq_getElem _⟩
      obtain ⟨b, hbl⟩ : ∃ b, bl[j]? = some b := ⟨bl[j]'(by rw [HBl.out]; exact hlt), List.getElem?_eq_getElem _⟩
      obtain ⟨gs, o, rfl, hgl, hce⟩ := (HS0.out.below hb).at_ he
      have HCe := Lib.hid hce
      have HAt := Lib.hid (at_Ev gs o c N j hlt wi)
      have HNx := Lib.hid (rowP_next (N := N) hbl)
      have HLn := Lib.hid (show (rowP N bl (j + 1)).length ≤ 140737488350000 from Nat.le_trans (rowP_le N bl (j + 1)) HT.out)
      have HOy := Lib.hid (HO1.out y (List.mem_of_getElem? he))
      have HAl := Lib.hid fun c => World.setRow_alloc_new wi (evC ev0) c 49
      have HZz := Lib.hid (show Blk (wi.alloc (.cells (evC ev0) 49)) wi.heap.size 49 (evC ev0) from Blk.new _ _ _)
      obtain ⟨Y, hY⟩ : ∃ Y, Y = wi.alloc (.cells (evC y) 49) := ⟨_, rfl⟩
      have hbY : Below wi.heap.size wi Y := by rw [hY]; exact (Below.refl _ _).alloc (Nat.le_refl _) _
      have HBY := Lib.hid (show Blk Y wi.heap.size 49 (evC y) by rw [hY]; exact Blk.new _ _ _)
      have HYe := Lib.hid hY
      have HOY := Lib.hid (own_belowS ho hbY)
      have hbW : Below w.heap.size w Y := hb.trans (hbY.mono hb.size)
      have HCy := Lib.hid (HC.out j y b he hbl Y hbW)
      have HbY := Lib.hid hbW
      have HW1 := Lib.hid (IntWalk.i64_in ((j : Int) + 1) (by have := HN2.out; omega))
      have HJ1 := Lib.hid (show ¬ 9223372036854775807 < j + 1 by have := HN2.out; omega)
      clear he hbl hgl hce hY hbY ho hb hbW
      have hz := HZe.out
      go_upto_region 5 with (first
        | (refine wpList_val (o := ⟨some 15, _, _, _, _, _⟩) rfl (.pointer (some ⟨gs, o + j * 27, none⟩)) wi (run_indexAddr_op rfl rfl rfl HAt.out) ?_)
        | (refine' wpList_load_midif ?q1 49 (.tmp 15) ?q2 gs (o + j * 27) ?q3 (encE y) _ ?q4 Tryz.underlying49 ?q5 ?q6 ?_; (case q2 => rfl); (case q1 => rfl); (case q3 => rfl); (case q4 => exact HCe.out); (case q5 => rfl); (case q6 => exact (sizeE y)))
        | (refine wpList_store_row (o := ⟨none, _, _, _, _, _⟩) rfl 49 (.tmp 7) (.tmp 16) rfl wi.heap.size (evC y) rfl rfl _ _ HZz.out (sizeE y) rfl HOy.out ?_; rw [HAl.out, ← HYe.out])
        | fail)
      clear hz HZz HAl HYe HAt HCe
      obtain ⟨b7, hb7⟩ : ∃ b7, wi.heap.size = b7 := ⟨_, rfl⟩
      rw [hb7] at HBY ⊢
      clear hb7
      try simp only [Act.put]
      go_wp2_with (first
        | (refine wpList_load_if rfl 49 (.tmp 7) rfl b7 rfl _ _ _ _ HBY.out Tryz.underlying49 rfl (sizeE y) ?_)
        | fail)
      refine HCy.out.mono ?_
      rintro e' w9 ⟨v34, rfl, ho34, hb9⟩
      have hbw9 : Below w.heap.size w w9 := HbY.out.trans (hb9.mono HbY.out.size)
      have hpw9 : p ≤ w9.heap.size := by have := hbw9.size; have := HP.out; omega
      have hln := HLn.out
      rw [HNx.out, List.length_append] at hln
      obtain ⟨v', w', hr, ho', hg⟩ := append_bytes p w9 _ _ (own_belowS HOY.out hb9) v34 b (Sl.of_own ho34) (by omega) hpw9
      have HR := Lib.hid hr
      have HO' := Lib.hid (show w'.ownsRow p 5 1 v' (rowP N bl (j + 1)).length (bs (rowP N bl (j + 1))) by rw [HNx.out]; exact ho')
      have hb' : Below w.heap.size w w' := hbw9.grown hg hbw9.size (fun q e => by have := (HOY.out.lt q e).1; have := HP.out; omega)
      have HB' := Lib.hid hb'
      have hw := HW1.out
      have hjm := HJ1.out
      clear ho34 hb9 hbw9 hpw9 hr ho' hg hb' hln
      go_wp2_with (first
        | (at_builtin; refine Lib.wpList_append_run (o := ⟨some 21, _, _, _, _, _⟩) _ rfl _ _ _ _ rfl _ _ rfl rfl _ _ HR.out ?_)
        | fail)
      go_roundw
      case rel => exact ⟨j + 1, by go_num, by omega, HO'.out, HB'.out⟩
      case measure => simp [intOf] <;> omega
    · have hjN : N = j := by omega
      subst hjN
      have HPo := Lib.hid (show wi.ownsRow p 5 1 u5 (putB N ++ bl.flatten).length (bs (putB N ++ bl.flatten)) by rw [HPB.out]; exact ho)
      clear ho hb hj hlt HO
      go_wp2
      go_ret
      exact ⟨_, rfl, HPo.out, by first | exact HBi.out | (rw [← HP.out]; exact HBi.out)⟩
set_option maxRecDepth 100000 in
set_option maxHeartbeats 4000000 in
theorem layRowI_any (l : List (El × Value)) (bl : List (List UInt8)) (A : Option Addr) (N c : Nat) (w : World) (hs : SlK enI 6 w (.slice A N c) l) (hN : l.length = N) (hB : bl.length = N) (hN2 : N ≤ 1000000) (hT : (putB N ++ bl.flatten).length ≤ 140737488350000)
    (ho1 : ∀ y ∈ l, (cI y).all (·.oneCell') = true)
    (hc : ∀ (i : Nat) (y : El × Value) (b : List UInt8), l[i]? = some y → bl[i]? = some b → ∀ W, Below w.heap.size w W → Calls Tryz.prog 24 #[.agg (cI y)] W (Makes W b)) :
    Calls Tryz.prog 23 #[.slice A N c, .func (.func 24) #[] #[]] w (Makes w (putB N ++ bl.flatten)) := by
  obtain ⟨p, hp⟩ : ∃ p, w.heap.size = p := ⟨_, rfl⟩
  have HS0 := Lib.hid hs
  have HN := Lib.hid hN
  have HBl := Lib.hid hB
  have HN2 := Lib.hid hN2
  have HT := Lib.hid hT
  have HO1 := Lib.hid ho1
  have HC := Lib.hid hc
  have HP := Lib.hid hp
  have HPB : Hid (putB N ++ bl.flatten = rowP N bl N) := Lib.hid (by unfold rowP; rw [List.take_of_length_le (Nat.le_of_eq hB)])
  have HZe := Lib.hid (zero_of_info zeroI).1
  unfold Makes
  rw [hp]
  clear hs hN hB hN2 hT ho1 hc hp
  go_enter Tryz.func23, Tryz.ntmps23
  go_wp2_with fail
  refine (put_any _ [] N w (Sl.nil_ _ _) (by simp)).mono ?_
  rintro e w2 ⟨v', rfl, ho2, hb2⟩
  have hpe : [] ++ putB (N : Int) = rowP N bl 0 := by unfold rowP; simp
  rw [hpe, HP.out] at ho2
  have HO2 := Lib.hid ho2
  have HB2 := Lib.hid hb2
  clear ho2 hb2 hpe
  go_wp2_with fail
  go_loopw [5, 13] (fun v5 v13 wr => ∃ j : Nat, v13 = .int .i64 j ∧ j ≤ N ∧ wr.ownsRow p 5 1 v5 (rowP N bl j).length (bs (rowP N bl j)) ∧ Below w.heap.size w wr) (fun _ v13 _ => N - (intOf v13).toNat)
  case atStart => exact ⟨0, rfl, Nat.zero_le _, HO2.out, HB2.out⟩
  case round =>
    obtain ⟨j, rfl, hj, ho, hb⟩ := hrel
    obtain ⟨wi, rfl⟩ : ∃ wi, wi = wr := ⟨_, rfl⟩
    have HO := Lib.hid ho
    have HBi := Lib.hid hb
    by_cases hlt : j < N
    · obtain ⟨y, he⟩ : ∃ y, l[j]? = some y := ⟨l[j]'(by rw [HN.out]; exact hlt), List.getElem?_eq_getElem _⟩
      obtain ⟨b, hbl⟩ : ∃ b, bl[j]? = some b := ⟨bl[j]'(by rw [HBl.out]; exact hlt), List.getElem?_eq_getElem _⟩
      obtain ⟨gs, o, rfl, hgl, hce⟩ := (HS0.out.below hb).at_ he
      have HCe := Lib.hid hce
      have HAt := Lib.hid (at_It gs o c N j hlt wi)
      have HNx := Lib.hid (rowP_next (N := N) hbl)
      have HLn := Lib.hid (show (rowP N bl (j + 1)).length ≤ 140737488350000 from Nat.le_trans (rowP_le N bl (j + 1)) HT.out)
      have HOy := Lib.hid (HO1.out y (List.mem_of_getElem? he))
      have HAl := Lib.hid fun c => World.setRow_alloc_new wi (cI zI) c 61
      have HZz := Lib.hid (show Blk (wi.alloc (.cells (cI zI) 61)) wi.heap.size 61 (cI zI) from Blk.new _ _ _)
      obtain ⟨Y, hY⟩ : ∃ Y, Y = wi.alloc (.cells (cI y) 61) := ⟨_, rfl⟩
      have hbY : Below wi.heap.size wi Y := by rw [hY]; exact (Below.refl _ _).alloc (Nat.le_refl _) _
      have HBY := Lib.hid (show Blk Y wi.heap.size 61 (cI y) by rw [hY]; exact Blk.new _ _ _)
      have HYe := Lib.hid hY
      have HOY := Lib.hid (own_belowS ho hbY)
      have hbW : Below w.heap.size w Y := hb.trans (hbY.mono hb.size)
      have HCy := Lib.hid (HC.out j y b he hbl Y hbW)
      have HbY := Lib.hid hbW
      have HW1 := Lib.hid (IntWalk.i64_in ((j : Int) + 1) (by have := HN2.out; omega))
      have HJ1 := Lib.hid (show ¬ 9223372036854775807 < j + 1 by have := HN2.out; omega)
      clear he hbl hgl hce hY hbY ho hb hbW
      have hz := HZe.out
      go_upto_region 5 with (first
        | (refine wpList_val (o := ⟨some 15, _, _, _, _, _⟩) rfl (.pointer (some ⟨gs, o + j * 6, none⟩)) wi (run_indexAddr_op rfl rfl rfl HAt.out) ?_)
        | (refine' wpList_load_midif ?q1 61 (.tmp 15) ?q2 gs (o + j * 6) ?q3 (enI y) _ ?q4 Tryz.underlying61 ?q5 ?q6 ?_; (case q2 => rfl); (case q1 => rfl); (case q3 => rfl); (case q4 => exact HCe.out); (case q5 => rfl); (case q6 => exact (sizeIi y)))
        | (refine wpList_store_row (o := ⟨none, _, _, _, _, _⟩) rfl 61 (.tmp 7) (.tmp 16) rfl wi.heap.size (cI y) rfl rfl _ _ HZz.out (sizeIi y) rfl HOy.out ?_; rw [HAl.out, ← HYe.out])
        | fail)
      clear hz HZz HAl HYe HAt HCe
      obtain ⟨b7, hb7⟩ : ∃ b7, wi.heap.size = b7 := ⟨_, rfl⟩
      rw [hb7] at HBY ⊢
      clear hb7
      try simp only [Act.put]
      go_wp2_with (first
        | (refine wpList_load_if rfl 61 (.tmp 7) rfl b7 rfl _ _ _ _ HBY.out Tryz.underlying61 rfl (sizeIi y) ?_)
        | fail)
      refine HCy.out.mono ?_
      rintro e' w9 ⟨v34, rfl, ho34, hb9⟩
      have hbw9 : Below w.heap.size w w9 := HbY.out.trans (hb9.mono HbY.out.size)
      have hpw9 : p ≤ w9.heap.size := by have := hbw9.size; have := HP.out; omega
      have hln := HLn.out
      rw [HNx.out, List.length_append] at hln
      obtain ⟨v', w', hr, ho', hg⟩ := append_bytes p w9 _ _ (own_belowS HOY.out hb9) v34 b (Sl.of_own ho34) (by omega) hpw9
      have HR := Lib.hid hr
      have HO' := Lib.hid (show w'.ownsRow p 5 1 v' (rowP N bl (j + 1)).length (bs (rowP N bl (j + 1))) by rw [HNx.out]; exact ho')
      have hb' : Below w.heap.size w w' := hbw9.grown hg hbw9.size (fun q e => by have := (HOY.out.lt q e).1; have := HP.out; omega)
      have HB' := Lib.hid hb'
      have hw := HW1.out
      have hjm := HJ1.out
      clear ho34 hb9 hbw9 hpw9 hr ho' hg hb' hln
      go_wp2_with (first
        | (at_builtin; refine Lib.wpList_append_run (o := ⟨some 21, _, _, _, _, _⟩) _ rfl _ _ _ _ rfl _ _ rfl rfl _ _ HR.out ?_)
        | fail)
      go_roundw
      case rel => exact ⟨j + 1, by go_num, by omega, HO'.out, HB'.out⟩
      case measure => simp [intOf] <;> omega
    · have hjN : N = j := by omega
      subst hjN
      have HPo := Lib.hid (show wi.ownsRow p 5 1 u5 (putB N ++ bl.flatten).length (bs (putB N ++ bl.flatten)) by rw [HPB.out]; exact ho)
      clear ho hb hj hlt HO
      go_wp2
      go_ret
      exact ⟨_, rfl, HPo.out, by first | exact HBi.out | (rw [← HP.out]; exact HBi.out)⟩

end Go.Proofs.YtejljikikhecnaaGreat
