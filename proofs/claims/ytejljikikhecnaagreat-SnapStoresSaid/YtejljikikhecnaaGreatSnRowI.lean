/-
  snap.readRow at items: the contract, by a walk. Conditions: lengths.
-/
import Derived.Test.YtejljikikhecnaaGreatSnItemRd
namespace Go.Proofs.YtejljikikhecnaaGreat
open Go.RowKit Go.MapKept Go.Sort

def ItOwn (B : Nat) (w : World) (L : List (El × Value)) (I : List (El × List (Dt × Va))) : Prop := L.length = I.length ∧ ∀ (i : Nat) (y : El × Value) (q : El × List (Dt × Va)), L[i]? = some y → I[i]? = some q → EntOwn B w y q
theorem EntOwn.below {B : Nat} {w w' : World} {y : El × Value} {q : El × List (Dt × Va)} (h : EntOwn B w y q) (hb : Below w.heap.size w w') : EntOwn B w' y q := ⟨h.1, h.2.keep hb⟩
theorem EntOwn.but {B g : Nat} {w w' : World} {y : El × Value} {q : El × List (Dt × Va)} (h : EntOwn B w y q) (hb : But g w w') (hg : g < B) : EntOwn B w' y q := ⟨h.1, h.2.but hb hg⟩
theorem ItOwn.nil (B : Nat) (w : World) : ItOwn B w [] [] := ⟨rfl, fun i y q h => by simp at h⟩
theorem ItOwn.below {B : Nat} {w w' : World} {L : List (El × Value)} {I : List (El × List (Dt × Va))} (h : ItOwn B w L I) (hb : Below w.heap.size w w') : ItOwn B w' L I := ⟨h.1, fun i y q hy hq => (h.2 i y q hy hq).below hb⟩
theorem ItOwn.but {B g : Nat} {w w' : World} {L : List (El × Value)} {I : List (El × List (Dt × Va))} (h : ItOwn B w L I) (hb : But g w w') (hg : g < B) : ItOwn B w' L I := ⟨h.1, fun i y q hy hq => (h.2 i y q hy hq).but hb hg⟩
theorem ItOwn.grown {B base : Nat} {w w' : World} {L : List (El × Value)} {I : List (El × List (Dt × Va))} {v : Value} {L' : List (El × Value)} (h : ItOwn B w L I) (hv : OwnK enI base 61 6 w v L') (hg : w.grownBy w' v.ownBlock) : ItOwn B w' L I := ⟨h.1, fun i y q hy hq => (h.2 i y q hy hq).grown hv hg⟩
theorem ItOwn.snoc {B : Nat} {w : World} {L : List (El × Value)} {I : List (El × List (Dt × Va))} {y : El × Value} {q : El × List (Dt × Va)} (h : ItOwn B w L I) (hy : EntOwn B w y q) : ItOwn B w (L ++ [y]) (I ++ [q]) := by
  refine ⟨by simp [h.1], fun i a b ha hb => ?_⟩
  by_cases hi : i < L.length
  · rw [List.getElem?_append_left hi] at ha
    rw [List.getElem?_append_left (by rw [← h.1]; exact hi)] at hb
    exact h.2 i a b ha hb
  · rw [List.getElem?_append_right (by omega)] at ha
    rw [List.getElem?_append_right (by rw [← h.1]; omega), ← h.1] at hb
    cases hk : i - L.length with
    | zero =>
      rw [hk] at ha hb
      have e1 : y = a := by simpa using ha
      have e2 : q = b := by simpa using hb
      rw [← e1, ← e2]; exact hy
    | succ k => rw [hk] at ha; simp at ha
theorem cI_oneS (y : El × Value) (h : ∃ P n k, y.2 = .slice P n k) : (cI y).all (·.oneCell') = true := by
  obtain ⟨P, n, k, h⟩ := h
  simp [cI, h, Value.oneCell']
theorem enI_oneS (y : El × Value) (h : ∃ P n k, y.2 = .slice P n k) : ∀ v ∈ enI y, v.oneCell' = true := by
  obtain ⟨P, n, k, h⟩ := h
  intro v hv
  simp only [enI, h, List.mem_cons, List.not_mem_nil, or_false] at hv
  rcases hv with rfl | rfl | rfl | rfl | rfl | rfl <;> rfl
section
variable {P : Program} {α : Type} {enc : α → List Value} {k : Nat}
theorem run_append_K1 (hk : ∀ x, (enc x).length = k) (hk0 : 0 < k) (w : World) (base : Nat) (t ty e : TypeId) (i : TypeInfo) (z : Value) (bytes : Nat) (ht : P.underlying t = some (.slice e)) (hi : P.info? e = some i) (hz : i.zero = some z)
    (hsize : i.size = k) (hby : i.bytes = bytes) (hzs : z.cells.size = k) (v : Value) (xs : List α) (hown : OwnK enc base e k w v xs)
    (v2 : Value) (l : List α) (hl : SlK enc k w v2 l) (h1 : ∀ a ∈ l, ∀ u ∈ enc a, u.oneCell' = true)
    (hbytes : (xs.length + l.length) * bytes ≤ 140737488355328) (hnm : xs.length + l.length ≤ 140737488355328) (hbase : base ≤ w.heap.size) :
    ∃ v' w', (Builtin.append_ #[t, t] ty #[v, v2]).run P w = .ok v' w' ∧ OwnK enc base e k w' v' (xs ++ l) ∧ w.grownBy w' v.ownBlock := by
  obtain ⟨A, c, rfl, hlc, hx⟩ := hl
  have h63 : xs.length + l.length ≤ maxLen := by unfold maxLen; omega
  unfold OwnK at hown ⊢
  rw [List.flatMap_append, List.length_append]
  have one : ∀ u ∈ l.flatMap enc, u.oneCell' = true := by intro u hu; obtain ⟨x, hx, hu⟩ := List.mem_flatMap.1 hu; exact h1 x hx u hu
  by_cases hn : l = []
  · subst hn
    rcases A with _ | ad
    · refine ⟨v, w, ?_, by simpa using hown, World.grownBy.refl w _⟩
      rcases hown.2 with ⟨hv, h0⟩ | ⟨g, cap, cur, hv, _, _, hnc, _⟩
      · rw [hv]; simp [Builtin.append_, run_underlying ht, sizeOf, typeInfo, hi, Builtin.lenOf, Builtin.firstCells]
      · rw [hv]; simp [Builtin.append_, run_underlying ht, sizeOf, typeInfo, hi, Builtin.lenOf, Builtin.firstCells, hnc, storeCells]
    · obtain ⟨v', w', hr, h2, h3, _⟩ := run_append_own (P := P) w base t ty e i z k bytes ht hi hz hsize hby hzs hk0 v xs.length (xs.flatMap enc) hown ad 0 c [] (by simp) (by simp) (by simp) (by simpa using h63) (by simpa using hbytes) hbase
      exact ⟨v', w', hr, by simpa using h2, h3⟩
  · obtain ⟨b, o, rfl, hb, hcell⟩ := hx hn
    obtain ⟨v', w', hr, h2, h3, _⟩ := run_append_own (P := P) w base t ty e i z k bytes ht hi hz hsize hby hzs hk0 v xs.length (xs.flatMap enc) hown ⟨b, o, none⟩ l.length c (l.flatMap enc) (flat_length hk l)
      (flat_cells hk hk0 hcell) one h63 hbytes hbase
    exact ⟨v', w', hr, h2, h3⟩

end

theorem infoI : (Tryz.prog.info? 61).map (fun i => (i.zero, i.size, i.bytes)) = some (some (.agg (cI zI)), 6, 96) := by kernel_rfl
theorem append_it (R : Nat) (w : World) (v : Value) (xs : List (El × Value)) (hown : OwnK enI R 61 6 w v xs) (v2 : Value) (l : List (El × Value)) (hl : SlK enI 6 w v2 l) (hn : xs.length + l.length ≤ 1000000) (hone : ∀ a ∈ l, ∀ u ∈ enI a, u.oneCell' = true) (hR : R ≤ w.heap.size) :
    ∃ v' w', (Builtin.append_ #[24, 24] 24 #[v, v2]).run Tryz.prog w = .ok v' w' ∧ OwnK enI R 61 6 w' v' (xs ++ l) ∧ w.grownBy w' v.ownBlock := by
  obtain ⟨i, hi, hz0, hz1, hz2⟩ := info_parts infoI
  exact run_append_K1 (P := Tryz.prog) enI_len (by decide) w R 24 24 61 i _ 96 Tryz.underlying24 hi hz0 hz1 hz2 rfl v xs hown v2 l hl hone (by omega) (by omega) hR
theorem sl_oneI (e : El × Value) (w : World) : SlK enI 6 (w.alloc (.cells (cI e) 61)) (.slice (some ⟨w.heap.size, 0, none⟩) 1 1) [e] := ⟨_, _, rfl, Nat.le_refl _, fun _ => ⟨w.heap.size, 0, rfl, by simp, fun q y hq => by
  have hq0 : q = 0 := by have := (List.getElem?_eq_some_iff.1 hq).1; simp at this; exact this
  subst hq0
  have hy : y = e := by simpa using hq.symm
  subst hy
  intro i u hu
  rw [Blk.cell (Blk.new w _ _)]
  simpa [enI, cI] using hu⟩⟩
theorem bsIt (e : El × Value) (h : ∃ P n k, e.2 = .slice P n k) (w : World) : (Instr.buildSlice 24 1 #[(0, .agg (cI e))]).run Tryz.prog w = .ok (.slice (some ⟨w.heap.size, 0, none⟩) 1 1) (w.alloc (.cells (cI e) 61)) := by
  obtain ⟨P, n, k, h⟩ := h
  unfold cI
  rw [h]
  go_simp

set_option maxRecDepth 100000 in
set_option maxHeartbeats 4000000 in
theorem readRowI_any (g : Nat) (s : List UInt8 × Bool) (w : World) (h : Rd w g s) (hl : s.1.length ≤ 900000)  :
    Calls Tryz.prog 36 #[.pointer (some ⟨g, 0, none⟩), .func (.func 37) #[] #[]] w fun e w' => ∃ v L, e = .returned v ∧ OwnK enI w.heap.size 61 6 w' v L ∧ ItOwn w.heap.size w' L (rowR rdI s).1 ∧ Rd w' g (rowR rdI s).2 ∧ But g w w' := by
  obtain ⟨p, hp⟩ : ∃ p, w.heap.size = p := ⟨_, rfl⟩
  have hg := h.lt
  have HP := Lib.hid hp
  have HG := Lib.hid hg
  have HR0 := Lib.hid h
  have HLs := Lib.hid hl
  have HMore := Lib.hid rdI_more
  have HZe := Lib.hid (zero_of_info zeroI).1
  obtain ⟨fin, hfin⟩ : ∃ fin, rowR rdI s = fin := ⟨_, rfl⟩
  obtain ⟨n, hn⟩ : ∃ n, (rNum s mx).1.toNat = n := ⟨_, rfl⟩
  have hnn : (rNum s mx).1 = (n : Int) := by have := (rNum_rng s mx).1; omega
  have hnb : n < 4611686018427387904 := by have := (rNum_rng s mx).2.1; omega
  have hgo : rowGo rdI n (rNum s mx).2 [] = fin := by rw [← hfin, ← hn]; rfl
  have HGo := Lib.hid hgo
  have HNn := Lib.hid hnn
  have HNb := Lib.hid hnb
  rw [hfin, hp]
  clear h hg hl hp hfin hn hnn hnb hgo
  go_enter Tryz.func36, Tryz.ntmps36
  go_wp2_with fail
  refine (num_any g s mx w HR0.out).mono ?_
  rintro e w1 ⟨rfl, r1, b1⟩
  rw [HNn.out]
  have R1 := Lib.hid r1
  have B1 := Lib.hid b1
  have HL1 := Lib.hid (show (rNum s mx).2.1.length ≤ 900000 from Nat.le_trans (rNum_le s mx) HLs.out)
  clear r1 b1 HR0
  go_wp2_with fail
  go_loopw [5, 9] (fun v5 v9 wr => ∃ (j : Nat) (sj : List UInt8 × Bool) (acc : List (El × List (Dt × Va))) (L : List (El × Value)), v9 = .int .i64 j ∧ j ≤ n ∧ rowGo rdI (n - j) sj acc = fin ∧ acc.length + sj.1.length ≤ 900000 ∧ OwnK enI p 61 6 wr v5 L ∧ ItOwn p wr L acc ∧ Rd wr g sj ∧ But g w wr) (fun _ v9 _ => n - (intOf v9).toNat)
  case atStart => exact ⟨0, (rNum s mx).2, [], [], rfl, Nat.zero_le _, HGo.out, by simpa using HL1.out, OwnK.nil_ _ _ _ _ _, ItOwn.nil _ _, R1.out, B1.out⟩
  case round =>
    obtain ⟨j, sj, acc, L, rfl, hj, hgo, hln, how, hio, hr, hb⟩ := hrel
    obtain ⟨wo, rfl⟩ : ∃ wo, wo = wr := ⟨_, rfl⟩
    have HGj := Lib.hid hgo
    have HLn := Lib.hid hln
    have HOw := Lib.hid how
    have HIo := Lib.hid hio
    have HRj := Lib.hid hr
    have HBj := Lib.hid hb
    clear hgo hln how hio hr hb R1 B1 HGo
    by_cases hlt : j < n
    case neg =>
      have hjn : n - j = 0 := by omega
      have hge := HGj.out
      rw [hjn] at hge
      have HE := Lib.hid (show (acc, sj) = fin from hge)
      clear hge hjn
      go_wp2
      go_ret
      exact ⟨_, L, rfl, HOw.out, by rw [← HE.out]; exact HIo.out, by rw [← HE.out]; exact HRj.out, HBj.out⟩
    have hge := HGj.out
    rw [show n - j = (n - (j + 1)) + 1 by omega] at hge
    have HGe := Lib.hid (show (if (rdI sj).2.2 = true then ([], (rdI sj).2) else rowGo rdI (n - (j + 1)) (rdI sj).2 (acc ++ [(rdI sj).1])) = fin from hge)
    have HMj := Lib.hid (HMore.out sj)
    have HLt := Lib.hid hlt
    clear hge HGj
    go_wp2_with fail
    refine (readItem_any g sj wo HRj.out (by have := HLn.out; omega)).mono ?_
    rintro e w2 ⟨A, c, rfl, ho2, r2, b2⟩
    have HE2 := Lib.hid (ho2.base_ (b' := p) (by have := HBj.out.size; have := HP.out; omega))
    obtain ⟨q, hy⟩ : ∃ q, (rdI sj).1 = q := ⟨_, rfl⟩
    obtain ⟨s2, hs2⟩ : ∃ s2, (rdI sj).2 = s2 := ⟨_, rfl⟩
    rw [hy, hs2] at HGe
    rw [hs2] at HMj r2
    rw [hy] at HE2 ⊢
    obtain ⟨y, hyy⟩ : ∃ y : El × Value, y = (q.1, .slice A q.2.length c) := ⟨_, rfl⟩
    have HYs := Lib.hid (show ∃ P n k, y.2 = .slice P n k from ⟨A, _, c, by rw [hyy]⟩)
    have HEy := Lib.hid (show EntOwn p w2 y q by rw [hyy]; exact ⟨rfl, HE2.out⟩)
    rw [← hyy]
    clear hyy HE2 ho2
    have R2 := Lib.hid r2
    have B2 := Lib.hid (HBj.out.trans b2)
    have O2 := Lib.hid (HOw.out.but b2 (by have := HP.out; have := HG.out; omega))
    have I2 := Lib.hid (HIo.out.but b2 (by have := HP.out; have := HG.out; omega))
    clear hy hs2 r2 b2 HRj HBj HOw HIo
    have hz := HZe.out
    have HAl := Lib.hid fun c => World.setRow_alloc_new w2 (cI zI) c 61
    have HZz := Lib.hid (show Blk (w2.alloc (.cells (cI zI) 61)) w2.heap.size 61 (cI zI) from Blk.new _ _ _)
    obtain ⟨Y, hY⟩ : ∃ Y, Y = w2.alloc (.cells (cI y) 61) := ⟨_, rfl⟩
    have hbY : Below w2.heap.size w2 Y := by rw [hY]; exact (Below.refl _ _).alloc (Nat.le_refl _) _
    have HBY := Lib.hid (show Blk Y w2.heap.size 61 (cI y) by rw [hY]; exact Blk.new _ _ _)
    have HYe := Lib.hid hY
    have R3 := Lib.hid (R2.out.below hbY)
    have O3 := Lib.hid (O2.out.keep hbY)
    have I3 := Lib.hid (I2.out.below hbY)
    have E3 := Lib.hid (HEy.out.below hbY)
    have B3 := Lib.hid (B2.out.trans (But.of_below (g := g) hbY))
    clear hY hbY R2 O2 B2 I2 HEy
    go_upto_region 5 with (first
      | (refine wpList_store_row (o := ⟨none, _, _, _, _, _⟩) rfl 61 (.tmp 6) (.tmp 13) rfl w2.heap.size (cI y) rfl rfl _ _ HZz.out (sizeIi y) rfl (cI_oneS y HYs.out) ?_; rw [HAl.out, ← HYe.out])
      | fail)
    clear hz HZz HAl HYe
    obtain ⟨b6, hb6⟩ : ∃ b6, w2.heap.size = b6 := ⟨_, rfl⟩
    rw [hb6] at HBY ⊢
    clear hb6
    try simp only [Act.put]
    go_wp2_with fail
    refine (fail_any g s2 Y R3.out).mono ?_
    rintro e w4 ⟨rfl, rfl⟩
    cases hfl : s2.2
    · rw [hfl, if_neg Bool.false_ne_true] at HGe
      have HM2 := Lib.hid (HMj.out hfl)
      clear hfl
      obtain ⟨v', w', hr, ho', hgr⟩ := append_it p (Y.alloc (.cells (cI y) 61)) _ L (O3.out.keep ((Below.refl _ _).alloc (Nat.le_refl _) _)) _ [y] (sl_oneI y Y) (by have := HLn.out; have := I3.out.1; simp; omega) (fun a ha u hu => by rw [List.mem_singleton] at ha; subst ha; exact enI_oneS a HYs.out u hu) (by have := HP.out; have := B3.out.size; simp; omega)
      have HR5 := Lib.hid hr
      have HBs := Lib.hid (bsIt y HYs.out Y)
      have O5 := Lib.hid ho'
      have I5 := Lib.hid (((I3.out.below ((Below.refl _ _).alloc (Nat.le_refl _) _)).grown (O3.out.keep ((Below.refl _ _).alloc (Nat.le_refl _) _)) hgr).snoc ((E3.out.below ((Below.refl _ _).alloc (Nat.le_refl _) _)).grown (O3.out.keep ((Below.refl _ _).alloc (Nat.le_refl _) _)) hgr))
      have hne : ∀ q, u5.ownBlock = some q → w.heap.size ≤ q := fun q e => by rw [HP.out]; exact (O3.out.lt q e).1
      have hb4 : But g Y (Y.alloc (.cells (cI y) 61)) := But.of_below ((Below.refl _ _).alloc (Nat.le_refl _) _)
      have B5 := Lib.hid ((B3.out.trans hb4).grown hgr hne)
      have R5 := Lib.hid ((R3.out.below ((Below.refl _ _).alloc (Nat.le_refl _) _)).same (hgr.block g (by have := HG.out; have := B3.out.size; simp; omega) (fun e => by have := hne g e.symm; have := HG.out; omega)))
      have hw := IntWalk.i64_in ((j : Int) + 1) (by have := HNb.out; omega)
      have hjm : ¬ 9223372036854775807 < j + 1 := by have := HNb.out; omega
      have HL5 := Lib.hid (show (acc ++ [q]).length + s2.1.length ≤ 900000 by rw [List.length_append]; have := HLn.out; have := HM2.out; simp; omega)
      clear hr ho' hgr hne hb4 O3 B3 R3 I3 E3
      go_wp2_with (first
        | (refine wpList_load_if rfl 61 (.tmp 6) rfl b6 rfl _ _ _ _ HBY.out Tryz.underlying61 rfl (sizeIi y) ?_)
        | (refine wpList_val (o := ⟨some 18, _, _, _, _, _⟩) rfl (.slice (some ⟨Y.heap.size, 0, none⟩) 1 1) (Y.alloc (.cells (cI y) 61)) (run_buildSlice_op (vs := #[(0, .agg (cI y))]) rfl (by simp only [List.map_toArray, List.map_cons, List.map_nil] <;> rfl) HBs.out) ?_)
        | (at_builtin; refine Lib.wpList_append_run (o := ⟨some 19, _, _, _, _, _⟩) _ rfl _ _ _ _ rfl _ _ rfl rfl _ _ HR5.out ?_)
        | fail)
      go_roundw
      case rel => exact ⟨j + 1, s2, acc ++ [q], L ++ [y], by go_num, HLt.out, HGe.out, HL5.out, O5.out, I5.out, R5.out, B5.out⟩
      case measure => simp [intOf] <;> omega
    · rw [hfl, if_pos rfl] at HGe
      clear hfl
      go_wp2
      go_ret
      exact ⟨_, [], rfl, OwnK.nil_ _ _ _ _ _, by rw [← HGe.out]; exact ItOwn.nil _ _, by rw [← HGe.out]; exact R3.out, B3.out⟩

end Go.Proofs.YtejljikikhecnaaGreat
