/-
  snap.readRow at entries, at events: the contracts, by walks. Conditions: lengths.
-/
import Derived.Test.YtejljikikhecnaaGreatSnRdE
namespace Go.Proofs.YtejljikikhecnaaGreat
open Go.RowKit Go.MapKept Go.Sort

/-- What is read one by one, so many times, as long as none fails. -/
def rowGo {α : Type} (rd : List UInt8 × Bool → α × (List UInt8 × Bool)) : Nat → (List UInt8 × Bool) → List α → List α × (List UInt8 × Bool)
  | 0, s, acc => (acc, s)
  | n + 1, s, acc => if (rd s).2.2 = true then ([], (rd s).2) else rowGo rd n (rd s).2 (acc ++ [(rd s).1])
def rowR {α : Type} (rd : List UInt8 × Bool → α × (List UInt8 × Bool)) (s : List UInt8 × Bool) : List α × (List UInt8 × Bool) := rowGo rd (rNum s mx).1.toNat (rNum s mx).2 []
theorem Rd.same {w w' : World} {g : Nat} {s : List UInt8 × Bool} (h : Rd w g s) (e : w'.heap[g]? = w.heap[g]?) : Rd w' g s := by
  obtain ⟨b, h1, h2, h3⟩ := h
  exact ⟨b, h1, h2, e.trans h3⟩
theorem But.grown {g : Nat} {w W W' : World} {row : Option Nat} (h : But g w W) (hg : W.grownBy W' row) (hr : ∀ q, row = some q → w.heap.size ≤ q) : But g w W' :=
  ⟨hg.os.trans h.os, hg.tape.trans h.tape, hg.output.trans h.output, Nat.le_trans h.size hg.size, fun k hk hn => (hg.block k (Nat.lt_of_lt_of_le hk h.size) (fun e => by have := hr k e.symm; omega)).trans (h.block k hk hn)⟩
theorem OwnK.but {α : Type} {enc : α → List Value} {base k g : Nat} {e : TypeId} {w w' : World} {v : Value} {l : List α} (h : OwnK enc base e k w v l) (hb : But g w w') (hg : g < base) : OwnK enc base e k w' v l := h.same fun q hq => hb.block q (h.lt q hq).2 (by have := (h.lt q hq).1; intro e; have := Option.some.inj e; omega)
theorem infoN : (Tryz.prog.info? 63).map (fun i => (i.zero, i.size, i.bytes)) = some (some (.agg (cN zN)), 5, 48) := by kernel_rfl
theorem append_en (R : Nat) (w : World) (v : Value) (xs : List (Dt × Va)) (hown : OwnK enN R 63 5 w v xs) (v2 : Value) (l : List (Dt × Va)) (hl : SlK enN 5 w v2 l) (hn : xs.length + l.length ≤ 1000000) (hR : R ≤ w.heap.size) :
    ∃ v' w', (Builtin.append_ #[59, 59] 59 #[v, v2]).run Tryz.prog w = .ok v' w' ∧ OwnK enN R 63 5 w' v' (xs ++ l) ∧ w.grownBy w' v.ownBlock := by
  obtain ⟨i, hi, hz0, hz1, hz2⟩ := info_parts infoN
  exact run_append_K (P := Tryz.prog) enN_len (by decide) w R 59 59 63 i _ 48 Tryz.underlying59 hi hz0 hz1 hz2 rfl v xs hown v2 l hl (fun e => enN_one e) (by omega) (by omega) hR
theorem sl_oneN (e : Dt × Va) (w : World) : SlK enN 5 (w.alloc (.cells (cN e) 63)) (.slice (some ⟨w.heap.size, 0, none⟩) 1 1) [e] := ⟨_, _, rfl, Nat.le_refl _, fun _ => ⟨w.heap.size, 0, rfl, by simp, fun q y hq => by
  have hq0 : q = 0 := by have := (List.getElem?_eq_some_iff.1 hq).1; simp at this; exact this
  subst hq0
  have hy : y = e := by simpa using hq.symm
  subst hy
  intro i u hu
  rw [Blk.cell (Blk.new w _ _)]
  simpa [enN, cN] using hu⟩⟩
theorem bsEn (e : Dt × Va) (w : World) : (Instr.buildSlice 59 1 #[(0, .agg (cN e))]).run Tryz.prog w = .ok (.slice (some ⟨w.heap.size, 0, none⟩) 1 1) (w.alloc (.cells (cN e) 63)) := by
  unfold cN; go_simp
theorem rNum_le (s : List UInt8 × Bool) (m : Int) : (rNum s m).2.1.length ≤ s.1.length := by
  unfold rNum
  split
  · exact Nat.le_refl _
  · split
    · exact Nat.le_refl _
    · split
      · exact Nat.le_refl _
      · simp
theorem rText_le (s : List UInt8 × Bool) (m : Int) : (rText s m).2.1.length ≤ s.1.length ∧ (rText s m).1.length ≤ s.1.length := by
  have := rNum_le s m
  unfold rText
  split
  · exact ⟨this, by simp⟩
  · split
    · exact ⟨this, by simp⟩
    · simp only [List.length_drop, List.length_take]; omega

set_option maxRecDepth 100000 in
set_option maxHeartbeats 4000000 in
theorem readRowN_any (g : Nat) (s : List UInt8 × Bool) (w : World) (h : Rd w g s) (hl : s.1.length ≤ 900000) (hmore : ∀ s, (rdN s).2.2 = false → (rdN s).2.1.length < s.1.length) :
    Calls Tryz.prog 72 #[.pointer (some ⟨g, 0, none⟩), .func (.func 73) #[] #[]] w fun e w' => ∃ v, e = .returned v ∧ OwnK enN w.heap.size 63 5 w' v (rowR rdN s).1 ∧ Rd w' g (rowR rdN s).2 ∧ But g w w' := by
  obtain ⟨p, hp⟩ : ∃ p, w.heap.size = p := ⟨_, rfl⟩
  have hg := h.lt
  have HP := Lib.hid hp
  have HG := Lib.hid hg
  have HR0 := Lib.hid h
  have HLs := Lib.hid hl
  have HMore := Lib.hid hmore
  have HZe := Lib.hid (zero_of_info zeroN).1
  obtain ⟨fin, hfin⟩ : ∃ fin, rowR rdN s = fin := ⟨_, rfl⟩
  obtain ⟨n, hn⟩ : ∃ n, (rNum s mx).1.toNat = n := ⟨_, rfl⟩
  have hnn : (rNum s mx).1 = (n : Int) := by have := (rNum_rng s mx).1; omega
  have hnb : n < 4611686018427387904 := by have := (rNum_rng s mx).2.1; omega
  have hgo : rowGo rdN n (rNum s mx).2 [] = fin := by rw [← hfin, ← hn]; rfl
  have HGo := Lib.hid hgo
  have HNn := Lib.hid hnn
  have HNb := Lib.hid hnb
  rw [hfin, hp]
  clear h hg hl hmore hp hfin hn hnn hnb hgo
  go_enter Tryz.func72, Tryz.ntmps72
  go_wp2_with fail
  refine (num_any g s mx w HR0.out).mono ?_
  rintro e w1 ⟨rfl, r1, b1⟩
  rw [HNn.out]
  have R1 := Lib.hid r1
  have B1 := Lib.hid b1
  have HL1 := Lib.hid (show (rNum s mx).2.1.length ≤ 900000 from Nat.le_trans (rNum_le s mx) HLs.out)
  clear r1 b1 HR0
  go_wp2_with fail
  go_loopw [5, 9] (fun v5 v9 wr => ∃ (j : Nat) (sj : List UInt8 × Bool) (acc : List (Dt × Va)), v9 = .int .i64 j ∧ j ≤ n ∧ rowGo rdN (n - j) sj acc = fin ∧ acc.length + sj.1.length ≤ 900000 ∧ OwnK enN p 63 5 wr v5 acc ∧ Rd wr g sj ∧ But g w wr) (fun _ v9 _ => n - (intOf v9).toNat)
  case atStart => exact ⟨0, (rNum s mx).2, [], rfl, Nat.zero_le _, HGo.out, by simpa using HL1.out, OwnK.nil_ _ _ _ _ _, R1.out, B1.out⟩
  case round =>
    obtain ⟨j, sj, acc, rfl, hj, hgo, hln, how, hr, hb⟩ := hrel
    obtain ⟨wo, rfl⟩ : ∃ wo, wo = wr := ⟨_, rfl⟩
    have HGj := Lib.hid hgo
    have HLn := Lib.hid hln
    have HOw := Lib.hid how
    have HRj := Lib.hid hr
    have HBj := Lib.hid hb
    clear hgo hln how hr hb R1 B1 HGo
    by_cases hlt : j < n
    case neg =>
      have hjn : n - j = 0 := by omega
      have hge := HGj.out
      rw [hjn] at hge
      have HE := Lib.hid (show (acc, sj) = fin from hge)
      clear hge hjn
      go_wp2
      go_ret
      exact ⟨_, rfl, by rw [← HE.out]; exact HOw.out, by rw [← HE.out]; exact HRj.out, HBj.out⟩
    have hge := HGj.out
    rw [show n - j = (n - (j + 1)) + 1 by omega] at hge
    have HGe := Lib.hid (show (if (rdN sj).2.2 = true then ([], (rdN sj).2) else rowGo rdN (n - (j + 1)) (rdN sj).2 (acc ++ [(rdN sj).1])) = fin from hge)
    have HMj := Lib.hid (HMore.out sj)
    have HLt := Lib.hid hlt
    clear hge HGj
    go_wp2_with fail
    refine (readEntry_any g sj wo HRj.out).mono ?_
    rintro e w2 ⟨rfl, r2, b2⟩
    obtain ⟨y, hy⟩ : ∃ y, (rdN sj).1 = y := ⟨_, rfl⟩
    obtain ⟨s2, hs2⟩ : ∃ s2, (rdN sj).2 = s2 := ⟨_, rfl⟩
    rw [hy, hs2] at HGe
    rw [hs2] at HMj r2
    rw [hy]
    have R2 := Lib.hid r2
    have B2 := Lib.hid (HBj.out.trans b2)
    have O2 := Lib.hid (HOw.out.but b2 (by have := HP.out; have := HG.out; omega))
    clear hy hs2 r2 b2 HRj HBj HOw
    have hz := HZe.out
    have HAl := Lib.hid fun c => World.setRow_alloc_new w2 (cN zN) c 63
    have HZz := Lib.hid (show Blk (w2.alloc (.cells (cN zN) 63)) w2.heap.size 63 (cN zN) from Blk.new _ _ _)
    obtain ⟨Y, hY⟩ : ∃ Y, Y = w2.alloc (.cells (cN y) 63) := ⟨_, rfl⟩
    have hbY : Below w2.heap.size w2 Y := by rw [hY]; exact (Below.refl _ _).alloc (Nat.le_refl _) _
    have HBY := Lib.hid (show Blk Y w2.heap.size 63 (cN y) by rw [hY]; exact Blk.new _ _ _)
    have HYe := Lib.hid hY
    have R3 := Lib.hid (R2.out.below hbY)
    have O3 := Lib.hid (O2.out.keep hbY)
    have B3 := Lib.hid (B2.out.trans (But.of_below (g := g) hbY))
    clear hY hbY R2 O2 B2
    go_upto_region 5 with (first
      | (refine wpList_store_row (o := ⟨none, _, _, _, _, _⟩) rfl 63 (.tmp 6) (.tmp 13) rfl w2.heap.size (cN y) rfl rfl _ _ HZz.out (sizeNn y) rfl (cN_one y) ?_; rw [HAl.out, ← HYe.out])
      | fail)
    clear hz HZz HAl HYe
    obtain ⟨b6, hb6⟩ : ∃ b6, w2.heap.size = b6 := ⟨_, rfl⟩
    rw [hb6] at HBY ⊢
    clear hb6
    try simp only [Act.put]
    go_wp2_with fail
    refine (fail_any g s2 Y R3.out).mono ?_
    rintro e w4 ⟨rfl, rfl⟩
    cases hfl : s2.2
    · rw [hfl, if_neg Bool.false_ne_true] at HGe
      have HM2 := Lib.hid (HMj.out hfl)
      clear hfl
      obtain ⟨v', w', hr, ho', hgr⟩ := append_en p (Y.alloc (.cells (cN y) 63)) _ acc (O3.out.keep ((Below.refl _ _).alloc (Nat.le_refl _) _)) _ [y] (sl_oneN y Y) (by have := HLn.out; simp; omega) (by have := HP.out; have := B3.out.size; simp; omega)
      have HR5 := Lib.hid hr
      have HBs := Lib.hid (bsEn y Y)
      have O5 := Lib.hid ho'
      have hne : ∀ q, u5.ownBlock = some q → w.heap.size ≤ q := fun q e => by rw [HP.out]; exact (O3.out.lt q e).1
      have hb4 : But g Y (Y.alloc (.cells (cN y) 63)) := But.of_below ((Below.refl _ _).alloc (Nat.le_refl _) _)
      have B5 := Lib.hid ((B3.out.trans hb4).grown hgr hne)
      have R5 := Lib.hid ((R3.out.below ((Below.refl _ _).alloc (Nat.le_refl _) _)).same (hgr.block g (by have := HG.out; have := B3.out.size; simp; omega) (fun e => by have := hne g e.symm; have := HG.out; omega)))
      have hw := IntWalk.i64_in ((j : Int) + 1) (by have := HNb.out; omega)
      have hjm : ¬ 9223372036854775807 < j + 1 := by have := HNb.out; omega
      have HL5 := Lib.hid (show (acc ++ [y]).length + s2.1.length ≤ 900000 by rw [List.length_append]; have := HLn.out; have := HM2.out; simp; omega)
      clear hr ho' hgr hne hb4 O3 B3 R3
      go_wp2_with (first
        | (refine wpList_load_if rfl 63 (.tmp 6) rfl b6 rfl _ _ _ _ HBY.out Tryz.underlying63 rfl (sizeNn y) ?_)
        | (refine wpList_val (o := ⟨some 18, _, _, _, _, _⟩) rfl (.slice (some ⟨Y.heap.size, 0, none⟩) 1 1) (Y.alloc (.cells (cN y) 63)) (run_buildSlice_op (vs := #[(0, .agg (cN y))]) rfl (by simp only [List.map_toArray, List.map_cons, List.map_nil] <;> rfl) HBs.out) ?_)
        | (at_builtin; refine Lib.wpList_append_run (o := ⟨some 19, _, _, _, _, _⟩) _ rfl _ _ _ _ rfl _ _ rfl rfl _ _ HR5.out ?_)
        | fail)
      go_roundw
      case rel => exact ⟨j + 1, s2, acc ++ [y], by go_num, HLt.out, HGe.out, HL5.out, O5.out, R5.out, B5.out⟩
      case measure => simp [intOf] <;> omega
    · rw [hfl, if_pos rfl] at HGe
      clear hfl
      go_wp2
      go_ret
      exact ⟨_, rfl, by rw [← HGe.out]; exact OwnK.nil_ _ _ _ _ _, by rw [← HGe.out]; exact R3.out, B3.out⟩
set_option maxRecDepth 100000 in
set_option maxHeartbeats 4000000 in
theorem readRowE_any (g : Nat) (s : List UInt8 × Bool) (w : World) (h : Rd w g s) (hl : s.1.length ≤ 900000) (hmore : ∀ s, (rdEv s).2.2 = false → (rdEv s).2.1.length < s.1.length) :
    Calls Tryz.prog 38 #[.pointer (some ⟨g, 0, none⟩), .func (.func 39) #[] #[]] w fun e w' => ∃ v, e = .returned v ∧ OwnK encE w.heap.size 49 27 w' v (rowR rdEv s).1 ∧ Rd w' g (rowR rdEv s).2 ∧ But g w w' := by
  obtain ⟨p, hp⟩ : ∃ p, w.heap.size = p := ⟨_, rfl⟩
  have hg := h.lt
  have HP := Lib.hid hp
  have HG := Lib.hid hg
  have HR0 := Lib.hid h
  have HLs := Lib.hid hl
  have HMore := Lib.hid hmore
  have HZe := Lib.hid (zero_of_info zeroE).1
  obtain ⟨fin, hfin⟩ : ∃ fin, rowR rdEv s = fin := ⟨_, rfl⟩
  obtain ⟨n, hn⟩ : ∃ n, (rNum s mx).1.toNat = n := ⟨_, rfl⟩
  have hnn : (rNum s mx).1 = (n : Int) := by have := (rNum_rng s mx).1; omega
  have hnb : n < 4611686018427387904 := by have := (rNum_rng s mx).2.1; omega
  have hgo : rowGo rdEv n (rNum s mx).2 [] = fin := by rw [← hfin, ← hn]; rfl
  have HGo := Lib.hid hgo
  have HNn := Lib.hid hnn
  have HNb := Lib.hid hnb
  rw [hfin, hp]
  clear h hg hl hmore hp hfin hn hnn hnb hgo
  go_enter Tryz.func38, Tryz.ntmps38
  go_wp2_with fail
  refine (num_any g s mx w HR0.out).mono ?_
  rintro e w1 ⟨rfl, r1, b1⟩
  rw [HNn.out]
  have R1 := Lib.hid r1
  have B1 := Lib.hid b1
  have HL1 := Lib.hid (show (rNum s mx).2.1.length ≤ 900000 from Nat.le_trans (rNum_le s mx) HLs.out)
  clear r1 b1 HR0
  go_wp2_with fail
  go_loopw [5, 9] (fun v5 v9 wr => ∃ (j : Nat) (sj : List UInt8 × Bool) (acc : List (Ev)), v9 = .int .i64 j ∧ j ≤ n ∧ rowGo rdEv (n - j) sj acc = fin ∧ acc.length + sj.1.length ≤ 900000 ∧ OwnK encE p 49 27 wr v5 acc ∧ Rd wr g sj ∧ But g w wr) (fun _ v9 _ => n - (intOf v9).toNat)
  case atStart => exact ⟨0, (rNum s mx).2, [], rfl, Nat.zero_le _, HGo.out, by simpa using HL1.out, OwnK.nil_ _ _ _ _ _, R1.out, B1.out⟩
  case round =>
    obtain ⟨j, sj, acc, rfl, hj, hgo, hln, how, hr, hb⟩ := hrel
    obtain ⟨wo, rfl⟩ : ∃ wo, wo = wr := ⟨_, rfl⟩
    have HGj := Lib.hid hgo
    have HLn := Lib.hid hln
    have HOw := Lib.hid how
    have HRj := Lib.hid hr
    have HBj := Lib.hid hb
    clear hgo hln how hr hb R1 B1 HGo
    by_cases hlt : j < n
    case neg =>
      have hjn : n - j = 0 := by omega
      have hge := HGj.out
      rw [hjn] at hge
      have HE := Lib.hid (show (acc, sj) = fin from hge)
      clear hge hjn
      go_wp2
      go_ret
      exact ⟨_, rfl, by rw [← HE.out]; exact HOw.out, by rw [← HE.out]; exact HRj.out, HBj.out⟩
    have hge := HGj.out
    rw [show n - j = (n - (j + 1)) + 1 by omega] at hge
    have HGe := Lib.hid (show (if (rdEv sj).2.2 = true then ([], (rdEv sj).2) else rowGo rdEv (n - (j + 1)) (rdEv sj).2 (acc ++ [(rdEv sj).1])) = fin from hge)
    have HMj := Lib.hid (HMore.out sj)
    have HLt := Lib.hid hlt
    clear hge HGj
    go_wp2_with fail
    refine (readEvent_any g sj wo HRj.out).mono ?_
    rintro e w2 ⟨rfl, r2, b2⟩
    obtain ⟨y, hy⟩ : ∃ y, (rdEv sj).1 = y := ⟨_, rfl⟩
    obtain ⟨s2, hs2⟩ : ∃ s2, (rdEv sj).2 = s2 := ⟨_, rfl⟩
    rw [hy, hs2] at HGe
    rw [hs2] at HMj r2
    rw [hy]
    have R2 := Lib.hid r2
    have B2 := Lib.hid (HBj.out.trans b2)
    have O2 := Lib.hid (HOw.out.but b2 (by have := HP.out; have := HG.out; omega))
    clear hy hs2 r2 b2 HRj HBj HOw
    have hz := HZe.out
    have HAl := Lib.hid fun c => World.setRow_alloc_new w2 (evC ev0) c 49
    have HZz := Lib.hid (show Blk (w2.alloc (.cells (evC ev0) 49)) w2.heap.size 49 (evC ev0) from Blk.new _ _ _)
    obtain ⟨Y, hY⟩ : ∃ Y, Y = w2.alloc (.cells (evC y) 49) := ⟨_, rfl⟩
    have hbY : Below w2.heap.size w2 Y := by rw [hY]; exact (Below.refl _ _).alloc (Nat.le_refl _) _
    have HBY := Lib.hid (show Blk Y w2.heap.size 49 (evC y) by rw [hY]; exact Blk.new _ _ _)
    have HYe := Lib.hid hY
    have R3 := Lib.hid (R2.out.below hbY)
    have O3 := Lib.hid (O2.out.keep hbY)
    have B3 := Lib.hid (B2.out.trans (But.of_below (g := g) hbY))
    clear hY hbY R2 O2 B2
    go_upto_region 5 with (first
      | (refine wpList_store_row (o := ⟨none, _, _, _, _, _⟩) rfl 49 (.tmp 6) (.tmp 13) rfl w2.heap.size (evC y) rfl rfl _ _ HZz.out (sizeE y) rfl (cE_one y) ?_; rw [HAl.out, ← HYe.out])
      | fail)
    clear hz HZz HAl HYe
    obtain ⟨b6, hb6⟩ : ∃ b6, w2.heap.size = b6 := ⟨_, rfl⟩
    rw [hb6] at HBY ⊢
    clear hb6
    try simp only [Act.put]
    go_wp2_with fail
    refine (fail_any g s2 Y R3.out).mono ?_
    rintro e w4 ⟨rfl, rfl⟩
    cases hfl : s2.2
    · rw [hfl, if_neg Bool.false_ne_true] at HGe
      have HM2 := Lib.hid (HMj.out hfl)
      clear hfl
      obtain ⟨v', w', hr, ho', hgr⟩ := append_ev p (Y.alloc (.cells (evC y) 49)) _ acc (O3.out.keep ((Below.refl _ _).alloc (Nat.le_refl _) _)) _ [y] (sl_one y Y) (by have := HLn.out; simp; omega) (by have := HP.out; have := B3.out.size; simp; omega)
      have HR5 := Lib.hid hr
      have HBs := Lib.hid (bsEv y Y)
      have O5 := Lib.hid ho'
      have hne : ∀ q, u5.ownBlock = some q → w.heap.size ≤ q := fun q e => by rw [HP.out]; exact (O3.out.lt q e).1
      have hb4 : But g Y (Y.alloc (.cells (evC y) 49)) := But.of_below ((Below.refl _ _).alloc (Nat.le_refl _) _)
      have B5 := Lib.hid ((B3.out.trans hb4).grown hgr hne)
      have R5 := Lib.hid ((R3.out.below ((Below.refl _ _).alloc (Nat.le_refl _) _)).same (hgr.block g (by have := HG.out; have := B3.out.size; simp; omega) (fun e => by have := hne g e.symm; have := HG.out; omega)))
      have hw := IntWalk.i64_in ((j : Int) + 1) (by have := HNb.out; omega)
      have hjm : ¬ 9223372036854775807 < j + 1 := by have := HNb.out; omega
      have HL5 := Lib.hid (show (acc ++ [y]).length + s2.1.length ≤ 900000 by rw [List.length_append]; have := HLn.out; have := HM2.out; simp; omega)
      clear hr ho' hgr hne hb4 O3 B3 R3
      go_wp2_with (first
        | (refine wpList_load_if rfl 49 (.tmp 6) rfl b6 rfl _ _ _ _ HBY.out Tryz.underlying49 rfl (sizeE y) ?_)
        | (refine wpList_val (o := ⟨some 18, _, _, _, _, _⟩) rfl (.slice (some ⟨Y.heap.size, 0, none⟩) 1 1) (Y.alloc (.cells (evC y) 49)) (run_buildSlice_op (vs := #[(0, .agg (evC y))]) rfl (by simp only [List.map_toArray, List.map_cons, List.map_nil] <;> rfl) HBs.out) ?_)
        | (at_builtin; refine Lib.wpList_append_run (o := ⟨some 19, _, _, _, _, _⟩) _ rfl _ _ _ _ rfl _ _ rfl rfl _ _ HR5.out ?_)
        | fail)
      go_roundw
      case rel => exact ⟨j + 1, s2, acc ++ [y], by go_num, HLt.out, HGe.out, HL5.out, O5.out, R5.out, B5.out⟩
      case measure => simp [intOf] <;> omega
    · rw [hfl, if_pos rfl] at HGe
      clear hfl
      go_wp2
      go_ret
      exact ⟨_, rfl, by rw [← HGe.out]; exact OwnK.nil_ _ _ _ _ _, by rw [← HGe.out]; exact R3.out, B3.out⟩

end Go.Proofs.YtejljikikhecnaaGreat
