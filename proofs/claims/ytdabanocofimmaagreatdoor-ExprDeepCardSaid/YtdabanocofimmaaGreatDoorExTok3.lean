/-
  expr.size, Tokens: the contracts, by walks. Conditions: lengths; the world holds the library's tables (WOk) and what stands between sides.
-/
import Derived.Test.YtdabanocofimmaaGreatDoorExTok2
namespace Go.Proofs.YtdabanocofimmaaGreatDoor
open Go.RowKit
set_option linter.unusedVariables false

/-- How many tokens are told, at most 4097. -/
def sizeL (row : List Ex.X) (i : Nat) : Int := min ((Ex.plainT (treeL row i)).length : Int) 4097
theorem reck_bd {row : List Ex.X} (h : rowB 0 row = true) {j : Nat} (hj : j ≤ row.length) : ∀ x ∈ reckL (sizeOne row) 4097 (row.take j), 0 ≤ x ∧ x ≤ 10000 := by
  intro x hx
  obtain ⟨k, hk⟩ := List.getElem?_of_mem hx
  have hl : (reckL (sizeOne row) 4097 (row.take j)).length = j := by rw [reckL_len, List.length_take]; omega
  have hkj : k < j := by have := (List.getElem?_eq_some_iff.1 hk).1; omega
  rw [size_len h j hj k hkj] at hk
  have : min ((Ex.plainT (treeL row k)).length : Int) 4097 = x := Option.some.inj hk
  omega

set_option maxRecDepth 100000 in
set_option maxHeartbeats 2000000 in
theorem size_any (row : List Ex.X) (i : Nat) (v : Value) (w : World) (hB : BetwIs w) (hs : SlK encX 8 w v row) (hr : rowB 0 row = true) (hi : i < row.length) (hn : row.length ≤ 100000) :
    Calls Tryz.prog 23 #[v, .int .i64 i] w (Gives w (.int .i64 (sizeL row i))) := by
  obtain ⟨A, c, rfl, _, _⟩ := id hs
  obtain ⟨n, hnn⟩ : ∃ n, row.length = n := ⟨_, rfl⟩
  obtain ⟨p, hp⟩ : ∃ p, w.heap.size = p := ⟨_, rfl⟩
  obtain ⟨X, hX⟩ : ∃ X, X = w.alloc (.cells #[.slice A row.length c] 22) := ⟨_, rfl⟩
  have hbX : Below w.heap.size w X := by rw [hX]; exact (Below.refl _ _).alloc (Nat.le_refl _) _
  have hE : Blk X p 22 #[.slice A row.length c] := by rw [hX, ← hp]; exact Blk.new w _ _
  have hBX := hB.same hbX.size (hbX.block _ hB.1)
  have hsX := hs.below hbX
  have hR := reckon_any 44 #[.pointer (some ⟨p, 0, none⟩)] (sizeOne row) 4097 row i _ X (EntF.three fun a b c W => by go_simp) (fun j e v2 W2 hj hv hb2 => by
      have hx := row_rt hr hj
      have hlt := (List.getElem?_eq_some_iff.1 hj).1
      have hl : (reckL (sizeOne row) 4097 (row.take j)).length = j := by rw [reckL_len, List.length_take]; omega
      exact sizeone_any (hE.below hb2 hE.lt) (hsX.below hb2) hv (hBX.same hb2.size (hb2.block _ hBX.1)) hx.kd (fun h1 => (spoken_num (hx.val h1).1).1) (fun s hm => by rw [hl]; exact side_lt hx hm) (by rw [hl]; omega) (by omega) (reck_bd hr (by omega))) hsX hi hn
  have hz : (reckL (sizeOne row) 4097 (row.take (i + 1))).getD i 0 = sizeL row i := by
    rw [List.getD_eq_getElem?_getD, size_len hr (i + 1) (by omega) i (by omega)]
    rfl
  rw [hz, hnn] at hR
  have HR := Lib.hid hR
  have HX := Lib.hid (show X = w.alloc (.cells #[.slice A n c] 22) by rw [hX, hnn])
  have HP := Lib.hid hp
  have HB := Lib.hid hbX
  have c0 : X.cell? ⟨p, 0, none⟩ = some (.slice A n c) := by rw [← hnn]; exact (Blk.cell hE 0).trans rfl
  rw [hnn]
  obtain ⟨Z, hZ⟩ : ∃ z, sizeL row i = z := ⟨_, rfl⟩
  rw [hZ] at HR ⊢
  clear hs hr hi hn hnn hp hX hbX hE hBX hsX hR hz hZ hB
  go_enter Tryz.func23, Tryz.ntmps23
  go_upto_region 1 with fail
  rw [← HX.out, HP.out]
  go_wp2_with fail
  refine HR.out.mono ?_
  rintro _ w1 ⟨rfl, hb1⟩
  have HB1 := Lib.hid (HB.out.trans (hb1.mono HB.out.size))
  clear hb1
  go_wp2_with fail
  go_ret
  exact ⟨rfl, HB1.out⟩
theorem side_all {row : List Ex.X} {R br bt bs bl : Nat} {vr : Value} (hr : rowB 0 row = true) (hn : row.length ≤ 1000000) : ∀ p, p < row.length → SideC row R br bt bs bl vr p := by
  intro p
  induction p using Nat.strongRecOn with
  | ind p ih => exact fun hp => tk2_any hr hn p hp fun i hi => ih i hi (by omega)
theorem wpList_skip {P : Program} {ops : Array Oper} {rest : List Oper} {o : Oper} {a : Act} {w : World} {Q : Exit → Act → World → Prop} (hw : Region.wanted o (yielded ops a.tmps) = true) (hd : o.dst = none) (w' : World)
    (hr : (execOp a.eval o).run P w = .ok .skip w') (h : wpList P ops Q rest a w') : wpList P ops Q (o :: rest) a w :=
  wpList_step fun K hK => by
    rw [if_pos hw]
    unfold Oper.wp
    rw [hr]
    have := hK a w' h
    show K (a.put o.dst undef) w'
    rw [hd]
    exact this
/-- Are there tokens? -/
def tokB (row : List Ex.X) (i : Int) : Bool := hasB row i && decide ((Ex.plainT (treeL row i.toNat)).length ≤ 4096)
/-- What Tokens answers. -/
def TokR (row : List Ex.X) (i : Int) (w : World) (r : Ending) (w' : World) : Prop :=
  (∃ u, r = .returned (.tuple #[u, .bool (tokB row i)]) ∧ OwnK encT w.heap.size 43 3 w' u (if tokB row i = true then Ex.plainT (treeL row i.toNat) else [])) ∧ Below w.heap.size w w'

set_option maxRecDepth 100000 in
set_option maxHeartbeats 4000000 in
theorem xtokens_any (row : List Ex.X) (i : Int) (v : Value) (w : World) (hw : WOk w) (hB : BetwIs w) (hs : SlK encX 8 w v row) (hsm : ∀ e ∈ row, XSm e) (hn : row.length ≤ 100000) :
    Calls Tryz.prog 9 #[v, .int .i64 i] w (TokR row i w) := by
  obtain ⟨A, c, rfl, _, _⟩ := id hs
  obtain ⟨n, hnn⟩ : ∃ n, row.length = n := ⟨_, rfl⟩
  obtain ⟨p, hp⟩ : ∃ p, w.heap.size = p := ⟨_, rfl⟩
  obtain ⟨X, hX⟩ : ∃ X, X = w.alloc (.cells #[.slice A row.length c] 22) := ⟨_, rfl⟩
  have hbX : Below w.heap.size w X := by rw [hX]; exact (Below.refl _ _).alloc (Nat.le_refl _) _
  have hE : Blk X p 22 #[.slice A row.length c] := by rw [hX, ← hp]; exact Blk.new w _ _
  have hBX := hB.same hbX.size (hbX.block _ hB.1)
  have hsX := hs.below hbX
  have HH := Lib.hid (xhas_any row i _ X (hw.below hbX) hsX hsm (by omega))
  have HX := Lib.hid (show X = w.alloc (.cells #[.slice A n c] 22) by rw [hX, hnn])
  have HP := Lib.hid hp
  have HB := Lib.hid hbX
  have HE := Lib.hid (show Blk X p 22 #[.slice A n c] by rw [← hnn]; exact hE)
  have c0 : X.cell? ⟨p, 0, none⟩ = some (.slice A n c) := by rw [← hnn]; exact (Blk.cell hE 0).trans rfl
  cases hq : hasB row i
  · have htb : tokB row i = false := by unfold tokB; rw [hq]; rfl
    rw [hq, hnn] at HH
    have HNo := Lib.hid (fun W (hb : Below w.heap.size w W) => show TokR row i w (.returned (.tuple #[.slice none 0 0, .bool false])) W from ⟨⟨_, by rw [htb], by rw [htb]; exact OwnK.nil_ _ _ _ _ _⟩, hb⟩)
    rw [hnn]
    clear hw hB hs hsm hn hnn hp hX hbX hE hBX hsX hq htb
    go_enter Tryz.func9, Tryz.ntmps9
    go_upto_region 1 with fail
    rw [← HX.out, HP.out]
    go_wp2_with fail
    refine HH.out.mono ?_
    rintro _ w1 ⟨rfl, hb1⟩
    have HB1 := Lib.hid (HB.out.trans (hb1.mono HB.out.size))
    clear hb1
    go_wp2_with fail
    go_ret2
    exact HNo.out _ HB1.out
  rw [hq] at HH
  have hq' := hq
  unfold hasB at hq
  simp only [Bool.and_eq_true, decide_eq_true_eq] at hq
  obtain ⟨⟨h0, h1⟩, h2⟩ := hq
  obtain ⟨i, rfl⟩ := Int.eq_ofNat_of_zero_le h0
  have hi : i < row.length := by omega
  have HSz := Lib.hid (fun W (hb : Below X.heap.size X W) => size_any row i _ W (hBX.same hb.size (hb.block _ hBX.1)) (hsX.below hb) h2 hi hn)
  obtain ⟨Z, hZ⟩ : ∃ z, sizeL row i = z := ⟨_, rfl⟩
  have htb : tokB row (i : Int) = decide ((Ex.plainT (treeL row i)).length ≤ 4096) := by unfold tokB; rw [hq', Int.toNat_natCast]; rfl
  have hZ2 : (Z ≤ 4096) ↔ (Ex.plainT (treeL row i)).length ≤ 4096 := by rw [← hZ]; unfold sizeL; omega
  rw [hZ] at HSz
  rw [hnn] at HH HSz
  by_cases hz : Z ≤ 4096
  · have hlen := hZ2.1 hz
    rw [decide_eq_true hlen] at htb
    have hz' : ¬ 4096 < Z := by omega
    have HSd := Lib.hid (fun (R br bt bs bl : Nat) (W : World) (h : TokSt row R br bt bs bl (.slice A n c) [] W) => (side_all (R := R) (br := br) (bt := bt) (bs := bs) (bl := bl) (vr := .slice A n c) h2 (by omega) i hi) 0 [] W (Int.le_refl _) h (by
      rw [at_len, List.length_nil]
      have := Ex.lvT_pos (treeL row i)
      rw [if_neg (by show ¬ _ < (0 : Int).toNat + 1; omega)]
      omega))
    have hat : Ex.atT ((0 : Int).toNat + 1) (treeL row i) = Ex.plainT (treeL row i) := if_neg (by
      have := Ex.lvT_pos (treeL row i)
      show ¬ _ < (0 : Int).toNat + 1
      omega)
    have HBB := Lib.hid hBX
    have HSx := Lib.hid hsX
    have HAdr := Lib.hid (show row ≠ [] → ∀ g o s n' c', Value.slice A n c = .slice (some ⟨g, o, s⟩) n' c' → g < w.heap.size from fun hne g o s n' c' e => hs.adr_lt hne (by rw [hnn]; exact e))
    have HYes := Lib.hid (fun W u (ho : OwnK encT w.heap.size 43 3 W u (Ex.plainT (treeL row i))) (hb : Below w.heap.size w W) => show TokR row (i : Int) w (.returned (.tuple #[u, .bool true])) W from ⟨⟨_, by rw [htb], by rw [htb, Int.toNat_natCast]; exact ho⟩, hb⟩)
    rw [hat] at HSd
    rw [hnn] at HSx
    obtain ⟨PT, hPT⟩ : ∃ l, Ex.plainT (treeL row i) = l := ⟨_, rfl⟩
    rw [hPT] at HSd HYes
    rw [hnn]
    clear hw hB hs hsm hn hnn hp hX hbX hE hBX hsX htb h0 h1 h2 hi hZ hZ2 hlen hat hPT hz hq'
    go_enter Tryz.func9, Tryz.ntmps9
    go_upto_region 1 with fail
    rw [← HX.out, HP.out]
    go_wp2_with fail
    refine HH.out.mono ?_
    rintro _ w1 ⟨rfl, hb1⟩
    have HB1 := Lib.hid hb1
    have c0 : w1.cell? ⟨p, 0, none⟩ = some (.slice A n c) := (Blk.cell (HE.out.below hb1 HE.out.lt) 0).trans rfl
    clear hb1
    go_wp2_with fail
    refine (HSz.out w1 HB1.out).mono ?_
    rintro _ w2 ⟨rfl, hb2⟩
    have HB2 := Lib.hid (HB1.out.trans (hb2.mono HB1.out.size))
    clear hb2 c0
    obtain ⟨bl, hbl⟩ : ∃ b, w2.heap.size = b := ⟨_, rfl⟩
    obtain ⟨Y1, hY1⟩ : ∃ Y, Y = w2.alloc (.cells #[.slice none 0 0] 25) := ⟨_, rfl⟩
    obtain ⟨bt, hbt⟩ : ∃ b, Y1.heap.size = b := ⟨_, rfl⟩
    obtain ⟨Y2, hY2⟩ : ∃ Y, Y = Y1.alloc (.cells #[.nilFunc] 50) := ⟨_, rfl⟩
    obtain ⟨Y3, hY3⟩ : ∃ Y, Y = Y2.setCell ⟨bt, 0, none⟩ (tokFn bl) := ⟨_, rfl⟩
    obtain ⟨bs, hbs⟩ : ∃ b, Y3.heap.size = b := ⟨_, rfl⟩
    obtain ⟨Y4, hY4⟩ : ∃ Y, Y = Y3.alloc (.cells #[.nilFunc] 51) := ⟨_, rfl⟩
    obtain ⟨Y5, hY5⟩ : ∃ Y, Y = Y4.setCell ⟨bs, 0, none⟩ (sideFn p bt bs) := ⟨_, rfl⟩
    have b1 : Below w2.heap.size w2 Y1 := by rw [hY1]; exact (Below.refl _ _).alloc (Nat.le_refl _) _
    have b2 : Below Y1.heap.size Y1 Y2 := by rw [hY2]; exact (Below.refl _ _).alloc (Nat.le_refl _) _
    have b3 : Below Y1.heap.size Y1 Y3 := by rw [hY3]; exact b2.setCell (p := ⟨bt, 0, none⟩) (by rw [hbt]; exact Nat.le_refl _) _
    have b4 : Below Y3.heap.size Y3 Y4 := by rw [hY4]; exact (Below.refl _ _).alloc (Nat.le_refl _) _
    have b5 : Below Y3.heap.size Y3 Y5 := by rw [hY5]; exact b4.setCell (p := ⟨bs, 0, none⟩) (by rw [hbs]; exact Nat.le_refl _) _
    have s1 : bt = bl + 1 := by rw [← hbt, hY1, ← hbl]; simp
    have s2 : bs = bl + 2 := by rw [← hbs, hY3, hY2]; simp [hbt, s1]
    have s5 : Y5.heap.size = bl + 3 := by rw [hY5, hY4]; simp [hbs, s2]
    have b13 : Below Y1.heap.size Y1 Y5 := b3.trans (b5.mono b3.size)
    have b25 : Below w2.heap.size w2 Y5 := b1.trans (b13.mono b1.size)
    have k1 : Blk Y5 bl 25 #[.slice none 0 0] := by
      have : Blk Y1 bl 25 #[.slice none 0 0] := by rw [hY1, ← hbl]; exact Blk.new w2 _ _
      exact this.below b13 this.lt
    have k2 : Blk Y2 bt 50 #[.nilFunc] := by rw [hY2, ← hbt]; exact Blk.new Y1 _ _
    have k3 : Blk Y3 bt 50 #[tokFn bl] := by rw [hY3]; exact k2.set_ 0 _
    have k35 : Blk Y5 bt 50 #[tokFn bl] := k3.below b5 k3.lt
    have k4 : Blk Y4 bs 51 #[.nilFunc] := by rw [hY4, ← hbs]; exact Blk.new Y3 _ _
    have k5 : Blk Y5 bs 51 #[sideFn p bt bs] := by rw [hY5]; exact k4.set_ 0 _
    have hbw2 : Below X.heap.size X Y5 := HB2.out.trans (b25.mono HB2.out.size)
    have hpl : p < X.heap.size := HE.out.lt
    have hws : w.heap.size ≤ w2.heap.size := Nat.le_trans HB.out.size HB2.out.size
    have hX2 : X.heap.size ≤ w2.heap.size := HB2.out.size
    have hgl := HBB.out.1
    have hst : TokSt row (bl + 3) p bt bs bl (.slice A n c) [] Y5 :=
      ⟨HE.out.below hbw2 HE.out.lt, k35, k5, ⟨_, k1, OwnK.nil_ _ _ _ _ _⟩, HSx.out.below hbw2, HBB.out.same hbw2.size (hbw2.block _ HBB.out.1), ⟨by omega, by omega, by omega, by omega, by omega, by omega⟩, ⟨by omega, by omega, by omega, by omega⟩,
        fun hne g o s n' c' e => by have := HAdr.out hne g o s n' c' e; omega⟩
    have HS5 := Lib.hid (HSd.out (bl + 3) p bt bs bl Y5 hst)
    have HBw := Lib.hid (fun W (hf : Fram (TSafe bl) Y5 W) => (show Below w.heap.size w W from
      (HB.out.trans (hbw2.mono HB.out.size)).trans ⟨hf.1.1, hf.1.2.1, hf.1.2.2.1, hf.1.2.2.2, fun k hk => (hf.2 k (by omega) ⟨by omega, fun v hv e => by
        rw [Blk.cell k1 0] at hv
        have hv' : Value.slice none 0 0 = v := by simpa using hv
        subst hv'
        cases e⟩).1⟩))
    have HRw := Lib.hid (show w.heap.size ≤ bl + 3 by omega)
    have HY1 := Lib.hid hY1
    have HBl := Lib.hid hbl
    have HBt := Lib.hid hbt
    have HBs := Lib.hid hbs
    have HY3 := Lib.hid (show Y3 = (Y1.alloc (.cells #[.nilFunc] 50)).setCell ⟨Y1.heap.size, 0, none⟩ (.func (.func 24) #[] #[.pointer (some ⟨bl, 0, none⟩)]) by rw [hY3, hY2, hbt]; rfl)
    have HY5 := Lib.hid (show Y5 = (Y3.alloc (.cells #[.nilFunc] 51)).setCell ⟨Y3.heap.size, 0, none⟩ (.func (.func 25) #[] #[.pointer (some ⟨p, 0, none⟩), .pointer (some ⟨bt, 0, none⟩), .pointer (some ⟨Y3.heap.size, 0, none⟩)]) by rw [hY5, hY4, hbs]; rfl)
    have C2 := Lib.hid (show (Y1.alloc (.cells #[.nilFunc] 50)).cell? ⟨Y1.heap.size, 0, none⟩ = some .nilFunc ∧ (Y1.alloc (.cells #[.nilFunc] 50)).frozen? ⟨Y1.heap.size, 0, none⟩ = false from ⟨(Blk.cell (Blk.new Y1 _ _) 0).trans rfl, Blk.free (Blk.new Y1 _ _) 0⟩)
    have C4 := Lib.hid (show (Y3.alloc (.cells #[.nilFunc] 51)).cell? ⟨Y3.heap.size, 0, none⟩ = some .nilFunc ∧ (Y3.alloc (.cells #[.nilFunc] 51)).frozen? ⟨Y3.heap.size, 0, none⟩ = false from ⟨(Blk.cell (Blk.new Y3 _ _) 0).trans rfl, Blk.free (Blk.new Y3 _ _) 0⟩)
    have CS := Lib.hid (show Y5.cell? ⟨bs, 0, none⟩ = some (.func (.func 25) #[] #[.pointer (some ⟨p, 0, none⟩), .pointer (some ⟨bt, 0, none⟩), .pointer (some ⟨bs, 0, none⟩)]) from (Blk.cell k5 0).trans rfl)
    clear hY1 hbl hbt hY2 hY3 hbs hY4 hY5 b1 b2 b3 b4 b5 s1 s2 s5 b13 b25 k1 k2 k3 k35 k4 k5 hbw2 hpl hws hX2 hgl hst
    go_upto_region 4 with fail
    rw [← HY1.out, HBl.out]
    go_upto_region 5 with (first
      | (refine wpList_skip (o := ⟨none, _, _, _, _, _⟩) rfl rfl _ (run_store1_op (v := .func (.func 24) #[] #[.pointer (some ⟨bl, 0, none⟩)]) rfl rfl rfl rfl rfl (by kernel_rfl) C2.out.1 C2.out.2) ?_)
      | fail)
    rw [← HY3.out, HBt.out]
    go_upto_region 6 with fail
    go_upto_region 7 with (first
      | (refine wpList_skip (o := ⟨none, _, _, _, _, _⟩) rfl rfl _ (run_store1_op (v := .func (.func 25) #[] #[.pointer (some ⟨p, 0, none⟩), .pointer (some ⟨bt, 0, none⟩), .pointer (some ⟨Y3.heap.size, 0, none⟩)]) rfl rfl rfl rfl rfl (by kernel_rfl) C4.out.1 C4.out.2) ?_)
      | fail)
    rw [← HY5.out, HBs.out]
    go_wp2_with (first
      | (refine wpList_val (o := ⟨some 21, _, _, _, _, _⟩) rfl _ Y5 (run_loadfn_op rfl rfl (agg_sf Y5) CS.out) ?_)
      | fail)
    refine HS5.out.mono ?_
    rintro _ w6 ⟨rfl, h6, hf6⟩
    obtain ⟨v, hv, ho⟩ := h6.l
    obtain ⟨A6, c6, rfl, _, _⟩ := ho.read encT_len3
    have HFi := Lib.hid (HYes.out w6 _ (by have := ho.base HRw.out; rwa [List.nil_append] at this) (HBw.out w6 hf6))
    obtain ⟨n6, hn6⟩ : ∃ n, PT.length = n := ⟨_, rfl⟩
    rw [hn6] at HFi
    have c6 : w6.cell? ⟨bl, 0, none⟩ = some (.slice A6 n6 c6) := by rw [← hn6]; exact (Blk.cell hv 0).trans rfl
    clear h6 hf6 hv ho hn6
    go_wp2_with fail
    go_ret2
    exact HFi.out
  · have hlen : ¬ (Ex.plainT (treeL row i)).length ≤ 4096 := fun h => hz (hZ2.2 h)
    rw [decide_eq_false hlen] at htb
    have hz' : 4096 < Z := by omega
    have HNo := Lib.hid (fun W (hb : Below w.heap.size w W) => show TokR row (i : Int) w (.returned (.tuple #[.slice none 0 0, .bool false])) W from ⟨⟨_, by rw [htb], by rw [htb]; exact OwnK.nil_ _ _ _ _ _⟩, hb⟩)
    rw [hnn]
    clear hw hB hs hsm hn hnn hp hX hbX hE hBX hsX htb h0 h1 h2 hi hZ hZ2 hlen hz hq'
    go_enter Tryz.func9, Tryz.ntmps9
    go_upto_region 1 with fail
    rw [← HX.out, HP.out]
    go_wp2_with fail
    refine HH.out.mono ?_
    rintro _ w1 ⟨rfl, hb1⟩
    have HB1 := Lib.hid hb1
    have c0 : w1.cell? ⟨p, 0, none⟩ = some (.slice A n c) := (Blk.cell (HE.out.below hb1 HE.out.lt) 0).trans rfl
    clear hb1
    go_wp2_with fail
    refine (HSz.out w1 HB1.out).mono ?_
    rintro _ w2 ⟨rfl, hb2⟩
    have HB2 := Lib.hid (HB1.out.trans (hb2.mono HB1.out.size))
    clear hb2 c0
    go_wp2_with fail
    go_ret2
    exact HNo.out _ (HB.out.trans (HB2.out.mono HB.out.size))

end Go.Proofs.YtdabanocofimmaaGreatDoor
