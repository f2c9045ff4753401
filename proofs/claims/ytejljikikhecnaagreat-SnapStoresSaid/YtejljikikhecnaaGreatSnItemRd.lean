/-
  snap.readItem, snap.readRow at items: the contracts, by walks. Conditions: lengths.
-/
import Derived.Test.YtejljikikhecnaaGreatSnRowR
namespace Go.Proofs.YtejljikikhecnaaGreat
open Go.RowKit Go.MapKept Go.Sort

def rdI (s : List UInt8 × Bool) : (El × List (Dt × Va)) × (List UInt8 × Bool) := (((rdX s).1, (rowR rdN (rdX s).2).1), (rowR rdN (rdX s).2).2)
theorem rNum_more (s : List UInt8 × Bool) (m : Int) (h : (rNum s m).2.2 = false) : (rNum s m).2.1.length < s.1.length := by
  unfold rNum at h ⊢
  split at h
  · rename_i h1; rw [h1] at h; cases h
  · rename_i h1
    rw [if_neg h1]
    split at h
    · cases h
    · rename_i n k hk
      split at h
      · cases h
      · rename_i h3
        rw [if_neg h3]
        have := takeN_len hk
        simp only [List.length_drop]
        omega
theorem rNum_stay (s : List UInt8 × Bool) (m : Int) (h : s.2 = true) : rNum s m = (0, s) := by unfold rNum; rw [if_pos h]
theorem rNum_flag (s : List UInt8 × Bool) (m : Int) (h : (rNum s m).2.2 = false) : s.2 = false := by
  cases hs : s.2
  · rfl
  · rw [rNum_stay s m hs] at h; rw [hs] at h; cases h
theorem rText_stay (s : List UInt8 × Bool) (m : Int) (h : (rNum s m).2.2 = true) : (rText s m).2 = (rNum s m).2 := by unfold rText; rw [if_pos h]
theorem rText_flag (s : List UInt8 × Bool) (m : Int) (h : (rText s m).2.2 = false) : (rNum s m).2.2 = false := by
  cases hs : (rNum s m).2.2
  · rfl
  · rw [rText_stay s m hs, hs] at h; cases h
theorem rSig_le (s : List UInt8 × Bool) : (rSig s).2.1.length ≤ s.1.length := rNum_le _ _
theorem rdA_le (s : List UInt8 × Bool) : (rdA s).2.1.length ≤ s.1.length := Nat.le_trans (rText_le _ _).1 (Nat.le_trans (rSig_le _) (rNum_le _ _))
theorem rdA_flag (s : List UInt8 × Bool) (h : (rdA s).2.2 = false) : s.2 = false := rNum_flag _ _ (rNum_flag _ _ (rNum_flag _ _ (rText_flag _ _ h)))
theorem rdN_more (s : List UInt8 × Bool) (h : (rdN s).2.2 = false) : (rdN s).2.1.length < s.1.length := by
  have h1 : (rdD s).2.2 = false := rdA_flag _ h
  have h2 : (d2 s).2.1.length < (d1 s).2.1.length := rNum_more _ _ h1
  have h3 : (d1 s).2.1.length ≤ s.1.length := rNum_le _ _
  have h4 : (rdN s).2.1.length ≤ (rdD s).2.1.length := rdA_le _
  have h5 : (rdD s).2 = (d2 s).2 := rfl
  rw [h5] at h4
  omega
theorem rdX_le (s : List UInt8 × Bool) : (rdX s).2.1.length ≤ s.1.length :=
  Nat.le_trans (rText_le _ _).1 (Nat.le_trans (rText_le _ _).1 (Nat.le_trans (rText_le _ _).1 (Nat.le_trans (rText_le _ _).1 (rNum_le _ _))))
theorem rdX_flag (s : List UInt8 × Bool) (h : (rdX s).2.2 = false) : (x1 s).2.2 = false :=
  rNum_flag _ _ (rText_flag _ _ (rNum_flag _ _ (rText_flag _ _ (rNum_flag _ _ (rText_flag _ _ (rNum_flag _ _ (rText_flag _ _ h)))))))
theorem rowGo_le {α : Type} (rd : List UInt8 × Bool → α × (List UInt8 × Bool)) (hrd : ∀ s, (rd s).2.1.length ≤ s.1.length) : ∀ (n : Nat) (s : List UInt8 × Bool) (acc : List α), (rowGo rd n s acc).2.1.length ≤ s.1.length
  | 0, s, acc => Nat.le_refl _
  | n + 1, s, acc => by
    unfold rowGo
    split
    · exact hrd s
    · exact Nat.le_trans (rowGo_le rd hrd n _ _) (hrd s)
theorem rowGo_flag {α : Type} (rd : List UInt8 × Bool → α × (List UInt8 × Bool)) (hrd : ∀ s, (rd s).2.2 = false → s.2 = false) : ∀ (n : Nat) (s : List UInt8 × Bool) (acc : List α), (rowGo rd n s acc).2.2 = false → s.2 = false
  | 0, s, acc, h => h
  | n + 1, s, acc, h => by
    unfold rowGo at h
    split at h
    · rename_i h1; rw [h1] at h; cases h
    · exact hrd s (rowGo_flag rd hrd n _ _ h)
theorem rdD_le (s : List UInt8 × Bool) : (rdD s).2.1.length ≤ s.1.length := Nat.le_trans (rNum_le _ _) (rNum_le _ _)
theorem rdD_flag (s : List UInt8 × Bool) (h : (rdD s).2.2 = false) : s.2 = false := rNum_flag _ _ (rNum_flag _ _ h)
theorem rdN_le (s : List UInt8 × Bool) : (rdN s).2.1.length ≤ s.1.length := Nat.le_trans (rdA_le _) (rdD_le _)
theorem rdN_flag (s : List UInt8 × Bool) (h : (rdN s).2.2 = false) : s.2 = false := rdD_flag _ (rdA_flag _ h)
theorem rowN_le (s : List UInt8 × Bool) : (rowR rdN s).2.1.length ≤ s.1.length := Nat.le_trans (rowGo_le rdN rdN_le _ _ _) (rNum_le _ _)
theorem rowN_flag (s : List UInt8 × Bool) (h : (rowR rdN s).2.2 = false) : s.2 = false := rNum_flag _ _ (rowGo_flag rdN rdN_flag _ _ _ h)
theorem rdI_more (s : List UInt8 × Bool) (h : (rdI s).2.2 = false) : (rdI s).2.1.length < s.1.length := by
  have h1 : (rdX s).2.2 = false := rowN_flag _ h
  have h2 := rNum_more _ _ (rdX_flag s h1)
  have h3 : (rdX s).2.1.length ≤ (x1 s).2.1.length := Nat.le_trans (rText_le _ _).1 (Nat.le_trans (rText_le _ _).1 (Nat.le_trans (rText_le _ _).1 (rText_le _ _).1))
  have h4 : (rdI s).2.1.length ≤ (rdX s).2.1.length := rowN_le _
  have h5 : (x1 s).2.1.length < s.1.length := h2
  omega
/-- An item and what it is a picture of: its entries are in memory of its own. -/
def EntOwn (B : Nat) (w : World) (y : El × Value) (q : El × List (Dt × Va)) : Prop := y.1 = q.1 ∧ OwnK enN B 63 5 w y.2 q.2
theorem OwnK.form {α : Type} {enc : α → List Value} {base k : Nat} {e : TypeId} {w : World} {v : Value} {l : List α} (h : OwnK enc base e k w v l) : ∃ A c, v = .slice A l.length c := by
  rcases h.2 with ⟨rfl, h0⟩ | ⟨g, cap, cur, rfl, _⟩
  · exact ⟨none, 0, by rw [h0]⟩
  · exact ⟨_, _, rfl⟩
theorem own_apart {α β : Type} {enc : α → List Value} {enc' : β → List Value} {base base' k k' : Nat} {e e' : TypeId} {w : World} {v v' : Value} {l : List α} {l' : List β} (h : OwnK enc base e k w v l) (h' : OwnK enc' base' e' k' w v' l') (hne : e ≠ e') (g : Nat) (hg : v.ownBlock = some g) : v'.ownBlock ≠ some g := by
  intro hg'
  rcases h.2 with ⟨rfl, _⟩ | ⟨b, cap, cur, rfl, _, hb, _⟩
  · cases hg
  · rcases h'.2 with ⟨rfl, _⟩ | ⟨b', cap', cur', rfl, _, hb', _⟩
    · cases hg'
    · have e1 : b = g := Option.some.inj hg
      have e2 : b' = g := Option.some.inj hg'
      subst e1 e2
      rw [hb] at hb'
      simp only [Option.some.injEq, Obj.cells.injEq] at hb'
      exact hne hb'.2.1
theorem EntOwn.grown {B base : Nat} {w w' : World} {y : El × Value} {q : El × List (Dt × Va)} {v : Value} {L : List (El × Value)} (h : EntOwn B w y q) (hv : OwnK enI base 61 6 w v L) (hg : w.grownBy w' v.ownBlock) : EntOwn B w' y q :=
  ⟨h.1, h.2.same fun b hb => hg.block b (h.2.lt b hb).2 (fun e => own_apart h.2 hv (by decide) b hb e.symm)⟩

set_option maxRecDepth 100000 in
set_option maxHeartbeats 4000000 in
theorem readItem_any (g : Nat) (s : List UInt8 × Bool) (w : World) (h : Rd w g s) (hl : s.1.length ≤ 900000) : Calls Tryz.prog 37 #[.pointer (some ⟨g, 0, none⟩)] w fun e w' => ∃ A c, e = .returned (.agg (cI ((rdI s).1.1, .slice A (rdI s).1.2.length c))) ∧ OwnK enN w.heap.size 63 5 w' (.slice A (rdI s).1.2.length c) (rdI s).1.2 ∧ Rd w' g (rdI s).2 ∧ But g w w' := by
  have hg := h.lt
  have hz := (zero_of_info zeroI).1
  have HL := Lib.hid (show (rdX s).2.1.length ≤ 900000 from Nat.le_trans (rdX_le s) hl)
  obtain ⟨X, hX⟩ : ∃ X, X = (w.alloc (.cells (cI zI) 61)).alloc (.cells (cI zI) 61) := ⟨_, rfl⟩
  have hbx : Below w.heap.size w X := by rw [hX]; exact ((Below.refl _ _).alloc (Nat.le_refl _) _).alloc (by simp) _
  have z0 : Blk X w.heap.size 61 (cI zI) := by rw [hX]; exact (Blk.new w _ _).alloc _
  have k0 : Blk X (w.heap.size + 1) 61 (cI zI) := by
    rw [hX]
    have := Blk.new (w.alloc (.cells (cI zI) 61)) 61 (cI zI)
    simpa using this
  have HSz := Lib.hid (show X.heap.size = w.heap.size + 2 by rw [hX]; simp)
  have HX := Lib.hid hX
  have R0 := Lib.hid (h.below hbx)
  have K0 := Lib.hid k0
  have Z0 := Lib.hid z0
  have B0 := Lib.hid (But.of_below (g := g) hbx)
  have N1 := Lib.hid (show w.heap.size + 1 ≠ g by omega)
  have N2 := Lib.hid (show w.heap.size ≠ g by omega)
  clear hX hbx z0 k0 h hg hl
  go_enter Tryz.func37, Tryz.ntmps37
  go_upto_region 2 with fail
  have HZ := Lib.hid hz
  clear hz
  rw [← HX.out]
  go_wp2_with fail
  refine (readElem_any g s _ R0.out).mono ?_
  rintro e' w1 ⟨rfl, r1, b1⟩
  have kk : Blk w1 (w.heap.size + 1) 61 (cI zI) := b1.blk K0.out N1.out
  have zz : Blk w1 w.heap.size 61 (cI zI) := b1.blk Z0.out N2.out
  have HT := Lib.hid (Blk.there kk 0 5 (by simp [cI]))
  have hput : putA (cI zI) 0 (#[.int .i64 (rdX s).1.k, .string (rdX s).1.a, .string (rdX s).1.b, .string (rdX s).1.c, .string (rdX s).1.d]).toList = cI ((rdX s).1, .slice none 0 0) := by kernel_rfl
  have ks := Blk.sets (#[.int .i64 (rdX s).1.k, .string (rdX s).1.a, .string (rdX s).1.b, .string (rdX s).1.c, .string (rdX s).1.d]).toList 0 _ _ kk
  rw [hput] at ks
  have K1 := Lib.hid ks
  clear hput ks
  have Z1 := Lib.hid (Blk.fars (q := w.heap.size + 1) (by omega) (#[.int .i64 (rdX s).1.k, .string (rdX s).1.a, .string (rdX s).1.b, .string (rdX s).1.c, .string (rdX s).1.d]).toList 0 _ zz)
  have R1 := Lib.hid (Rd.fars (q := w.heap.size + 1) N1.out.symm (#[.int .i64 (rdX s).1.k, .string (rdX s).1.a, .string (rdX s).1.b, .string (rdX s).1.c, .string (rdX s).1.d]).toList 0 _ r1)
  have B1 := Lib.hid (But.far_sets (q := w.heap.size + 1) (by omega) (#[.int .i64 (rdX s).1.k, .string (rdX s).1.a, .string (rdX s).1.b, .string (rdX s).1.c, .string (rdX s).1.d]).toList 0 _ (B0.out.trans b1))
  have HS1 := Lib.hid (show w.heap.size + 2 ≤ w1.heap.size by have := b1.size; have := HSz.out; omega)
  clear kk zz r1 b1 K0 Z0 R0 B0
  go_wp2_with (refine wpList_store_mid (op := ⟨none, _, _, _, _, _⟩) rfl 45 (.tmp 6) (.tmp 5) rfl (w.heap.size + 1) 0 (#[.int .i64 (rdX s).1.k, .string (rdX s).1.a, .string (rdX s).1.b, .string (rdX s).1.c, .string (rdX s).1.d]) rfl rfl HT.out (by kernel_rfl) (by simp [Value.oneCell']) ?_)
  clear HT
  have HS2 := Lib.hid (show w.heap.size + 2 ≤ (w1.setCells (w.heap.size + 1) 0 (#[.int .i64 (rdX s).1.k, .string (rdX s).1.a, .string (rdX s).1.b, .string (rdX s).1.c, .string (rdX s).1.d]).toList).heap.size by
    have := HS1.out
    simpa [World.setCells, World.setCell] using this)
  generalize w1.setCells (w.heap.size + 1) 0 (#[.int .i64 (rdX s).1.k, .string (rdX s).1.a, .string (rdX s).1.b, .string (rdX s).1.c, .string (rdX s).1.d]).toList = W1 at *
  refine (readRowN_any g (rdX s).2 W1 R1.out HL.out rdN_more).mono ?_
  rintro e' w2 ⟨v2, rfl, ho2, r2, b2⟩
  obtain ⟨A, c, rfl⟩ := ho2.form
  have kk : Blk w2 (w.heap.size + 1) 61 (cI ((rdX s).1, .slice none 0 0)) := b2.blk K1.out N1.out
  have zz : Blk w2 w.heap.size 61 (cI zI) := b2.blk Z1.out N2.out
  have cc : w2.cell? ⟨w.heap.size + 1, 5, none⟩ = some (.slice none 0 0) := (Blk.cell kk 5).trans rfl
  have ff := Blk.free kk 5
  have HFr := ho2.lt
  have K2 := Lib.hid (show Blk (w2.setCell ⟨w.heap.size + 1, 5, none⟩ (.slice A (rdI s).1.2.length c)) (w.heap.size + 1) 61 (cI ((rdI s).1.1, .slice A (rdI s).1.2.length c)) from Blk.set_ kk 5 (.slice A (rdI s).1.2.length c))
  have Z2 := Lib.hid (Blk.far zz (p := ⟨w.heap.size + 1, 5, none⟩) (by show w.heap.size ≠ w.heap.size + 1; omega) (.slice A (rdI s).1.2.length c))
  have R2 := Lib.hid (Rd.far r2 (q := w.heap.size + 1) N1.out.symm 5 (.slice A (rdI s).1.2.length c))
  have B2 := Lib.hid ((B1.out.trans b2).far_set (q := w.heap.size + 1) (by omega) 5 (.slice A (rdI s).1.2.length c))
  have O2 := Lib.hid (show OwnK enN w.heap.size 63 5 (w2.setCell ⟨w.heap.size + 1, 5, none⟩ (.slice A (rdI s).1.2.length c)) (.slice A (rdI s).1.2.length c) (rdI s).1.2 from (OwnK.base_ ho2 (by have := HS2.out; omega)).same fun q hq => Below.heap_setCell w2 ⟨w.heap.size + 1, 5, none⟩ _ q (fun e => by have e' : q = w.heap.size + 1 := e; have := (HFr q hq).1; have := HS2.out; omega))
  have HNb := Lib.hid (fun q (hq : (Value.slice A (rdI s).1.2.length c).ownBlock = some q) => show w.heap.size + 2 ≤ q by have := (HFr q hq).1; have := HS2.out; omega)
  clear kk zz r2 b2 ho2 HFr K1 Z1 R1 B1
  have hlen : (rowR rdN (rdX s).2).1.length = (rdI s).1.2.length := rfl
  rw [hlen]
  clear hlen
  go_upto_region 4 with fail
  clear cc ff
  obtain ⟨Y, hY⟩ : ∃ Y, Y = w2.setCell ⟨w.heap.size + 1, 5, none⟩ (.slice A (rdI s).1.2.length c) := ⟨_, rfl⟩
  have Z13 : Hid (Blk Y w.heap.size 61 (cI zI)) := by rw [hY]; exact Z2
  have HR := Lib.hid (setRow_blk Y w.heap.size _ _ (cI ((rdI s).1.1, .slice A (rdI s).1.2.length c)) Z13.out)
  have K13 : Hid (Blk Y (w.heap.size + 1) 61 (cI ((rdI s).1.1, .slice A (rdI s).1.2.length c))) := by rw [hY]; exact K2
  have RR : Hid (Rd Y g (rdI s).2) := by rw [hY]; exact R2
  have BB : Hid (But g w Y) := by rw [hY]; exact B2
  have OO : Hid (OwnK enN w.heap.size 63 5 Y (.slice A (rdI s).1.2.length c) (rdI s).1.2) := by rw [hY]; exact O2
  have R13 := Lib.hid (Rd.row RR.out (q := w.heap.size) N2.out.symm (cI ((rdI s).1.1, .slice A (rdI s).1.2.length c)))
  have B13 := Lib.hid (BB.out.far_row (q := w.heap.size) (Nat.le_refl _) (cI ((rdI s).1.1, .slice A (rdI s).1.2.length c)))
  have O13 := Lib.hid (OO.out.same (w' := Y.setRow w.heap.size (cI ((rdI s).1.1, .slice A (rdI s).1.2.length c))) fun q hq => setRow_other Y w.heap.size q _ (by have := HNb.out q hq; omega))
  rw [← hY]
  clear hY RR BB OO K2 R2 B2 O2
  go_wp2_with (first
    | (refine wpList_load_if rfl 61 (.tmp 3) rfl (w.heap.size + 1) rfl _ _ _ _ K13.out Tryz.underlying61 rfl (sizeIi _) ?_)
    | (refine wpList_store_row rfl 61 (.tmp 2) (.tmp 10) rfl w.heap.size (cI ((rdI s).1.1, .slice A (rdI s).1.2.length c)) rfl rfl _ _ Z13.out (sizeIi _) rfl (by simp [cI, Value.oneCell']) ?_))
  exact bodyPost_ret (v := .agg (cI ((rdI s).1.1, .slice A (rdI s).1.2.length c))) (results_cell_row (P := Tryz.prog) Tryz.results37 _ _ w.heap.size _ (cI ((rdI s).1.1, .slice A (rdI s).1.2.length c)) _ _ rfl HR.out Tryz.underlying61 rfl (sizeIi _)) rfl ⟨A, c, rfl, O13.out, R13.out, B13.out⟩

end Go.Proofs.YtejljikikhecnaaGreat
