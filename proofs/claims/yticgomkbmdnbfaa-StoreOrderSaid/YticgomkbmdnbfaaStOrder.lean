/-
  hedgerowlaw07.StoreOrder: the walk. Conditions: lengths.
-/
import Derived.Test.YticgomkbmdnbfaaStK
namespace Go.Proofs.Yticgomkbmdnbfaa
open Go.RowKit Go.MapKept Go.Sort

theorem size_alloc_ (w : World) (o : Obj) : (w.alloc o).heap.size = w.heap.size + 1 := by simp
theorem ne_V (f : Nat → Int) (w : World) : (binOp .neq 27 (.agg (vA f)) (.agg (vA f))).run Try.prog w = .ok (.bool false) w := by
  have h := run_eqV w f f
  rw [eqV_self] at h
  simp only [binOp, Sem.run_bind] at h ⊢
  generalize (Op.equal 27 (.agg (vA f)) (.agg (vA f))).run Try.prog w = r at h ⊢
  cases r with
  | ok a w' =>
    simp only [Result.andThen_ok, Sem.run_pure, Result.ok.injEq, Value.bool.injEq] at h ⊢
    obtain ⟨rfl, rfl⟩ := h
    exact ⟨rfl, rfl⟩
  | halt _ _ => cases h
theorem Kept.mono {sb B B' : Nat} {w w' : World} (h : Kept sb B w w') (hB : B' ≤ B) : Kept sb B' w w' := Out.mono h fun i hi => by
  rcases hi with hi | hi
  · exact .inl hi
  · exact .inr (by omega)
theorem Kept.set_ {sb B q n : Nat} {w : World} {v : Value} (hq : B ≤ q) : Kept sb B w (w.setCell ⟨q, n, none⟩ v) :=
  ⟨rfl, rfl, rfl, by simp [World.setCell], fun k _ hn => Below.heap_setCell w ⟨q, n, none⟩ v k (fun e => hn (.inr (by rw [e]; exact hq)))⟩
theorem StAt.set_ {sb B q n : Nat} {w : World} {v : Value} {σ : List (El × List (Dt × Va))} (h : StAt w sb B σ) (h1 : q ≠ sb) (h2 : q < B) : StAt (w.setCell ⟨q, n, none⟩ v) sb B σ := by
  obtain ⟨F, k1, k2⟩ := h
  refine ⟨F, k1.kept (by simp [World.setCell]) fun i hi => Below.heap_setCell w ⟨q, n, none⟩ v i fun e => ?_, k2⟩
  simp only at e
  rcases k2 i hi with h | h <;> omega
theorem OwnK.same_kept {α : Type} {enc : α → List Value} {base k : Nat} {e : TypeId} {w w' : World} {v : Value} {l : List α} {sb B : Nat} (h : OwnK enc base e k w v l) (hk : Kept sb B w w') (h1 : ∀ g, v.ownBlock = some g → g ≠ sb ∧ g < B) : OwnK enc base e k w' v l :=
  h.same fun g hg => hk.same (h.lt g hg).2 (h1 g hg).1 (h1 g hg).2
theorem at_pick (g o c n k : Nat) (h : k < n) (w : World) : (Instr.indexAt 23 (.slice (some ⟨g, o, none⟩) n c) (.int .i64 k)).run Try.prog w = .ok (.pointer (some ⟨g, o + k, none⟩)) w := by
  have h2 : (k : Int) < n := by omega
  go_simp
/-- What one pick takes. -/
theorem perm_pick {α : Type} {row tl rl : List α} {k : Nat} {e : α} (hp : (tl ++ rl).Perm row) (hk : rl[k]? = some e) : ((tl ++ [e]) ++ (rl.take k ++ rl.drop (k + 1))).Perm row := by
  refine List.Perm.trans ?_ hp
  rw [List.append_assoc]
  refine List.Perm.append_left tl ?_
  have h1 : rl.eraseIdx k = rl.take k ++ rl.drop (k + 1) := List.eraseIdx_eq_take_drop_succ ..
  rw [← h1]
  exact (perm_eraseIdx hk).symm
theorem len_pick {α : Type} {rl : List α} {k : Nat} (hk : k < rl.length) : (rl.take k ++ rl.drop (k + 1)).length + 1 = rl.length := by simp; omega
/-- Between two picks. -/
structure PickI (R : Nat) (wo wr : World) (row : List Ev) (u v : Value) (tl rl : List Ev) : Prop where
  a : OwnK encE R 39 27 wr u tl
  b : OwnK encE R 39 27 wr v rl
  p : (tl ++ rl).Perm row
  d : ∀ g, u.ownBlock = some g → v.ownBlock ≠ some g
  w : Below R wo wr
/-- What the operations of the picking leave. -/
def pPick (R : Nat) (rl : List Ev) (A : Option Addr) (n c k : Nat) : Nat → Value → World → Prop
  | 0, v, w => ∃ g, v = .slice (some ⟨g, 0, none⟩) 0 0 ∧ OwnK encE R 39 27 w v []
  | 1, v, _ => v = .slice A n c
  | 2, v, _ => v = .int .i64 k
  | 3, v, _ => v = .slice (slK A c 0 27) k c
  | 4, v, w => OwnK encE R 39 27 w v (rl.take k)
  | 5, v, _ => v = .slice A n c
  | 6, v, _ => v = .int .i64 k
  | 7, v, _ => v = .int .i64 (k + 1 : Nat)
  | 8, v, _ => v = .slice (slK A c (k + 1) 27) (n - (k + 1)) (c - (k + 1))
  | _, _, _ => True
theorem pPick_keep (R : Nat) (rl : List Ev) (A : Option Addr) (n c k i : Nat) (v : Value) (w w' : World) (hb : Below w.heap.size w w') (h : pPick R rl A n c k i v w) : pPick R rl A n c k i v w' := by
  match i, h with
  | 0, ⟨g, h1, h2⟩ => exact ⟨g, h1, h2.keep hb⟩
  | 1, h => exact h
  | 2, h => exact h
  | 3, h => exact h
  | 4, h => exact OwnK.keep h hb
  | 5, h => exact h
  | 6, h => exact h
  | 7, h => exact h
  | 8, h => exact h
  | _ + 9, _ => exact trivial

set_option maxRecDepth 100000 in
set_option maxHeartbeats 4000000 in
theorem order_walk (l : List Ev) (A : Option Addr) (N c : Nat) (lp : List UInt8) (Ap : Option Addr) (Np cp : Nat) (w : World) (hs : SlK encE 27 w (.slice A N c) l) (hN : l.length = N) (hN2 : N ≤ 4611686018427387903) (hf : ∀ e ∈ l, Fit e) (hp : Sl bv w (.slice Ap Np cp) lp) (hw : CutOk w) :
    Calls Try.prog 3 #[.slice A N c, .slice Ap Np cp] w (Law w) := by
  have HS := Lib.hid hs
  have HN := Lib.hid hN
  have HSp := Lib.hid hp
  have HNp := Lib.hid hp.len.1
  have HCw := Lib.hid hw
  have HFw := Lib.hid (few_is7 l A N c hN hN2 hf)
  have HZe := Lib.hid (zero_of_info zeroE).1
  have HZv := Lib.hid (zero_of_info zeroV).1
  clear hs hN hN2 hf hp hw
  cases hfew : fewB l
  · have HFe := Lib.hid (HFw.out false hfew)
    clear hfew HFw
    go_enter Try.func3, Try.ntmps3
    go_wp2_with fail
    refine (fixed7 w HCw.out).mono ?_
    rintro e w1 ⟨rfl, hb⟩
    have HB1 := Lib.hid hb
    clear hb
    go_wp2_with fail
    refine (HFe.out w1 (HS.out.below HB1.out)).mono ?_
    rintro e w2 ⟨rfl, hb⟩
    have HB2 := Lib.hid (HB1.out.trans (hb.mono HB1.out.size))
    clear hb
    go_wp2
    go_ret
    exact ⟨rfl, HB2.out⟩
  · have HFe := Lib.hid (HFw.out true hfew)
    have hsh : ∀ e ∈ l, shortB e = true := by
      unfold fewB at hfew
      simp only [Bool.and_eq_true, List.all_eq_true] at hfew
      exact hfew.1
    have hl60 : N ≤ 60 := by
      unfold fewB at hfew
      simp only [Bool.and_eq_true, decide_eq_true_eq] at hfew
      rw [← HN.out]; exact hfew.2
    have HSh := Lib.hid hsh
    have H60 := Lib.hid hl60
    clear hfew HFw hsh hl60
    by_cases hp60 : 60 < Np
    · have HP6 := Lib.hid hp60
      have hp61 : (60 : Int) < (Np : Int) := by omega
      go_enter Try.func3, Try.ntmps3
      go_wp2_with fail
      refine (fixed7 w HCw.out).mono ?_
      rintro e w1 ⟨rfl, hb⟩
      have HB1 := Lib.hid hb
      clear hb
      go_wp2_with fail
      refine (HFe.out w1 (HS.out.below HB1.out)).mono ?_
      rintro e w2 ⟨rfl, hb⟩
      have HB2 := Lib.hid (HB1.out.trans (hb.mono HB1.out.size))
      clear hb
      go_wp2
      go_ret
      exact ⟨rfl, HB2.out⟩
    have HP6 := Lib.hid hp60
    have hp61 : ¬ (60 : Int) < (Np : Int) := by omega
    go_enter Try.func3, Try.ntmps3
    go_wp2_with fail
    refine (fixed7 w HCw.out).mono ?_
    rintro e w1 ⟨rfl, hb⟩
    have HB1 := Lib.hid hb
    clear hb
    go_wp2_with fail
    refine (HFe.out w1 (HS.out.below HB1.out)).mono ?_
    rintro e w2 ⟨rfl, hb⟩
    have HB2 := Lib.hid (HB1.out.trans (hb.mono HB1.out.size))
    clear hb
    go_wp2_with fail
    clear hp60 hp61
    refine (causal_any l A N c w2 (HS.out.below HB2.out) HN.out H60.out (fun e he => short_tiny e (HSh.out e he))).mono ?_
    rintro e w3 ⟨rv, rfl, ho3, hb⟩
    obtain ⟨row, hrow⟩ : ∃ row, (causC l).1 = row := ⟨_, rfl⟩
    obtain ⟨f, hff⟩ : ∃ f, (causC l).2 = f := ⟨_, rfl⟩
    rw [hrow] at ho3
    have hff2 : ∀ i, f i = (causC l).2 i := fun i => by rw [← hff]
    have HFf := Lib.hid hff2
    have HRow := Lib.hid hrow
    rw [hff]
    have hrl : row.length ≤ 60 := by have := causC_len l; rw [hrow] at this; have h1 := HN.out; have h2 := H60.out; omega
    have hrm : ∀ e ∈ row, Lens e := fun e he => short_lens e (HSh.out e (causC_mem l e (by rw [hrow]; exact he)))
    have HRm := Lib.hid hrm
    have HRl := Lib.hid hrl
    have HB3 := Lib.hid (HB2.out.trans (hb.mono HB2.out.size))
    have HO3 := Lib.hid ho3
    obtain ⟨A5, c5, rfl, _, _⟩ := ho3.read encE_len
    clear hb hrow hff hff2 ho3 hrl hrm
    obtain ⟨n5, hn5⟩ : ∃ n5, row.length = n5 := ⟨_, rfl⟩
    rw [hn5] at HO3 ⊢
    have HN5 := Lib.hid hn5
    clear hn5
    have hzv := HZv.out
    have hAl := fun c => World.setRow_alloc_new w3 (vA fun _ => 0) c 27
    have hZ : Blk (w3.alloc (.cells (vA fun _ => 0) 27)) w3.heap.size 27 (vA fun _ => 0) := Blk.new _ _ _
    go_wp2_with (first
      | (refine wpList_store_row (o := ⟨none, _, _, _, _, _⟩) rfl 27 (.tmp 6) (.tmp 39) rfl w3.heap.size (vA f) rfl rfl _ _ hZ (sizeV _) (by rw [vA_size, vA_size]) (vA_one _) ?_; rw [hAl])
      | fail)
    clear hzv hAl hZ
    obtain ⟨w4, hw4⟩ : ∃ w4, w3.alloc (.cells (vA f) 27) = w4 := ⟨_, rfl⟩
    rw [hw4]
    have hb4 : Below w3.heap.size w3 w4 := by rw [← hw4]; exact (Below.refl _ _).alloc (Nat.le_refl _) _
    obtain ⟨kb, hkb⟩ : ∃ kb, w3.heap.size = kb := ⟨_, rfl⟩
    have hv4 : VB w4 kb f := by rw [← hw4, ← hkb]; exact VB.new_ _ rfl
    rw [hkb]
    have HB4 := Lib.hid (HB3.out.trans (hb4.mono HB3.out.size))
    have HO4 := Lib.hid (HO3.out.keep hb4)
    have HV4 := Lib.hid hv4
    clear hw4 hb4 HO3 hkb hv4
    refine (new_any w4).mono ?_
    rintro e w5 ⟨rfl, hw5⟩
    have HE5 := Lib.hid hw5
    clear hw5
    go_wp2_with fail
    refine (new_any w5).mono ?_
    rintro e w6 ⟨rfl, hw6⟩
    have hw5 := HE5.out
    clear HE5
    obtain ⟨sa, hsa⟩ : ∃ sa, w4.heap.size = sa := ⟨_, rfl⟩
    have hs5 : w5.heap.size = sa + 1 := by rw [hw5, ← hsa]; simp
    have hs6 : w6.heap.size = sa + 2 := by rw [hw6]; simp [hs5]
    have hb5 : Below w4.heap.size w4 w5 := by rw [hw5]; exact (Below.refl _ _).alloc (Nat.le_refl _) _
    have hb6 : Below w5.heap.size w5 w6 := by rw [hw6]; exact (Below.refl _ _).alloc (Nat.le_refl _) _
    have ha : StAt w6 sa (sa + 2) [] := by
      have := new_at w4 (sa + 2)
      rw [hsa, ← hw5] at this
      exact this.keep hb6
    have hbb6 : Blk w6 (sa + 1) 78 #[.map none] := by
      rw [hw6, ← hs5]; exact Blk.new _ _ _
    rw [hsa, hs5]
    have hw46 : w4.heap.size ≤ w5.heap.size := hb5.size
    have HA6 := Lib.hid ha
    have HBB6 := Lib.hid hbb6
    have HS6 := Lib.hid hs6
    have HB6 := Lib.hid (HB4.out.trans ((hb5.trans (hb6.mono hw46)).mono HB4.out.size))
    have HR6 := Lib.hid (HO4.out.keep (hb5.trans (hb6.mono hw46)))
    have HV6 := Lib.hid (VB.keep HV4.out (hb5.trans (hb6.mono hw46)))
    have HVk := Lib.hid (show kb < sa by have := Blk.lt HV4.out; rw [hsa] at this; exact this)
    have HRb : Hid (∀ g, (Value.slice A5 n5 c5).ownBlock = some g → g < sa) := Lib.hid fun g h => by
      have := (HO4.out.lt g h).2
      rw [hsa] at this; exact this
    have HWa := Lib.hid (show w.heap.size ≤ sa by rw [← hsa]; exact HB4.out.size)
    have H0 := Lib.hid (show 0 < sa by have := HCw.out.1; have h2 := HB4.out.size; omega)
    clear HV4 hw5 hw6 hs5 hs6 hb5 hb6 ha hbb6 hsa hw46
    go_wp2_with fail
    go_loopw [44] (fun v44 wr => ∃ j : Nat, v44 = .int .i64 j ∧ j ≤ n5 ∧ StAt wr sa (sa + 2) (runS (row.take j)) ∧ Kept sa (sa + 2) w6 wr) (fun v44 _ => n5 - (intOf v44).toNat)
    case atStart => exact ⟨0, rfl, Nat.zero_le _, HA6.out, Kept.refl⟩
    case round =>
      obtain ⟨j, rfl, hj, hst, hk⟩ := hrel
      obtain ⟨wo, rfl⟩ : ∃ wo, wo = wr := ⟨_, rfl⟩
      have HSt := Lib.hid hst
      have HKp := Lib.hid hk
      clear hst hk
      by_cases hlt : j < n5
      · obtain ⟨e, he⟩ : ∃ e, row[j]? = some e := ⟨row[j]'(by rw [HN5.out]; exact hlt), List.getElem?_eq_getElem _⟩
        have hro : OwnK encE w2.heap.size 39 27 wo (.slice A5 n5 c5) row := HR6.out.same fun g h => HKp.out.same (HR6.out.lt g h).2 (by have := HRb.out g h; omega) (by have := HRb.out g h; omega)
        obtain ⟨g, rfl, _, _, hce⟩ := hro.at_ encE_len he
        have HCe := Lib.hid hce
        have HAt := Lib.hid (at_Ev0 g c5 n5 j hlt wo)
        have HLe := Lib.hid (HRm.out e (List.mem_of_getElem? he))
        have HNx := Lib.hid (runS_next he)
        have HAl := Lib.hid fun c => World.setRow_alloc_new wo (evC ev0) c 39
        have HZz := Lib.hid (show Blk (wo.alloc (.cells (evC ev0) 39)) wo.heap.size 39 (evC ev0) from Blk.new _ _ _)
        obtain ⟨X, hX⟩ : ∃ X, X = wo.alloc (.cells (evC e) 39) := ⟨_, rfl⟩
        have hbX : Below wo.heap.size wo X := by rw [hX]; exact (Below.refl _ _).alloc (Nat.le_refl _) _
        have hBX : Blk X wo.heap.size 39 (evC e) := by rw [hX]; exact Blk.new _ _ _
        have HXe := Lib.hid hX
        have HBX := Lib.hid hBX
        have HKX := Lib.hid (HKp.out.trans (Kept.of_below hbX))
        have HSX := Lib.hid (HSt.out.keep hbX)
        clear hX hbX hBX he hce hro
        have hz := HZe.out
        go_wp2_with (first
          | (refine wpList_val (o := ⟨some 46, _, _, _, _, _⟩) rfl (.pointer (some ⟨g, j * 27, none⟩)) wo (run_indexAddr_op rfl rfl rfl HAt.out) ?_)
          | (refine' wpList_load_midif ?q1 39 (.tmp 46) ?q2 g (j * 27) ?q3 (encE e) _ ?q4 Try.underlying39 ?q5 ?q6 ?_; (case q2 => rfl); (case q1 => rfl); (case q3 => rfl); (case q4 => exact HCe.out); (case q5 => rfl); (case q6 => exact (sizeE e)))
          | (refine wpList_store_row (o := ⟨none, _, _, _, _, _⟩) rfl 39 (.tmp 10) (.tmp 47) rfl wo.heap.size (evC e) rfl rfl _ _ HZz.out (sizeE e) rfl (by kernel_rfl) ?_; rw [HAl.out, ← HXe.out])
          | (refine' wpList_load_if ?q1 39 (.tmp 10) ?q2 wo.heap.size ?q3 _ _ _ _ ?q4 Try.underlying39 ?q5 ?q6 ?_; (case q2 => rfl); (case q1 => rfl); (case q3 => rfl); (case q4 => exact HBX.out); (case q5 => rfl); (case q6 => exact (sizeE e)))
          | fail)
        clear hz
        refine (do_at HSX.out (by have := HKX.out.size; have := HS6.out; omega) e HLe.out ((HKX.out).cut H0.out (by omega) (HCw.out.below HB6.out))).mono ?_
        rintro x w7 ⟨rfl, hs7, hk7⟩
        have HS7 := Lib.hid (show StAt w7 sa (sa + 2) (runS (row.take (j + 1))) by rw [HNx.out]; exact hs7)
        have HK7 := Lib.hid (HKX.out.trans hk7)
        clear hs7 hk7
        have hw := IntWalk.i64_in ((j : Int) + 1) (by have := HRl.out; have := HN5.out; omega)
        have hjm : ¬ 9223372036854775807 < j + 1 := by have := HRl.out; have := HN5.out; omega
        go_wp2
        go_roundw
        case rel => exact ⟨j + 1, by go_num, by omega, HS7.out, HK7.out⟩
        case measure => simp [intOf] <;> omega
      · have hjN : j = n5 := by omega
        subst hjN
        rw [List.take_of_length_le (Nat.le_of_eq HN5.out)] at HSt
        have HCo := Lib.hid (HKp.out.cut H0.out (by omega) (HCw.out.below HB6.out))
        have HBw := Lib.hid (show Below w.heap.size w wo from HB6.out.trans (HKp.out.below (by have := HWa.out; omega) (by have := HWa.out; omega) HB6.out.size))
        have HSo := Lib.hid (show sa + 2 ≤ wo.heap.size by have := HKp.out.size; have := HS6.out; omega)
        have HBo := Lib.hid (show Blk wo (sa + 1) 78 #[.map none] from (HKp.out.same HBB6.out.lt (by omega) (by omega)).trans HBB6.out)
        have HVo := Lib.hid (show VB wo kb f from (HKp.out.same (Blk.lt HV6.out) (by have := HVk.out; omega) (by have := HVk.out; omega)).trans HV6.out)
        have hro : OwnK encE w2.heap.size 39 27 wo (.slice A5 j c5) row := HR6.out.same fun g h => HKp.out.same (HR6.out.lt g h).2 (by have := HRb.out g h; omega) (by have := HRb.out g h; omega)
        obtain ⟨R, hR⟩ : ∃ R, wo.heap.size = R := ⟨_, rfl⟩
        have hba : Below wo.heap.size wo (wo.alloc (.cells #[] 39)) := (Below.refl _ _).alloc (Nat.le_refl _) _
        obtain ⟨v12, w8, hr8, ho8, hb8⟩ := append_new R (wo.alloc (.cells #[] 39)) _ row ((hro.read encE_len).below hba) (by have := HRl.out; omega) wo.heap.size ((own_empty wo).base_ (by omega)) (by rw [← hR]; simp)
        have HAp8 := Lib.hid hr8
        have hb8' : Below R wo w8 := by rw [← hR]; exact hba.trans (hb8.mono hba.size)
        have HP8 := Lib.hid (show PickI R wo w8 row (.slice none 0 0) v12 [] row from ⟨OwnK.nil_ _ _ _ _ _, ho8, List.Perm.refl _, fun g h => (by cases h), hb8'⟩)
        have HRr := Lib.hid hR
        clear hr8 ho8 hb8 hb8' hro hba hR
        go_wp2_with (first
          | (refine wpList_val (o := ⟨some 52, _, _, _, _, _⟩) rfl (.slice (some ⟨wo.heap.size, 0, none⟩) 0 0) (wo.alloc (.cells #[] 39)) (run_buildSlice_op (vs := #[]) rfl (by simp only [List.map_toArray, List.map_nil]) (bsNil wo)) ?_)
          | (at_builtin; refine Lib.wpList_append_run (o := ⟨some 54, _, _, _, _, _⟩) _ rfl _ _ _ _ rfl _ _ rfl rfl _ _ HAp8.out ?_)
          | fail)
        clear HAp8
        go_loopw [11, 12, 57] (fun v11 v12 v57 wr => ∃ (t : Nat) (tl rl : List Ev), v57 = .int .i64 t ∧ t ≤ Np ∧ PickI R wo wr row v11 v12 tl rl) (fun _ _ v57 _ => Np - (intOf v57).toNat)
        case atStart => exact ⟨0, [], row, rfl, Nat.zero_le _, HP8.out⟩
        case round =>
          obtain ⟨t, tl, rl, rfl, ht, hpk⟩ := hrel
          obtain ⟨wp, rfl⟩ : ∃ wp, wp = wr := ⟨_, rfl⟩
          have HPk := Lib.hid hpk
          obtain ⟨A12, c12, rfl, _, _⟩ := hpk.b.read encE_len
          have htr : tl.length + rl.length = j := by have := hpk.p.length_eq; rw [List.length_append, HN5.out] at this; exact this
          have HTr := Lib.hid htr
          obtain ⟨n12, hn12⟩ : ∃ n12, rl.length = n12 := ⟨_, rfl⟩
          rw [hn12] at HPk ⊢
          have HN12 := Lib.hid hn12
          clear hpk htr hn12
          by_cases hlt2 : t < Np
          · obtain ⟨x, hx⟩ : ∃ x, lp[t]? = some x := ⟨lp[t]'(by rw [← HNp.out]; exact hlt2), List.getElem?_eq_getElem _⟩
            have hbp : Below w.heap.size w wp := by
              have := HPk.out.w
              exact HBw.out.trans (this.mono (by have := HBw.out.size; have := HRr.out; omega))
            obtain ⟨gp, op, rfl, hce⟩ : ∃ gp op, Ap = some ⟨gp, op, none⟩ ∧ wp.cell? ⟨gp, op + t, none⟩ = some (bv x) := by
              obtain ⟨A', c', hv', _, hcell⟩ := HSp.out.below hbp
              injection hv' with e1 e2 e3
              obtain ⟨b', o', hA', _, hc'⟩ := hcell (by rintro rfl; simp at hx)
              exact ⟨b', o', e1.trans hA', hc' t x hx⟩
            have HCp := Lib.hid hce
            obtain ⟨z, hz⟩ : ∃ z, z = x.toNat := ⟨_, rfl⟩
            have hz256 : z ≤ 255 := by rw [hz]; have := x.toNat_lt; omega
            have hbz : bv x = .int .u8 (z : Int) := by rw [hz]; rfl
            rw [hbz] at HCp
            have HCv := Lib.hid (conv7 z hz256 wp)
            have HAt := Lib.hid (at_pick gp op cp Np t hlt2 wp)
            have HBp := Lib.hid hbp
            clear hx hce hz hz256 hbz hbp
            have hw := IntWalk.i64_in ((t : Int) + 1) (by have := HP6.out; omega)
            have hjm : ¬ 9223372036854775807 < t + 1 := by have := HP6.out; omega
            have HW1 := Lib.hid hw
            have HJ1 := Lib.hid hjm
            clear hw hjm
            by_cases h12 : 0 < n12
            · obtain ⟨k, hk⟩ : ∃ k, z % n12 = k := ⟨_, rfl⟩
              have hkn : k < n12 := by rw [← hk]; exact Nat.mod_lt _ h12
              have HRe := Lib.hid (by have := rem7 z n12 (by have := HTr.out; have := HN12.out; have := HRl.out; have := HN5.out; omega) h12 wp; rwa [hk] at this)
              obtain ⟨e, he⟩ : ∃ e, rl[k]? = some e := ⟨rl[k]'(by rw [HN12.out]; exact hkn), List.getElem?_eq_getElem _⟩
              obtain ⟨g, rfl, hgR, hgl, hce⟩ := HPk.out.b.at_ encE_len he
              have HCe := Lib.hid hce
              have HAk := Lib.hid (at_Ev0 g c12 n12 k hkn wp)
              have hba : Below wp.heap.size wp (wp.alloc (.cells (evC e) 39)) := (Below.refl _ _).alloc (Nat.le_refl _) _
              have hRw : R ≤ wp.heap.size := by omega
              have hsl : SlK encE 27 (wp.alloc (.cells (evC e) 39)) (.slice (some ⟨wp.heap.size, 0, none⟩) 1 1) [e] := ⟨_, _, rfl, Nat.le_refl _, fun _ => ⟨wp.heap.size, 0, rfl, by simp, fun q y hq => by
                have hq0 : q = 0 := by have := (List.getElem?_eq_some_iff.1 hq).1; simp at this; exact this
                subst hq0
                have hy : y = e := by simpa using hq.symm
                subst hy
                intro i u hu
                rw [Blk.cell (Blk.new wp _ _)]
                simpa [encE] using hu⟩⟩
              have hlens : tl.length + rl.length ≤ 60 := by have := HTr.out; have := HRl.out; have := HN5.out; omega
              obtain ⟨v11', w9, hr9, ho9, hg9, hd9⟩ := append_ev R (wp.alloc (.cells (evC e) 39)) u11 tl (HPk.out.a.keep hba) _ [e] hsl (by simp; omega) (Nat.le_trans hRw hba.size)
              have HAp9 := Lib.hid hr9
              have hb12 : OwnK encE R 39 27 (wp.alloc (.cells (evC e) 39)) (.slice (some ⟨g, 0, none⟩) n12 c12) rl := HPk.out.b.keep hba
              have hb9 : OwnK encE R 39 27 w9 (.slice (some ⟨g, 0, none⟩) n12 c12) rl := hb12.same fun q hq => hg9.block q (hb12.lt q hq).2 fun h => HPk.out.d q h.symm hq
              have hd9' : ∀ q, v11'.ownBlock = some q → q < w9.heap.size := fun q hq => (ho9.lt q hq).2
              have hw9 : Below R wo w9 := (HPk.out.w.trans (hba.mono hRw)).grown hg9 (Nat.le_trans hRw hba.size) (fun q hq => (HPk.out.a.lt q hq).1)
              have HO9 := Lib.hid ho9
              have HB9 := Lib.hid hb9
              have HD9 := Lib.hid hd9'
              have HW9 := Lib.hid hw9
              have HPm := Lib.hid (perm_pick HPk.out.p he)
              have HLn := Lib.hid hlens
              clear hce he hba hRw hsl hlens hr9 ho9 hg9 hd9 hb12 hb9 hd9' hw9 hk
              have hg12 : (0 : Int) < (n12 : Int) := by omega
              have cp0 := HCp.out
              clear hgR hgl
              go_upto_region 17 with (first
                | (refine wpList_val (o := ⟨some 59, _, _, _, _, _⟩) rfl (.pointer (some ⟨gp, op + t, none⟩)) wp (run_indexAddr_op rfl rfl rfl HAt.out) ?_)
                | fail)
              go_upto_region 18 with fail
              go_upto_region 19 with (first
                | (refine wpList_val (o := ⟨some 65, _, _, _, _, _⟩) rfl (.int .i64 z) wp (run_convert_op rfl rfl HCv.out) ?_)
                | (refine wpList_val (o := ⟨some 68, _, _, _, _, _⟩) rfl (.int .i64 k) wp (run_bin_op rfl rfl rfl (guardI _ _ _ _ _ _ _) HRe.out) ?_)
                | fail)
              go_upto_region 20 with (first
                | (refine wpList_val (o := ⟨some 72, _, _, _, _, _⟩) rfl (.pointer (some ⟨g, k * 27, none⟩)) wp (run_indexAddr_op rfl rfl rfl HAk.out) ?_)
                | (refine' wpList_load_midif ?q1 39 (.tmp 72) ?q2 g (k * 27) ?q3 (encE e) _ ?q4 Try.underlying39 ?q5 ?q6 ?_; (case q2 => rfl); (case q1 => rfl); (case q3 => rfl); (case q4 => exact HCe.out); (case q5 => rfl); (case q6 => exact (sizeE e)))
                | (refine wpList_val (o := ⟨some 74, _, _, _, _, _⟩) rfl (.slice (some ⟨wp.heap.size, 0, none⟩) 1 1) (wp.alloc (.cells (evC e) 39)) (run_buildSlice_op (vs := #[(0, .agg (evC e))]) rfl (by simp only [List.map_toArray, List.map_cons, List.map_nil]; rfl) (bsEv e wp)) ?_)
                | (at_builtin; refine Lib.wpList_append_run (o := ⟨some 75, _, _, _, _, _⟩) _ rfl _ _ _ _ rfl _ _ rfl rfl _ _ HAp9.out ?_)
                | fail)
              clear cp0 hg12
              refine wp_region_any (by kernel_rfl) ?_
              obtain ⟨R9, hR9⟩ : ∃ R9, w9.heap.size = R9 := ⟨_, rfl⟩
              have HR9 := Lib.hid hR9
              clear hR9
              refine Lt.wpAny_mid (pPick R9 rl (some ⟨g, 0, none⟩) n12 c12 k) _ w9 9 _ _ (fun v' W => OwnK encE R9 39 27 W v' (rl.take k ++ rl.drop (k + 1)) ∧ Below w9.heap.size w9 W) (by kernel_rfl) rfl rfl (by kernel_rfl) (by kernel_rfl) (by kernel_rfl) (by kernel_rfl) (by kernel_rfl) (fun i v w w' hb h => pPick_keep _ _ _ _ _ _ i v w w' hb h) ?_ ?_ ?_ ?_
              · refine ⟨?_, ?_, ?_, ?_, ?_, ?_, ?_, ?_, ?_, fun h => absurd h (Nat.lt_irrefl _), fun h => absurd h (by decide), trivial⟩
                · intro _ a W hI hun haft hi
                  exact b_val hi hI rfl _ _ (run_buildSlice_op (vs := #[]) rfl (by simp only [List.map_toArray, List.map_nil]) (bsNil W)) ((Below.refl _ _).alloc (Nat.le_refl _) _) ⟨_, rfl, (own_empty W).base_ (by have := hI.size; have := HR9.out; omega)⟩
                · intro _ a W hI hun haft hi
                  have e12 : a.eval (.tmp 12) = .slice (some ⟨g, 0, none⟩) n12 c12 := hun 12 (by kernel_rfl)
                  exact b_same hi hI rfl _ (run_move_op rfl e12) rfl
                · intro _ a W hI hun haft hi
                  have e15 : a.eval (.tmp 15) = .int .i64 k := hun 15 (by kernel_rfl)
                  exact b_same hi hI rfl _ (run_move_op rfl e15) rfl
                · intro _ a W hI hun haft hi
                  have f1 : a.eval (.tmp 77) = .slice (some ⟨g, 0, none⟩) n12 c12 := haft ⟨1, .data⟩ (by simp) rfl _ _ rfl rfl
                  have f2 : a.eval (.tmp 78) = .int .i64 k := haft ⟨2, .data⟩ (by simp) rfl _ _ rfl rfl
                  exact b_same hi hI rfl _ (run_slhi_op rfl f1 f2 (run_sliceK_hi W _ _ Try.underlying22 (sizeE e) _ _ _ _ (by have := (HB9.out.read encE_len).len_; omega))) rfl
                · intro _ a W hI hun haft hi
                  obtain ⟨gn, f0, hown⟩ : ∃ gn, a.eval (.tmp 76) = .slice (some ⟨gn, 0, none⟩) 0 0 ∧ OwnK encE R9 39 27 W (a.eval (.tmp 76)) [] := haft ⟨0, .data⟩ (by simp) rfl _ _ rfl rfl
                  have f3 : a.eval (.tmp 79) = .slice (slK (some ⟨g, 0, none⟩) c12 0 27) k c12 := haft ⟨3, .data⟩ (by simp) rfl _ _ rfl rfl
                  rw [f0] at hown
                  obtain ⟨v', w', hr, ho, hb⟩ := append_new R9 W _ _ (((HB9.out.keep hI).read encE_len).hi k (by omega)) (by have := HLn.out; simp; omega) gn hown (by have := hI.size; have := HR9.out; omega)
                  exact b_val hi hI rfl _ _ (run_append_op rfl f0 f3 hr) hb ho
                · intro _ a W hI hun haft hi
                  have e12 : a.eval (.tmp 12) = .slice (some ⟨g, 0, none⟩) n12 c12 := hun 12 (by kernel_rfl)
                  exact b_same hi hI rfl _ (run_move_op rfl e12) rfl
                · intro _ a W hI hun haft hi
                  have e15 : a.eval (.tmp 15) = .int .i64 k := hun 15 (by kernel_rfl)
                  exact b_same hi hI rfl _ (run_move_op rfl e15) rfl
                · intro _ a W hI hun haft hi
                  have f6 : a.eval (.tmp 82) = .int .i64 k := haft ⟨6, .data⟩ (by simp) rfl _ _ rfl rfl
                  exact b_same hi hI rfl _ (run_bin_op rfl f6 rfl (guardI _ _ _ _ _ _ _) (add7 k 1 (by have := HLn.out; have := HN12.out; omega) W)) rfl
                · intro _ a W hI hun haft hi
                  have f5 : a.eval (.tmp 81) = .slice (some ⟨g, 0, none⟩) n12 c12 := haft ⟨5, .data⟩ (by simp) rfl _ _ rfl rfl
                  have f7 : a.eval (.tmp 83) = .int .i64 (k + 1 : Nat) := haft ⟨7, .data⟩ (by simp) rfl _ _ rfl rfl
                  exact b_same hi hI rfl _ (run_sllo_op rfl f5 f7 (run_sliceK_lo W _ _ Try.underlying22 (sizeE e) _ _ _ _ (by omega))) rfl
              · intro a W hI haft
                have f4 : OwnK encE R9 39 27 W (a.eval (.tmp 80)) (rl.take k) := haft ⟨4, .data⟩ (by simp) rfl _ _ rfl rfl
                have f8 : a.eval (.tmp 84) = .slice (slK (some ⟨g, 0, none⟩) c12 (k + 1) 27) (n12 - (k + 1)) (c12 - (k + 1)) := haft ⟨8, .data⟩ (by simp) rfl _ _ rfl rfl
                have hR9 : R9 ≤ W.heap.size := by have := hI.size; have := HR9.out; omega
                obtain ⟨v', w', hr, ho, hgr, _⟩ := append_ev R9 W _ _ f4 _ _ (((HB9.out.keep hI).read encE_len).lo (k + 1) (by omega)) (by have := HLn.out; simp; omega) hR9
                refine wpOp_val rfl rfl v' w' (run_append_op rfl rfl f8 hr) ?_
                exact ⟨v', rfl, ho, hI.grown hgr (by have := hI.size; omega) (fun q e => by have := (f4.lt q e).1; have := HR9.out; omega)⟩
              · intro v a W hv
                have f9 : a.eval (.tmp 85) = v := hv 85 rfl
                exact wpOp_val rfl rfl v W (run_assign_op rfl f9) ⟨rfl, rfl⟩
              · rintro vals W ⟨hJ1, hJ2⟩ hv
                have HJo := Lib.hid hJ1
                have HJb := Lib.hid hJ2
                obtain ⟨v12', hv12⟩ : ∃ v12', vals 9 = v12' := ⟨_, rfl⟩
                rw [hv12] at HJo hv
                clear hJ1 hJ2
                simp only [layN, List.size_toArray, List.length_cons, List.length_nil, List.range, List.range.loop, if_true, List.getElem?_toArray, List.getElem?_cons_zero, List.getElem?_cons_succ, Act.put, List.setIfInBounds_toArray, List.set_cons_zero, List.set_cons_succ, Nat.zero_add, Nat.reduceAdd, hv, hv12]
                clear hv hv12
                have hw := HW1.out
                have hjm := HJ1.out
                go_wp2
                go_roundw
                case rel =>
                  refine ⟨t + 1, tl ++ [e], rl.take k ++ rl.drop (k + 1), by go_num, by omega, ?_⟩
                  have hRR : R ≤ w9.heap.size := by have := HW9.out.size; have := HRr.out; omega
                  exact ⟨HO9.out.keep HJb.out, HJo.out.base_ (by have := HR9.out; omega), HPm.out, fun q h1 h2 => by
                    have := HD9.out q h1
                    have := (HJo.out.lt q h2).1
                    have := HR9.out
                    omega, HW9.out.trans (HJb.out.mono hRR)⟩
                case measure => simp [intOf] <;> omega
            · have hn0 : n12 = 0 := by omega
              subst hn0
              have cp0 := HCp.out
              have hw := HW1.out
              have hjm := HJ1.out
              go_wp2_with (first
                | (refine wpList_val (o := ⟨some 59, _, _, _, _, _⟩) rfl (.pointer (some ⟨gp, op + t, none⟩)) wp (run_indexAddr_op rfl rfl rfl HAt.out) ?_)
                | fail)
              go_roundw
              case rel => exact ⟨t + 1, tl, rl, by go_num, by omega, HPk.out⟩
              case measure => simp [intOf] <;> omega
          · -- all picks are done
            have htN : t = Np := by omega
            subst htN
            have hcow : CutOk wp := HCo.out.below (by rw [HRr.out]; exact HPk.out.w)
            have hRp : R ≤ wp.heap.size := by have := HPk.out.w.size; have := HRr.out; omega
            obtain ⟨v11, w8b, hr10, ho10, hg10, _⟩ := append_ev R wp u11 tl HPk.out.a _ rl (HPk.out.b.read encE_len) (by have := HTr.out; have := HRl.out; have := HN5.out; omega) hRp
            have HAp10 := Lib.hid hr10
            have hb10 : Below R wo w8b := HPk.out.w.grown hg10 hRp (fun q e => (HPk.out.a.lt q e).1)
            obtain ⟨T, hT⟩ : ∃ T, tl ++ rl = T := ⟨_, rfl⟩
            rw [hT] at ho10
            have hTp : T.Perm row := by rw [← hT]; exact HPk.out.p
            obtain ⟨A11, c11, rfl, _, _⟩ := ho10.read encE_len
            have hTl : T.length = j := by rw [hTp.length_eq]; exact HN5.out
            rw [hTl] at ho10 HAp10
            obtain ⟨q, hq⟩ : ∃ q, w8b.heap.size = q := ⟨_, rfl⟩
            have HT11 := Lib.hid ho10
            have HTp := Lib.hid hTp
            have HTl := Lib.hid hTl
            have HQ := Lib.hid hq
            have HB10 := Lib.hid hb10
            clear hcow hr10 ho10 hg10 hb10 hT hTp hTl hq HPk HTr HN12 hlt2
            have hzv := HZv.out
            go_wp2_with (first
              | (at_builtin; refine Lib.wpList_append_run (o := ⟨some 89, _, _, _, _, _⟩) _ rfl _ _ _ _ rfl _ _ rfl rfl _ _ HAp10.out ?_)
              | fail)
            clear hzv HAp10
            obtain ⟨wv, hwv⟩ : ∃ wv, w8b.alloc (.cells (vA fun _ => 0) 27) = wv := ⟨_, rfl⟩
            have hbv : Below w8b.heap.size w8b wv := by rw [← hwv]; exact (Below.refl _ _).alloc (Nat.le_refl _) _
            have hVv : VB wv q (fun _ => 0) := by rw [← hwv, ← HQ.out]; exact VB.new_ _ rfl
            rw [hwv, HQ.out]
            have hRw : R ≤ w8b.heap.size := by have := HB10.out.size; have := HRr.out; omega
            have HRq := Lib.hid (show R ≤ q by rw [← HQ.out]; exact hRw)
            have hbw : Below R wo wv := HB10.out.trans (hbv.mono hRw)
            have hblk : Blk wv (sa + 1) 78 #[.map none] := Blk.below HBo.out hbw (by have := HSo.out; have := HRr.out; omega)
            have HSv := Lib.hid (show StAt wv (sa + 1) (q + 1) [] from st_blank hblk)
            have HVv := Lib.hid hVv
            have HKv := Lib.hid (show Kept (sa + 1) q w8b wv from Kept.of_below hbv)
            have HBv := Lib.hid (show wv.heap.size = q + 1 by rw [← hwv, size_alloc_, HQ.out])
            have HSo2 := Lib.hid (show sa + 2 ≤ q by have := HSo.out; have := HRr.out; have := HRq.out; omega)
            clear hwv hbv hVv hRw hbw hblk
            go_wp2_with fail
            go_loopw [92] (fun v92 wr => ∃ pn : Nat, v92 = .int .i64 pn ∧ pn ≤ j ∧ StAt wr (sa + 1) (q + 1) (runS (causC (passL T pn 0)).1) ∧ VB wr q (causC (passL T pn 0)).2 ∧ Kept (sa + 1) q w8b wr ∧ q + 1 ≤ wr.heap.size) (fun v92 _ => j - (intOf v92).toNat)
            case atStart => exact ⟨0, rfl, Nat.zero_le _, HSv.out, HVv.out, HKv.out, by rw [HBv.out]; exact Nat.le_refl _⟩
            case round =>
              obtain ⟨pn, rfl, hpn, hst, hvb, hkp, hsz⟩ := hrel
              obtain ⟨wq, rfl⟩ : ∃ wq, wq = wr := ⟨_, rfl⟩
              have HSt2 := Lib.hid hst
              have HVt2 := Lib.hid hvb
              have HKt2 := Lib.hid hkp
              have HSz2 := Lib.hid hsz
              clear hst hvb hkp hsz
              by_cases hlt3 : pn < j
              · go_wp2_with fail
                go_loopw [96] (fun v96 wr => ∃ ii : Nat, v96 = .int .i64 ii ∧ ii ≤ j ∧ StAt wr (sa + 1) (q + 1) (runS (causC (passL T pn ii)).1) ∧ VB wr q (causC (passL T pn ii)).2 ∧ Kept (sa + 1) q w8b wr ∧ q + 1 ≤ wr.heap.size) (fun v96 _ => j - (intOf v96).toNat)
                case atStart => exact ⟨0, rfl, Nat.zero_le _, HSt2.out, HVt2.out, HKt2.out, HSz2.out⟩
                case round =>
                  obtain ⟨ii, rfl, hii, hst, hvb, hkp, hsz⟩ := hrel
                  obtain ⟨wi, rfl⟩ : ∃ wi, wi = wr := ⟨_, rfl⟩
                  have HSt3 := Lib.hid hst
                  have HVt3 := Lib.hid hvb
                  have HKt3 := Lib.hid hkp
                  have HSz3 := Lib.hid hsz
                  clear hst hvb hkp hsz
                  by_cases hlt4 : ii < j
                  · obtain ⟨e, he⟩ : ∃ e, T[ii]? = some e := ⟨T[ii]'(by rw [HTl.out]; exact hlt4), List.getElem?_eq_getElem _⟩
                    have hto : OwnK encE R 39 27 wi (.slice A11 j c11) T := HT11.out.same_kept HKt3.out fun g h => by
                      have h1 := HT11.out.lt g h
                      have := HQ.out
                      have := HRr.out
                      have := HSo.out
                      omega
                    obtain ⟨g, rfl, _, _, hce⟩ := hto.at_ encE_len he
                    have hem : e ∈ row := HTp.out.mem_iff.1 (List.mem_of_getElem? he)
                    have HCe := Lib.hid hce
                    have HAt := Lib.hid (at_Ev0 g c11 j ii hlt4 wi)
                    have HLe := Lib.hid (HRm.out e hem)
                    have hok : okB e = true := by rw [← HRow.out] at hem; exact ((caus_row l).1 e hem).1
                    have HOk := Lib.hid hok
                    obtain ⟨n, hrn, hnl, hc1, hc2⟩ := ok_dot hok
                    have HRn := Lib.hid hrn
                    have HNl := Lib.hid hnl
                    have HCb := Lib.hid (show 1 ≤ e.c ∧ e.c ≤ 1048576 from ⟨hc1, hc2⟩)
                    have HNx := Lib.hid (show causC (passL T pn (ii + 1)) = comeC (causC (passL T pn ii)) e by rw [pass_next he, causC_snoc])
                    have HAl := Lib.hid fun c => World.setRow_alloc_new wi (evC ev0) c 39
                    have HZz := Lib.hid (show Blk (wi.alloc (.cells (evC ev0) 39)) wi.heap.size 39 (evC ev0) from Blk.new _ _ _)
                    obtain ⟨S, hS⟩ : ∃ S, causC (passL T pn ii) = S := ⟨_, rfl⟩
                    obtain ⟨D, h⟩ := S
                    rw [hS] at HSt3 HVt3 HNx
                    dsimp only at HSt3 HVt3
                    obtain ⟨X, hX⟩ : ∃ X, X = wi.alloc (.cells (evC e) 39) := ⟨_, rfl⟩
                    have hbX : Below wi.heap.size wi X := by rw [hX]; exact (Below.refl _ _).alloc (Nat.le_refl _) _
                    have hBX : EB X wi.heap.size e := by rw [hX]; exact Blk.new _ _ _
                    have HXe := Lib.hid hX
                    have HBX := Lib.hid hBX
                    have HKX := Lib.hid (HKt3.out.trans (Kept.of_below hbX))
                    obtain ⟨F, hF1, hF2⟩ := HSt3.out
                    have HSX := Lib.hid (hF1.below hbX)
                    have HF1 := Lib.hid hF1.2.1
                    have HF2 := Lib.hid hF2
                    have HVX := Lib.hid (VB.keep HVt3.out hbX)
                    have HZX := Lib.hid (show q + 1 ≤ X.heap.size from Nat.le_trans HSz3.out hbX.size)
                    clear hX hbX hBX he hce hto hem hok hrn hnl hc1 hc2 hS HSt3 HVt3 hF1 hF2
                    have hw := IntWalk.i64_in ((ii : Int) + 1) (by have := HRl.out; have := HN5.out; omega)
                    have hjm : ¬ 9223372036854775807 < ii + 1 := by have := HRl.out; have := HN5.out; omega
                    have HW1 := Lib.hid hw
                    have HJ1 := Lib.hid hjm
                    clear hw hjm
                    obtain ⟨q0, hq0⟩ : ∃ q0, (h n == e.c - 1) = q0 := ⟨_, rfl⟩
                    have HQ0 := Lib.hid hq0
                    have HMy : Hid (mayC h e = (q0 && (List.range 16).all fun i => decide (e.p i ≤ h i))) := Lib.hid (by unfold mayC; rw [HOk.out, HRn.out, Int.toNat_natCast, hq0]; rfl)
                    clear hq0
                    have hz := HZe.out
                    go_upto_region 29 with (first
                      | (refine wpList_val (o := ⟨some 98, _, _, _, _, _⟩) rfl (.pointer (some ⟨g, ii * 27, none⟩)) wi (run_indexAddr_op rfl rfl rfl HAt.out) ?_)
                      | (refine' wpList_load_midif ?q1 39 (.tmp 98) ?q2 g (ii * 27) ?q3 (encE e) _ ?q4 Try.underlying39 ?q5 ?q6 ?_; (case q2 => rfl); (case q1 => rfl); (case q3 => rfl); (case q4 => exact HCe.out); (case q5 => rfl); (case q6 => exact (sizeE e)))
                      | (refine wpList_store_row (o := ⟨none, _, _, _, _, _⟩) rfl 39 (.tmp 18) (.tmp 99) rfl wi.heap.size (evC e) rfl rfl _ _ HZz.out (sizeE e) rfl (by kernel_rfl) ?_; rw [HAl.out, ← HXe.out])
                      | fail)
                    clear hz
                    refine wp_region_any (by kernel_rfl) ?_
                    refine wpAny_below (fun i uq _ => uq = ([.pointer (some ⟨wi.heap.size, 0, none⟩), .pointer (some ⟨wi.heap.size, 0, none⟩), .int .i64 n, .pointer (some ⟨q, n, none⟩), .int .i64 (h n), .pointer (some ⟨wi.heap.size, 0, none⟩), .pointer (some ⟨wi.heap.size, 1, none⟩), .int .i64 e.c, .int .i64 (e.c - 1), .bool q0, .bool q0] : List Value).getD i undef) _ X (by kernel_rfl) (by kernel_rfl) (by kernel_rfl) (fun i v w w' _ h => h) ?_ ?_
                    · refine ⟨?_, ?_, ?_, ?_, ?_, ?_, ?_, ?_, ?_, ?_, ?_, trivial⟩
                      · intro a W hI hun haft hi
                        have e18 : a.eval (.tmp 18) = .pointer (some ⟨wi.heap.size, 0, none⟩) := hun 18 (by kernel_rfl)
                        exact b_same hi hI rfl _ (run_fieldAddr_any rfl e18 (at_event0 _ 0 _)) rfl
                      · intro a W hI hun haft hi
                        have f0 : a.eval (.tmp 100) = .pointer (some ⟨wi.heap.size, 0, none⟩) := haft ⟨0, .data⟩ (by simp) rfl _ _ rfl rfl
                        exact b_same hi hI rfl _ (run_fieldAddr_any rfl f0 (at_dot0' _ 0 _)) rfl
                      · intro a W hI hun haft hi
                        have f1 : a.eval (.tmp 101) = .pointer (some ⟨wi.heap.size, 0, none⟩) := haft ⟨1, .data⟩ (by simp) rfl _ _ rfl rfl
                        exact b_same hi hI rfl _ (run_loadint_op rfl f1 Try.underlying3 ((Blk.cell (EB.keep HBX.out hI) 0).trans (by rw [show (evC e)[0]? = some (.int .i64 e.r) from rfl, HRn.out]))) rfl
                      · intro a W hI hun haft hi
                        have e16 : a.eval (.tmp 16) = .pointer (some ⟨q, 0, none⟩) := hun 16 (by kernel_rfl)
                        have f2 : a.eval (.tmp 102) = .int .i64 n := haft ⟨2, .data⟩ (by simp) rfl _ _ rfl rfl
                        exact b_same hi hI rfl _ (run_indexAddr_op rfl e16 f2 (at_vec _ n HNl.out _)) rfl
                      · intro a W hI hun haft hi
                        have f3 : a.eval (.tmp 103) = .pointer (some ⟨q, n, none⟩) := haft ⟨3, .data⟩ (by simp) rfl _ _ rfl rfl
                        exact b_same hi hI rfl _ (run_loadint_op rfl f3 Try.underlying3 (VB.cell_ (VB.keep HVX.out hI) n HNl.out)) rfl
                      · intro a W hI hun haft hi
                        have e18 : a.eval (.tmp 18) = .pointer (some ⟨wi.heap.size, 0, none⟩) := hun 18 (by kernel_rfl)
                        exact b_same hi hI rfl _ (run_fieldAddr_any rfl e18 (at_event0 _ 0 _)) rfl
                      · intro a W hI hun haft hi
                        have f5 : a.eval (.tmp 105) = .pointer (some ⟨wi.heap.size, 0, none⟩) := haft ⟨5, .data⟩ (by simp) rfl _ _ rfl rfl
                        exact b_same hi hI rfl _ (run_fieldAddr_any rfl f5 (at_dot1' _ 0 _)) rfl
                      · intro a W hI hun haft hi
                        have f6 : a.eval (.tmp 106) = .pointer (some ⟨wi.heap.size, 1, none⟩) := haft ⟨6, .data⟩ (by simp) rfl _ _ rfl rfl
                        exact b_same hi hI rfl _ (run_loadint_op rfl f6 Try.underlying3 ((Blk.cell (EB.keep HBX.out hI) 1).trans rfl)) rfl
                      · intro a W hI hun haft hi
                        have f7 : a.eval (.tmp 107) = .int .i64 e.c := haft ⟨7, .data⟩ (by simp) rfl _ _ rfl rfl
                        exact b_same hi hI rfl (.int .i64 (e.c - 1)) (run_bin_op rfl f7 rfl (guardI _ _ _ _ _ _ _) (run_sub1 e.c HCb.out _)) rfl
                      · intro a W hI hun haft hi
                        have f4 : a.eval (.tmp 104) = .int .i64 (h n) := haft ⟨4, .data⟩ (by simp) rfl _ _ rfl rfl
                        have f8 : a.eval (.tmp 108) = .int .i64 (e.c - 1) := haft ⟨8, .data⟩ (by simp) rfl _ _ rfl rfl
                        exact b_same hi hI rfl (.bool q0) (run_bin_op rfl f4 f8 (guardI _ _ _ _ _ _ _) (run_eqi HQ0.out _)) rfl
                      · intro a W hI hun haft hi
                        have f9 : a.eval (.tmp 109) = .bool q0 := haft ⟨9, .data⟩ (by simp) rfl _ _ rfl rfl
                        exact b_same hi hI rfl _ (run_assign_op rfl f9) rfl
                    · intro vals W hI hp
                      have hl0 : vals 0 = .pointer (some ⟨wi.heap.size, 0, none⟩) := hp 0 (by decide)
                      have hl1 : vals 1 = .pointer (some ⟨wi.heap.size, 0, none⟩) := hp 1 (by decide)
                      have hl2 : vals 2 = .int .i64 n := hp 2 (by decide)
                      have hl3 : vals 3 = .pointer (some ⟨q, n, none⟩) := hp 3 (by decide)
                      have hl4 : vals 4 = .int .i64 (h n) := hp 4 (by decide)
                      have hl5 : vals 5 = .pointer (some ⟨wi.heap.size, 0, none⟩) := hp 5 (by decide)
                      have hl6 : vals 6 = .pointer (some ⟨wi.heap.size, 1, none⟩) := hp 6 (by decide)
                      have hl7 : vals 7 = .int .i64 e.c := hp 7 (by decide)
                      have hl8 : vals 8 = .int .i64 (e.c - 1) := hp 8 (by decide)
                      have hl9 : vals 9 = .bool q0 := hp 9 (by decide)
                      have hl10 : vals 10 = .bool q0 := hp 10 (by decide)
                      have HI := Lib.hid hI
                      clear hp hI
                      simp only [layN, List.size_toArray, List.length_cons, List.length_nil, List.range, List.range.loop, if_true, List.getElem?_toArray, List.getElem?_cons_zero, List.getElem?_cons_succ, Act.put, List.setIfInBounds_toArray, List.set_cons_zero, List.set_cons_succ, Nat.zero_add, Nat.reduceAdd, hl0, hl1, hl2, hl3, hl4, hl5, hl6, hl7, hl8, hl9, hl10]
                      clear hl0 hl1 hl2 hl3 hl4 hl5 hl6 hl7 hl8 hl9 hl10
                      have HB5 := Lib.hid HI.out
                      clear HI
                      go_wp2_with fail
                      go_loopw [19, 110] (fun v19 v110 wr => ∃ k : Nat, v110 = .int .i64 k ∧ k ≤ 16 ∧ v19 = .bool (q0 && (List.range k).all fun i => decide (e.p i ≤ h i)) ∧ Below X.heap.size X wr) (fun _ v110 _ => 16 - (intOf v110).toNat)
                      case atStart => exact ⟨0, rfl, Nat.zero_le _, by rw [show (List.range 0) = [] from rfl, List.all_nil, Bool.and_true], HB5.out⟩
                      case round =>
                        obtain ⟨k, rfl, hk, rfl, hbi⟩ := hrel
                        have HBi := Lib.hid hbi
                        have HE1 := Lib.hid (EB.keep HBX.out hbi)
                        have HV2 := Lib.hid (VB.keep HVX.out hbi)
                        clear hbi HB5
                        obtain ⟨kb, hkb⟩ : ∃ kb, (q0 && (List.range k).all fun i => decide (e.p i ≤ h i)) = kb := ⟨_, rfl⟩
                        rw [hkb]
                        have HKb := Lib.hid hkb
                        clear hkb
                        by_cases hlk : k < 16
                        · have HKl := Lib.hid hlk
                          cases kb
                          · go_upto_region 33 with fail
                            refine wp_region_any (by kernel_rfl) ?_
                            refine Lt.wpAny_late (fun i uq _ => uq = ([.bool false, .bool false, undef, undef, undef, undef, undef, undef, undef, undef, .bool false, .bool false] : List Value).getD i undef) _ wr (by kernel_rfl) (by kernel_rfl) (by kernel_rfl) (fun i v w w' _ h => h) ?_ ?_
                            · refine ⟨?_, ?_, ?_, ?_, ?_, ?_, ?_, ?_, ?_, ?_, ?_, ?_, trivial⟩
                              · intro a W hI hun haft hi
                                have e19 : a.eval (.tmp 19) = .bool false := hun 19 (by kernel_rfl)
                                exact b_same hi hI rfl _ (run_move_op rfl e19) rfl
                              · intro a W hI hun haft hi
                                have f0 : a.eval (.tmp 113) = .bool false := haft ⟨0, .data⟩ (by simp) rfl _ _ rfl rfl
                                exact b_same hi hI rfl _ (run_move_op rfl f0) rfl
                              · intro a W hI hun haft hi
                                have fg : a.eval (.tmp 114) = .bool false := haft ⟨1, .guard⟩ (by simp) rfl _ _ rfl rfl
                                exact b_skip hi hI (guard_no rfl rfl rfl (.inl fg)) rfl
                              · intro a W hI hun haft hi
                                have fg : a.eval (.tmp 114) = .bool false := haft ⟨1, .guard⟩ (by simp) rfl _ _ rfl rfl
                                exact b_skip hi hI (guard_no rfl rfl rfl (.inl fg)) rfl
                              · intro a W hI hun haft hi
                                have fg : a.eval (.tmp 114) = .bool false := haft ⟨1, .guard⟩ (by simp) rfl _ _ rfl rfl
                                exact b_skip hi hI (guard_no rfl rfl rfl (.inl fg)) rfl
                              · intro a W hI hun haft hi
                                have fg : a.eval (.tmp 114) = .bool false := haft ⟨1, .guard⟩ (by simp) rfl _ _ rfl rfl
                                exact b_skip hi hI (guard_no rfl rfl rfl (.inl fg)) rfl
                              · intro a W hI hun haft hi
                                have fg : a.eval (.tmp 114) = .bool false := haft ⟨1, .guard⟩ (by simp) rfl _ _ rfl rfl
                                exact b_skip hi hI (guard_no rfl rfl rfl (.inl fg)) rfl
                              · intro a W hI hun haft hi
                                have fg : a.eval (.tmp 114) = .bool false := haft ⟨1, .guard⟩ (by simp) rfl _ _ rfl rfl
                                exact b_skip hi hI (guard_no rfl rfl rfl (.inl fg)) rfl
                              · intro a W hI hun haft hi
                                have fg : a.eval (.tmp 114) = .bool false := haft ⟨1, .guard⟩ (by simp) rfl _ _ rfl rfl
                                exact b_skip hi hI (guard_no rfl rfl rfl (.inl fg)) rfl
                              · intro a W hI hun haft hi
                                have fg : a.eval (.tmp 114) = .bool false := haft ⟨1, .guard⟩ (by simp) rfl _ _ rfl rfl
                                exact b_skip hi hI (guard_no rfl rfl rfl (.inl fg)) rfl
                              · intro a W hI hun haft hi
                                have f1 : a.eval (.tmp 114) = .bool false := haft ⟨1, .data⟩ (by simp) rfl _ _ rfl rfl
                                have f9 : a.eval (.tmp 122) = undef := haft ⟨9, .data⟩ (by simp) rfl _ _ rfl rfl
                                exact b_same hi hI rfl _ (run_pick_op (b := false) rfl f1 f9 rfl) rfl
                              · intro a W hI hun haft hi
                                have f10 : a.eval (.tmp 123) = .bool false := haft ⟨10, .data⟩ (by simp) rfl _ _ rfl rfl
                                exact b_same hi hI rfl _ (run_assign_op rfl f10) rfl
                            · intro vals W hI hp
                              have hl0 : vals 0 = .bool false := hp 0 (by decide)
                              have hl1 : vals 1 = .bool false := hp 1 (by decide)
                              have hl2 : vals 2 = undef := hp 2 (by decide)
                              have hl3 : vals 3 = undef := hp 3 (by decide)
                              have hl4 : vals 4 = undef := hp 4 (by decide)
                              have hl5 : vals 5 = undef := hp 5 (by decide)
                              have hl6 : vals 6 = undef := hp 6 (by decide)
                              have hl7 : vals 7 = undef := hp 7 (by decide)
                              have hl8 : vals 8 = undef := hp 8 (by decide)
                              have hl9 : vals 9 = undef := hp 9 (by decide)
                              have hl10 : vals 10 = .bool false := hp 10 (by decide)
                              have hl11 : vals 11 = .bool false := hp 11 (by decide)
                              have HI := Lib.hid hI
                              clear hp hI
                              simp only [layN, List.size_toArray, List.length_cons, List.length_nil, List.range, List.range.loop, if_true, List.getElem?_toArray, List.getElem?_cons_zero, List.getElem?_cons_succ, Act.put, List.setIfInBounds_toArray, List.set_cons_zero, List.set_cons_succ, Nat.zero_add, Nat.reduceAdd, hl0, hl1, hl2, hl3, hl4, hl5, hl6, hl7, hl8, hl9, hl10, hl11]
                              clear hl0 hl1 hl2 hl3 hl4 hl5 hl6 hl7 hl8 hl9 hl10 hl11
                              go_wp2
                              go_roundw
                              case rel => exact ⟨k + 1, by go_num, by omega, by rw [List.range_succ, List.all_append, ← Bool.and_assoc, HKb.out]; rfl, HBi.out.trans (HI.out.mono HBi.out.size)⟩
                              case measure => simp [intOf] <;> omega
                          · cases hc : decide (e.p k ≤ h k)
                            · go_upto_region 33 with fail
                              refine wp_region_any (by kernel_rfl) ?_
                              refine Lt.wpAny_late (fun i uq _ => uq = ([.bool true, .bool true, .int .i64 k, .pointer (some ⟨wi.heap.size, 2, none⟩), .pointer (some ⟨wi.heap.size, 2 + k, none⟩), .int .i64 (e.p k), .int .i64 k, .pointer (some ⟨q, k, none⟩), .int .i64 (h k), .bool false, .bool false, .bool false] : List Value).getD i undef) _ wr (by kernel_rfl) (by kernel_rfl) (by kernel_rfl) (fun i v w w' _ h => h) ?_ ?_
                              · refine ⟨?_, ?_, ?_, ?_, ?_, ?_, ?_, ?_, ?_, ?_, ?_, ?_, trivial⟩
                                · intro a W hI hun haft hi
                                  have e19 : a.eval (.tmp 19) = .bool true := hun 19 (by kernel_rfl)
                                  exact b_same hi hI rfl _ (run_move_op rfl e19) rfl
                                · intro a W hI hun haft hi
                                  have f0 : a.eval (.tmp 113) = .bool true := haft ⟨0, .data⟩ (by simp) rfl _ _ rfl rfl
                                  exact b_same hi hI rfl _ (run_move_op rfl f0) rfl
                                · intro a W hI hun haft hi
                                  have fg : a.eval (.tmp 114) = .bool true := haft ⟨1, .guard⟩ (by simp) rfl _ _ rfl rfl
                                  have e20 : a.eval (.tmp 20) = .int .i64 k := hun 20 (by kernel_rfl)
                                  exact b_same hi hI (guard_ok rfl rfl rfl fg) _ (run_move_op rfl e20) rfl
                                · intro a W hI hun haft hi
                                  have fg : a.eval (.tmp 114) = .bool true := haft ⟨1, .guard⟩ (by simp) rfl _ _ rfl rfl
                                  have e18 : a.eval (.tmp 18) = .pointer (some ⟨wi.heap.size, 0, none⟩) := hun 18 (by kernel_rfl)
                                  exact b_same hi hI (guard_ok rfl rfl rfl fg) _ (run_fieldAddr_any rfl e18 (at_event1 _ 0 _)) rfl
                                · intro a W hI hun haft hi
                                  have fg : a.eval (.tmp 114) = .bool true := haft ⟨1, .guard⟩ (by simp) rfl _ _ rfl rfl
                                  have f3 : a.eval (.tmp 116) = .pointer (some ⟨wi.heap.size, 2, none⟩) := haft ⟨3, .data⟩ (by simp) rfl _ _ rfl rfl
                                  have f2 : a.eval (.tmp 115) = .int .i64 k := haft ⟨2, .data⟩ (by simp) rfl _ _ rfl rfl
                                  exact b_same hi hI (guard_ok rfl rfl rfl fg) _ (run_indexAddr_op rfl f3 f2 (at_past _ k HKl.out _)) rfl
                                · intro a W hI hun haft hi
                                  have fg : a.eval (.tmp 114) = .bool true := haft ⟨1, .guard⟩ (by simp) rfl _ _ rfl rfl
                                  have f4 : a.eval (.tmp 117) = .pointer (some ⟨wi.heap.size, 2 + k, none⟩) := haft ⟨4, .data⟩ (by simp) rfl _ _ rfl rfl
                                  exact b_same hi hI (guard_ok rfl rfl rfl fg) _ (run_loadint_op rfl f4 Try.underlying3 ((Blk.cell (EB.keep HE1.out hI) (2 + k)).trans (past_at e k HKl.out))) rfl
                                · intro a W hI hun haft hi
                                  have fg : a.eval (.tmp 114) = .bool true := haft ⟨1, .guard⟩ (by simp) rfl _ _ rfl rfl
                                  have e20 : a.eval (.tmp 20) = .int .i64 k := hun 20 (by kernel_rfl)
                                  exact b_same hi hI (guard_ok rfl rfl rfl fg) _ (run_move_op rfl e20) rfl
                                · intro a W hI hun haft hi
                                  have fg : a.eval (.tmp 114) = .bool true := haft ⟨1, .guard⟩ (by simp) rfl _ _ rfl rfl
                                  have e16 : a.eval (.tmp 16) = .pointer (some ⟨q, 0, none⟩) := hun 16 (by kernel_rfl)
                                  have f6 : a.eval (.tmp 119) = .int .i64 k := haft ⟨6, .data⟩ (by simp) rfl _ _ rfl rfl
                                  exact b_same hi hI (guard_ok rfl rfl rfl fg) _ (run_indexAddr_op rfl e16 f6 (at_vec _ k HKl.out _)) rfl
                                · intro a W hI hun haft hi
                                  have fg : a.eval (.tmp 114) = .bool true := haft ⟨1, .guard⟩ (by simp) rfl _ _ rfl rfl
                                  have f7 : a.eval (.tmp 120) = .pointer (some ⟨q, k, none⟩) := haft ⟨7, .data⟩ (by simp) rfl _ _ rfl rfl
                                  exact b_same hi hI (guard_ok rfl rfl rfl fg) _ (run_loadint_op rfl f7 Try.underlying3 (VB.cell_ (VB.keep HV2.out hI) k HKl.out)) rfl
                                · intro a W hI hun haft hi
                                  have fg : a.eval (.tmp 114) = .bool true := haft ⟨1, .guard⟩ (by simp) rfl _ _ rfl rfl
                                  have f5 : a.eval (.tmp 118) = .int .i64 (e.p k) := haft ⟨5, .data⟩ (by simp) rfl _ _ rfl rfl
                                  have f8 : a.eval (.tmp 121) = .int .i64 (h k) := haft ⟨8, .data⟩ (by simp) rfl _ _ rfl rfl
                                  exact b_same hi hI (guard_ok rfl rfl rfl fg) (.bool false) (run_bin_op rfl f5 f8 (guardI _ _ _ _ _ _ _) (run_lei hc _)) rfl
                                · intro a W hI hun haft hi
                                  have f1 : a.eval (.tmp 114) = .bool true := haft ⟨1, .data⟩ (by simp) rfl _ _ rfl rfl
                                  have f9 : a.eval (.tmp 122) = .bool false := haft ⟨9, .data⟩ (by simp) rfl _ _ rfl rfl
                                  exact b_same hi hI rfl _ (run_pick_op (b := true) rfl f1 f9 rfl) rfl
                                · intro a W hI hun haft hi
                                  have f10 : a.eval (.tmp 123) = .bool false := haft ⟨10, .data⟩ (by simp) rfl _ _ rfl rfl
                                  exact b_same hi hI rfl _ (run_assign_op rfl f10) rfl
                              · intro vals W hI hp
                                have hl0 : vals 0 = .bool true := hp 0 (by decide)
                                have hl1 : vals 1 = .bool true := hp 1 (by decide)
                                have hl2 : vals 2 = .int .i64 k := hp 2 (by decide)
                                have hl3 : vals 3 = .pointer (some ⟨wi.heap.size, 2, none⟩) := hp 3 (by decide)
                                have hl4 : vals 4 = .pointer (some ⟨wi.heap.size, 2 + k, none⟩) := hp 4 (by decide)
                                have hl5 : vals 5 = .int .i64 (e.p k) := hp 5 (by decide)
                                have hl6 : vals 6 = .int .i64 k := hp 6 (by decide)
                                have hl7 : vals 7 = .pointer (some ⟨q, k, none⟩) := hp 7 (by decide)
                                have hl8 : vals 8 = .int .i64 (h k) := hp 8 (by decide)
                                have hl9 : vals 9 = .bool false := hp 9 (by decide)
                                have hl10 : vals 10 = .bool false := hp 10 (by decide)
                                have hl11 : vals 11 = .bool false := hp 11 (by decide)
                                have HI := Lib.hid hI
                                clear hp hI
                                simp only [layN, List.size_toArray, List.length_cons, List.length_nil, List.range, List.range.loop, if_true, List.getElem?_toArray, List.getElem?_cons_zero, List.getElem?_cons_succ, Act.put, List.setIfInBounds_toArray, List.set_cons_zero, List.set_cons_succ, Nat.zero_add, Nat.reduceAdd, hl0, hl1, hl2, hl3, hl4, hl5, hl6, hl7, hl8, hl9, hl10, hl11]
                                clear hl0 hl1 hl2 hl3 hl4 hl5 hl6 hl7 hl8 hl9 hl10 hl11
                                go_wp2
                                go_roundw
                                case rel => exact ⟨k + 1, by go_num, by omega, by rw [List.range_succ, List.all_append, ← Bool.and_assoc, HKb.out]; simp only [List.all_cons, List.all_nil, hc]; rfl, HBi.out.trans (HI.out.mono HBi.out.size)⟩
                                case measure => simp [intOf] <;> omega
                            · go_upto_region 33 with fail
                              refine wp_region_any (by kernel_rfl) ?_
                              refine Lt.wpAny_late (fun i uq _ => uq = ([.bool true, .bool true, .int .i64 k, .pointer (some ⟨wi.heap.size, 2, none⟩), .pointer (some ⟨wi.heap.size, 2 + k, none⟩), .int .i64 (e.p k), .int .i64 k, .pointer (some ⟨q, k, none⟩), .int .i64 (h k), .bool true, .bool true, .bool true] : List Value).getD i undef) _ wr (by kernel_rfl) (by kernel_rfl) (by kernel_rfl) (fun i v w w' _ h => h) ?_ ?_
                              · refine ⟨?_, ?_, ?_, ?_, ?_, ?_, ?_, ?_, ?_, ?_, ?_, ?_, trivial⟩
                                · intro a W hI hun haft hi
                                  have e19 : a.eval (.tmp 19) = .bool true := hun 19 (by kernel_rfl)
                                  exact b_same hi hI rfl _ (run_move_op rfl e19) rfl
                                · intro a W hI hun haft hi
                                  have f0 : a.eval (.tmp 113) = .bool true := haft ⟨0, .data⟩ (by simp) rfl _ _ rfl rfl
                                  exact b_same hi hI rfl _ (run_move_op rfl f0) rfl
                                · intro a W hI hun haft hi
                                  have fg : a.eval (.tmp 114) = .bool true := haft ⟨1, .guard⟩ (by simp) rfl _ _ rfl rfl
                                  have e20 : a.eval (.tmp 20) = .int .i64 k := hun 20 (by kernel_rfl)
                                  exact b_same hi hI (guard_ok rfl rfl rfl fg) _ (run_move_op rfl e20) rfl
                                · intro a W hI hun haft hi
                                  have fg : a.eval (.tmp 114) = .bool true := haft ⟨1, .guard⟩ (by simp) rfl _ _ rfl rfl
                                  have e18 : a.eval (.tmp 18) = .pointer (some ⟨wi.heap.size, 0, none⟩) := hun 18 (by kernel_rfl)
                                  exact b_same hi hI (guard_ok rfl rfl rfl fg) _ (run_fieldAddr_any rfl e18 (at_event1 _ 0 _)) rfl
                                · intro a W hI hun haft hi
                                  have fg : a.eval (.tmp 114) = .bool true := haft ⟨1, .guard⟩ (by simp) rfl _ _ rfl rfl
                                  have f3 : a.eval (.tmp 116) = .pointer (some ⟨wi.heap.size, 2, none⟩) := haft ⟨3, .data⟩ (by simp) rfl _ _ rfl rfl
                                  have f2 : a.eval (.tmp 115) = .int .i64 k := haft ⟨2, .data⟩ (by simp) rfl _ _ rfl rfl
                                  exact b_same hi hI (guard_ok rfl rfl rfl fg) _ (run_indexAddr_op rfl f3 f2 (at_past _ k HKl.out _)) rfl
                                · intro a W hI hun haft hi
                                  have fg : a.eval (.tmp 114) = .bool true := haft ⟨1, .guard⟩ (by simp) rfl _ _ rfl rfl
                                  have f4 : a.eval (.tmp 117) = .pointer (some ⟨wi.heap.size, 2 + k, none⟩) := haft ⟨4, .data⟩ (by simp) rfl _ _ rfl rfl
                                  exact b_same hi hI (guard_ok rfl rfl rfl fg) _ (run_loadint_op rfl f4 Try.underlying3 ((Blk.cell (EB.keep HE1.out hI) (2 + k)).trans (past_at e k HKl.out))) rfl
                                · intro a W hI hun haft hi
                                  have fg : a.eval (.tmp 114) = .bool true := haft ⟨1, .guard⟩ (by simp) rfl _ _ rfl rfl
                                  have e20 : a.eval (.tmp 20) = .int .i64 k := hun 20 (by kernel_rfl)
                                  exact b_same hi hI (guard_ok rfl rfl rfl fg) _ (run_move_op rfl e20) rfl
                                · intro a W hI hun haft hi
                                  have fg : a.eval (.tmp 114) = .bool true := haft ⟨1, .guard⟩ (by simp) rfl _ _ rfl rfl
                                  have e16 : a.eval (.tmp 16) = .pointer (some ⟨q, 0, none⟩) := hun 16 (by kernel_rfl)
                                  have f6 : a.eval (.tmp 119) = .int .i64 k := haft ⟨6, .data⟩ (by simp) rfl _ _ rfl rfl
                                  exact b_same hi hI (guard_ok rfl rfl rfl fg) _ (run_indexAddr_op rfl e16 f6 (at_vec _ k HKl.out _)) rfl
                                · intro a W hI hun haft hi
                                  have fg : a.eval (.tmp 114) = .bool true := haft ⟨1, .guard⟩ (by simp) rfl _ _ rfl rfl
                                  have f7 : a.eval (.tmp 120) = .pointer (some ⟨q, k, none⟩) := haft ⟨7, .data⟩ (by simp) rfl _ _ rfl rfl
                                  exact b_same hi hI (guard_ok rfl rfl rfl fg) _ (run_loadint_op rfl f7 Try.underlying3 (VB.cell_ (VB.keep HV2.out hI) k HKl.out)) rfl
                                · intro a W hI hun haft hi
                                  have fg : a.eval (.tmp 114) = .bool true := haft ⟨1, .guard⟩ (by simp) rfl _ _ rfl rfl
                                  have f5 : a.eval (.tmp 118) = .int .i64 (e.p k) := haft ⟨5, .data⟩ (by simp) rfl _ _ rfl rfl
                                  have f8 : a.eval (.tmp 121) = .int .i64 (h k) := haft ⟨8, .data⟩ (by simp) rfl _ _ rfl rfl
                                  exact b_same hi hI (guard_ok rfl rfl rfl fg) (.bool true) (run_bin_op rfl f5 f8 (guardI _ _ _ _ _ _ _) (run_lei hc _)) rfl
                                · intro a W hI hun haft hi
                                  have f1 : a.eval (.tmp 114) = .bool true := haft ⟨1, .data⟩ (by simp) rfl _ _ rfl rfl
                                  have f9 : a.eval (.tmp 122) = .bool true := haft ⟨9, .data⟩ (by simp) rfl _ _ rfl rfl
                                  exact b_same hi hI rfl _ (run_pick_op (b := true) rfl f1 f9 rfl) rfl
                                · intro a W hI hun haft hi
                                  have f10 : a.eval (.tmp 123) = .bool true := haft ⟨10, .data⟩ (by simp) rfl _ _ rfl rfl
                                  exact b_same hi hI rfl _ (run_assign_op rfl f10) rfl
                              · intro vals W hI hp
                                have hl0 : vals 0 = .bool true := hp 0 (by decide)
                                have hl1 : vals 1 = .bool true := hp 1 (by decide)
                                have hl2 : vals 2 = .int .i64 k := hp 2 (by decide)
                                have hl3 : vals 3 = .pointer (some ⟨wi.heap.size, 2, none⟩) := hp 3 (by decide)
                                have hl4 : vals 4 = .pointer (some ⟨wi.heap.size, 2 + k, none⟩) := hp 4 (by decide)
                                have hl5 : vals 5 = .int .i64 (e.p k) := hp 5 (by decide)
                                have hl6 : vals 6 = .int .i64 k := hp 6 (by decide)
                                have hl7 : vals 7 = .pointer (some ⟨q, k, none⟩) := hp 7 (by decide)
                                have hl8 : vals 8 = .int .i64 (h k) := hp 8 (by decide)
                                have hl9 : vals 9 = .bool true := hp 9 (by decide)
                                have hl10 : vals 10 = .bool true := hp 10 (by decide)
                                have hl11 : vals 11 = .bool true := hp 11 (by decide)
                                have HI := Lib.hid hI
                                clear hp hI
                                simp only [layN, List.size_toArray, List.length_cons, List.length_nil, List.range, List.range.loop, if_true, List.getElem?_toArray, List.getElem?_cons_zero, List.getElem?_cons_succ, Act.put, List.setIfInBounds_toArray, List.set_cons_zero, List.set_cons_succ, Nat.zero_add, Nat.reduceAdd, hl0, hl1, hl2, hl3, hl4, hl5, hl6, hl7, hl8, hl9, hl10, hl11]
                                clear hl0 hl1 hl2 hl3 hl4 hl5 hl6 hl7 hl8 hl9 hl10 hl11
                                go_wp2
                                go_roundw
                                case rel => exact ⟨k + 1, by go_num, by omega, by rw [List.range_succ, List.all_append, ← Bool.and_assoc, HKb.out]; simp only [List.all_cons, List.all_nil, hc]; rfl, HBi.out.trans (HI.out.mono HBi.out.size)⟩
                                case measure => simp [intOf] <;> omega
                        · have hk16 : k = 16 := by omega
                          subst hk16
                          cases kb
                          · have HMn : Hid (mayC h e = false) := Lib.hid (HMy.out.trans HKb.out)
                            have hjm := HJ1.out
                            have hw := HW1.out
                            go_wp2
                            go_roundw
                            case rel => exact ⟨ii + 1, by go_num, by omega, by rw [HNx.out, comeC_no HMn.out]; exact ⟨F, HSX.out.below HBi.out, HF2.out⟩, by rw [HNx.out, comeC_no HMn.out]; exact HV2.out, HKX.out.trans (Kept.of_below HBi.out), Nat.le_trans HZX.out HBi.out.size⟩
                            case measure => simp [intOf] <;> omega
                          · have HMn : Hid (mayC h e = true) := Lib.hid (HMy.out.trans HKb.out)
                            have hcut : CutOk wr := (HKX.out.trans (Kept.of_below HBi.out)).cut (by omega) (by have := HSo2.out; omega) (HCo.out.below (show Below wo.heap.size wo w8b by rw [HRr.out]; exact HB10.out))
                            go_wp2_with (first
                              | (refine' wpList_load_if ?q1 39 (.tmp 18) ?q2 wi.heap.size ?q3 _ _ _ _ ?q4 Try.underlying39 ?q5 ?q6 ?_; (case q2 => rfl); (case q1 => rfl); (case q3 => rfl); (case q4 => exact HE1.out); (case q5 => rfl); (case q6 => exact (sizeE e)))
                              | fail)
                            refine (do_any e (sa + 1) F _ wr (HSX.out.below HBi.out) HLe.out hcut).mono ?_
                            rintro x w7 ⟨rfl, hs7, ho7⟩
                            rw [HOk.out, if_pos rfl] at hs7
                            have hwX : X.heap.size ≤ wr.heap.size := HBi.out.size
                            have hXw : X.heap.size = wi.heap.size + 1 := by rw [HXe.out, size_alloc_]
                            have hE7 : EB w7 wi.heap.size e := (ho7.block _ (Blk.lt HE1.out) (fun hf => absurd (HF1.out _ hf) (Nat.lt_irrefl _))).trans HE1.out
                            have hV7 : VB w7 q h := (ho7.block _ (Blk.lt HV2.out) (fun hf => by have := HF2.out _ hf; have := HSo2.out; omega)).trans HV2.out
                            have hZ7 : q + 1 ≤ w7.heap.size := Nat.le_trans (Nat.le_trans HZX.out hwX) ho7.size
                            have hS7 : StAt w7 (sa + 1) (q + 1) (doS e (runS D)) := ⟨_, hs7, fun i hi => by
                              rcases hi with hi | hi
                              · exact HF2.out i hi
                              · right; have := HZX.out; omega⟩
                            have hK7 : Kept (sa + 1) q w8b w7 := (HKX.out.trans (Kept.of_below HBi.out)).trans (Out.mono ho7 fun i hi => by
                              rcases HF2.out i hi with h | h
                              · exact .inl h
                              · right; omega)
                            have HS7 := Lib.hid (hS7.set_ (q := q) (n := n) (v := .int .i64 e.c) (by have := HSo2.out; omega) (Nat.lt_succ_self q))
                            have HV7 := Lib.hid (VB.put hV7 n e.c)
                            have HK7 := Lib.hid (hK7.trans (Kept.set_ (n := n) (v := .int .i64 e.c) (Nat.le_refl q)))
                            have HZ7 := Lib.hid (show q + 1 ≤ (w7.setCell ⟨q, n, none⟩ (.int .i64 e.c)).heap.size by simpa [World.setCell] using hZ7)
                            have c0 : w7.cell? ⟨wi.heap.size, 0, none⟩ = some (.int .i64 n) := (Blk.cell hE7 0).trans (by rw [show (evC e)[0]? = some (.int .i64 e.r) from rfl, HRn.out])
                            have c1 : w7.cell? ⟨wi.heap.size, 1, none⟩ = some (.int .i64 e.c) := (Blk.cell hE7 1).trans rfl
                            have cv : w7.cell? ⟨q, n, none⟩ = some (.int .i64 (h n)) := VB.cell_ hV7 n HNl.out
                            have fv : w7.frozen? ⟨q, n, none⟩ = false := Blk.free hV7 n
                            have HDo := Lib.hid HOk.out
                            clear hs7 ho7 hwX hXw hE7 hV7 hZ7 hS7 hK7 hcut
                            have hjm := HJ1.out
                            have hw := HW1.out
                            go_wp2_with (first
                              | (refine wpList_val (o := ⟨some 135, _, _, _, _, _⟩) rfl (.pointer (some ⟨q, n, none⟩)) _ (run_indexAddr_op rfl rfl rfl (at_vec q n HNl.out _)) ?_)
                              | go_in)
                            clear c0 c1 cv fv
                            go_roundw
                            case rel => exact ⟨ii + 1, by go_num, by omega, by rw [HNx.out, comeC_yes HMn.out]; dsimp only; rw [runS_snoc, if_pos HOk.out]; exact HS7.out, by rw [HNx.out, comeC_yes HMn.out, HRn.out, Int.toNat_natCast]; exact HV7.out, HK7.out, HZ7.out⟩
                            case measure => simp [intOf] <;> omega
                  · have hij : ii = j := by omega
                    subst hij
                    have HFl := Lib.hid (show passL T pn ii = passL T (pn + 1) 0 from pass_full (Nat.le_of_eq HTl.out))
                    have hw := IntWalk.i64_in ((pn : Int) + 1) (by have := HRl.out; have := HN5.out; omega)
                    have hjm : ¬ 9223372036854775807 < pn + 1 := by have := HRl.out; have := HN5.out; omega
                    go_wp2
                    go_roundw
                    case rel => exact ⟨pn + 1, by go_num, by omega, by rw [← HFl.out]; exact HSt3.out, by rw [← HFl.out]; exact HVt3.out, HKt3.out, HSz3.out⟩
                    case measure => simp [intOf] <;> omega
              · have hpj : pn = j := by omega
                subst hpj
                have hrr : (causC l).1 = row := HRow.out
                have hta : T.Perm (causC l).1 := by rw [hrr]; exact HTp.out
                obtain ⟨hpm, hver⟩ := pass_all hta
                rw [hrr, HN5.out] at hpm hver
                obtain ⟨DL, hDL⟩ : ∃ DL, causC (passL T pn 0) = DL := ⟨_, rfl⟩
                have hcl : CausL DL.1 := by rw [← hDL]; exact caus_row _
                rw [hDL] at hpm hver HSt2 HVt2
                have HFree := Lib.hid (order_free (by rw [← hrr]; exact caus_row l : CausL row) hcl HRm.out hpm)
                have HVq := Lib.hid (show VB wq q f from HVt2.out.of_eq fun i _ => (hver i).trans (HFf.out i).symm)
                obtain ⟨hokS, htot⟩ := runS_ok row HRm.out
                obtain ⟨σ, hσ⟩ : ∃ σ, runS row = σ := ⟨_, rfl⟩
                obtain ⟨τ, hτ⟩ : ∃ τ, runS DL.1 = τ := ⟨_, rfl⟩
                rw [hσ, hτ] at HFree
                rw [hσ] at HSt hokS htot
                rw [hτ] at HSt2
                have HOk := Lib.hid hokS
                have HTt := Lib.hid (show totS σ ≤ 60 from Nat.le_trans htot HRl.out)
                have hb8 : Below wo.heap.size wo w8b := by rw [HRr.out]; exact HB10.out
                have HSa := Lib.hid (show StAt wq sa (sa + 2) σ from (HSt.out.keep hb8).apart HKt2.out (by omega) (Nat.le_of_eq HQ.out) (by omega))
                have HVk2 := Lib.hid (show VB wq kb f from (HKt2.out.same (Nat.lt_of_lt_of_le (Blk.lt HVo.out) hb8.size) (by have := HVk.out; omega) (by have := HVk.out; have := HSo2.out; omega)).trans (VB.keep HVo.out hb8))
                have HBq := Lib.hid (show Below w.heap.size w wq from (HBw.out.trans (hb8.mono HBw.out.size)).trans (HKt2.out.below (by have := HWa.out; omega) (by have := HWa.out; have := HSo2.out; omega) (Nat.le_trans HBw.out.size hb8.size)))
                have HTt2 := Lib.hid (show ∀ x, (entS x τ).length ≤ 60 from fun x => by
                  have h1 := (HFree.out.2.1 x).length_eq
                  have h2 := tot_ent (x := x) (σ := σ)
                  have h3 := HTt.out
                  omega)
                have HTl2 := Lib.hid (show τ.length ≤ 60 by
                  have h1 := HFree.out.2.2.1.length_eq
                  have h2 := HOk.out.len
                  have h3 := HTt.out
                  simp [keysL] at h1
                  omega)
                clear hrr hta hpm hver hDL hcl hσ hτ hokS htot hb8
                go_wp2_with fail
                refine (all_at HSa.out (by have h1 := HOk.out.len; have h2 := HTt.out; omega) (fun x => by have h1 := tot_ent (x := x) (σ := σ); have h2 := HTt.out; omega)).mono ?_
                rintro e w9 ⟨v21, es, rfl, hes, hsrt, ⟨acc, hacc, hmap, hrows⟩, hb9⟩
                have hal : acc.length = es.length := by rw [← hmap, List.length_map]
                have hM : es.length ≤ 60 := by
                  have h1 := hes.length_eq
                  have h2 := HOk.out.len
                  have h3 := HTt.out
                  simp [keysL] at h1
                  omega
                obtain ⟨A21, c21, rfl, _, _⟩ := hacc.read enI_len
                obtain ⟨M, hMe⟩ : ∃ M, es.length = M := ⟨_, rfl⟩
                rw [hMe] at hM hal
                rw [hal] at hacc ⊢
                have HM6 := Lib.hid hM
                have HAc := Lib.hid hacc
                have HRw := Lib.hid hrows
                have HVq9 := Lib.hid (VB.keep HVq.out hb9)
                have HVk9 := Lib.hid (VB.keep HVk2.out hb9)
                have HB9 := Lib.hid (HBq.out.trans (hb9.mono HBq.out.size))
                have HSb9 := Lib.hid (HSt2.out.keep hb9)
                go_wp2_with fail
                refine (all_at HSb9.out (by have := HTl2.out; omega) (fun x => by have := HTt2.out x; omega)).mono ?_
                rintro e w10 ⟨v22, es2, rfl, hes2, hsrt2, ⟨acc2, hacc2, hmap2, hrows2⟩, hb10⟩
                have hee : es2 = es := el_unique (hes2.trans HFree.out.2.2.1) hsrt2 hes hsrt
                rw [hee] at hmap2
                have hal2 : acc2.length = M := by rw [← hMe, ← hmap2, List.length_map]
                obtain ⟨A22, c22, rfl, _, _⟩ := hacc2.read enI_len
                rw [hal2] at hacc2 ⊢
                have hcmp : ∀ i, i < M → ∃ x r1 r2 L, acc[i]? = some (x, r1) ∧ acc2[i]? = some (x, r2) ∧ OwnK enN wq.heap.size 48 5 w10 r1 L ∧ OwnK enN w9.heap.size 48 5 w10 r2 L ∧ L.length ≤ 60 := by
                  intro i hi
                  obtain ⟨⟨x, r1⟩, h1⟩ : ∃ q, acc[i]? = some q := ⟨acc[i]'(by rw [hal]; exact hi), List.getElem?_eq_getElem _⟩
                  obtain ⟨⟨x2, r2⟩, h2⟩ : ∃ q, acc2[i]? = some q := ⟨acc2[i]'(by rw [hal2]; exact hi), List.getElem?_eq_getElem _⟩
                  have e1 : es[i]? = some x := by
                    have := congrArg (fun t => t[i]?) hmap
                    simp only [List.getElem?_map, h1, Option.map_some] at this
                    exact this.symm
                  have e2 : es[i]? = some x2 := by
                    have := congrArg (fun t => t[i]?) hmap2
                    simp only [List.getElem?_map, h2, Option.map_some] at this
                    exact this.symm
                  have e3 : x2 = x := by rw [e1] at e2; exact (Option.some.inj e2).symm
                  subst e3
                  obtain ⟨l1, a1, a2, a3⟩ := (hrows _ (List.mem_of_getElem? h1)).keep hb10
                  obtain ⟨l2, b1, b2, b3⟩ := hrows2 _ (List.mem_of_getElem? h2)
                  dsimp only at a1 a3 b1 b3
                  have hnd : (keysL (entS x2 σ)).Nodup := HOk.out.ent_nodup
                  have hl12 : l2 = l1 := row_unique hnd (b1.trans (HFree.out.2.1 x2)) b2 a1 a2
                  subst hl12
                  refine ⟨x2, r1, r2, l2, h1, h2, a3, b3, ?_⟩
                  have h3 := a1.length_eq
                  have h4 := tot_ent (x := x2) (σ := σ)
                  have h5 := HTt.out
                  omega
                have HCf := Lib.hid hcmp
                have HAf1 := Lib.hid (HAc.out.keep hb10)
                have HAf2 := Lib.hid hacc2
                have HVq10 := Lib.hid (VB.keep HVq9.out hb10)
                have HVk10 := Lib.hid (VB.keep HVk9.out hb10)
                have HBf := Lib.hid (HB9.out.trans (hb10.mono HB9.out.size))
                clear hes hsrt hacc hmap hrows hb9 hal hM hMe hes2 hsrt2 hacc2 hmap2 hrows2 hb10 hee hal2 hcmp HAc HRw
                go_wp2_with (first
                  | (refine' wpList_load_if ?q1 27 (.tmp 16) ?q2 q ?q3 _ _ _ _ ?q4 Try.underlying27 ?q5 ?q6 ?_; (case q2 => rfl); (case q1 => rfl); (case q3 => rfl); (case q4 => exact HVq10.out); (case q5 => rfl); (case q6 => exact (sizeV _)))
                  | (refine' wpList_load_if ?q1 27 (.tmp 6) ?q2 kb ?q3 _ _ _ _ ?q4 Try.underlying27 ?q5 ?q6 ?_; (case q2 => rfl); (case q1 => rfl); (case q3 => rfl); (case q4 => exact HVk10.out); (case q5 => rfl); (case q6 => exact (sizeV _)))
                  | (refine wpList_val (o := ⟨some 144, _, _, _, _, _⟩) rfl (.bool false) w10 (run_bin_op rfl rfl rfl (by kernel_rfl) (ne_V f w10)) ?_)
                  | fail)
                go_loopw [154] (fun v154 wr => ∃ t : Nat, v154 = .int .i64 t ∧ t ≤ M ∧ Below w10.heap.size w10 wr) (fun v154 _ => M - (intOf v154).toNat)
                case atStart => exact ⟨0, rfl, Nat.zero_le _, Below.refl _ _⟩
                case round =>
                  obtain ⟨t, rfl, ht, hbt⟩ := hrel
                  obtain ⟨wp, rfl⟩ : ∃ wp, wp = wr := ⟨_, rfl⟩
                  have HBt := Lib.hid hbt
                  clear hbt
                  by_cases hlt2 : t < M
                  · obtain ⟨x, r1, r2, L, hx1, hx2, ho1, ho2, hL⟩ := HCf.out t hlt2
                    obtain ⟨g1, rfl, _, hg1, hc1⟩ := HAf1.out.at_ enI_len hx1
                    obtain ⟨g2, rfl, _, hg2, hc2⟩ := HAf2.out.at_ enI_len hx2
                    obtain ⟨P1, d1, rfl, _, _⟩ := ho1.read enN_len
                    obtain ⟨P2, d2, rfl, _, _⟩ := ho2.read enN_len
                    obtain ⟨n, hn⟩ : ∃ n, L.length = n := ⟨_, rfl⟩
                    rw [hn] at ho1 ho2 hc1 hc2 hL
                    obtain ⟨a1, b1⟩ := item_parts hc1
                    obtain ⟨a2, b2⟩ := item_parts hc2
                    have HO1 := Lib.hid ho1
                    have HO2 := Lib.hid ho2
                    have HLn := Lib.hid hn
                    have HL6 := Lib.hid hL
                    have HE1 : Hid (∀ W, Below w10.heap.size w10 W → W.rangeAt g1 (t * 6) [.int .i64 x.k, .string x.a, .string x.b, .string x.c, .string x.d] ∧ W.cell? ⟨g1, t * 6 + 5, none⟩ = some (.slice P1 n d1)) := Lib.hid fun W h => ⟨rangeAt_below a1 hg1 h, (World.cell?_of_block (h.block g1 hg1)).trans b1⟩
                    have HE2 : Hid (∀ W, Below w10.heap.size w10 W → W.rangeAt g2 (t * 6) [.int .i64 x.k, .string x.a, .string x.b, .string x.c, .string x.d] ∧ W.cell? ⟨g2, t * 6 + 5, none⟩ = some (.slice P2 n d2)) := Lib.hid fun W h => ⟨rangeAt_below a2 hg2 h, (World.cell?_of_block (h.block g2 hg2)).trans b2⟩
                    clear hx1 hx2 hg1 hg2 hc1 hc2 ho1 ho2 hn hL a1 b1 a2 b2
                    go_upto_region 46 with fail
                    refine wp_region_any (by kernel_rfl) ?_
                    refine wpAny_below (fun i uq _ => uq = ([.slice (some ⟨g1, 0, none⟩) M c21, .int .i64 t, .pointer (some ⟨g1, t * 6, none⟩), .pointer (some ⟨g1, t * 6, none⟩), eE x, .slice (some ⟨g2, 0, none⟩) M c22, .int .i64 t, .pointer (some ⟨g2, t * 6, none⟩), .pointer (some ⟨g2, t * 6, none⟩), eE x, .bool false, .bool false, .slice (some ⟨g1, 0, none⟩) M c21, .int .i64 t, .pointer (some ⟨g1, t * 6, none⟩), .pointer (some ⟨g1, t * 6 + 5, none⟩), .slice P1 n d1, .int .i64 n, .slice (some ⟨g2, 0, none⟩) M c22, .int .i64 t, .pointer (some ⟨g2, t * 6, none⟩), .pointer (some ⟨g2, t * 6 + 5, none⟩), .slice P2 n d2, .int .i64 n, .bool false, .bool false] : List Value).getD i undef) _ wp (by kernel_rfl) (by kernel_rfl) (by kernel_rfl) (fun i v w w' _ h => h) ?_ ?_
                    · refine ⟨?_, ?_, ?_, ?_, ?_, ?_, ?_, ?_, ?_, ?_, ?_, ?_, ?_, ?_, ?_, ?_, ?_, ?_, ?_, ?_, ?_, ?_, ?_, ?_, ?_, ?_, trivial⟩
                      · intro a W hI hun haft hi
                        have e21 : a.eval (.tmp 21) = .slice (some ⟨g1, 0, none⟩) M c21 := hun 21 (by kernel_rfl)
                        exact b_same hi hI rfl _ (run_move_op rfl e21) rfl
                      · intro a W hI hun haft hi
                        have e23 : a.eval (.tmp 23) = .int .i64 t := hun 23 (by kernel_rfl)
                        exact b_same hi hI rfl _ (run_move_op rfl e23) rfl
                      · intro a W hI hun haft hi
                        have f0 : a.eval (.tmp 157) = .slice (some ⟨g1, 0, none⟩) M c21 := haft ⟨0, .data⟩ (by simp) rfl _ _ rfl rfl
                        have f1 : a.eval (.tmp 158) = .int .i64 t := haft ⟨1, .data⟩ (by simp) rfl _ _ rfl rfl
                        exact b_same hi hI rfl _ (run_indexAddr_op rfl f0 f1 (at_It g1 c21 M t hlt2 _)) rfl
                      · intro a W hI hun haft hi
                        have f2 : a.eval (.tmp 159) = .pointer (some ⟨g1, t * 6, none⟩) := haft ⟨2, .data⟩ (by simp) rfl _ _ rfl rfl
                        exact b_same hi hI rfl _ (run_fieldAddr_any rfl f2 (at_item0 _ _ _)) rfl
                      · intro a W hI hun haft hi
                        have f3 : a.eval (.tmp 160) = .pointer (some ⟨g1, t * 6, none⟩) := haft ⟨3, .data⟩ (by simp) rfl _ _ rfl rfl
                        exact b_same hi hI rfl _ (run_loadmid_op rfl f3 (HE1.out W (HBt.out.trans (hI.mono HBt.out.size))).1 Try.underlying35 rfl (by kernel_rfl)) rfl
                      · intro a W hI hun haft hi
                        have e22 : a.eval (.tmp 22) = .slice (some ⟨g2, 0, none⟩) M c22 := hun 22 (by kernel_rfl)
                        exact b_same hi hI rfl _ (run_move_op rfl e22) rfl
                      · intro a W hI hun haft hi
                        have e23 : a.eval (.tmp 23) = .int .i64 t := hun 23 (by kernel_rfl)
                        exact b_same hi hI rfl _ (run_move_op rfl e23) rfl
                      · intro a W hI hun haft hi
                        have f5 : a.eval (.tmp 162) = .slice (some ⟨g2, 0, none⟩) M c22 := haft ⟨5, .data⟩ (by simp) rfl _ _ rfl rfl
                        have f6 : a.eval (.tmp 163) = .int .i64 t := haft ⟨6, .data⟩ (by simp) rfl _ _ rfl rfl
                        exact b_same hi hI rfl _ (run_indexAddr_op rfl f5 f6 (at_It g2 c22 M t hlt2 _)) rfl
                      · intro a W hI hun haft hi
                        have f7 : a.eval (.tmp 164) = .pointer (some ⟨g2, t * 6, none⟩) := haft ⟨7, .data⟩ (by simp) rfl _ _ rfl rfl
                        exact b_same hi hI rfl _ (run_fieldAddr_any rfl f7 (at_item0 _ _ _)) rfl
                      · intro a W hI hun haft hi
                        have f8 : a.eval (.tmp 165) = .pointer (some ⟨g2, t * 6, none⟩) := haft ⟨8, .data⟩ (by simp) rfl _ _ rfl rfl
                        exact b_same hi hI rfl _ (run_loadmid_op rfl f8 (HE2.out W (HBt.out.trans (hI.mono HBt.out.size))).1 Try.underlying35 rfl (by kernel_rfl)) rfl
                      · intro a W hI hun haft hi
                        have f4 : a.eval (.tmp 161) = eE x := haft ⟨4, .data⟩ (by simp) rfl _ _ rfl rfl
                        have f9 : a.eval (.tmp 166) = eE x := haft ⟨9, .data⟩ (by simp) rfl _ _ rfl rfl
                        exact b_same hi hI rfl (.bool false) (run_bin_op rfl f4 f9 (by kernel_rfl) (ne_E x _)) rfl
                      · intro a W hI hun haft hi
                        have f10 : a.eval (.tmp 167) = .bool false := haft ⟨10, .data⟩ (by simp) rfl _ _ rfl rfl
                        exact b_same hi hI rfl _ (run_move_op rfl f10) rfl
                      · intro a W hI hun haft hi
                        have fg : a.eval (.tmp 168) = .bool false := haft ⟨11, .guard⟩ (by simp) rfl _ _ rfl rfl
                        have e21 : a.eval (.tmp 21) = .slice (some ⟨g1, 0, none⟩) M c21 := hun 21 (by kernel_rfl)
                        exact b_same hi hI (guard_ok rfl rfl rfl fg) _ (run_move_op rfl e21) rfl
                      · intro a W hI hun haft hi
                        have fg : a.eval (.tmp 168) = .bool false := haft ⟨11, .guard⟩ (by simp) rfl _ _ rfl rfl
                        have e23 : a.eval (.tmp 23) = .int .i64 t := hun 23 (by kernel_rfl)
                        exact b_same hi hI (guard_ok rfl rfl rfl fg) _ (run_move_op rfl e23) rfl
                      · intro a W hI hun haft hi
                        have fg : a.eval (.tmp 168) = .bool false := haft ⟨11, .guard⟩ (by simp) rfl _ _ rfl rfl
                        have f12 : a.eval (.tmp 169) = .slice (some ⟨g1, 0, none⟩) M c21 := haft ⟨12, .data⟩ (by simp) rfl _ _ rfl rfl
                        have f13 : a.eval (.tmp 170) = .int .i64 t := haft ⟨13, .data⟩ (by simp) rfl _ _ rfl rfl
                        exact b_same hi hI (guard_ok rfl rfl rfl fg) _ (run_indexAddr_op rfl f12 f13 (at_It g1 c21 M t hlt2 _)) rfl
                      · intro a W hI hun haft hi
                        have fg : a.eval (.tmp 168) = .bool false := haft ⟨11, .guard⟩ (by simp) rfl _ _ rfl rfl
                        have f14 : a.eval (.tmp 171) = .pointer (some ⟨g1, t * 6, none⟩) := haft ⟨14, .data⟩ (by simp) rfl _ _ rfl rfl
                        exact b_same hi hI (guard_ok rfl rfl rfl fg) _ (run_fieldAddr_any rfl f14 (at_item1 _ _ _)) rfl
                      · intro a W hI hun haft hi
                        have fg : a.eval (.tmp 168) = .bool false := haft ⟨11, .guard⟩ (by simp) rfl _ _ rfl rfl
                        have f15 : a.eval (.tmp 172) = .pointer (some ⟨g1, t * 6 + 5, none⟩) := haft ⟨15, .data⟩ (by simp) rfl _ _ rfl rfl
                        exact b_same hi hI (guard_ok rfl rfl rfl fg) _ (run_loadsl_op rfl f15 Try.underlying44 (HE1.out W (HBt.out.trans (hI.mono HBt.out.size))).2) rfl
                      · intro a W hI hun haft hi
                        have fg : a.eval (.tmp 168) = .bool false := haft ⟨11, .guard⟩ (by simp) rfl _ _ rfl rfl
                        have f16 : a.eval (.tmp 173) = .slice P1 n d1 := haft ⟨16, .data⟩ (by simp) rfl _ _ rfl rfl
                        exact b_same hi hI (guard_ok rfl rfl rfl fg) _ (run_len_op Try.underlying44 rfl f16) rfl
                      · intro a W hI hun haft hi
                        have fg : a.eval (.tmp 168) = .bool false := haft ⟨11, .guard⟩ (by simp) rfl _ _ rfl rfl
                        have e22 : a.eval (.tmp 22) = .slice (some ⟨g2, 0, none⟩) M c22 := hun 22 (by kernel_rfl)
                        exact b_same hi hI (guard_ok rfl rfl rfl fg) _ (run_move_op rfl e22) rfl
                      · intro a W hI hun haft hi
                        have fg : a.eval (.tmp 168) = .bool false := haft ⟨11, .guard⟩ (by simp) rfl _ _ rfl rfl
                        have e23 : a.eval (.tmp 23) = .int .i64 t := hun 23 (by kernel_rfl)
                        exact b_same hi hI (guard_ok rfl rfl rfl fg) _ (run_move_op rfl e23) rfl
                      · intro a W hI hun haft hi
                        have fg : a.eval (.tmp 168) = .bool false := haft ⟨11, .guard⟩ (by simp) rfl _ _ rfl rfl
                        have f18 : a.eval (.tmp 175) = .slice (some ⟨g2, 0, none⟩) M c22 := haft ⟨18, .data⟩ (by simp) rfl _ _ rfl rfl
                        have f19 : a.eval (.tmp 176) = .int .i64 t := haft ⟨19, .data⟩ (by simp) rfl _ _ rfl rfl
                        exact b_same hi hI (guard_ok rfl rfl rfl fg) _ (run_indexAddr_op rfl f18 f19 (at_It g2 c22 M t hlt2 _)) rfl
                      · intro a W hI hun haft hi
                        have fg : a.eval (.tmp 168) = .bool false := haft ⟨11, .guard⟩ (by simp) rfl _ _ rfl rfl
                        have f20 : a.eval (.tmp 177) = .pointer (some ⟨g2, t * 6, none⟩) := haft ⟨20, .data⟩ (by simp) rfl _ _ rfl rfl
                        exact b_same hi hI (guard_ok rfl rfl rfl fg) _ (run_fieldAddr_any rfl f20 (at_item1 _ _ _)) rfl
                      · intro a W hI hun haft hi
                        have fg : a.eval (.tmp 168) = .bool false := haft ⟨11, .guard⟩ (by simp) rfl _ _ rfl rfl
                        have f21 : a.eval (.tmp 178) = .pointer (some ⟨g2, t * 6 + 5, none⟩) := haft ⟨21, .data⟩ (by simp) rfl _ _ rfl rfl
                        exact b_same hi hI (guard_ok rfl rfl rfl fg) _ (run_loadsl_op rfl f21 Try.underlying44 (HE2.out W (HBt.out.trans (hI.mono HBt.out.size))).2) rfl
                      · intro a W hI hun haft hi
                        have fg : a.eval (.tmp 168) = .bool false := haft ⟨11, .guard⟩ (by simp) rfl _ _ rfl rfl
                        have f22 : a.eval (.tmp 179) = .slice P2 n d2 := haft ⟨22, .data⟩ (by simp) rfl _ _ rfl rfl
                        exact b_same hi hI (guard_ok rfl rfl rfl fg) _ (run_len_op Try.underlying44 rfl f22) rfl
                      · intro a W hI hun haft hi
                        have fg : a.eval (.tmp 168) = .bool false := haft ⟨11, .guard⟩ (by simp) rfl _ _ rfl rfl
                        have f17 : a.eval (.tmp 174) = .int .i64 n := haft ⟨17, .data⟩ (by simp) rfl _ _ rfl rfl
                        have f23 : a.eval (.tmp 180) = .int .i64 n := haft ⟨23, .data⟩ (by simp) rfl _ _ rfl rfl
                        exact b_same hi hI (guard_ok rfl rfl rfl fg) (.bool false) (run_bin_op rfl f17 f23 (guardI _ _ _ _ _ _ _) (run_nei (q := true) (by simp) _)) rfl
                      · intro a W hI hun haft hi
                        have f11 : a.eval (.tmp 168) = .bool false := haft ⟨11, .data⟩ (by simp) rfl _ _ rfl rfl
                        have f24 : a.eval (.tmp 181) = .bool false := haft ⟨24, .data⟩ (by simp) rfl _ _ rfl rfl
                        exact b_same hi hI rfl _ (run_pick_op (b := false) rfl f11 rfl f24) rfl
                    · intro vals W hI hp
                      have hl0 : vals 0 = .slice (some ⟨g1, 0, none⟩) M c21 := hp 0 (by decide)
                      have hl1 : vals 1 = .int .i64 t := hp 1 (by decide)
                      have hl2 : vals 2 = .pointer (some ⟨g1, t * 6, none⟩) := hp 2 (by decide)
                      have hl3 : vals 3 = .pointer (some ⟨g1, t * 6, none⟩) := hp 3 (by decide)
                      have hl4 : vals 4 = eE x := hp 4 (by decide)
                      have hl5 : vals 5 = .slice (some ⟨g2, 0, none⟩) M c22 := hp 5 (by decide)
                      have hl6 : vals 6 = .int .i64 t := hp 6 (by decide)
                      have hl7 : vals 7 = .pointer (some ⟨g2, t * 6, none⟩) := hp 7 (by decide)
                      have hl8 : vals 8 = .pointer (some ⟨g2, t * 6, none⟩) := hp 8 (by decide)
                      have hl9 : vals 9 = eE x := hp 9 (by decide)
                      have hl10 : vals 10 = .bool false := hp 10 (by decide)
                      have hl11 : vals 11 = .bool false := hp 11 (by decide)
                      have hl12 : vals 12 = .slice (some ⟨g1, 0, none⟩) M c21 := hp 12 (by decide)
                      have hl13 : vals 13 = .int .i64 t := hp 13 (by decide)
                      have hl14 : vals 14 = .pointer (some ⟨g1, t * 6, none⟩) := hp 14 (by decide)
                      have hl15 : vals 15 = .pointer (some ⟨g1, t * 6 + 5, none⟩) := hp 15 (by decide)
                      have hl16 : vals 16 = .slice P1 n d1 := hp 16 (by decide)
                      have hl17 : vals 17 = .int .i64 n := hp 17 (by decide)
                      have hl18 : vals 18 = .slice (some ⟨g2, 0, none⟩) M c22 := hp 18 (by decide)
                      have hl19 : vals 19 = .int .i64 t := hp 19 (by decide)
                      have hl20 : vals 20 = .pointer (some ⟨g2, t * 6, none⟩) := hp 20 (by decide)
                      have hl21 : vals 21 = .pointer (some ⟨g2, t * 6 + 5, none⟩) := hp 21 (by decide)
                      have hl22 : vals 22 = .slice P2 n d2 := hp 22 (by decide)
                      have hl23 : vals 23 = .int .i64 n := hp 23 (by decide)
                      have hl24 : vals 24 = .bool false := hp 24 (by decide)
                      have hl25 : vals 25 = .bool false := hp 25 (by decide)
                      have HI := Lib.hid hI
                      clear hp hI
                      simp only [layN, List.size_toArray, List.length_cons, List.length_nil, List.range, List.range.loop, if_true, List.getElem?_toArray, List.getElem?_cons_zero, List.getElem?_cons_succ, Act.put, List.setIfInBounds_toArray, List.set_cons_zero, List.set_cons_succ, Nat.zero_add, Nat.reduceAdd, hl0, hl1, hl2, hl3, hl4, hl5, hl6, hl7, hl8, hl9, hl10, hl11, hl12, hl13, hl14, hl15, hl16, hl17, hl18, hl19, hl20, hl21, hl22, hl23, hl24, hl25]
                      clear hl0 hl1 hl2 hl3 hl4 hl5 hl6 hl7 hl8 hl9 hl10 hl11 hl12 hl13 hl14 hl15 hl16 hl17 hl18 hl19 hl20 hl21 hl22 hl23 hl24 hl25
                      have hbi := HBt.out.trans (HI.out.mono HBt.out.size)
                      have HBi := Lib.hid hbi
                      have cs1 := (HE1.out W hbi).2
                      clear hbi HI
                      go_wp2_with (first
                        | (refine wpList_val (o := ⟨some 185, _, _, _, _, _⟩) rfl (.pointer (some ⟨g1, t * 6, none⟩)) W (run_indexAddr_op rfl rfl rfl (at_It g1 c21 M t hlt2 W)) ?_)
                        | fail)
                      clear cs1
                      go_loopw [189] (fun v189 wr => ∃ ii : Nat, v189 = .int .i64 ii ∧ ii ≤ n ∧ Below w10.heap.size w10 wr) (fun v189 _ => n - (intOf v189).toNat)
                      case atStart => exact ⟨0, rfl, Nat.zero_le _, HBi.out⟩
                      case round =>
                        obtain ⟨ii, rfl, hi0, hbi⟩ := hrel
                        have HBj := Lib.hid hbi
                        clear hbi
                        by_cases hlt3 : ii < n
                        · obtain ⟨y, hy⟩ : ∃ y, L[ii]? = some y := ⟨L[ii]'(by rw [HLn.out]; exact hlt3), List.getElem?_eq_getElem _⟩
                          obtain ⟨h1, rfl, _, hh1, he1⟩ := HO1.out.at_ enN_len hy
                          obtain ⟨h2, rfl, _, hh2, he2⟩ := HO2.out.at_ enN_len hy
                          have HY1 : Hid (∀ W, Below w10.heap.size w10 W → W.rangeAt h1 (ii * 5) (enN y)) := Lib.hid fun W h => rangeAt_below he1 hh1 h
                          have HY2 : Hid (∀ W, Below w10.heap.size w10 W → W.rangeAt h2 (ii * 5) (enN y)) := Lib.hid fun W h => rangeAt_below he2 hh2 h
                          clear hy hh1 he1 hh2 he2
                          go_upto_region 51 with fail
                          refine wp_region_any (by kernel_rfl) ?_
                          refine wpAny_below (fun i uq _ => uq = ([.slice (some ⟨g1, 0, none⟩) M c21, .int .i64 t, .pointer (some ⟨g1, t * 6, none⟩), .pointer (some ⟨g1, t * 6 + 5, none⟩), .slice (some ⟨h1, 0, none⟩) n d1, .int .i64 ii, .pointer (some ⟨h1, ii * 5, none⟩), enV y.1 y.2, .slice (some ⟨g2, 0, none⟩) M c22, .int .i64 t, .pointer (some ⟨g2, t * 6, none⟩), .pointer (some ⟨g2, t * 6 + 5, none⟩), .slice (some ⟨h2, 0, none⟩) n d2, .int .i64 ii, .pointer (some ⟨h2, ii * 5, none⟩), enV y.1 y.2, .bool false] : List Value).getD i undef) _ wr (by kernel_rfl) (by kernel_rfl) (by kernel_rfl) (fun i v w w' _ h => h) ?_ ?_
                          · refine ⟨?_, ?_, ?_, ?_, ?_, ?_, ?_, ?_, ?_, ?_, ?_, ?_, ?_, ?_, ?_, ?_, ?_, trivial⟩
                            · intro a W hI hun haft hi
                              have e21 : a.eval (.tmp 21) = .slice (some ⟨g1, 0, none⟩) M c21 := hun 21 (by kernel_rfl)
                              exact b_same hi hI rfl _ (run_move_op rfl e21) rfl
                            · intro a W hI hun haft hi
                              have e23 : a.eval (.tmp 23) = .int .i64 t := hun 23 (by kernel_rfl)
                              exact b_same hi hI rfl _ (run_move_op rfl e23) rfl
                            · intro a W hI hun haft hi
                              have f0 : a.eval (.tmp 192) = .slice (some ⟨g1, 0, none⟩) M c21 := haft ⟨0, .data⟩ (by simp) rfl _ _ rfl rfl
                              have f1 : a.eval (.tmp 193) = .int .i64 t := haft ⟨1, .data⟩ (by simp) rfl _ _ rfl rfl
                              exact b_same hi hI rfl _ (run_indexAddr_op rfl f0 f1 (at_It g1 c21 M t hlt2 _)) rfl
                            · intro a W hI hun haft hi
                              have f2 : a.eval (.tmp 194) = .pointer (some ⟨g1, t * 6, none⟩) := haft ⟨2, .data⟩ (by simp) rfl _ _ rfl rfl
                              exact b_same hi hI rfl _ (run_fieldAddr_any rfl f2 (at_item1 _ _ _)) rfl
                            · intro a W hI hun haft hi
                              have f3 : a.eval (.tmp 195) = .pointer (some ⟨g1, t * 6 + 5, none⟩) := haft ⟨3, .data⟩ (by simp) rfl _ _ rfl rfl
                              exact b_same hi hI rfl _ (run_loadsl_op rfl f3 Try.underlying44 (HE1.out W (HBj.out.trans (hI.mono HBj.out.size))).2) rfl
                            · intro a W hI hun haft hi
                              have e24 : a.eval (.tmp 24) = .int .i64 ii := hun 24 (by kernel_rfl)
                              exact b_same hi hI rfl _ (run_move_op rfl e24) rfl
                            · intro a W hI hun haft hi
                              have f4 : a.eval (.tmp 196) = .slice (some ⟨h1, 0, none⟩) n d1 := haft ⟨4, .data⟩ (by simp) rfl _ _ rfl rfl
                              have f5 : a.eval (.tmp 197) = .int .i64 ii := haft ⟨5, .data⟩ (by simp) rfl _ _ rfl rfl
                              exact b_same hi hI rfl _ (run_indexAddr_op rfl f4 f5 (at_N0 h1 d1 n ii hlt3 _)) rfl
                            · intro a W hI hun haft hi
                              have f6 : a.eval (.tmp 198) = .pointer (some ⟨h1, ii * 5, none⟩) := haft ⟨6, .data⟩ (by simp) rfl _ _ rfl rfl
                              exact b_same hi hI rfl _ (run_loadmid_op rfl f6 (HY1.out W (HBj.out.trans (hI.mono HBj.out.size))) Try.underlying48 rfl (by kernel_rfl)) rfl
                            · intro a W hI hun haft hi
                              have e22 : a.eval (.tmp 22) = .slice (some ⟨g2, 0, none⟩) M c22 := hun 22 (by kernel_rfl)
                              exact b_same hi hI rfl _ (run_move_op rfl e22) rfl
                            · intro a W hI hun haft hi
                              have e23 : a.eval (.tmp 23) = .int .i64 t := hun 23 (by kernel_rfl)
                              exact b_same hi hI rfl _ (run_move_op rfl e23) rfl
                            · intro a W hI hun haft hi
                              have f8 : a.eval (.tmp 200) = .slice (some ⟨g2, 0, none⟩) M c22 := haft ⟨8, .data⟩ (by simp) rfl _ _ rfl rfl
                              have f9 : a.eval (.tmp 201) = .int .i64 t := haft ⟨9, .data⟩ (by simp) rfl _ _ rfl rfl
                              exact b_same hi hI rfl _ (run_indexAddr_op rfl f8 f9 (at_It g2 c22 M t hlt2 _)) rfl
                            · intro a W hI hun haft hi
                              have f10 : a.eval (.tmp 202) = .pointer (some ⟨g2, t * 6, none⟩) := haft ⟨10, .data⟩ (by simp) rfl _ _ rfl rfl
                              exact b_same hi hI rfl _ (run_fieldAddr_any rfl f10 (at_item1 _ _ _)) rfl
                            · intro a W hI hun haft hi
                              have f11 : a.eval (.tmp 203) = .pointer (some ⟨g2, t * 6 + 5, none⟩) := haft ⟨11, .data⟩ (by simp) rfl _ _ rfl rfl
                              exact b_same hi hI rfl _ (run_loadsl_op rfl f11 Try.underlying44 (HE2.out W (HBj.out.trans (hI.mono HBj.out.size))).2) rfl
                            · intro a W hI hun haft hi
                              have e24 : a.eval (.tmp 24) = .int .i64 ii := hun 24 (by kernel_rfl)
                              exact b_same hi hI rfl _ (run_move_op rfl e24) rfl
                            · intro a W hI hun haft hi
                              have f12 : a.eval (.tmp 204) = .slice (some ⟨h2, 0, none⟩) n d2 := haft ⟨12, .data⟩ (by simp) rfl _ _ rfl rfl
                              have f13 : a.eval (.tmp 205) = .int .i64 ii := haft ⟨13, .data⟩ (by simp) rfl _ _ rfl rfl
                              exact b_same hi hI rfl _ (run_indexAddr_op rfl f12 f13 (at_N0 h2 d2 n ii hlt3 _)) rfl
                            · intro a W hI hun haft hi
                              have f14 : a.eval (.tmp 206) = .pointer (some ⟨h2, ii * 5, none⟩) := haft ⟨14, .data⟩ (by simp) rfl _ _ rfl rfl
                              exact b_same hi hI rfl _ (run_loadmid_op rfl f14 (HY2.out W (HBj.out.trans (hI.mono HBj.out.size))) Try.underlying48 rfl (by kernel_rfl)) rfl
                            · intro a W hI hun haft hi
                              have f7 : a.eval (.tmp 199) = enV y.1 y.2 := haft ⟨7, .data⟩ (by simp) rfl _ _ rfl rfl
                              have f15 : a.eval (.tmp 207) = enV y.1 y.2 := haft ⟨15, .data⟩ (by simp) rfl _ _ rfl rfl
                              exact b_same hi hI rfl (.bool false) (run_bin_op rfl f7 f15 (by kernel_rfl) (ne_N y.1 y.2 _)) rfl
                          · intro vals W hI hp
                            have hl0 : vals 0 = .slice (some ⟨g1, 0, none⟩) M c21 := hp 0 (by decide)
                            have hl1 : vals 1 = .int .i64 t := hp 1 (by decide)
                            have hl2 : vals 2 = .pointer (some ⟨g1, t * 6, none⟩) := hp 2 (by decide)
                            have hl3 : vals 3 = .pointer (some ⟨g1, t * 6 + 5, none⟩) := hp 3 (by decide)
                            have hl4 : vals 4 = .slice (some ⟨h1, 0, none⟩) n d1 := hp 4 (by decide)
                            have hl5 : vals 5 = .int .i64 ii := hp 5 (by decide)
                            have hl6 : vals 6 = .pointer (some ⟨h1, ii * 5, none⟩) := hp 6 (by decide)
                            have hl7 : vals 7 = enV y.1 y.2 := hp 7 (by decide)
                            have hl8 : vals 8 = .slice (some ⟨g2, 0, none⟩) M c22 := hp 8 (by decide)
                            have hl9 : vals 9 = .int .i64 t := hp 9 (by decide)
                            have hl10 : vals 10 = .pointer (some ⟨g2, t * 6, none⟩) := hp 10 (by decide)
                            have hl11 : vals 11 = .pointer (some ⟨g2, t * 6 + 5, none⟩) := hp 11 (by decide)
                            have hl12 : vals 12 = .slice (some ⟨h2, 0, none⟩) n d2 := hp 12 (by decide)
                            have hl13 : vals 13 = .int .i64 ii := hp 13 (by decide)
                            have hl14 : vals 14 = .pointer (some ⟨h2, ii * 5, none⟩) := hp 14 (by decide)
                            have hl15 : vals 15 = enV y.1 y.2 := hp 15 (by decide)
                            have hl16 : vals 16 = .bool false := hp 16 (by decide)
                            have HI := Lib.hid hI
                            clear hp hI
                            simp only [layN, List.size_toArray, List.length_cons, List.length_nil, List.range, List.range.loop, if_true, List.getElem?_toArray, List.getElem?_cons_zero, List.getElem?_cons_succ, Act.put, List.setIfInBounds_toArray, List.set_cons_zero, List.set_cons_succ, Nat.zero_add, Nat.reduceAdd, hl0, hl1, hl2, hl3, hl4, hl5, hl6, hl7, hl8, hl9, hl10, hl11, hl12, hl13, hl14, hl15, hl16]
                            clear hl0 hl1 hl2 hl3 hl4 hl5 hl6 hl7 hl8 hl9 hl10 hl11 hl12 hl13 hl14 hl15 hl16
                            have HBk := Lib.hid (HBj.out.trans (HI.out.mono HBj.out.size))
                            clear HI
                            have hw := IntWalk.i64_in ((ii : Int) + 1) (by have := HL6.out; omega)
                            have hjm : ¬ 9223372036854775807 < ii + 1 := by have := HL6.out; omega
                            go_wp2
                            go_roundw
                            case rel => exact ⟨ii + 1, by go_num, by omega, HBk.out⟩
                            case measure => simp [intOf] <;> omega
                        · have hin : ii = n := by omega
                          subst hin
                          have hw := IntWalk.i64_in ((t : Int) + 1) (by have := HM6.out; omega)
                          have hjm : ¬ 9223372036854775807 < t + 1 := by have := HM6.out; omega
                          go_wp2
                          go_roundw
                          case rel => exact ⟨t + 1, by go_num, by omega, HBj.out⟩
                          case measure => simp [intOf] <;> omega
                  · go_wp2
                    go_ret
                    exact ⟨rfl, HBf.out.trans (HBt.out.mono HBf.out.size)⟩
    
end Go.Proofs.Yticgomkbmdnbfaa
