/-
  hedgerowlaw07.StoreCopies: the walk. Conditions: lengths.
-/
import Derived.Test.YtfmkfnegkhfchaaStCausal
import Derived.Test.YtfmkfnegkhfchaaStMath
namespace Go.Proofs.Ytfmkfnegkhfchaa
open Go.RowKit Go.MapKept Go.Sort

theorem causC_mem (l : List Ev) : ∀ e ∈ (causC l).1, e ∈ l := by
  suffices h : ∀ (l : List Ev) (s : List Ev × (Nat → Int)), ∀ e ∈ (l.foldl comeC s).1, e ∈ s.1 ∨ e ∈ l by
    intro e he
    rcases h l ([], fun _ => 0) e he with h | h
    · cases h
    · exact h
  intro l
  induction l with
  | nil => intro s e h; exact .inl h
  | cons a l ih =>
    intro s e h
    rcases ih (comeC s a) e h with h | h
    · unfold comeC at h
      split at h
      · rcases List.mem_append.1 h with h | h
        · exact .inl h
        · exact .inr (by rw [List.mem_singleton.1 h]; exact List.mem_cons_self ..)
      · exact .inl h
    · exact .inr (List.mem_cons_of_mem _ h)
theorem at_Ev0 (g c n k : Nat) (h : k < n) (w : World) : (Instr.indexAt 22 (.slice (some ⟨g, 0, none⟩) n c) (.int .i64 k)).run Try.prog w = .ok (.pointer (some ⟨g, k * 27, none⟩)) w := by
  have h2 : (k : Int) < n := by omega
  go_simp
theorem at_It (g c n k : Nat) (h : k < n) (w : World) : (Instr.indexAt 42 (.slice (some ⟨g, 0, none⟩) n c) (.int .i64 k)).run Try.prog w = .ok (.pointer (some ⟨g, k * 6, none⟩)) w := by
  have h2 : (k : Int) < n := by omega
  go_simp
theorem conv7 (z : Nat) (h : z ≤ 255) (w : World) : (convert 5 3 (.int .u8 z)).run Try.prog w = .ok (.int .i64 z) w := by
  have hw := IntWalk.i64_in (z : Int) (by omega)
  go_simp
theorem add7 (a b : Nat) (h : a + b ≤ 100000) (w : World) : (binOp .add 3 (.int .i64 a) (.int .i64 b)).run Try.prog w = .ok (.int .i64 (a + b : Nat)) w := by
  have hw := IntWalk.i64_in ((a : Int) + b) (by omega)
  go_simp
theorem rem7 (a b : Nat) (h2 : b ≤ 100000) (hb : 0 < b) (w : World) : (binOp .rem 3 (.int .i64 a) (.int .i64 b)).run Try.prog w = .ok (.int .i64 (a % b : Nat)) w := by
  have h0 : ((b : Int) == 0) = false := by simp; omega
  have h1 : ¬ ((b : Int) = 0) := by omega
  have hm : (a % b : Nat) < b := Nat.mod_lt _ hb
  have e : Int.tmod (a : Int) (b : Int) = ((a % b : Nat) : Int) := rfl
  have hw := IntWalk.i64_in ((a % b : Nat) : Int) (by omega)
  rw [← e] at hw
  go_simp
  omega
theorem st_blank {w : World} {sb B : Nat} (h : Blk w sb 71 #[.map none]) : StAt w sb B [] := ⟨fun i => i = sb, ⟨rfl, fun _ hi => hi ▸ h.lt, .inl ⟨h, rfl⟩⟩, fun _ hi => .inl hi⟩
theorem put_yes2 {w : World} {sb B : Nat} {τ : List (El × List (Dt × Va))} (h : StAt w sb B τ) (hB : B ≤ w.heap.size) (x : El) (l : List (Dt × Va)) (A : Option Addr) (N c : Nat) (hs : SlK enN 5 w (.slice A N c) l) (hA : ∀ g o, A = some ⟨g, o, none⟩ → g ≠ sb ∧ g < B) (hN : l.length = N) (hN2 : N ≤ 1000000) (hx : LenE x) (hv : ∀ q ∈ l, q.2.t.size ≤ 4294967280) (hw : CutOk w) (hr : rightI x l = true) :
    Calls Try.prog 19 #[.pointer (some ⟨sb, 0, none⟩), .agg #[.int .i64 x.k, .string x.a, .string x.b, .string x.c, .string x.d, .slice A N c]] w fun e w' =>
      e = .returned (.int .i64 0) ∧ StAt w' sb B (putI x l τ) ∧ Kept sb B w w' := by
  have := put_at h hB x l A N c hs hA hN hN2 hx hv hw
  rw [hr, if_pos rfl] at this
  exact this
/-- Laying down all, from one on, round. -/
def PutInv (σ τ : List (El × List (Dt × Va))) (es : List El) (zn j : Nat) : Prop := (keysL τ).Nodup ∧ (∀ y, y ∈ keysL τ ↔ ∃ i, i < j ∧ es[(i + zn) % es.length]? = some y) ∧ ∀ y ∈ keysL τ, (entS y τ).Perm (entS y σ)
theorem PutInv.start (σ : List (El × List (Dt × Va))) (es : List El) (zn : Nat) : PutInv σ [] es zn 0 := ⟨List.nodup_nil, fun y => by simp [keysL], fun y hy => by cases hy⟩
theorem PutInv.step {σ τ : List (El × List (Dt × Va))} {es : List El} {zn j : Nat} {x : El} {l : List (Dt × Va)} (h : PutInv σ τ es zn j) (hx : es[(j + zn) % es.length]? = some x) (hl : l.Perm (entS x σ)) (hn : (keysL l).Nodup) (hne : l ≠ []) : PutInv σ (putI x l τ) es zn (j + 1) := by
  obtain ⟨h1, h2, h3⟩ := h
  refine ⟨put_nodup h1, fun y => ?_, fun y hy => ?_⟩
  · rw [put_keys hne, h2]
    constructor
    · rintro (rfl | ⟨i, hi, he⟩)
      · exact ⟨j, by omega, hx⟩
      · exact ⟨i, by omega, he⟩
    · rintro ⟨i, hi, he⟩
      rcases Nat.lt_succ_iff_lt_or_eq.1 hi with h | h
      · exact .inr ⟨i, h, he⟩
      · rw [h, hx] at he; exact .inl (Option.some.inj he).symm
  · rw [ent_put hn]
    by_cases e : x = y
    · rw [if_pos e, ← e]; exact hl
    · rw [if_neg e]
      rcases (put_keys hne).1 hy with h | h
      · exact absurd h.symm e
      · exact h3 y h
theorem turn_all (M zn t : Nat) (ht : t < M) : ∃ i, i < M ∧ (i + zn) % M = t := by
  have h1 := Nat.div_add_mod zn M
  have h2 := Nat.mod_lt zn (show 0 < M by omega)
  generalize zn / M = q at h1
  generalize zn % M = r at h1 h2
  subst h1
  by_cases h : r ≤ t
  · refine ⟨t - r, by omega, ?_⟩
    rw [show t - r + (M * q + r) = t + M * q from by omega, Nat.add_mul_mod_self_left, Nat.mod_eq_of_lt ht]
  · refine ⟨t + M - r, by omega, ?_⟩
    rw [show t + M - r + (M * q + r) = t + M * (q + 1) from by rw [Nat.mul_add]; omega, Nat.add_mul_mod_self_left, Nat.mod_eq_of_lt ht]
theorem ent_none {x : El} {σ : List (El × List (Dt × Va))} (h : x ∉ keysL σ) : entS x σ = [] := by unfold entS; rw [getL_none.2 h]; rfl
theorem PutInv.done {σ τ : List (El × List (Dt × Va))} {es : List El} {zn : Nat} (h : PutInv σ τ es zn es.length) (hp : es.Perm (keysL σ)) (hn : (keysL σ).Nodup) : (∀ x, x ∈ keysL τ ↔ x ∈ keysL σ) ∧ (∀ x, (entS x τ).Perm (entS x σ)) ∧ (keysL τ).Perm (keysL σ) ∧ totS τ = totS σ := by
  obtain ⟨h1, h2, h3⟩ := h
  have hk : ∀ x, x ∈ keysL τ ↔ x ∈ keysL σ := fun x => by
    rw [h2, ← hp.mem_iff]
    constructor
    · rintro ⟨i, _, he⟩; exact List.mem_of_getElem? he
    · intro hx
      obtain ⟨t, ht⟩ := List.getElem?_of_mem hx
      obtain ⟨i, hi, e⟩ := turn_all es.length zn t (List.getElem?_eq_some_iff.1 ht).1
      exact ⟨i, hi, by rw [e]; exact ht⟩
  have he : ∀ x, (entS x τ).Perm (entS x σ) := fun x => by
    by_cases hx : x ∈ keysL τ
    · exact h3 x hx
    · rw [ent_none hx, ent_none fun e => hx ((hk x).2 e)]
  obtain ⟨q1, q2⟩ := tot_same hn h1 hk he
  exact ⟨hk, he, q1, q2⟩
theorem ne_E (x : El) (w : World) : (binOp .neq 35 (eE x) (eE x)).run Try.prog w = .ok (.bool false) w := by
  unfold eE elV
  go_simp
theorem ne_N (d : Dt) (v : Va) (w : World) : (binOp .neq 48 (enV d v) (enV d v)).run Try.prog w = .ok (.bool false) w := by
  unfold enV enA
  go_simp
theorem at_N0 (g c n k : Nat) (h : k < n) (w : World) : (Instr.indexAt 44 (.slice (some ⟨g, 0, none⟩) n c) (.int .i64 k)).run Try.prog w = .ok (.pointer (some ⟨g, k * 5, none⟩)) w := by
  have h2 : (k : Int) < n := by omega
  go_simp
/-- An item's element, and its entries, in memory. -/
theorem item_parts {w : World} {g o : Nat} {x : El} {v : Value} (h : w.rangeAt g o (enI (x, v))) : w.rangeAt g o [.int .i64 x.k, .string x.a, .string x.b, .string x.c, .string x.d] ∧ w.cell? ⟨g, o + 5, none⟩ = some v := by
  refine ⟨fun j u hu => ?_, h 5 v rfl⟩
  refine h j u ?_
  have hj : j < 5 := (List.getElem?_eq_some_iff.1 hu).1
  show [Value.int .i64 x.k, .string x.a, .string x.b, .string x.c, .string x.d, v][j]? = some u
  rw [← hu]
  exact List.getElem?_append_left (l₁ := [Value.int .i64 x.k, .string x.a, .string x.b, .string x.c, .string x.d]) (l₂ := [v]) hj
theorem few_is7 (l : List Ev) (A : Option Addr) (N c : Nat) (hN : l.length = N) (hN2 : N ≤ 4611686018427387903) (hf : ∀ e ∈ l, Fit e) (b : Bool) (h : fewB l = b) (w : World) (hs : SlK encE 27 w (.slice A N c) l) :
    Calls Try.prog 8 #[.slice A N c] w (Gives w (.bool b)) := by
  have := few_any l A N c w hs hN hN2 hf; rwa [h] at this

set_option maxRecDepth 100000 in
set_option maxHeartbeats 3000000 in
theorem copies_walk (l : List Ev) (A : Option Addr) (N c zn : Nat) (w : World) (hs : SlK encE 27 w (.slice A N c) l) (hN : l.length = N) (hN2 : N ≤ 4611686018427387903) (hf : ∀ e ∈ l, Fit e) (hz : zn ≤ 255) (hw : CutOk w) :
    Calls Try.prog 6 #[.slice A N c, .int .u8 zn] w (Law w) := by
  have HS := Lib.hid hs
  have HN := Lib.hid hN
  have HZn := Lib.hid hz
  have HCw := Lib.hid hw
  have HFw := Lib.hid (few_is7 l A N c hN hN2 hf)
  have HZe := Lib.hid (zero_of_info zeroE).1
  have HZv := Lib.hid (zero_of_info zeroV).1
  clear hs hN hN2 hf hz hw
  cases hfew : fewB l
  · have HFe := Lib.hid (HFw.out false hfew)
    clear hfew HFw
    go_enter Try.func6, Try.ntmps6
    go_wp2_with fail
    refine (fixed7 w HCw.out).mono ?_
    rintro e w1 ⟨rfl, hb⟩
    have HB1 := Lib.hid hb
    clear hb
    go_wp2_with fail
    refine (HFe.out w1 (HS.out.below HB1.out)).mono ?_
    rintro e w2 ⟨rfl, hb⟩
    have HB2 := Lib.hid (HB1.out.trans (hb.mono HB1.out.size))
    clear hb
    go_wp2
    go_ret
    exact ⟨rfl, HB2.out⟩
  · have HFe := Lib.hid (HFw.out true hfew)
    have hsh : ∀ e ∈ l, shortB e = true := by
      unfold fewB at hfew
      simp only [Bool.and_eq_true, List.all_eq_true] at hfew
      exact hfew.1
    have hl60 : N ≤ 60 := by
      unfold fewB at hfew
      simp only [Bool.and_eq_true, decide_eq_true_eq] at hfew
      rw [← HN.out]; exact hfew.2
    have HSh := Lib.hid hsh
    have H60 := Lib.hid hl60
    clear hfew HFw hsh hl60
    go_enter Try.func6, Try.ntmps6
    go_wp2_with fail
    refine (fixed7 w HCw.out).mono ?_
    rintro e w1 ⟨rfl, hb⟩
    have HB1 := Lib.hid hb
    clear hb
    go_wp2_with fail
    refine (HFe.out w1 (HS.out.below HB1.out)).mono ?_
    rintro e w2 ⟨rfl, hb⟩
    have HB2 := Lib.hid (HB1.out.trans (hb.mono HB1.out.size))
    clear hb
    go_wp2_with fail
    refine (causal_any l A N c w2 (HS.out.below HB2.out) HN.out H60.out (fun e he => short_tiny e (HSh.out e he))).mono ?_
    rintro e w3 ⟨rv, rfl, ho3, hb⟩
    obtain ⟨row, hrow⟩ : ∃ row, (causC l).1 = row := ⟨_, rfl⟩
    obtain ⟨f, hff⟩ : ∃ f, (causC l).2 = f := ⟨_, rfl⟩
    rw [hrow] at ho3
    rw [hff]
    have hrl : row.length ≤ 60 := by have := causC_len l; rw [hrow] at this; have h1 := HN.out; have h2 := H60.out; omega
    have hrm : ∀ e ∈ row, Lens e := fun e he => short_lens e (HSh.out e (causC_mem l e (by rw [hrow]; exact he)))
    have HRm := Lib.hid hrm
    have HRl := Lib.hid hrl
    have HB3 := Lib.hid (HB2.out.trans (hb.mono HB2.out.size))
    have HO3 := Lib.hid ho3
    obtain ⟨A5, c5, rfl, _, _⟩ := ho3.read encE_len
    clear hb hrow hff ho3 hrl hrm
    obtain ⟨n5, hn5⟩ : ∃ n5, row.length = n5 := ⟨_, rfl⟩
    rw [hn5] at HO3 ⊢
    have HN5 := Lib.hid hn5
    clear hn5
    have hzv := HZv.out
    have hAl := fun c => World.setRow_alloc_new w3 (vA fun _ => 0) c 27
    have hZ : Blk (w3.alloc (.cells (vA fun _ => 0) 27)) w3.heap.size 27 (vA fun _ => 0) := Blk.new _ _ _
    go_wp2_with (first
      | (refine wpList_store_row rfl 27 (.tmp 6) (.tmp 25) rfl w3.heap.size (vA f) rfl rfl _ _ hZ (sizeV _) (by rw [vA_size, vA_size]) (vA_one _) ?_; rw [hAl])
      | fail)
    clear hzv hAl hZ
    obtain ⟨w4, hw4⟩ : ∃ w4, w3.alloc (.cells (vA f) 27) = w4 := ⟨_, rfl⟩
    rw [hw4]
    have hb4 : Below w3.heap.size w3 w4 := by rw [← hw4]; exact (Below.refl _ _).alloc (Nat.le_refl _) _
    have HB4 := Lib.hid (HB3.out.trans (hb4.mono HB3.out.size))
    have HO4 := Lib.hid (HO3.out.keep hb4)
    clear hw4 hb4 HO3
    refine (new_any w4).mono ?_
    rintro e w5 ⟨rfl, hw5⟩
    have HE5 := Lib.hid hw5
    clear hw5
    go_wp2_with fail
    refine (new_any w5).mono ?_
    rintro e w6 ⟨rfl, hw6⟩
    have hw5 := HE5.out
    clear HE5
    obtain ⟨sa, hsa⟩ : ∃ sa, w4.heap.size = sa := ⟨_, rfl⟩
    have hs5 : w5.heap.size = sa + 1 := by rw [hw5, ← hsa]; simp
    have hs6 : w6.heap.size = sa + 2 := by rw [hw6]; simp [hs5]
    have hb5 : Below w4.heap.size w4 w5 := by rw [hw5]; exact (Below.refl _ _).alloc (Nat.le_refl _) _
    have hb6 : Below w5.heap.size w5 w6 := by rw [hw6]; exact (Below.refl _ _).alloc (Nat.le_refl _) _
    have ha : StAt w6 sa (sa + 2) [] := by
      have := new_at w4 (sa + 2)
      rw [hsa, ← hw5] at this
      exact this.keep hb6
    have hbb6 : Blk w6 (sa + 1) 71 #[.map none] := by
      rw [hw6, ← hs5]; exact Blk.new _ _ _
    rw [hsa, hs5]
    have hw46 : w4.heap.size ≤ w5.heap.size := hb5.size
    have HA6 := Lib.hid ha
    have HBB6 := Lib.hid hbb6
    have HS6 := Lib.hid hs6
    have HB6 := Lib.hid (HB4.out.trans ((hb5.trans (hb6.mono hw46)).mono HB4.out.size))
    have HR6 := Lib.hid (HO4.out.keep (hb5.trans (hb6.mono hw46)))
    have HRb : Hid (∀ g, (Value.slice A5 n5 c5).ownBlock = some g → g < sa) := Lib.hid fun g h => by
      have := (HO4.out.lt g h).2
      rw [hsa] at this; exact this
    have HWa := Lib.hid (show w.heap.size ≤ sa by rw [← hsa]; exact HB4.out.size)
    have H0 := Lib.hid (show 0 < sa by have := HCw.out.1; have h2 := HB4.out.size; omega)
    clear hw5 hw6 hs5 hs6 hb5 hb6 ha hbb6 hsa hw46
    go_wp2_with fail
    go_loopw [30] (fun v30 wr => ∃ j : Nat, v30 = .int .i64 j ∧ j ≤ n5 ∧ StAt wr sa (sa + 2) (runS (row.take j)) ∧ Kept sa (sa + 2) w6 wr) (fun v30 _ => n5 - (intOf v30).toNat)
    case atStart => exact ⟨0, rfl, Nat.zero_le _, HA6.out, Kept.refl⟩
    case round =>
      obtain ⟨j, rfl, hj, hst, hk⟩ := hrel
      obtain ⟨wo, rfl⟩ : ∃ wo, wo = wr := ⟨_, rfl⟩
      have HSt := Lib.hid hst
      have HKp := Lib.hid hk
      clear hst hk
      by_cases hlt : j < n5
      · obtain ⟨e, he⟩ : ∃ e, row[j]? = some e := ⟨row[j]'(by rw [HN5.out]; exact hlt), List.getElem?_eq_getElem _⟩
        have hro : OwnK encE w2.heap.size 39 27 wo (.slice A5 n5 c5) row := HR6.out.same fun g h => HKp.out.same (HR6.out.lt g h).2 (by have := HRb.out g h; omega) (by have := HRb.out g h; omega)
        obtain ⟨g, rfl, _, _, hce⟩ := hro.at_ encE_len he
        have HCe := Lib.hid hce
        have HAt := Lib.hid (at_Ev0 g c5 n5 j hlt wo)
        have HLe := Lib.hid (HRm.out e (List.mem_of_getElem? he))
        have HNx := Lib.hid (runS_next he)
        have HAl := Lib.hid fun c => World.setRow_alloc_new wo (evC ev0) c 39
        have HZz := Lib.hid (show Blk (wo.alloc (.cells (evC ev0) 39)) wo.heap.size 39 (evC ev0) from Blk.new _ _ _)
        obtain ⟨X, hX⟩ : ∃ X, X = wo.alloc (.cells (evC e) 39) := ⟨_, rfl⟩
        have hbX : Below wo.heap.size wo X := by rw [hX]; exact (Below.refl _ _).alloc (Nat.le_refl _) _
        have hBX : Blk X wo.heap.size 39 (evC e) := by rw [hX]; exact Blk.new _ _ _
        have HXe := Lib.hid hX
        have HBX := Lib.hid hBX
        have HKX := Lib.hid (HKp.out.trans (Kept.of_below hbX))
        have HSX := Lib.hid (HSt.out.keep hbX)
        clear hX hbX hBX he hce hro
        have hz := HZe.out
        go_wp2_with (first
          | (refine wpList_val (o := ⟨some 32, _, _, _, _, _⟩) rfl (.pointer (some ⟨g, j * 27, none⟩)) wo (run_indexAddr_op rfl rfl rfl HAt.out) ?_)
          | (refine wpList_load_midif rfl 39 (.tmp 32) rfl g (j * 27) rfl (encE e) _ HCe.out Try.underlying39 rfl (sizeE e) ?_)
          | (refine wpList_store_row rfl 39 (.tmp 10) (.tmp 33) rfl wo.heap.size (evC e) rfl rfl _ _ HZz.out (sizeE e) rfl (by kernel_rfl) ?_; rw [HAl.out, ← HXe.out])
          | (refine wpList_load_if rfl 39 (.tmp 10) rfl wo.heap.size rfl _ _ _ _ HBX.out Try.underlying39 rfl (sizeE e) ?_)
          | fail)
        clear hz
        refine (do_at HSX.out (by have := HKX.out.size; have := HS6.out; omega) e HLe.out ((HKX.out).cut H0.out (by omega) (HCw.out.below HB6.out))).mono ?_
        rintro x w7 ⟨rfl, hs7, hk7⟩
        have HS7 := Lib.hid (show StAt w7 sa (sa + 2) (runS (row.take (j + 1))) by rw [HNx.out]; exact hs7)
        have HK7 := Lib.hid (HKX.out.trans hk7)
        clear hs7 hk7
        have hw := IntWalk.i64_in ((j : Int) + 1) (by have := HRl.out; have := HN5.out; omega)
        have hjm : ¬ 9223372036854775807 < j + 1 := by have := HRl.out; have := HN5.out; omega
        go_wp2
        go_roundw
        case rel => exact ⟨j + 1, by go_num, by omega, HS7.out, HK7.out⟩
        case measure => simp [intOf] <;> omega
      · have hjN : j = n5 := by omega
        subst hjN
        rw [List.take_of_length_le (Nat.le_of_eq HN5.out)] at HSt
        obtain ⟨hokS, htot⟩ := runS_ok row HRm.out
        obtain ⟨σ, hσ⟩ : ∃ σ, runS row = σ := ⟨_, rfl⟩
        rw [hσ] at HSt hokS htot
        have h60 : totS σ ≤ 60 := Nat.le_trans htot HRl.out
        have HOk := Lib.hid hokS
        have HTt := Lib.hid h60
        have HBo := Lib.hid (show Blk wo (sa + 1) 71 #[.map none] from (HKp.out.same HBB6.out.lt (by omega) (by omega)).trans HBB6.out)
        have HCo := Lib.hid (HKp.out.cut H0.out (by omega) (HCw.out.below HB6.out))
        have HBw := Lib.hid (show Below w.heap.size w wo from HB6.out.trans (HKp.out.below (by have := HWa.out; omega) (by have := HWa.out; omega) HB6.out.size))
        have HSo := Lib.hid (show sa + 2 ≤ wo.heap.size by have := HKp.out.size; have := HS6.out; omega)
        clear hσ hokS htot h60
        go_wp2_with fail
        refine (all_at HSt.out (by have h1 := HOk.out.len; have h2 := HTt.out; omega) (fun x => by have h1 := tot_ent (x := x) (σ := σ); have h2 := HTt.out; omega)).mono ?_
        rintro e w8 ⟨v11, es, rfl, hes, hsrt, ⟨acc, hacc, hmap, hrows⟩, hb8⟩
        have hal : acc.length = es.length := by rw [← hmap, List.length_map]
        have hM : es.length ≤ 60 := by
          have h1 := hes.length_eq
          have h2 := HOk.out.len
          have h3 := HTt.out
          simp [keysL] at h1
          omega
        obtain ⟨A11, c11, rfl, _, _⟩ := hacc.read enI_len
        have HEs := Lib.hid hes
        have HSr := Lib.hid hsrt
        have HAc := Lib.hid hacc
        have HMp := Lib.hid hmap
        have HRw := Lib.hid hrows
        have HSa8 := Lib.hid (HSt.out.keep hb8)
        have HBb8 := Lib.hid (HBo.out.below hb8 HBo.out.lt)
        have HB8 := Lib.hid (HBw.out.trans (hb8.mono HBw.out.size))
        have HC8 := Lib.hid (HCo.out.below hb8)
        have H8 := Lib.hid hb8.size
        obtain ⟨M, hMe⟩ : ∃ M, es.length = M := ⟨_, rfl⟩
        rw [hMe] at hM hal
        have HM := Lib.hid hMe
        have HM6 := Lib.hid hM
        have HAl := Lib.hid hal
        rw [hal] at HAc ⊢
        clear hes hsrt hacc hmap hrows hb8 hal hM hMe
        go_wp2_with fail
        go_loopw [42] (fun v42 wr => ∃ (j : Nat) (τ : List (El × List (Dt × Va))), v42 = .int .i64 j ∧ j ≤ M ∧ PutInv σ τ es zn j ∧ StAt wr (sa + 1) w8.heap.size τ ∧ Kept (sa + 1) w8.heap.size w8 wr) (fun v42 _ => M - (intOf v42).toNat)
        case atStart => exact ⟨0, [], rfl, Nat.zero_le _, PutInv.start _ _ _, st_blank HBb8.out, Kept.refl⟩
        case round =>
          obtain ⟨j, τ, rfl, hj, hinv, hst, hk⟩ := hrel
          obtain ⟨wp, rfl⟩ : ∃ wp, wp = wr := ⟨_, rfl⟩
          have HSt7 := Lib.hid hst
          have HK7 := Lib.hid hk
          have HI7 := Lib.hid hinv
          clear hst hk hinv
          by_cases hlt : j < M
          · obtain ⟨k, hk⟩ : ∃ k, (j + zn) % M = k := ⟨_, rfl⟩
            have hkM : k < M := by rw [← hk]; exact Nat.mod_lt _ (by omega)
            obtain ⟨⟨x, rv⟩, hxr⟩ : ∃ q, acc[k]? = some q := ⟨acc[k]'(by rw [HAl.out]; exact hkM), List.getElem?_eq_getElem _⟩
            have hxe : es[k]? = some x := by
              have := congrArg (fun t => t[k]?) HMp.out
              simp only [List.getElem?_map, hxr, Option.map_some] at this
              exact this.symm
            have hsame : ∀ g, wo.heap.size ≤ g → g < w8.heap.size → wp.heap[g]? = w8.heap[g]? := fun g h1 h2 => HK7.out.same h2 (by have := HSo.out; omega) h2
            have hac : OwnK enI wo.heap.size 46 6 wp (.slice A11 M c11) acc := HAc.out.same fun g h => hsame g (HAc.out.lt g h).1 (HAc.out.lt g h).2
            obtain ⟨g, rfl, _, _, hce⟩ := hac.at_ enI_len hxr
            obtain ⟨lr, hlp, hls, hlo⟩ := HRw.out (x, rv) (List.mem_of_getElem? hxr)
            dsimp only at hlp hlo
            have hlw : OwnK enN wo.heap.size 48 5 wp rv lr := hlo.same fun g h => hsame g (hlo.lt g h).1 (hlo.lt g h).2
            obtain ⟨An, cn, rfl, q1, q2⟩ := hlw.read enN_len
            have hoki : OkItem x (entS x σ) := by
              have hxk : x ∈ keysL σ := HEs.out.mem_iff.1 (List.mem_of_getElem? hxe)
              cases hg : getL x σ with
              | none => exact absurd hxk (getL_none.1 hg)
              | some l0 =>
                have := HOk.out.ent hg
                unfold entS; rw [hg]; exact this
            have hll : lr.length ≤ 60 := by
              have h1 := hlp.length_eq
              have h2 := tot_ent (x := x) (σ := σ)
              have h3 := HTt.out
              omega
            have HPt := Lib.hid (put_yes2 HSt7.out (by have := HK7.out.size; exact this) x lr An lr.length cn ⟨An, cn, rfl, q1, q2⟩ (fun g o e => by
                have h1 := hlo.lt g (by rw [e]; rfl)
                have h2 := HSo.out
                omega) rfl (by omega) hoki.2.1 (fun q hq => (hoki.2.2.2.2 q (hlp.mem_iff.1 hq)).2.2) (HK7.out.cut (by omega) (by have := H8.out; have := HSo.out; omega) HC8.out) (right_row hoki hlp hls))
            have HIn := Lib.hid (HI7.out.step (x := x) (l := lr) (by rw [HM.out, hk]; exact hxe) hlp ((hlp.map Prod.fst).nodup_iff.2 hoki.2.2.2.1) (fun e => hoki.2.2.1 (by rw [e] at hlp; exact hlp.symm.eq_nil)))
            have HCe := Lib.hid (show wp.rangeAt g (k * 6) [.int .i64 x.k, .string x.a, .string x.b, .string x.c, .string x.d, .slice An lr.length cn] from hce)
            have HAt := Lib.hid (at_It g c11 M k hkM wp)
            have HCv := Lib.hid (conv7 zn HZn.out wp)
            have HAd := Lib.hid (add7 j zn (by have := HM6.out; have := HZn.out; omega) wp)
            have HRe := Lib.hid (by have := rem7 (j + zn) M (by have := HM6.out; omega) (by omega) wp; rwa [hk] at this)
            clear hk hkM hxr hxe hsame hac hce hlp hls hlo hlw q1 q2 hoki hll
            go_wp2_with (first
              | (refine wpList_val (o := ⟨some 49, _, _, _, _, _⟩) rfl (.int .i64 zn) wp (run_convert_op rfl rfl HCv.out) ?_)
              | (refine wpList_val (o := ⟨some 50, _, _, _, _, _⟩) rfl (.int .i64 (j + zn : Nat)) wp (run_bin_op rfl rfl rfl (guardI _ _ _ _ _ _ _) HAd.out) ?_)
              | (refine wpList_val (o := ⟨some 53, _, _, _, _, _⟩) rfl (.int .i64 k) wp (run_bin_op rfl rfl rfl (guardI _ _ _ _ _ _ _) HRe.out) ?_)
              | (refine wpList_val (o := ⟨some 54, _, _, _, _, _⟩) rfl (.pointer (some ⟨g, k * 6, none⟩)) wp (run_indexAddr_op rfl rfl rfl HAt.out) ?_)
              | (refine wpList_load_midif rfl 46 (.tmp 54) rfl g (k * 6) rfl [.int .i64 x.k, .string x.a, .string x.b, .string x.c, .string x.d, .slice An lr.length cn] _ HCe.out Try.underlying46 rfl (by kernel_rfl) ?_)
              | fail)
            refine HPt.out.mono ?_
            rintro e w9 ⟨rfl, hs9, hk9⟩
            have HS9 := Lib.hid hs9
            have HK9 := Lib.hid (HK7.out.trans hk9)
            clear hs9 hk9
            have hw := IntWalk.i64_in ((j : Int) + 1) (by have := HM6.out; omega)
            have hjm : ¬ 9223372036854775807 < j + 1 := by have := HM6.out; omega
            go_wp2
            go_roundw
            case rel => exact ⟨j + 1, _, by go_num, by omega, HIn.out, HS9.out, HK9.out⟩
            case measure => simp [intOf] <;> omega
          · have hjM : j = M := by omega
            subst hjM
            have HI8 := Lib.hid ((show PutInv σ τ es zn es.length by rw [HM.out]; exact HI7.out).done HEs.out HOk.out.1)
            have hsame : ∀ g, wo.heap.size ≤ g → g < w8.heap.size → wp.heap[g]? = w8.heap[g]? := fun g h1 h2 => HK7.out.same h2 (by have := HSo.out; omega) h2
            have HAp := Lib.hid (show OwnK enI wo.heap.size 46 6 wp (.slice A11 j c11) acc from HAc.out.same fun g h => hsame g (HAc.out.lt g h).1 (HAc.out.lt g h).2)
            have HRp : Hid (∀ p ∈ acc, RowIs wp wo.heap.size p.2 (entS p.1 σ)) := Lib.hid fun p hp => by
              obtain ⟨l', q1, q2, q3⟩ := HRw.out p hp
              exact ⟨l', q1, q2, q3.same fun g h => hsame g (q3.lt g h).1 (q3.lt g h).2⟩
            have HSap := Lib.hid (HSa8.out.apart HK7.out (by omega) (Nat.le_refl _) (by omega))
            have HBp := Lib.hid (HB8.out.trans (HK7.out.below (by have := HWa.out; omega) (by have := HBw.out.size; have := H8.out; omega) HB8.out.size))
            have HSop := Lib.hid (show wo.heap.size ≤ wp.heap.size from Nat.le_trans H8.out HK7.out.size)
            have HTt2 := Lib.hid (show ∀ x, (entS x τ).length ≤ 60 from fun x => by
              have h1 := (HI8.out.2.1 x).length_eq
              have h2 := tot_ent (x := x) (σ := σ)
              have h3 := HTt.out
              omega)
            have HTl := Lib.hid (show τ.length ≤ 60 by
              have h1 := HI8.out.2.2.1.length_eq
              have h2 := HOk.out.len
              have h3 := HTt.out
              simp [keysL] at h1
              omega)
            clear hsame
            go_wp2_with fail
            refine (all_at HSt7.out (by have := HTl.out; omega) (fun x => by have := HTt2.out x; omega)).mono ?_
            rintro e w10 ⟨v13, es2, rfl, hes2, hsrt2, ⟨acc2, hacc2, hmap2, hrows2⟩, hb10⟩
            have hee : es2 = es := el_unique (hes2.trans HI8.out.2.2.1) hsrt2 HEs.out HSr.out
            rw [hee] at hmap2
            have hal2 : acc2.length = j := by rw [← HM.out, ← hmap2, List.length_map]
            obtain ⟨A13, c13, rfl, _, _⟩ := hacc2.read enI_len
            rw [hal2] at hacc2 ⊢
            have HSa10 := Lib.hid (HSap.out.keep hb10)
            have HSb10 := Lib.hid (HSt7.out.keep hb10)
            have HB10 := Lib.hid (HBp.out.trans (hb10.mono HBp.out.size))
            have hcmp : ∀ i, i < j → ∃ x r1 r2 L, acc[i]? = some (x, r1) ∧ acc2[i]? = some (x, r2) ∧ OwnK enN wo.heap.size 48 5 w10 r1 L ∧ OwnK enN wp.heap.size 48 5 w10 r2 L ∧ L.length ≤ 60 := by
              intro i hi
              obtain ⟨⟨x, r1⟩, h1⟩ : ∃ q, acc[i]? = some q := ⟨acc[i]'(by rw [HAl.out]; exact hi), List.getElem?_eq_getElem _⟩
              obtain ⟨⟨x2, r2⟩, h2⟩ : ∃ q, acc2[i]? = some q := ⟨acc2[i]'(by rw [hal2]; exact hi), List.getElem?_eq_getElem _⟩
              have e1 : es[i]? = some x := by
                have := congrArg (fun t => t[i]?) HMp.out
                simp only [List.getElem?_map, h1, Option.map_some] at this
                exact this.symm
              have e2 : es[i]? = some x2 := by
                have := congrArg (fun t => t[i]?) hmap2
                simp only [List.getElem?_map, h2, Option.map_some] at this
                exact this.symm
              have e3 : x2 = x := by rw [e1] at e2; exact (Option.some.inj e2).symm
              subst e3
              obtain ⟨l1, a1, a2, a3⟩ := (HRp.out _ (List.mem_of_getElem? h1)).keep hb10
              obtain ⟨l2, b1, b2, b3⟩ := hrows2 _ (List.mem_of_getElem? h2)
              dsimp only at a1 a3 b1 b3
              have hxk : x2 ∈ keysL σ := HEs.out.mem_iff.1 (List.mem_of_getElem? e1)
              have hnd : (keysL (entS x2 σ)).Nodup := by
                cases hg : getL x2 σ with
                | none => exact absurd hxk (getL_none.1 hg)
                | some l0 =>
                  have := (HOk.out.ent hg).2.2.2.1
                  unfold entS; rw [hg]; exact this
              have hl12 : l2 = l1 := row_unique hnd (b1.trans (HI8.out.2.1 x2)) b2 a1 a2
              subst hl12
              refine ⟨x2, r1, r2, l2, h1, h2, a3, b3, ?_⟩
              have h3 := a1.length_eq
              have h4 := tot_ent (x := x2) (σ := σ)
              have h5 := HTt.out
              omega
            have HCm := Lib.hid hcmp
            have HA1 := Lib.hid (HAp.out.keep hb10)
            have HA2 := Lib.hid hacc2
            clear hes2 hsrt2 hacc2 hmap2 hrows2 hb10 hee hal2 hcmp HAp HRp HSap HBp HSt7
            go_wp2_with fail
            refine (len_at HSa10.out (totS σ) rfl (by have := HTt.out; omega)).mono ?_
            rintro e w11 ⟨rfl, hb11⟩
            have HB11 := Lib.hid hb11
            clear hb11
            go_wp2_with fail
            refine (len_at (HSb10.out.keep HB11.out) (totS σ) HI8.out.2.2.2 (by have := HTt.out; omega)).mono ?_
            rintro e w12 ⟨rfl, hb12⟩
            have HB12 := Lib.hid (HB11.out.trans (hb12.mono HB11.out.size))
            clear hb12
            have HBf := Lib.hid (HB10.out.trans (HB12.out.mono HB10.out.size))
            have HAf1 := Lib.hid (HA1.out.keep HB12.out)
            have HAf2 := Lib.hid (HA2.out.keep HB12.out)
            have HCf : Hid (∀ i, i < j → ∃ x r1 r2 L, acc[i]? = some (x, r1) ∧ acc2[i]? = some (x, r2) ∧ OwnK enN wo.heap.size 48 5 w12 r1 L ∧ OwnK enN wp.heap.size 48 5 w12 r2 L ∧ L.length ≤ 60) := Lib.hid fun i hi => by
              obtain ⟨x, r1, r2, L, q1, q2, q3, q4, q5⟩ := HCm.out i hi
              exact ⟨x, r1, r2, L, q1, q2, q3.keep HB12.out, q4.keep HB12.out, q5⟩
            clear HA1 HA2 HCm HB11 HB12 HSa10 HSb10
            obtain ⟨M, hjM⟩ : ∃ M, M = j := ⟨_, rfl⟩
            rw [← hjM] at HAf1 HAf2 HCf HM6 ⊢
            clear hjM
            go_wp2_with fail
            go_loopw [75] (fun v75 wr => ∃ t : Nat, v75 = .int .i64 t ∧ t ≤ M ∧ Below w12.heap.size w12 wr) (fun v75 _ => M - (intOf v75).toNat)
            case atStart => exact ⟨0, rfl, Nat.zero_le _, Below.refl _ _⟩
            case round =>
              obtain ⟨t, rfl, ht, hbt⟩ := hrel
              obtain ⟨wq, rfl⟩ : ∃ wq, wq = wr := ⟨_, rfl⟩
              have HBt := Lib.hid hbt
              clear hbt
              by_cases hlt2 : t < M
              · obtain ⟨x, r1, r2, L, hx1, hx2, ho1, ho2, hL⟩ := HCf.out t hlt2
                obtain ⟨g1, rfl, _, hg1, hc1⟩ := HAf1.out.at_ enI_len hx1
                obtain ⟨g2, rfl, _, hg2, hc2⟩ := HAf2.out.at_ enI_len hx2
                obtain ⟨P1, d1, rfl, _, _⟩ := ho1.read enN_len
                obtain ⟨P2, d2, rfl, _, _⟩ := ho2.read enN_len
                obtain ⟨n, hn⟩ : ∃ n, L.length = n := ⟨_, rfl⟩
                rw [hn] at ho1 ho2 hc1 hc2 hL
                obtain ⟨a1, b1⟩ := item_parts hc1
                obtain ⟨a2, b2⟩ := item_parts hc2
                have HG1 := Lib.hid hg1
                have HG2 := Lib.hid hg2
                have HO1 := Lib.hid ho1
                have HO2 := Lib.hid ho2
                have HLn := Lib.hid hn
                have HL6 := Lib.hid hL
                have HE1 : Hid (∀ W, Below w12.heap.size w12 W → W.rangeAt g1 (t * 6) [.int .i64 x.k, .string x.a, .string x.b, .string x.c, .string x.d] ∧ W.cell? ⟨g1, t * 6 + 5, none⟩ = some (.slice P1 n d1)) := Lib.hid fun W h => ⟨rangeAt_below a1 hg1 h, (World.cell?_of_block (h.block g1 hg1)).trans b1⟩
                have HE2 : Hid (∀ W, Below w12.heap.size w12 W → W.rangeAt g2 (t * 6) [.int .i64 x.k, .string x.a, .string x.b, .string x.c, .string x.d] ∧ W.cell? ⟨g2, t * 6 + 5, none⟩ = some (.slice P2 n d2)) := Lib.hid fun W h => ⟨rangeAt_below a2 hg2 h, (World.cell?_of_block (h.block g2 hg2)).trans b2⟩
                clear hx1 hx2 hg1 hg2 hc1 hc2 ho1 ho2 hn hL a1 b1 a2 b2
                go_upto_region 25 with fail
                refine wp_region_any (by kernel_rfl) ?_
                refine wpAny_below (fun i uq _ => uq = ([.slice (some ⟨g2, 0, none⟩) M c13, .int .i64 t, .pointer (some ⟨g2, t * 6, none⟩), .pointer (some ⟨g2, t * 6, none⟩), eE x, .slice (some ⟨g1, 0, none⟩) M c11, .int .i64 t, .pointer (some ⟨g1, t * 6, none⟩), .pointer (some ⟨g1, t * 6, none⟩), eE x, .bool false, .bool false, .slice (some ⟨g2, 0, none⟩) M c13, .int .i64 t, .pointer (some ⟨g2, t * 6, none⟩), .pointer (some ⟨g2, t * 6 + 5, none⟩), .slice P2 n d2, .int .i64 n, .slice (some ⟨g1, 0, none⟩) M c11, .int .i64 t, .pointer (some ⟨g1, t * 6, none⟩), .pointer (some ⟨g1, t * 6 + 5, none⟩), .slice P1 n d1, .int .i64 n, .bool false, .bool false] : List Value).getD i undef) _ wq (by kernel_rfl) (by kernel_rfl) (by kernel_rfl) (fun i v w w' _ h => h) ?_ ?_
                · refine ⟨?_, ?_, ?_, ?_, ?_, ?_, ?_, ?_, ?_, ?_, ?_, ?_, ?_, ?_, ?_, ?_, ?_, ?_, ?_, ?_, ?_, ?_, ?_, ?_, ?_, ?_, trivial⟩
                  · intro a W hI hun haft hi
                    have e13 : a.eval (.tmp 13) = .slice (some ⟨g2, 0, none⟩) M c13 := hun 13 (by kernel_rfl)
                    exact b_same hi hI rfl _ (run_move_op rfl e13) rfl
                  · intro a W hI hun haft hi
                    have e14 : a.eval (.tmp 14) = .int .i64 t := hun 14 (by kernel_rfl)
                    exact b_same hi hI rfl _ (run_move_op rfl e14) rfl
                  · intro a W hI hun haft hi
                    have f0 : a.eval (.tmp 78) = .slice (some ⟨g2, 0, none⟩) M c13 := haft ⟨0, .data⟩ (by simp) rfl _ _ rfl rfl
                    have f1 : a.eval (.tmp 79) = .int .i64 t := haft ⟨1, .data⟩ (by simp) rfl _ _ rfl rfl
                    exact b_same hi hI rfl _ (run_indexAddr_op rfl f0 f1 (at_It g2 c13 M t hlt2 _)) rfl
                  · intro a W hI hun haft hi
                    have f2 : a.eval (.tmp 80) = .pointer (some ⟨g2, t * 6, none⟩) := haft ⟨2, .data⟩ (by simp) rfl _ _ rfl rfl
                    exact b_same hi hI rfl _ (run_fieldAddr_any rfl f2 (at_item0 _ _ _)) rfl
                  · intro a W hI hun haft hi
                    have f3 : a.eval (.tmp 81) = .pointer (some ⟨g2, t * 6, none⟩) := haft ⟨3, .data⟩ (by simp) rfl _ _ rfl rfl
                    exact b_same hi hI rfl _ (run_loadmid_op rfl f3 (HE2.out W (HBt.out.trans (hI.mono HBt.out.size))).1 Try.underlying35 rfl (by kernel_rfl)) rfl
                  · intro a W hI hun haft hi
                    have e11 : a.eval (.tmp 11) = .slice (some ⟨g1, 0, none⟩) M c11 := hun 11 (by kernel_rfl)
                    exact b_same hi hI rfl _ (run_move_op rfl e11) rfl
                  · intro a W hI hun haft hi
                    have e14 : a.eval (.tmp 14) = .int .i64 t := hun 14 (by kernel_rfl)
                    exact b_same hi hI rfl _ (run_move_op rfl e14) rfl
                  · intro a W hI hun haft hi
                    have f5 : a.eval (.tmp 83) = .slice (some ⟨g1, 0, none⟩) M c11 := haft ⟨5, .data⟩ (by simp) rfl _ _ rfl rfl
                    have f6 : a.eval (.tmp 84) = .int .i64 t := haft ⟨6, .data⟩ (by simp) rfl _ _ rfl rfl
                    exact b_same hi hI rfl _ (run_indexAddr_op rfl f5 f6 (at_It g1 c11 M t hlt2 _)) rfl
                  · intro a W hI hun haft hi
                    have f7 : a.eval (.tmp 85) = .pointer (some ⟨g1, t * 6, none⟩) := haft ⟨7, .data⟩ (by simp) rfl _ _ rfl rfl
                    exact b_same hi hI rfl _ (run_fieldAddr_any rfl f7 (at_item0 _ _ _)) rfl
                  · intro a W hI hun haft hi
                    have f8 : a.eval (.tmp 86) = .pointer (some ⟨g1, t * 6, none⟩) := haft ⟨8, .data⟩ (by simp) rfl _ _ rfl rfl
                    exact b_same hi hI rfl _ (run_loadmid_op rfl f8 (HE1.out W (HBt.out.trans (hI.mono HBt.out.size))).1 Try.underlying35 rfl (by kernel_rfl)) rfl
                  · intro a W hI hun haft hi
                    have f4 : a.eval (.tmp 82) = eE x := haft ⟨4, .data⟩ (by simp) rfl _ _ rfl rfl
                    have f9 : a.eval (.tmp 87) = eE x := haft ⟨9, .data⟩ (by simp) rfl _ _ rfl rfl
                    exact b_same hi hI rfl (.bool false) (run_bin_op rfl f4 f9 (by kernel_rfl) (ne_E x _)) rfl
                  · intro a W hI hun haft hi
                    have f10 : a.eval (.tmp 88) = .bool false := haft ⟨10, .data⟩ (by simp) rfl _ _ rfl rfl
                    exact b_same hi hI rfl _ (run_move_op rfl f10) rfl
                  · intro a W hI hun haft hi
                    have fg : a.eval (.tmp 89) = .bool false := haft ⟨11, .guard⟩ (by simp) rfl _ _ rfl rfl
                    have e13 : a.eval (.tmp 13) = .slice (some ⟨g2, 0, none⟩) M c13 := hun 13 (by kernel_rfl)
                    exact b_same hi hI (guard_ok rfl rfl rfl fg) _ (run_move_op rfl e13) rfl
                  · intro a W hI hun haft hi
                    have fg : a.eval (.tmp 89) = .bool false := haft ⟨11, .guard⟩ (by simp) rfl _ _ rfl rfl
                    have e14 : a.eval (.tmp 14) = .int .i64 t := hun 14 (by kernel_rfl)
                    exact b_same hi hI (guard_ok rfl rfl rfl fg) _ (run_move_op rfl e14) rfl
                  · intro a W hI hun haft hi
                    have fg : a.eval (.tmp 89) = .bool false := haft ⟨11, .guard⟩ (by simp) rfl _ _ rfl rfl
                    have f12 : a.eval (.tmp 90) = .slice (some ⟨g2, 0, none⟩) M c13 := haft ⟨12, .data⟩ (by simp) rfl _ _ rfl rfl
                    have f13 : a.eval (.tmp 91) = .int .i64 t := haft ⟨13, .data⟩ (by simp) rfl _ _ rfl rfl
                    exact b_same hi hI (guard_ok rfl rfl rfl fg) _ (run_indexAddr_op rfl f12 f13 (at_It g2 c13 M t hlt2 _)) rfl
                  · intro a W hI hun haft hi
                    have fg : a.eval (.tmp 89) = .bool false := haft ⟨11, .guard⟩ (by simp) rfl _ _ rfl rfl
                    have f14 : a.eval (.tmp 92) = .pointer (some ⟨g2, t * 6, none⟩) := haft ⟨14, .data⟩ (by simp) rfl _ _ rfl rfl
                    exact b_same hi hI (guard_ok rfl rfl rfl fg) _ (run_fieldAddr_any rfl f14 (at_item1 _ _ _)) rfl
                  · intro a W hI hun haft hi
                    have fg : a.eval (.tmp 89) = .bool false := haft ⟨11, .guard⟩ (by simp) rfl _ _ rfl rfl
                    have f15 : a.eval (.tmp 93) = .pointer (some ⟨g2, t * 6 + 5, none⟩) := haft ⟨15, .data⟩ (by simp) rfl _ _ rfl rfl
                    exact b_same hi hI (guard_ok rfl rfl rfl fg) _ (run_loadsl_op rfl f15 Try.underlying44 (HE2.out W (HBt.out.trans (hI.mono HBt.out.size))).2) rfl
                  · intro a W hI hun haft hi
                    have fg : a.eval (.tmp 89) = .bool false := haft ⟨11, .guard⟩ (by simp) rfl _ _ rfl rfl
                    have f16 : a.eval (.tmp 94) = .slice P2 n d2 := haft ⟨16, .data⟩ (by simp) rfl _ _ rfl rfl
                    exact b_same hi hI (guard_ok rfl rfl rfl fg) _ (run_len_op Try.underlying44 rfl f16) rfl
                  · intro a W hI hun haft hi
                    have fg : a.eval (.tmp 89) = .bool false := haft ⟨11, .guard⟩ (by simp) rfl _ _ rfl rfl
                    have e11 : a.eval (.tmp 11) = .slice (some ⟨g1, 0, none⟩) M c11 := hun 11 (by kernel_rfl)
                    exact b_same hi hI (guard_ok rfl rfl rfl fg) _ (run_move_op rfl e11) rfl
                  · intro a W hI hun haft hi
                    have fg : a.eval (.tmp 89) = .bool false := haft ⟨11, .guard⟩ (by simp) rfl _ _ rfl rfl
                    have e14 : a.eval (.tmp 14) = .int .i64 t := hun 14 (by kernel_rfl)
                    exact b_same hi hI (guard_ok rfl rfl rfl fg) _ (run_move_op rfl e14) rfl
                  · intro a W hI hun haft hi
                    have fg : a.eval (.tmp 89) = .bool false := haft ⟨11, .guard⟩ (by simp) rfl _ _ rfl rfl
                    have f18 : a.eval (.tmp 96) = .slice (some ⟨g1, 0, none⟩) M c11 := haft ⟨18, .data⟩ (by simp) rfl _ _ rfl rfl
                    have f19 : a.eval (.tmp 97) = .int .i64 t := haft ⟨19, .data⟩ (by simp) rfl _ _ rfl rfl
                    exact b_same hi hI (guard_ok rfl rfl rfl fg) _ (run_indexAddr_op rfl f18 f19 (at_It g1 c11 M t hlt2 _)) rfl
                  · intro a W hI hun haft hi
                    have fg : a.eval (.tmp 89) = .bool false := haft ⟨11, .guard⟩ (by simp) rfl _ _ rfl rfl
                    have f20 : a.eval (.tmp 98) = .pointer (some ⟨g1, t * 6, none⟩) := haft ⟨20, .data⟩ (by simp) rfl _ _ rfl rfl
                    exact b_same hi hI (guard_ok rfl rfl rfl fg) _ (run_fieldAddr_any rfl f20 (at_item1 _ _ _)) rfl
                  · intro a W hI hun haft hi
                    have fg : a.eval (.tmp 89) = .bool false := haft ⟨11, .guard⟩ (by simp) rfl _ _ rfl rfl
                    have f21 : a.eval (.tmp 99) = .pointer (some ⟨g1, t * 6 + 5, none⟩) := haft ⟨21, .data⟩ (by simp) rfl _ _ rfl rfl
                    exact b_same hi hI (guard_ok rfl rfl rfl fg) _ (run_loadsl_op rfl f21 Try.underlying44 (HE1.out W (HBt.out.trans (hI.mono HBt.out.size))).2) rfl
                  · intro a W hI hun haft hi
                    have fg : a.eval (.tmp 89) = .bool false := haft ⟨11, .guard⟩ (by simp) rfl _ _ rfl rfl
                    have f22 : a.eval (.tmp 100) = .slice P1 n d1 := haft ⟨22, .data⟩ (by simp) rfl _ _ rfl rfl
                    exact b_same hi hI (guard_ok rfl rfl rfl fg) _ (run_len_op Try.underlying44 rfl f22) rfl
                  · intro a W hI hun haft hi
                    have fg : a.eval (.tmp 89) = .bool false := haft ⟨11, .guard⟩ (by simp) rfl _ _ rfl rfl
                    have f17 : a.eval (.tmp 95) = .int .i64 n := haft ⟨17, .data⟩ (by simp) rfl _ _ rfl rfl
                    have f23 : a.eval (.tmp 101) = .int .i64 n := haft ⟨23, .data⟩ (by simp) rfl _ _ rfl rfl
                    exact b_same hi hI (guard_ok rfl rfl rfl fg) (.bool false) (run_bin_op rfl f17 f23 (guardI _ _ _ _ _ _ _) (run_nei (q := true) (by simp) _)) rfl
                  · intro a W hI hun haft hi
                    have f11 : a.eval (.tmp 89) = .bool false := haft ⟨11, .data⟩ (by simp) rfl _ _ rfl rfl
                    have f24 : a.eval (.tmp 102) = .bool false := haft ⟨24, .data⟩ (by simp) rfl _ _ rfl rfl
                    exact b_same hi hI rfl _ (run_pick_op (b := false) rfl f11 rfl f24) rfl
                · intro vals W hI hp
                  have hl0 : vals 0 = .slice (some ⟨g2, 0, none⟩) M c13 := hp 0 (by decide)
                  have hl1 : vals 1 = .int .i64 t := hp 1 (by decide)
                  have hl2 : vals 2 = .pointer (some ⟨g2, t * 6, none⟩) := hp 2 (by decide)
                  have hl3 : vals 3 = .pointer (some ⟨g2, t * 6, none⟩) := hp 3 (by decide)
                  have hl4 : vals 4 = eE x := hp 4 (by decide)
                  have hl5 : vals 5 = .slice (some ⟨g1, 0, none⟩) M c11 := hp 5 (by decide)
                  have hl6 : vals 6 = .int .i64 t := hp 6 (by decide)
                  have hl7 : vals 7 = .pointer (some ⟨g1, t * 6, none⟩) := hp 7 (by decide)
                  have hl8 : vals 8 = .pointer (some ⟨g1, t * 6, none⟩) := hp 8 (by decide)
                  have hl9 : vals 9 = eE x := hp 9 (by decide)
                  have hl10 : vals 10 = .bool false := hp 10 (by decide)
                  have hl11 : vals 11 = .bool false := hp 11 (by decide)
                  have hl12 : vals 12 = .slice (some ⟨g2, 0, none⟩) M c13 := hp 12 (by decide)
                  have hl13 : vals 13 = .int .i64 t := hp 13 (by decide)
                  have hl14 : vals 14 = .pointer (some ⟨g2, t * 6, none⟩) := hp 14 (by decide)
                  have hl15 : vals 15 = .pointer (some ⟨g2, t * 6 + 5, none⟩) := hp 15 (by decide)
                  have hl16 : vals 16 = .slice P2 n d2 := hp 16 (by decide)
                  have hl17 : vals 17 = .int .i64 n := hp 17 (by decide)
                  have hl18 : vals 18 = .slice (some ⟨g1, 0, none⟩) M c11 := hp 18 (by decide)
                  have hl19 : vals 19 = .int .i64 t := hp 19 (by decide)
                  have hl20 : vals 20 = .pointer (some ⟨g1, t * 6, none⟩) := hp 20 (by decide)
                  have hl21 : vals 21 = .pointer (some ⟨g1, t * 6 + 5, none⟩) := hp 21 (by decide)
                  have hl22 : vals 22 = .slice P1 n d1 := hp 22 (by decide)
                  have hl23 : vals 23 = .int .i64 n := hp 23 (by decide)
                  have hl24 : vals 24 = .bool false := hp 24 (by decide)
                  have hl25 : vals 25 = .bool false := hp 25 (by decide)
                  have HI := Lib.hid hI
                  clear hp hI
                  simp only [layN, List.size_toArray, List.length_cons, List.length_nil, List.range, List.range.loop, if_true, List.getElem?_toArray, List.getElem?_cons_zero, List.getElem?_cons_succ, Act.put, List.setIfInBounds_toArray, List.set_cons_zero, List.set_cons_succ, Nat.zero_add, Nat.reduceAdd, hl0, hl1, hl2, hl3, hl4, hl5, hl6, hl7, hl8, hl9, hl10, hl11, hl12, hl13, hl14, hl15, hl16, hl17, hl18, hl19, hl20, hl21, hl22, hl23, hl24, hl25]
                  clear hl0 hl1 hl2 hl3 hl4 hl5 hl6 hl7 hl8 hl9 hl10 hl11 hl12 hl13 hl14 hl15 hl16 hl17 hl18 hl19 hl20 hl21 hl22 hl23 hl24 hl25
                  have hbi := HBt.out.trans (HI.out.mono HBt.out.size)
                  have HBi := Lib.hid hbi
                  have cs1 := (HE1.out W hbi).2
                  clear hbi HI
                  go_wp2_with (first
                    | (refine wpList_val (o := ⟨some 106, _, _, _, _, _⟩) rfl (.pointer (some ⟨g1, t * 6, none⟩)) W (run_indexAddr_op rfl rfl rfl (at_It g1 c11 M t hlt2 W)) ?_)
                    | fail)
                  clear cs1
                  go_loopw [110] (fun v110 wr => ∃ ii : Nat, v110 = .int .i64 ii ∧ ii ≤ n ∧ Below w12.heap.size w12 wr) (fun v110 _ => n - (intOf v110).toNat)
                  case atStart => exact ⟨0, rfl, Nat.zero_le _, HBi.out⟩
                  case round =>
                    obtain ⟨ii, rfl, hi0, hbi⟩ := hrel
                    have HBj := Lib.hid hbi
                    clear hbi
                    by_cases hlt3 : ii < n
                    · obtain ⟨y, hy⟩ : ∃ y, L[ii]? = some y := ⟨L[ii]'(by rw [HLn.out]; exact hlt3), List.getElem?_eq_getElem _⟩
                      obtain ⟨h1, rfl, _, hh1, he1⟩ := HO1.out.at_ enN_len hy
                      obtain ⟨h2, rfl, _, hh2, he2⟩ := HO2.out.at_ enN_len hy
                      have HY1 : Hid (∀ W, Below w12.heap.size w12 W → W.rangeAt h1 (ii * 5) (enN y)) := Lib.hid fun W h => rangeAt_below he1 hh1 h
                      have HY2 : Hid (∀ W, Below w12.heap.size w12 W → W.rangeAt h2 (ii * 5) (enN y)) := Lib.hid fun W h => rangeAt_below he2 hh2 h
                      clear hy hh1 he1 hh2 he2
                      go_upto_region 30 with fail
                      refine wp_region_any (by kernel_rfl) ?_
                      refine wpAny_below (fun i uq _ => uq = ([.slice (some ⟨g2, 0, none⟩) M c13, .int .i64 t, .pointer (some ⟨g2, t * 6, none⟩), .pointer (some ⟨g2, t * 6 + 5, none⟩), .slice (some ⟨h2, 0, none⟩) n d2, .int .i64 ii, .pointer (some ⟨h2, ii * 5, none⟩), enV y.1 y.2, .slice (some ⟨g1, 0, none⟩) M c11, .int .i64 t, .pointer (some ⟨g1, t * 6, none⟩), .pointer (some ⟨g1, t * 6 + 5, none⟩), .slice (some ⟨h1, 0, none⟩) n d1, .int .i64 ii, .pointer (some ⟨h1, ii * 5, none⟩), enV y.1 y.2, .bool false] : List Value).getD i undef) _ wr (by kernel_rfl) (by kernel_rfl) (by kernel_rfl) (fun i v w w' _ h => h) ?_ ?_
                      · refine ⟨?_, ?_, ?_, ?_, ?_, ?_, ?_, ?_, ?_, ?_, ?_, ?_, ?_, ?_, ?_, ?_, ?_, trivial⟩
                        · intro a W hI hun haft hi
                          have e13 : a.eval (.tmp 13) = .slice (some ⟨g2, 0, none⟩) M c13 := hun 13 (by kernel_rfl)
                          exact b_same hi hI rfl _ (run_move_op rfl e13) rfl
                        · intro a W hI hun haft hi
                          have e14 : a.eval (.tmp 14) = .int .i64 t := hun 14 (by kernel_rfl)
                          exact b_same hi hI rfl _ (run_move_op rfl e14) rfl
                        · intro a W hI hun haft hi
                          have f0 : a.eval (.tmp 113) = .slice (some ⟨g2, 0, none⟩) M c13 := haft ⟨0, .data⟩ (by simp) rfl _ _ rfl rfl
                          have f1 : a.eval (.tmp 114) = .int .i64 t := haft ⟨1, .data⟩ (by simp) rfl _ _ rfl rfl
                          exact b_same hi hI rfl _ (run_indexAddr_op rfl f0 f1 (at_It g2 c13 M t hlt2 _)) rfl
                        · intro a W hI hun haft hi
                          have f2 : a.eval (.tmp 115) = .pointer (some ⟨g2, t * 6, none⟩) := haft ⟨2, .data⟩ (by simp) rfl _ _ rfl rfl
                          exact b_same hi hI rfl _ (run_fieldAddr_any rfl f2 (at_item1 _ _ _)) rfl
                        · intro a W hI hun haft hi
                          have f3 : a.eval (.tmp 116) = .pointer (some ⟨g2, t * 6 + 5, none⟩) := haft ⟨3, .data⟩ (by simp) rfl _ _ rfl rfl
                          exact b_same hi hI rfl _ (run_loadsl_op rfl f3 Try.underlying44 (HE2.out W (HBj.out.trans (hI.mono HBj.out.size))).2) rfl
                        · intro a W hI hun haft hi
                          have e15 : a.eval (.tmp 15) = .int .i64 ii := hun 15 (by kernel_rfl)
                          exact b_same hi hI rfl _ (run_move_op rfl e15) rfl
                        · intro a W hI hun haft hi
                          have f4 : a.eval (.tmp 117) = .slice (some ⟨h2, 0, none⟩) n d2 := haft ⟨4, .data⟩ (by simp) rfl _ _ rfl rfl
                          have f5 : a.eval (.tmp 118) = .int .i64 ii := haft ⟨5, .data⟩ (by simp) rfl _ _ rfl rfl
                          exact b_same hi hI rfl _ (run_indexAddr_op rfl f4 f5 (at_N0 h2 d2 n ii hlt3 _)) rfl
                        · intro a W hI hun haft hi
                          have f6 : a.eval (.tmp 119) = .pointer (some ⟨h2, ii * 5, none⟩) := haft ⟨6, .data⟩ (by simp) rfl _ _ rfl rfl
                          exact b_same hi hI rfl _ (run_loadmid_op rfl f6 (HY2.out W (HBj.out.trans (hI.mono HBj.out.size))) Try.underlying48 rfl (by kernel_rfl)) rfl
                        · intro a W hI hun haft hi
                          have e11 : a.eval (.tmp 11) = .slice (some ⟨g1, 0, none⟩) M c11 := hun 11 (by kernel_rfl)
                          exact b_same hi hI rfl _ (run_move_op rfl e11) rfl
                        · intro a W hI hun haft hi
                          have e14 : a.eval (.tmp 14) = .int .i64 t := hun 14 (by kernel_rfl)
                          exact b_same hi hI rfl _ (run_move_op rfl e14) rfl
                        · intro a W hI hun haft hi
                          have f8 : a.eval (.tmp 121) = .slice (some ⟨g1, 0, none⟩) M c11 := haft ⟨8, .data⟩ (by simp) rfl _ _ rfl rfl
                          have f9 : a.eval (.tmp 122) = .int .i64 t := haft ⟨9, .data⟩ (by simp) rfl _ _ rfl rfl
                          exact b_same hi hI rfl _ (run_indexAddr_op rfl f8 f9 (at_It g1 c11 M t hlt2 _)) rfl
                        · intro a W hI hun haft hi
                          have f10 : a.eval (.tmp 123) = .pointer (some ⟨g1, t * 6, none⟩) := haft ⟨10, .data⟩ (by simp) rfl _ _ rfl rfl
                          exact b_same hi hI rfl _ (run_fieldAddr_any rfl f10 (at_item1 _ _ _)) rfl
                        · intro a W hI hun haft hi
                          have f11 : a.eval (.tmp 124) = .pointer (some ⟨g1, t * 6 + 5, none⟩) := haft ⟨11, .data⟩ (by simp) rfl _ _ rfl rfl
                          exact b_same hi hI rfl _ (run_loadsl_op rfl f11 Try.underlying44 (HE1.out W (HBj.out.trans (hI.mono HBj.out.size))).2) rfl
                        · intro a W hI hun haft hi
                          have e15 : a.eval (.tmp 15) = .int .i64 ii := hun 15 (by kernel_rfl)
                          exact b_same hi hI rfl _ (run_move_op rfl e15) rfl
                        · intro a W hI hun haft hi
                          have f12 : a.eval (.tmp 125) = .slice (some ⟨h1, 0, none⟩) n d1 := haft ⟨12, .data⟩ (by simp) rfl _ _ rfl rfl
                          have f13 : a.eval (.tmp 126) = .int .i64 ii := haft ⟨13, .data⟩ (by simp) rfl _ _ rfl rfl
                          exact b_same hi hI rfl _ (run_indexAddr_op rfl f12 f13 (at_N0 h1 d1 n ii hlt3 _)) rfl
                        · intro a W hI hun haft hi
                          have f14 : a.eval (.tmp 127) = .pointer (some ⟨h1, ii * 5, none⟩) := haft ⟨14, .data⟩ (by simp) rfl _ _ rfl rfl
                          exact b_same hi hI rfl _ (run_loadmid_op rfl f14 (HY1.out W (HBj.out.trans (hI.mono HBj.out.size))) Try.underlying48 rfl (by kernel_rfl)) rfl
                        · intro a W hI hun haft hi
                          have f7 : a.eval (.tmp 120) = enV y.1 y.2 := haft ⟨7, .data⟩ (by simp) rfl _ _ rfl rfl
                          have f15 : a.eval (.tmp 128) = enV y.1 y.2 := haft ⟨15, .data⟩ (by simp) rfl _ _ rfl rfl
                          exact b_same hi hI rfl (.bool false) (run_bin_op rfl f7 f15 (by kernel_rfl) (ne_N y.1 y.2 _)) rfl
                      · intro vals W hI hp
                        have hl0 : vals 0 = .slice (some ⟨g2, 0, none⟩) M c13 := hp 0 (by decide)
                        have hl1 : vals 1 = .int .i64 t := hp 1 (by decide)
                        have hl2 : vals 2 = .pointer (some ⟨g2, t * 6, none⟩) := hp 2 (by decide)
                        have hl3 : vals 3 = .pointer (some ⟨g2, t * 6 + 5, none⟩) := hp 3 (by decide)
                        have hl4 : vals 4 = .slice (some ⟨h2, 0, none⟩) n d2 := hp 4 (by decide)
                        have hl5 : vals 5 = .int .i64 ii := hp 5 (by decide)
                        have hl6 : vals 6 = .pointer (some ⟨h2, ii * 5, none⟩) := hp 6 (by decide)
                        have hl7 : vals 7 = enV y.1 y.2 := hp 7 (by decide)
                        have hl8 : vals 8 = .slice (some ⟨g1, 0, none⟩) M c11 := hp 8 (by decide)
                        have hl9 : vals 9 = .int .i64 t := hp 9 (by decide)
                        have hl10 : vals 10 = .pointer (some ⟨g1, t * 6, none⟩) := hp 10 (by decide)
                        have hl11 : vals 11 = .pointer (some ⟨g1, t * 6 + 5, none⟩) := hp 11 (by decide)
                        have hl12 : vals 12 = .slice (some ⟨h1, 0, none⟩) n d1 := hp 12 (by decide)
                        have hl13 : vals 13 = .int .i64 ii := hp 13 (by decide)
                        have hl14 : vals 14 = .pointer (some ⟨h1, ii * 5, none⟩) := hp 14 (by decide)
                        have hl15 : vals 15 = enV y.1 y.2 := hp 15 (by decide)
                        have hl16 : vals 16 = .bool false := hp 16 (by decide)
                        have HI := Lib.hid hI
                        clear hp hI
                        simp only [layN, List.size_toArray, List.length_cons, List.length_nil, List.range, List.range.loop, if_true, List.getElem?_toArray, List.getElem?_cons_zero, List.getElem?_cons_succ, Act.put, List.setIfInBounds_toArray, List.set_cons_zero, List.set_cons_succ, Nat.zero_add, Nat.reduceAdd, hl0, hl1, hl2, hl3, hl4, hl5, hl6, hl7, hl8, hl9, hl10, hl11, hl12, hl13, hl14, hl15, hl16]
                        clear hl0 hl1 hl2 hl3 hl4 hl5 hl6 hl7 hl8 hl9 hl10 hl11 hl12 hl13 hl14 hl15 hl16
                        have HBk := Lib.hid (HBj.out.trans (HI.out.mono HBj.out.size))
                        clear HI
                        have hw := IntWalk.i64_in ((ii : Int) + 1) (by have := HL6.out; omega)
                        have hjm : ¬ 9223372036854775807 < ii + 1 := by have := HL6.out; omega
                        go_wp2
                        go_roundw
                        case rel => exact ⟨ii + 1, by go_num, by omega, HBk.out⟩
                        case measure => simp [intOf] <;> omega
                    · have hin : ii = n := by omega
                      subst hin
                      have hw := IntWalk.i64_in ((t : Int) + 1) (by have := HM6.out; omega)
                      have hjm : ¬ 9223372036854775807 < t + 1 := by have := HM6.out; omega
                      go_wp2
                      go_roundw
                      case rel => exact ⟨t + 1, by go_num, by omega, HBj.out⟩
                      case measure => simp [intOf] <;> omega
              · go_wp2
                go_ret
                exact ⟨rfl, HBf.out.trans (HBt.out.mono HBf.out.size)⟩

end Go.Proofs.Ytfmkfnegkhfchaa
