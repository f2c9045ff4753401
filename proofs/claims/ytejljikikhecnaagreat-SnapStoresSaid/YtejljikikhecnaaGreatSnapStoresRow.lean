/-
  hedgerowlaw12.SnapStores answers true for all arguments, and leaves all memory as it was. Conditions: none.
-/
import Derived.Test.YtejljikikhecnaaGreatSnStA
import Derived.Test.YtejljikikhecnaaGreatSnFixed
import Derived.Deep.DeepCutAuto
import Derived.Test.YtejljikikhecnaaGreatArgsEc
namespace Go.Proofs.YtejljikikhecnaaGreat
open Go.RowKit Go.MapKept Go.Sort

theorem short_isS (e : Ev) (hl : Fit e) (b : Bool) (h : shortB e = b) (w : World) : Calls Tryz.prog 15 #[evV e] w (Gives w (.bool b)) := by
  have := short_any e w hl; rwa [h] at this
theorem ItemsIs.form {w : World} {base : Nat} {v : Value} {σ : List (El × List (Dt × Va))} {es : List El} (h : ItemsIs w base v σ es) : ∃ A c, v = .slice A es.length c := by
  obtain ⟨acc, h1, h2, _⟩ := h
  obtain ⟨A, c, hv⟩ := OwnK.form h1
  exact ⟨A, c, by rw [hv, ← h2, List.length_map]⟩
theorem ItemsIs.other {w : World} {base g : Nat} {v : Value} {σ : List (El × List (Dt × Va))} {es : List El} {cs cs' : Array Value} (h : ItemsIs w base v σ es) (hb : Blk w g 27 cs) : ItemsIs (w.setRow g cs') base v σ es := by
  obtain ⟨acc, h1, h2, h3⟩ := h
  refine ⟨acc, ?_, h2, fun p hp => ?_⟩
  · have hne := own_ne_blk h1 hb (by decide)
    exact h1.same fun q hq => setRow_other _ _ _ _ (fun e => hne (by rw [hq, e]))
  · obtain ⟨l', q1, q2, q3⟩ := h3 p hp
    have hne := own_ne_blk q3 hb (by decide)
    exact ⟨l', q1, q2, q3.same fun q hq => setRow_other _ _ _ _ (fun e => hne (by rw [hq, e]))⟩
theorem ItemsIs.perm {w : World} {base : Nat} {v : Value} {σ τ : List (El × List (Dt × Va))} {es : List El} (h : ItemsIs w base v τ es) (he : ∀ x, (entS x τ).Perm (entS x σ)) : ItemsIs w base v σ es := by
  obtain ⟨acc, h1, h2, h3⟩ := h
  refine ⟨acc, h1, h2, fun p hp => ?_⟩
  obtain ⟨l', q1, q2, q3⟩ := h3 p hp
  exact ⟨l', q1.trans (he _), q2, q3⟩
/-- All items of a store. -/
def AllI (W : World) (σ : List (El × List (Dt × Va))) (u : Value) : Prop := ∃ base es, ItemsIs W base u σ es ∧ es.Perm (keysL σ) ∧ es.Pairwise fun x y => ltOf cfE y x = false
theorem AllI.keep {W W' : World} {σ : List (El × List (Dt × Va))} {u : Value} (h : AllI W σ u) (hb : Below W.heap.size W W') : AllI W' σ u := by
  obtain ⟨base, es, h1, h2, h3⟩ := h
  exact ⟨base, es, h1.keep hb, h2, h3⟩
theorem AllI.one {W : World} {σ : List (El × List (Dt × Va))} {u : Value} (h : AllI W σ u) : ∃ A n c, u = .slice A n c := by
  obtain ⟨base, es, h1, _⟩ := h
  obtain ⟨A, c, hv⟩ := h1.form
  exact ⟨A, _, c, hv⟩
theorem AllI.its {W : World} {σ : List (El × List (Dt × Va))} {u : Value} (h : AllI W σ u) : ∃ A I c, u = .slice A I.length c ∧ CanI σ I ∧ ItsIs W (.slice A I.length c) I := by
  obtain ⟨base, es, h1, h2, h3⟩ := h
  obtain ⟨I, q1, q2, _⟩ := its_of h1 h2 h3
  obtain ⟨A, c, rfl⟩ := q1.form
  exact ⟨A, I, c, rfl, q2, q1⟩
theorem all_I {w : World} {sb B : Nat} {τ σ : List (El × List (Dt × Va))} (h : StAt w sb B τ) (hO : OkS σ) (ht : totS σ ≤ 60) (hk : (keysL τ).Perm (keysL σ)) (he : ∀ x, (entS x τ).Perm (entS x σ)) :
    Calls Tryz.prog 19 #[.pointer (some ⟨sb, 0, none⟩)] w fun e w' => ∃ u, e = .returned u ∧ AllI w' σ u ∧ Below w.heap.size w w' := by
  have hl : τ.length ≤ 60 := by
    have h1 := hk.length_eq
    have h2 := hO.len
    simp [keysL] at h1
    omega
  refine (all_at h (by omega) (fun x => by have := (he x).length_eq; have := tot_ent (x := x) (σ := σ); omega)).mono ?_
  rintro e w' ⟨v, es, rfl, h1, h2, h3, hb⟩
  exact ⟨v, rfl, ⟨_, es, h3.perm he, h1.trans hk, h2⟩, hb⟩
/-- A snapshot is laid. -/
def Laid (V : World) (f : Nat → Int) (σ : List (El × List (Dt × Va))) (row : Value) (v : Value) (W : World) : Prop := ∃ g u, v = .pointer (some ⟨g, 0, none⟩) ∧ SB W g f u row ∧ AllI W σ u ∧ Below V.heap.size V W
def pS (sa : Nat) (f : Nat → Int) (σ : List (El × List (Dt × Va))) (row : Value) (q : Nat) (i : Nat) (v : Value) (W : World) : Prop := match i with
  | 0 => v = .agg (vA f)
  | 1 => v = .pointer (some ⟨sa, 0, none⟩)
  | 2 => AllI W σ v
  | 3 => v = row
  | 4 => ∃ u, v = .agg (sC f u row) ∧ AllI W σ u
  | 5 => ∃ g, v = .pointer (some ⟨g, 0, none⟩) ∧ q ≤ g ∧ Blk W g 27 (sC (fun _ => 0) (.slice none 0 0) (.slice none 0 0))
  | _ => True
theorem pS_keep {sa : Nat} {f : Nat → Int} {σ : List (El × List (Dt × Va))} {row : Value} {q : Nat} (i : Nat) (v : Value) (w w' : World) (hb : Below w.heap.size w w') (h : pS sa f σ row q i v w) : pS sa f σ row q i v w' := by
  unfold pS at *
  split at h
  · exact h
  · exact h
  · exact h.keep hb
  · exact h
  · obtain ⟨u, e, h⟩ := h
    exact ⟨u, e, h.keep hb⟩
  · obtain ⟨g, e, hq, h⟩ := h
    exact ⟨g, e, hq, Blk.below h hb (Blk.lt h)⟩
  · trivial
def pT (f : Nat → Int) (σ : List (El × List (Dt × Va))) (row s : Value) (q : Nat) (i : Nat) (v : Value) (W : World) : Prop := match i with
  | 0 => v = .agg (vA f)
  | 1 => v = s
  | 2 => ∃ sb B τ, v = .pointer (some ⟨sb, 0, none⟩) ∧ StAt W sb B τ ∧ (keysL τ).Perm (keysL σ) ∧ ∀ x, (entS x τ).Perm (entS x σ)
  | 3 => AllI W σ v
  | 4 => v = row
  | 5 => ∃ u, v = .agg (sC f u row) ∧ AllI W σ u
  | 6 => ∃ g, v = .pointer (some ⟨g, 0, none⟩) ∧ q ≤ g ∧ Blk W g 27 (sC (fun _ => 0) (.slice none 0 0) (.slice none 0 0))
  | _ => True
theorem pT_keep {f : Nat → Int} {σ : List (El × List (Dt × Va))} {row s : Value} {q : Nat} (i : Nat) (v : Value) (w w' : World) (hb : Below w.heap.size w w') (h : pT f σ row s q i v w) : pT f σ row s q i v w' := by
  unfold pT at *
  split at h
  · exact h
  · exact h
  · obtain ⟨sb, B, τ, e, h1, h2⟩ := h
    exact ⟨sb, B, τ, e, h1.keep hb, h2⟩
  · exact h.keep hb
  · exact h
  · obtain ⟨u, e, h⟩ := h
    exact ⟨u, e, h.keep hb⟩
  · obtain ⟨g, e, hq, h⟩ := h
    exact ⟨g, e, hq, Blk.below h hb (Blk.lt h)⟩
  · trivial
theorem bdSn (f : Nat → Int) (A B : Option Addr) (a b c d : Nat) (w : World) : (Instr.build 27 #[(0, .agg (vA f)), (1, .slice A a b), (2, .slice B c d)]).run Tryz.prog w = .ok (.agg (sC f (.slice A a b) (.slice B c d))) w := by kernel_rfl
theorem run_alloc_opS {o : Oper} {ρ : Operand → Value} {w : World} (ho : o.op = .alloc 27) : (execOp ρ o).run Tryz.prog w = .ok (.value (.pointer (some ⟨w.heap.size, 0, none⟩))) (w.alloc (.cells (sC (fun _ => 0) (.slice none 0 0) (.slice none 0 0)) 27)) := by
  have hz := (zero_of_info zeroSn).1 w
  unfold execOp
  simp [ho, Instr.alloc, hz, newVar, Sem.run_bind, Result.andThen, go_sem, Value.cells]
theorem sbytes_S (f : Nat → Int) (I : List (El × List (Dt × Va))) (E : List Ev) (A A' : Option Addr) (N N' c c' : Nat) (hr : rightS f I E = true) (hN : I.length = N) (hN2 : N ≤ 10000) (hx : ∀ q ∈ I, ItFits q) (hM : E.length = N') (hM2 : N' ≤ 10000) (hl : ∀ e ∈ E, Lens e) (L : List UInt8) (hL : bytesS f I E = L) (hlen : L.length ≤ 100000) (w : World) (hs : ItsIs w (.slice A N c) I) (he : SlK encE 27 w (.slice A' N' c') E) (hw : CutOk w) :
    Calls Tryz.prog 8 #[sV f (.slice A N c) (.slice A' N' c')] w fun e w' => ∃ B n d, e = .returned (.tuple #[.slice B n d, .int .i64 0]) ∧ Sl bv w' (.slice B n d) L ∧ Below w.heap.size w w' := by
  refine (sbytes_any f I E A A' N N' c c' w hs hN hN2 hx he hM hM2 hl hw (by rw [hL]; omega)).mono ?_
  rintro e w' ⟨v, rfl, ho, hb⟩
  rw [hr, if_pos rfl, hL] at ho
  have h2 := own_slS ho rfl
  obtain ⟨B, d, rfl⟩ := h2.form
  exact ⟨B, _, d, by rw [hr]; rfl, h2, hb⟩
theorem laid_S {V W : World} {f : Nat → Int} {σ : List (El × List (Dt × Va))} {A : Option Addr} {a b q : Nat} (hI : Below V.heap.size V W) (hq : V.heap.size ≤ q) {x : Value} {g : Nat} {u : Value} (hx : x = .pointer (some ⟨g, 0, none⟩)) (hg : q ≤ g) (hb : Blk W g 27 (sC (fun _ => 0) (.slice none 0 0) (.slice none 0 0))) (hu : AllI W σ u) : Laid V f σ (.slice A a b) x (W.setRow g (sC f u (.slice A a b))) := by
  obtain ⟨A', n, c, rfl⟩ := hu.one
  obtain ⟨base, es, h1, h2, h3⟩ := hu
  exact ⟨g, _, hx, setRow_blk _ _ _ _ _ hb, ⟨base, es, h1.other hb, h2, h3⟩, hI.trans (setRow_below _ _ _ _ (by omega))⟩

set_option maxRecDepth 100000 in
set_option maxHeartbeats 8000000 in
theorem snstores_walk (l : List Ev) (A : Option Addr) (N c : Nat) (w : World) (hs : SlK encE 27 w (.slice A N c) l) (hN : l.length = N) (hf : ∀ e ∈ l, Fit e) (hcn : ∀ e ∈ l, CanonV e.p) (hw : CutOk w) :
    Calls Tryz.prog 5 #[.slice A N c] w (Gives w (.bool true)) := by
  have HS := Lib.hid hs
  have HN := Lib.hid hN
  have HFt := Lib.hid hf
  have HCn := Lib.hid hcn
  have HCw := Lib.hid hw
  have HZe := Lib.hid (zero_of_info zeroE).1
  have HZv := Lib.hid (zero_of_info zeroV).1
  have HZs := Lib.hid (zero_of_info zeroSn).1
  by_cases hbig : 60 < N
  · have hbg : decide ((60 : Int) < (N : Int)) = true := decide_eq_true (by omega)
    clear hs hN hf hcn hw hbig
    go_enter Tryz.func5, Tryz.ntmps5
    go_wp2_with fail
    refine (sfixed_any w HCw.out).mono ?_
    rintro e w1 ⟨rfl, hb⟩
    have HB1 := Lib.hid hb
    clear hb
    go_wp2
    go_ret
    exact ⟨rfl, HB1.out⟩
  have H60 := Lib.hid (show N ≤ 60 by omega)
  have hbg : decide ((60 : Int) < (N : Int)) = false := decide_eq_false (by omega)
  clear hs hN hf hcn hw hbig
  go_enter Tryz.func5, Tryz.ntmps5
  go_wp2_with fail
  refine (sfixed_any w HCw.out).mono ?_
  rintro e w1 ⟨rfl, hb⟩
  have HB1 := Lib.hid hb
  clear hb
  go_wp2_with fail
  clear hbg
  go_loopw [23] (fun v23 wr => ∃ j : Nat, v23 = .int .i64 j ∧ j ≤ N ∧ (∀ k e, k < j → l[k]? = some e → shortB e = true) ∧ Below w.heap.size w wr) (fun v23 _ => N - (intOf v23).toNat)
  case atStart => exact ⟨0, rfl, Nat.zero_le _, fun k e hk => absurd hk (Nat.not_lt_zero _), HB1.out⟩
  case round =>
    obtain ⟨j, rfl, hj, hok, hbw⟩ := hrel
    obtain ⟨we, rfl⟩ : ∃ we, we = wr := ⟨_, rfl⟩
    have HOk := Lib.hid hok
    have HBw := Lib.hid hbw
    clear hok hbw
    by_cases hlt : j < N
    case pos =>
      obtain ⟨e, he⟩ : ∃ e, l[j]? = some e := ⟨l[j]'(by rw [HN.out]; exact hlt), List.getElem?_eq_getElem _⟩
      obtain ⟨g, o, rfl, hgl, hce⟩ := (HS.out.below HBw.out).ev he
      have HCe := Lib.hid hce
      have HFe := Lib.hid (HFt.out e (List.mem_of_getElem? he))
      have HAt := Lib.hid (at_Ev g o c N j hlt we)
      have He := Lib.hid he
      have HLt := Lib.hid hlt
      have HAl := Lib.hid fun c => World.setRow_alloc_new we (evC ev0) c 49
      have HZz := Lib.hid (show Blk (we.alloc (.cells (evC ev0) 49)) we.heap.size 49 (evC ev0) from Blk.new _ _ _)
      obtain ⟨Y, hY⟩ : ∃ Y, Y = we.alloc (.cells (evC e) 49) := ⟨_, rfl⟩
      have hbY : Below we.heap.size we Y := by rw [hY]; exact (Below.refl _ _).alloc (Nat.le_refl _) _
      have HBY := Lib.hid (show Blk Y we.heap.size 49 (evC e) by rw [hY]; exact Blk.new _ _ _)
      have HYe := Lib.hid hY
      have HbY := Lib.hid (HBw.out.trans (hbY.mono HBw.out.size))
      clear hY hbY hce hgl he hlt hj
      cases hsh : shortB e
      · have HSh := Lib.hid (short_isS e HFe.out false hsh)
        clear hsh
        have hz := HZe.out
        go_wp2_with (first
          | (refine wpList_val (o := ⟨some 25, _, _, _, _, _⟩) rfl (.pointer (some ⟨g, o + j * 27, none⟩)) we (run_indexAddr_op rfl rfl rfl HAt.out) ?_)
          | (refine wpList_load_midif rfl 49 (.tmp 25) rfl g (o + j * 27) rfl (encE e) _ HCe.out Tryz.underlying49 rfl (sizeE e) ?_)
          | (refine wpList_store_row rfl 49 (.tmp 4) (.tmp 26) rfl we.heap.size (evC e) rfl rfl _ _ HZz.out (sizeE e) rfl (by kernel_rfl) ?_; rw [HAl.out, ← HYe.out])
          | (refine wpList_load_if rfl 49 (.tmp 4) rfl we.heap.size rfl _ _ _ _ HBY.out Tryz.underlying49 rfl (sizeE e) ?_)
          | fail)
        clear hz
        refine (HSh.out Y).mono ?_
        rintro e1 w2 ⟨rfl, hb2⟩
        have HE := Lib.hid (HbY.out.trans (hb2.mono HbY.out.size))
        clear hb2
        go_wp2
        go_ret
        exact ⟨rfl, HE.out⟩
      · have HSh := Lib.hid (short_isS e HFe.out true hsh)
        have HSt := Lib.hid hsh
        clear hsh
        have hz := HZe.out
        go_wp2_with (first
          | (refine wpList_val (o := ⟨some 25, _, _, _, _, _⟩) rfl (.pointer (some ⟨g, o + j * 27, none⟩)) we (run_indexAddr_op rfl rfl rfl HAt.out) ?_)
          | (refine wpList_load_midif rfl 49 (.tmp 25) rfl g (o + j * 27) rfl (encE e) _ HCe.out Tryz.underlying49 rfl (sizeE e) ?_)
          | (refine wpList_store_row rfl 49 (.tmp 4) (.tmp 26) rfl we.heap.size (evC e) rfl rfl _ _ HZz.out (sizeE e) rfl (by kernel_rfl) ?_; rw [HAl.out, ← HYe.out])
          | (refine wpList_load_if rfl 49 (.tmp 4) rfl we.heap.size rfl _ _ _ _ HBY.out Tryz.underlying49 rfl (sizeE e) ?_)
          | fail)
        clear hz
        refine (HSh.out Y).mono ?_
        rintro e1 w2 ⟨rfl, hb2⟩
        have HE := Lib.hid (HbY.out.trans (hb2.mono HbY.out.size))
        clear hb2
        have hw := IntWalk.i64_in ((j : Int) + 1) (by have := H60.out; have := HLt.out; omega)
        have hjm : ¬ 9223372036854775807 < j + 1 := by have := H60.out; have := HLt.out; omega
        have hlt := HLt.out
        go_wp2
        go_roundw
        case rel => exact ⟨j + 1, by go_num, HLt.out, fun k e' hk hf => by
          rcases Nat.lt_succ_iff_lt_or_eq.1 hk with h | h
          · exact HOk.out k e' h hf
          · rw [h, He.out] at hf
            rw [← Option.some.inj hf]; exact HSt.out, HE.out⟩
        case measure => simp [intOf] <;> omega
    have hjN : j = N := by omega
    subst hjN
    have HSh := Lib.hid (show ∀ e ∈ l, shortB e = true from fun e he => by
      obtain ⟨k, hk⟩ := List.getElem?_of_mem he
      exact HOk.out k e (by rw [← HN.out]; exact (List.getElem?_eq_some_iff.1 hk).1) hk)
    have HB2 := Lib.hid HBw.out
    clear HBw HOk hlt hj
    generalize we = w2 at *
    go_wp2_with fail
    refine (causal_any l A j c w2 (HS.out.below HB2.out) HN.out H60.out (fun e he => short_tiny e (HSh.out e he))).mono ?_
    rintro e w3 ⟨rv, rfl, ho3, hb⟩
    obtain ⟨row, hrow⟩ : ∃ row, (causC l).1 = row := ⟨_, rfl⟩
    obtain ⟨f, hff⟩ : ∃ f, (causC l).2 = f := ⟨_, rfl⟩
    have HAllS := Lib.hid (fun I h => store_snap l (by rw [HN.out]; exact H60.out) HSh.out HCn.out row f hrow hff I h)
    rw [hrow] at ho3
    rw [hff]
    have hrl : row.length ≤ 60 := by have := causC_len l; rw [hrow] at this; have h1 := HN.out; have h2 := H60.out; omega
    have hrm : ∀ e ∈ row, Lens e := fun e he => short_lens e (HSh.out e (causC_mem l e (by rw [hrow]; exact he)))
    have HRm := Lib.hid hrm
    have HRl := Lib.hid hrl
    have HB3 := Lib.hid (HB2.out.trans (hb.mono HB2.out.size))
    have HO3 := Lib.hid ho3
    obtain ⟨A5, c5, rfl, _, _⟩ := ho3.read encE_len
    clear hb hrow hff ho3 hrl hrm
    obtain ⟨n5, hn5⟩ : ∃ n5, row.length = n5 := ⟨_, rfl⟩
    rw [hn5] at HO3 ⊢
    have HN5 := Lib.hid hn5
    clear hn5
    have hzv := HZv.out
    have HAl := Lib.hid fun c => World.setRow_alloc_new w3 (vA fun _ => 0) c 23
    have HZ := Lib.hid (show Blk (w3.alloc (.cells (vA fun _ => 0) 23)) w3.heap.size 23 (vA fun _ => 0) from Blk.new _ _ _)
    go_wp2_with (first
      | (refine wpList_store_row rfl 23 (.tmp 6) (.tmp 35) rfl w3.heap.size (vA f) rfl rfl _ _ HZ.out (sizeV _) (by rw [vA_size, vA_size]) (vA_one _) ?_; rw [HAl.out])
      | fail)
    clear hzv HAl HZ
    obtain ⟨w4, hw4⟩ : ∃ w4, w3.alloc (.cells (vA f) 23) = w4 := ⟨_, rfl⟩
    rw [hw4]
    have hb4 : Below w3.heap.size w3 w4 := by rw [← hw4]; exact (Below.refl _ _).alloc (Nat.le_refl _) _
    have HB4 := Lib.hid (HB3.out.trans (hb4.mono HB3.out.size))
    have HO4 := Lib.hid (HO3.out.keep hb4)
    obtain ⟨bv6, hbv6⟩ : ∃ b, w3.heap.size = b := ⟨_, rfl⟩
    have HV4 := Lib.hid (show VB w4 bv6 f by rw [← hw4]; exact VB.new_ f hbv6.symm)
    rw [hbv6]
    clear hw4 hb4 HO3 hbv6
    refine (st_new_any w4).mono ?_
    rintro e w6 ⟨rfl, hw6⟩
    obtain ⟨sa, hsa⟩ : ∃ sa, w4.heap.size = sa := ⟨_, rfl⟩
    have hs6 : w6.heap.size = sa + 1 := by rw [hw6, ← hsa]; simp
    have hb6 : Below w4.heap.size w4 w6 := by rw [hw6]; exact (Below.refl _ _).alloc (Nat.le_refl _) _
    have ha : StAt w6 sa (sa + 1) [] := by
      have := new_at w4 (sa + 1)
      rw [hsa, ← hw6] at this
      exact this
    rw [hsa]
    have HA6 := Lib.hid ha
    have HS6 := Lib.hid hs6
    have HB6 := Lib.hid (HB4.out.trans (hb6.mono HB4.out.size))
    have HR6 := Lib.hid (HO4.out.keep hb6)
    have HV6 := Lib.hid (Blk.below HV4.out hb6 (Blk.lt HV4.out))
    have HRb : Hid (∀ g, (Value.slice A5 n5 c5).ownBlock = some g → g < sa) := Lib.hid fun g h => by
      have := (HO4.out.lt g h).2
      rw [hsa] at this; exact this
    have HVb := Lib.hid (show bv6 < sa by rw [← hsa]; exact Blk.lt HV4.out)
    have HWa := Lib.hid (show w.heap.size ≤ sa by rw [← hsa]; exact HB4.out.size)
    have H0 := Lib.hid (show 0 < sa by have := HCw.out.1; have h2 := HB4.out.size; omega)
    clear hw6 hs6 hb6 ha hsa HO4 HV4
    go_wp2_with fail
    go_loopw [39] (fun v39 wr => ∃ j : Nat, v39 = .int .i64 j ∧ j ≤ n5 ∧ StAt wr sa (sa + 1) (runS (row.take j)) ∧ Kept sa (sa + 1) w6 wr) (fun v39 _ => n5 - (intOf v39).toNat)
    case atStart => exact ⟨0, rfl, Nat.zero_le _, HA6.out, Kept.refl⟩
    case round =>
      obtain ⟨j, rfl, hj, hst, hk⟩ := hrel
      obtain ⟨wo, rfl⟩ : ∃ wo, wo = wr := ⟨_, rfl⟩
      have HSt := Lib.hid hst
      have HKp := Lib.hid hk
      clear hst hk
      have HRo := Lib.hid (show OwnK encE w2.heap.size 49 27 wo (.slice A5 n5 c5) row from HR6.out.same fun g h => HKp.out.same (HR6.out.lt g h).2 (by have := HRb.out g h; omega) (by have := HRb.out g h; omega))
      by_cases hlt : j < n5
      case pos =>
        obtain ⟨e, he⟩ : ∃ e, row[j]? = some e := ⟨row[j]'(by rw [HN5.out]; exact hlt), List.getElem?_eq_getElem _⟩
        obtain ⟨g, rfl, _, _, hce⟩ := HRo.out.at_ encE_len he
        have HCe := Lib.hid hce
        have HAt := Lib.hid (at_Ev0 g c5 n5 j hlt wo)
        have HLe := Lib.hid (HRm.out e (List.mem_of_getElem? he))
        have HNx := Lib.hid (runS_next he)
        have HAl := Lib.hid fun c => World.setRow_alloc_new wo (evC ev0) c 49
        have HZz := Lib.hid (show Blk (wo.alloc (.cells (evC ev0) 49)) wo.heap.size 49 (evC ev0) from Blk.new _ _ _)
        obtain ⟨X, hX⟩ : ∃ X, X = wo.alloc (.cells (evC e) 49) := ⟨_, rfl⟩
        have hbX : Below wo.heap.size wo X := by rw [hX]; exact (Below.refl _ _).alloc (Nat.le_refl _) _
        have hBX : Blk X wo.heap.size 49 (evC e) := by rw [hX]; exact Blk.new _ _ _
        have HXe := Lib.hid hX
        have HBX := Lib.hid hBX
        have HKX := Lib.hid (HKp.out.trans (Kept.of_below hbX))
        have HSX := Lib.hid (HSt.out.keep hbX)
        have HLt := Lib.hid hlt
        clear hX hbX hBX he hce hlt
        have hz := HZe.out
        go_wp2_with (first
          | (refine wpList_val (o := ⟨some 41, _, _, _, _, _⟩) rfl (.pointer (some ⟨g, j * 27, none⟩)) wo (run_indexAddr_op rfl rfl rfl HAt.out) ?_)
          | (refine wpList_load_midif rfl 49 (.tmp 41) rfl g (j * 27) rfl (encE e) _ HCe.out Tryz.underlying49 rfl (sizeE e) ?_)
          | (refine wpList_store_row rfl 49 (.tmp 9) (.tmp 42) rfl wo.heap.size (evC e) rfl rfl _ _ HZz.out (sizeE e) rfl (by kernel_rfl) ?_; rw [HAl.out, ← HXe.out])
          | (refine wpList_load_if rfl 49 (.tmp 9) rfl wo.heap.size rfl _ _ _ _ HBX.out Tryz.underlying49 rfl (sizeE e) ?_)
          | fail)
        clear hz
        refine (do_at HSX.out (by have := HKX.out.size; have := HS6.out; omega) e HLe.out ((HKX.out).cut H0.out (by omega) (HCw.out.below HB6.out))).mono ?_
        rintro x w7 ⟨rfl, hs7, hk7⟩
        have HS7 := Lib.hid (show StAt w7 sa (sa + 1) (runS (row.take (j + 1))) by rw [HNx.out]; exact hs7)
        have HK7 := Lib.hid (HKX.out.trans hk7)
        clear hs7 hk7
        have hw := IntWalk.i64_in ((j : Int) + 1) (by have := HRl.out; have := HN5.out; have := HLt.out; omega)
        have hjm : ¬ 9223372036854775807 < j + 1 := by have := HRl.out; have := HN5.out; have := HLt.out; omega
        have hlt := HLt.out
        go_wp2
        go_roundw
        case rel => exact ⟨j + 1, by go_num, HLt.out, HS7.out, HK7.out⟩
        case measure => simp [intOf] <;> omega
      have hjN : j = n5 := by omega
      subst hjN
      rw [List.take_of_length_le (Nat.le_of_eq HN5.out)] at HSt
      obtain ⟨σ, hσ⟩ : ∃ σ, runS row = σ := ⟨_, rfl⟩
      obtain ⟨hokS, htot⟩ := runS_ok row HRm.out
      rw [hσ] at HSt hokS htot
      have HAl2 := Lib.hid (fun I h => HAllS.out I (by rw [hσ]; exact h))
      have HOk := Lib.hid hokS
      have HTt := Lib.hid (show totS σ ≤ 60 from Nat.le_trans htot HRl.out)
      have HCo := Lib.hid (HKp.out.cut H0.out (by omega) (HCw.out.below HB6.out))
      have HBo := Lib.hid (show Below w.heap.size w wo from HB6.out.trans (HKp.out.below (by have := HWa.out; omega) (by have := HWa.out; omega) HB6.out.size))
      have HVo := Lib.hid (show VB wo bv6 f from (HKp.out.same (Blk.lt HV6.out) (by have := HVb.out; omega) (by have := HVb.out; omega)).trans HV6.out)
      have HEo := Lib.hid (HRo.out.read encE_len)
      clear hσ hokS htot hj hlt HAllS
      have HAll := Lib.hid (fun W (h : StAt W sa (sa + 1) σ) => all_I h HOk.out HTt.out (List.Perm.refl _) (fun x => List.Perm.refl _))
      go_upto_region 18 with fail
      refine wp_region_any (by kernel_rfl) ?_
      refine wpAny_last (pS sa f σ (.slice A5 j c5) wo.heap.size) _ wo 6 _ (fun vals wq => Laid wo f σ (.slice A5 j c5) (vals 5) wq) (by kernel_rfl) rfl (by kernel_rfl) (by kernel_rfl) (by kernel_rfl) (by kernel_rfl) (fun i v w w' hb h => pS_keep i v w w' hb h) ?_ ?_ ?_
      · refine ⟨?_, ?_, ?_, ?_, ?_, ?_, fun h => absurd h (Nat.lt_irrefl _), trivial⟩
        · intro _ a W hI hun haft hi
          have e6 : a.eval (.tmp 6) = .pointer (some ⟨bv6, 0, none⟩) := hun 6 (by kernel_rfl)
          exact b_same hi hI rfl _ (run_load_op rfl e6 (Blk.below HVo.out hI (Blk.lt HVo.out)) Tryz.underlying23 rfl (sizeV _)) rfl
        · intro _ a W hI hun haft hi
          have e7 : a.eval (.tmp 7) = .pointer (some ⟨sa, 0, none⟩) := hun 7 (by kernel_rfl)
          exact b_same hi hI rfl _ (run_move_op rfl e7) rfl
        · intro _ a W hI hun haft hi
          have f1 : a.eval (.tmp 48) = .pointer (some ⟨sa, 0, none⟩) := haft ⟨1, .data⟩ (by simp) rfl _ _ rfl rfl
          refine b_call hi hI rfl _ _ (run_call_op (args := #[.pointer (some ⟨sa, 0, none⟩)]) rfl (by simp [f1]) (by kernel_rfl)) ?_
          exact (HAll.out W (HSt.out.keep hI)).mono fun e w' ⟨u, h1, h2, h3⟩ => ⟨u, h1, h2, h3⟩
        · intro _ a W hI hun haft hi
          have e5 : a.eval (.tmp 5) = .slice A5 j c5 := hun 5 (by kernel_rfl)
          exact b_same hi hI rfl _ (run_move_op rfl e5) rfl
        · intro _ a W hI hun haft hi
          have f0 : a.eval (.tmp 47) = .agg (vA f) := haft ⟨0, .data⟩ (by simp) rfl _ _ rfl rfl
          have f2 : AllI W σ (a.eval (.tmp 49)) := haft ⟨2, .data⟩ (by simp) rfl _ _ rfl rfl
          have f3 : a.eval (.tmp 50) = .slice A5 j c5 := haft ⟨3, .data⟩ (by simp) rfl _ _ rfl rfl
          obtain ⟨A9, n9, c9, hv⟩ := f2.one
          rw [hv] at f2
          exact b_same hi hI rfl _ (run_build_rt rfl (by simp only [List.map_toArray, List.map_cons, List.map_nil, f0, hv, f3]) (bdSn f A9 A5 n9 c9 j c5 W)) ⟨_, rfl, f2⟩
        · intro _ a W hI hun haft hi
          exact b_val hi hI rfl _ _ (run_alloc_opS rfl) ((Below.refl _ _).alloc (Nat.le_refl _) _) ⟨_, rfl, hI.size, Blk.new W _ _⟩
      · intro vals a W hI hun hsl hp
        obtain ⟨g, hg, hgq, hgb⟩ := hp 5 (by decide)
        obtain ⟨u, hu, hua⟩ := hp 4 (by decide)
        obtain ⟨A9, n9, c9, rfl⟩ := hua.one
        have f5 : a.eval (.tmp 10) = .pointer (some ⟨g, 0, none⟩) := (hsl 5 _ _ rfl (by decide) rfl).trans hg
        have f4 : a.eval (.tmp 51) = .agg (sC f (.slice A9 n9 c9) (.slice A5 j c5)) := (hsl 4 _ _ rfl (by decide) rfl).trans hu
        refine l_skip rfl rfl (W.setRow g (sC f (.slice A9 n9 c9) (.slice A5 j c5))) (run_storerow_op rfl f5 f4 hgb (sizeSn _ _ _) rfl (sC_one _ _ _ _ _ _ _)) ⟨_, rfl, fun vals' h1 _ => ?_⟩
        rw [h1 5 (by decide)]
        exact laid_S hI (Nat.le_refl _) hg hgq hgb hua
      · rintro vals W ⟨g10, u, hv5, hsb, hal, hbl⟩
        obtain ⟨A9, I, c9, rfl, hci, hit⟩ := hal.its
        have hl5 : vals 5 = .pointer (some ⟨g10, 0, none⟩) := hv5
        have HCi := Lib.hid hci
        have HG10 := Lib.hid hsb
        have HIt := Lib.hid hit
        have HJ := Lib.hid hbl
        clear hv5 hsb hal hci hit hbl
        simp only [layN, List.size_toArray, List.length_cons, List.length_nil, List.range, List.range.loop, if_true, List.getElem?_toArray, List.getElem?_cons_zero, List.getElem?_cons_succ, Act.put, List.setIfInBounds_toArray, List.set_cons_zero, List.set_cons_succ, Nat.zero_add, Nat.reduceAdd, hl5]
        clear hl5
        generalize vals 0 = z0
        generalize vals 1 = z1
        generalize vals 2 = z2
        generalize vals 3 = z3
        generalize vals 4 = z4
        clear vals
        generalize W = W1 at *
        obtain ⟨hrS, hcv, hI60, hR60, hfit, hri, hlc, hlen, _, _⟩ := HAl2.out I HCi.out
        obtain ⟨LL, hLL⟩ : ∃ LL, bytesS f I row = LL := ⟨_, rfl⟩
        obtain ⟨r0, r1, r2, r3, r4⟩ := snap_read hrS hcv (by omega) hfit (by omega) hlc
        rw [hLL] at r0 r1 r2 r3 hlen
        obtain ⟨nI, hnI⟩ : ∃ nI, I.length = nI := ⟨_, rfl⟩
        have HnI := Lib.hid hnI
        have HI60 := Lib.hid hI60
        have HFi := Lib.hid hfit
        have HRi := Lib.hid hri
        have HLc := Lib.hid hlc
        have HLen := Lib.hid hlen
        have HR0 := Lib.hid r0
        have HR1 := Lib.hid r1
        have HR2 := Lib.hid r2
        have HR3 := Lib.hid r3
        have HBy := Lib.hid (fun W h1 h2 h3 => sbytes_S f I row A9 A5 nI j c9 c5 hrS hnI (by omega) hfit HN5.out (by have := HN5.out; omega) (fun e he => (hlc e he).1) LL hLL hlen W h1 h2 h3)
        have HEv1 := Lib.hid (HEo.out.below HJ.out)
        have HC1 := Lib.hid (HCo.out.below HJ.out)
        have HV1 := Lib.hid (Blk.below HVo.out HJ.out (Blk.lt HVo.out))
        have HBd1 := Lib.hid (HBo.out.trans (HJ.out.mono HBo.out.size))
        rw [hnI] at HG10 HIt
        clear hrS hcv hI60 hR60 hfit hri hlc hlen hLL r0 r1 r2 r3 r4 hnI
        go_wp2_with (refine wpList_load_if rfl 27 (.tmp 10) rfl g10 rfl _ _ _ _ HG10.out Tryz.underlying27 rfl (sizeSn _ _ _) ?_)
        refine (HBy.out W1 HIt.out HEv1.out HC1.out).mono ?_
        rintro e W2 ⟨B2, n8, b8, rfl, hs2, hb⟩
        have HS2 := Lib.hid hs2
        have HG2 := Lib.hid (SB.keep HG10.out hb)
        have HIt2 := Lib.hid (HIt.out.below hb)
        have HEv2 := Lib.hid (HEv1.out.below hb)
        have HC2 := Lib.hid (HC1.out.below hb)
        have HV2 := Lib.hid (Blk.below HV1.out hb (Blk.lt HV1.out))
        have HBd2 := Lib.hid (HBd1.out.trans (hb.mono HBd1.out.size))
        clear hs2 hb HEv1 HC1 HV1 HBd1 HIt HG10
        go_wp2_with fail
        refine (sparse_is LL 0 HR0.out (by have := HLen.out; omega) (fun _ => by rw [HR2.out, HR3.out]; exact ⟨by have := HI60.out; omega, HFi.out, by have := HRl.out; omega, fun e he => (HLc.out e he).1⟩) _ W2 HS2.out HC2.out).mono ?_
        rintro e W3 ⟨f9, P9, m9, p9, Q9, k9, q9, rfl, hres, hb⟩
        obtain ⟨e1, e2, e3, e4, e5⟩ := hres rfl
        rw [HR1.out] at e1
        rw [HR2.out] at e2 e4
        rw [HR3.out] at e3 e5
        rw [HnI.out] at e2
        rw [HN5.out] at e3
        subst e1 e2 e3
        have HJt := Lib.hid e4
        have HGt := Lib.hid e5
        have HG3 := Lib.hid (SB.keep HG2.out hb)
        have HIt3 := Lib.hid (HIt2.out.below hb)
        have HEv3 := Lib.hid (HEv2.out.below hb)
        have HC3 := Lib.hid (HC2.out.below hb)
        have HV3 := Lib.hid (Blk.below HV2.out hb (Blk.lt HV2.out))
        have HBd3 := Lib.hid (HBd2.out.trans (hb.mono HBd2.out.size))
        clear hb e4 e5 hres HEv2 HC2 HV2 HBd2 HIt2 HG2 HS2
        have hz := HZs.out
        have NN := Lib.hid (SB.new_ W3 (fun _ => 0) (.slice none 0 0) (.slice none 0 0))
        unfold sV
        go_upto_region 21 with (refine wpList_store_row rfl 27 (.tmp 13) (.tmp 60) rfl W3.heap.size (sC f9 (.slice P9 m9 p9) (.slice Q9 k9 q9)) rfl rfl _ _ NN.out (sizeSn _ _ _) rfl (sC_one _ _ _ _ _ _ _) ?_)
        clear hz
        have hbb : Below W3.heap.size W3 ((W3.alloc (.cells (sC (fun _ => 0) (.slice none 0 0) (.slice none 0 0)) 27)).setRow W3.heap.size (sC f9 (.slice P9 m9 p9) (.slice Q9 k9 q9))) := ((Below.refl _ _).alloc (Nat.le_refl _) _).trans (setRow_below _ _ _ _ (Nat.le_refl _))
        have hq : SB ((W3.alloc (.cells (sC (fun _ => 0) (.slice none 0 0) (.slice none 0 0)) 27)).setRow W3.heap.size (sC f9 (.slice P9 m9 p9) (.slice Q9 k9 q9))) W3.heap.size f9 (.slice P9 m9 p9) (.slice Q9 k9 q9) := setRow_blk _ _ _ _ _ NN.out
        generalize (W3.alloc (.cells (sC (fun _ => 0) (.slice none 0 0) (.slice none 0 0)) 27)).setRow W3.heap.size (sC f9 (.slice P9 m9 p9) (.slice Q9 k9 q9)) = W4 at *
        obtain ⟨g13, hg13⟩ : ∃ g, W3.heap.size = g := ⟨_, rfl⟩
        rw [hg13] at hq ⊢
        have HQ4 := Lib.hid hq
        have HJ4 := Lib.hid (HJt.out.below hbb)
        have HGt4 := Lib.hid (HGt.out.below hbb)
        have HG4 := Lib.hid (SB.keep HG3.out hbb)
        have HIt4 := Lib.hid (HIt3.out.below hbb)
        have HEv4 := Lib.hid (HEv3.out.below hbb)
        have HC4 := Lib.hid (HC3.out.below hbb)
        have HV4 := Lib.hid (Blk.below HV3.out hbb (Blk.lt HV3.out))
        have HBd4 := Lib.hid (HBd3.out.trans (hbb.mono HBd3.out.size))
        clear hq hbb NN hg13 HEv3 HC3 HV3 HBd3 HIt3 HG3 HJt HGt
        try simp only [Act.put]
        have HSto := Lib.hid (fun W h1 h2 => snstore_any f9 I σ P9 Q9 m9 p9 k9 q9 W h1 HnI.out (by rw [← HnI.out]; exact HI60.out) HOk.out HCi.out HRi.out HFi.out h2)
        unfold sV at HSto
        have HAll2 := Lib.hid (fun W sb B τ (h : StAt W sb B τ) h1 h2 => all_I h HOk.out HTt.out h1 h2)
        refine wp_region_any (by kernel_rfl) ?_
        refine wpAny_last (pT f9 σ (.slice A5 k9 c5) (.agg (sC f9 (.slice P9 m9 p9) (.slice Q9 k9 q9))) W4.heap.size) _ W4 7 _ (fun vals wq => Laid W4 f9 σ (.slice A5 k9 c5) (vals 6) wq) (by kernel_rfl) rfl (by kernel_rfl) (by kernel_rfl) (by kernel_rfl) (by kernel_rfl) (fun i v w w' hb h => pT_keep i v w w' hb h) ?_ ?_ ?_
        · refine ⟨?_, ?_, ?_, ?_, ?_, ?_, ?_, fun h => absurd h (Nat.lt_irrefl _), trivial⟩
          · intro _ a W hI hun haft hi
            have e6 : a.eval (.tmp 6) = .pointer (some ⟨bv6, 0, none⟩) := hun 6 (by kernel_rfl)
            exact b_same hi hI rfl _ (run_load_op rfl e6 (Blk.below HV4.out hI (Blk.lt HV4.out)) Tryz.underlying23 rfl (sizeV _)) rfl
          · intro _ a W hI hun haft hi
            have e13 : a.eval (.tmp 13) = .pointer (some ⟨g13, 0, none⟩) := hun 13 (by kernel_rfl)
            exact b_same hi hI rfl _ (run_load_op rfl e13 (Blk.below HQ4.out hI (Blk.lt HQ4.out)) Tryz.underlying27 rfl (sizeSn _ _ _)) rfl
          · intro _ a W hI hun haft hi
            have f1 : a.eval (.tmp 63) = .agg (sC f9 (.slice P9 m9 p9) (.slice Q9 k9 q9)) := haft ⟨1, .data⟩ (by simp) rfl _ _ rfl rfl
            refine b_call hi hI rfl _ _ (run_call_op (args := #[.agg (sC f9 (.slice P9 m9 p9) (.slice Q9 k9 q9))]) rfl (by simp [f1]) (by kernel_rfl)) ?_
            exact (HSto.out W (HJ4.out.below hI) (HC4.out.below hI)).mono fun e w' ⟨sb, B, τ, h1, h2, h3, h4, _, h5⟩ => ⟨_, h1, ⟨sb, B, τ, rfl, h2, h3, h4⟩, h5⟩
          · intro _ a W hI hun haft hi
            have f2 : ∃ sb B τ, a.eval (.tmp 64) = .pointer (some ⟨sb, 0, none⟩) ∧ StAt W sb B τ ∧ (keysL τ).Perm (keysL σ) ∧ ∀ x, (entS x τ).Perm (entS x σ) := haft ⟨2, .data⟩ (by simp) rfl _ _ rfl rfl
            obtain ⟨sb, B, τ, hv, h1, h2, h3⟩ := f2
            refine b_call hi hI rfl _ _ (run_call_op (args := #[.pointer (some ⟨sb, 0, none⟩)]) rfl (by simp [hv]) (by kernel_rfl)) ?_
            exact (HAll2.out W sb B τ h1 h2 h3).mono fun e w' ⟨u, h1, h2, h3⟩ => ⟨u, h1, h2, h3⟩
          · intro _ a W hI hun haft hi
            have e5 : a.eval (.tmp 5) = .slice A5 k9 c5 := hun 5 (by kernel_rfl)
            exact b_same hi hI rfl _ (run_move_op rfl e5) rfl
          · intro _ a W hI hun haft hi
            have f0 : a.eval (.tmp 62) = .agg (vA f9) := haft ⟨0, .data⟩ (by simp) rfl _ _ rfl rfl
            have f3 : AllI W σ (a.eval (.tmp 65)) := haft ⟨3, .data⟩ (by simp) rfl _ _ rfl rfl
            have f4 : a.eval (.tmp 66) = .slice A5 k9 c5 := haft ⟨4, .data⟩ (by simp) rfl _ _ rfl rfl
            obtain ⟨A8, n8', c8, hv⟩ := f3.one
            rw [hv] at f3
            exact b_same hi hI rfl _ (run_build_rt rfl (by simp only [List.map_toArray, List.map_cons, List.map_nil, f0, hv, f4]) (bdSn f9 A8 A5 n8' c8 k9 c5 W)) ⟨_, rfl, f3⟩
          · intro _ a W hI hun haft hi
            exact b_val hi hI rfl _ _ (run_alloc_opS rfl) ((Below.refl _ _).alloc (Nat.le_refl _) _) ⟨_, rfl, hI.size, Blk.new W _ _⟩
        · intro vals a W hI hun hsl hp
          obtain ⟨g, hg, hgq, hgb⟩ := hp 6 (by decide)
          obtain ⟨u, hu, hua⟩ := hp 5 (by decide)
          obtain ⟨A8, n8', c8, rfl⟩ := hua.one
          have f6 : a.eval (.tmp 15) = .pointer (some ⟨g, 0, none⟩) := (hsl 6 _ _ rfl (by decide) rfl).trans hg
          have f5 : a.eval (.tmp 67) = .agg (sC f9 (.slice A8 n8' c8) (.slice A5 k9 c5)) := (hsl 5 _ _ rfl (by decide) rfl).trans hu
          refine l_skip rfl rfl (W.setRow g (sC f9 (.slice A8 n8' c8) (.slice A5 k9 c5))) (run_storerow_op rfl f6 f5 hgb (sizeSn _ _ _) rfl (sC_one _ _ _ _ _ _ _)) ⟨_, rfl, fun vals' h1 _ => ?_⟩
          rw [h1 6 (by decide)]
          exact laid_S hI (Nat.le_refl _) hg hgq hgb hua
        · rintro vals W ⟨g15, u, hv6, hsb, hal, hbl⟩
          obtain ⟨A7, I7, c7, rfl, hci, hit⟩ := hal.its
          obtain rfl := canI_unique HOk.out HCi.out hci (List.Perm.refl _) (fun x => List.Perm.refl _)
          rw [HnI.out] at hsb hit
          have hl6 : vals 6 = .pointer (some ⟨g15, 0, none⟩) := hv6
          have HG15 := Lib.hid hsb
          have HIt7 := Lib.hid hit
          have HQ5 := Lib.hid (SB.keep HQ4.out hbl)
          have HJ5 := Lib.hid (HJ4.out.below hbl)
          have HGt5 := Lib.hid (HGt4.out.below hbl)
          have HG5 := Lib.hid (SB.keep HG4.out hbl)
          have HIt5 := Lib.hid (HIt4.out.below hbl)
          have HEv5 := Lib.hid (HEv4.out.below hbl)
          have HBd5 := Lib.hid (HBd4.out.trans (hbl.mono HBd4.out.size))
          clear hv6 hsb hal hci hit hbl HQ4 HJ4 HGt4 HG4 HIt4 HEv4 HC4 HV4 HBd4
          simp only [layN, List.size_toArray, List.length_cons, List.length_nil, List.range, List.range.loop, if_true, List.getElem?_toArray, List.getElem?_cons_zero, List.getElem?_cons_succ, Act.put, List.setIfInBounds_toArray, List.set_cons_zero, List.set_cons_succ, Nat.zero_add, Nat.reduceAdd, hl6]
          clear hl6
          generalize vals 0 = y0
          generalize vals 1 = y1
          generalize vals 2 = y2
          generalize vals 3 = y3
          generalize vals 4 = y4
          generalize vals 5 = y5
          clear vals
          generalize W = W5 at *
          go_wp2_with (first
            | (refine wpList_load_if rfl 27 (.tmp 10) rfl g10 rfl _ _ _ _ HG5.out Tryz.underlying27 rfl (sizeSn _ _ _) ?_)
            | (refine wpList_load_if rfl 27 (.tmp 13) rfl g13 rfl _ _ _ _ HQ5.out Tryz.underlying27 rfl (sizeSn _ _ _) ?_)
            | fail)
          refine (ssame_true f9 I7 row A9 P9 A5 Q9 m9 k9 c9 p9 c5 q9 W5 HIt5.out HJ5.out HEv5.out HGt5.out HnI.out (by rw [← HnI.out]; have := HI60.out; omega) HN5.out (by rw [← HN5.out]; have := HRl.out; omega) (fun q hq => (HFi.out q hq).2.1)).mono ?_
          rintro e W6 ⟨rfl, hb⟩
          have HG6 := Lib.hid (SB.keep HG5.out hb)
          have HG15b := Lib.hid (SB.keep HG15.out hb)
          have HIt6 := Lib.hid (HIt5.out.below hb)
          have HIt8 := Lib.hid (HIt7.out.below hb)
          have HEv6 := Lib.hid (HEv5.out.below hb)
          have HBd6 := Lib.hid (HBd5.out.trans (hb.mono HBd5.out.size))
          clear hb
          go_wp2_with (first
            | (refine wpList_load_if rfl 27 (.tmp 10) rfl g10 rfl _ _ _ _ HG6.out Tryz.underlying27 rfl (sizeSn _ _ _) ?_)
            | (refine wpList_load_if rfl 27 (.tmp 15) rfl g15 rfl _ _ _ _ HG15b.out Tryz.underlying27 rfl (sizeSn _ _ _) ?_)
            | fail)
          refine (ssame_true f9 I7 row A9 A7 A5 A5 m9 k9 c9 c7 c5 c5 W6 HIt6.out HIt8.out HEv6.out HEv6.out HnI.out (by rw [← HnI.out]; have := HI60.out; omega) HN5.out (by rw [← HN5.out]; have := HRl.out; omega) (fun q hq => (HFi.out q hq).2.1)).mono ?_
          rintro e W7 ⟨rfl, hb⟩
          have HBd7 := Lib.hid (HBd6.out.trans (hb.mono HBd6.out.size))
          clear hb
          go_wp2
          go_ret
          exact ⟨rfl, HBd7.out⟩

end Go.Proofs.YtejljikikhecnaaGreat

namespace Go.Proofs.YtejljikikhecnaaGreat
open Go.ChangeShapes Go.WideShapes Go.ChangeAt Go.RowKit
open Go.ChangeMaps (open_string)

set_option maxRecDepth 100000 in
theorem snstores_lifted (os : Os) (started : os.Started) (H : Type) (enc : TypeId × Value → H) :
    ReturnsInHanded {} Tryz.checked os 5 .any (Rows.snapStoresSpec.pre6 enc Tryz.prog Tryz.f5 Rows.snapStoresRow.domain false) (Rows.snapStoresSpec.post enc Tryz.prog Tryz.f5 false true false false) := by
  refine returnsInHanded_of_change_shaped (C := Tryz.checked) Tryz.own started (by kernel_rfl) Tryz.func5
    (ChangeSpec.witness6 (enc := enc) (C := Tryz.checked) false ⟨#[], #[.slice none 0 0], []⟩ 8 (by kernel_rfl) (by kernel_rfl) (by kernel_rfl) (by kernel_rfl)) ?_
  intro W base args ds gs before hval0 hW _ hsz0 hsh _
  have hsz : (DataW.weightsEach Tryz.prog (Tryz.f5.params.toList ++ Rows.snapStoresSpec.plain.varTypes Tryz.prog) (ds ++ gs)).all (· ≤ reachBytes) = true := hsz0
  clear hsz0
  have hval : ∀ (j : Nat) t v, Tryz.f5.params[j]? = some t → args[j]? = some v → Value.okWide Tryz.prog W .any base t v := hval0
  have hW' := hW
  obtain ⟨p, q, hA0, hV, rfl, _, _⟩ := hW
  have hA : DataW.TrodAll enc Tryz.prog W 0 (fun _ => true) true Tryz.f5.params.toList args.toList ds p := hA0
  rw [Tryz.params5] at hA hval hsz
  obtain ⟨v0, d0, rfl, rfl, h0⟩ := trodAll_one hA
  obtain ⟨rfl, rfl⟩ := trodVars_none hV
  clear hA0 hval0
  obtain ⟨l0, A0, N0, c0, rfl, hs0, hn0, hf0, hc0⟩ := evs_inC hsz (j := 0) rfl rfl (hval 0 25 v0 rfl rfl) h0
  have hw := snstores_walk l0 A0 N0 c0 W hs0 hn0 hf0 hc0 (cut_of hsh)
  refine hw.mono fun e W' ⟨he, hb⟩ => ?_
  subst he
  exact ⟨_, rfl, law_post Tryz.laidOut hW' rfl (of_decide_eq_true (by kernel_rfl)) (by kernel_rfl) Tryz.underlying4 rfl rfl rfl hb⟩

theorem snstores_holds : Rows.SnapStoresSaid :=
  OpenClaim.holds_of_wide 5 Tryz.f5 rfl rfl rfl rfl rfl rfl rfl ⟨rfl, rfl, rfl, rfl, rfl⟩ rfl rfl rfl rfl rfl (by kernel_rfl) Tryz.func5 (by kernel_rfl)
    (of_decide_eq_true (by kernel_rfl)) (by unfold Func.isWrapper; first | (rw [if_pos (by decide +kernel)]; kernel_rfl) | (rw [if_neg (by decide +kernel)]; exact ⟨rfl, rfl⟩))
    (fun os started H enc _ => snstores_lifted os started H enc)

end Go.Proofs.YtejljikikhecnaaGreat
