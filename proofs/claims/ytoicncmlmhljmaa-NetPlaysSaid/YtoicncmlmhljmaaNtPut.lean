/-
  A parcel's twin; put: the contracts, by walks (written by gennt1.py). Conditions: lengths.
-/
import Derived.Test.YtoicncmlmhljmaaNtReg
namespace Go.Proofs.Ytoicncmlmhljmaa
open Go.RowKit

/-- What the operations of a twin yield. -/
def pT (q : Nat) (t : Int) (b : List UInt8) (i : Nat) (v : Value) (W : World) : Prop := match i with | 4 => Ob q W v b | _ => ∃ u, v = .agg #[.int .i64 t, u] ∧ Ob q W u b
theorem pT_keep {q : Nat} {t : Int} {b : List UInt8} (i : Nat) (v : Value) (w w' : World) (hb : Below w.heap.size w w') (h : pT q t b i v w) : pT q t b i v w' := by
  unfold pT at *
  split at h
  · exact Ob.keep h hb
  · obtain ⟨u, e, h⟩ := h
    exact ⟨u, e, h.keep hb⟩
set_option maxRecDepth 100000 in
set_option maxHeartbeats 2000000 in
theorem twin_any (t : Int) (v : Value) (b : List UInt8) (w : World) (h : Sl bv w v b) (hl : b.length ≤ 140737488355328) :
    Calls Try.prog 16 #[.agg #[.int .i64 t, v]] w fun e w' => ∃ u, e = .returned (.agg #[.int .i64 t, u]) ∧ Ob w.heap.size w' u b ∧ Below w.heap.size w w' := by
  obtain ⟨A, c, rfl⟩ := h.form
  have HL := Lib.hid hl
  obtain ⟨q, hq⟩ : ∃ q, w.heap.size = q := ⟨_, rfl⟩
  obtain ⟨Y, hY⟩ : ∃ Y, Y = w.alloc (.cells #[.int .i64 t, .slice A b.length c] 35) := ⟨_, rfl⟩
  have hYb : Below w.heap.size w Y := by rw [hY]; exact (Below.refl _ _).alloc (Nat.le_refl _) _
  have hBY : Blk Y q 35 #[.int .i64 t, .slice A b.length c] := by rw [hY, ← hq]; exact Blk.new w _ _
  have hYs : Y.heap.size = q + 1 := by rw [hY, ← hq]; simp
  obtain ⟨X, hX⟩ : ∃ X, X = Y.alloc (.cells #[.int .i64 0, .slice none 0 0] 35) := ⟨_, rfl⟩
  have hXb : Below Y.heap.size Y X := by rw [hX]; exact (Below.refl _ _).alloc (Nat.le_refl _) _
  have HB := Lib.hid (hBY.below hXb hBY.lt)
  have HC := Lib.hid (show Blk X (q + 1) 35 #[.int .i64 0, .slice none 0 0] by rw [hX, ← hYs]; exact Blk.new Y _ _)
  have hwX : Below w.heap.size w X := hYb.trans (hXb.mono hYb.size)
  have HS := Lib.hid (h.below hwX)
  have HX := Lib.hid (show X = (w.alloc (.cells #[.int .i64 t, .slice A b.length c] 35)).alloc (.cells #[.int .i64 0, .slice none 0 0] 35) by rw [hX, hY])
  have HwX := Lib.hid hwX
  have HQ := Lib.hid hq
  clear hl hY hYb hBY hYs hX hXb hwX h
  go_enter Try.func16, Try.ntmps16
  go_upto_region 1 with fail
  rw [← HX.out]
  clear hq
  refine wp_region_any (by kernel_rfl) ?_
  refine Lt.wpAny_last (pN ([some (.pointer (some ⟨q, 0, none⟩)), some (.int .i64 t), some (.pointer (some ⟨q, 1, none⟩)), some (.slice A b.length c), none, none, some (undef)]) (pT q t b)) _ X 6 _ (fun _ W => ∃ u, Ob q W u b ∧ Blk W (q + 1) 35 #[.int .i64 t, u] ∧ Below w.heap.size w W) (by kernel_rfl) rfl (by kernel_rfl) (by kernel_rfl) (by kernel_rfl) (by kernel_rfl) (pN_keep pT_keep) ?_ ?_ ?_
  · refine ⟨?_, ?_, ?_, ?_, ?_, ?_, fun h => absurd h (Nat.lt_irrefl _), trivial⟩
    · intro _ a W hI hun haft hi
      have e1 : a.eval (.tmp 1) = .pointer (some ⟨q, 0, none⟩) := hun 1 (by kernel_rfl)
      exact b_same hi hI rfl _ (run_fieldAddr_any rfl e1 (at_pc0 _ _ _)) rfl
    · intro _ a W hI hun haft hi
      have f0 : a.eval (.tmp 3) = .pointer (some ⟨q, 0, none⟩) := haft ⟨0, .data⟩ (by simp) rfl _ _ rfl rfl
      exact b_same hi hI rfl _ (run_load1_op rfl f0 Try.underlying3 rfl ((HB.out.below hI HB.out.lt).cell 0)) rfl
    · intro _ a W hI hun haft hi
      have e1 : a.eval (.tmp 1) = .pointer (some ⟨q, 0, none⟩) := hun 1 (by kernel_rfl)
      exact b_same hi hI rfl _ (run_fieldAddr_any rfl e1 (at_pc1 _ _ _)) rfl
    · intro _ a W hI hun haft hi
      have f2 : a.eval (.tmp 5) = .pointer (some ⟨q, 1, none⟩) := haft ⟨2, .data⟩ (by simp) rfl _ _ rfl rfl
      exact b_same hi hI rfl _ (run_load1_op rfl f2 Try.underlying27 rfl ((HB.out.below hI HB.out.lt).cell 1)) rfl
    · intro _ a W hI hun haft hi
      have f3 : a.eval (.tmp 6) = .slice A b.length c := haft ⟨3, .data⟩ (by simp) rfl _ _ rfl rfl
      refine b_call hi hI rfl _ _ (run_call_op (args := #[.slice A b.length c]) rfl (by simp [f3]) (by kernel_rfl)) ?_
      exact (bclone_any _ b W (HS.out.below hI) HL.out).mono fun e w' H => by
        obtain ⟨v, e1, h1, h2⟩ := H
        exact ⟨v, e1, own_base h1 (Nat.le_trans (Nat.le_of_lt HB.out.lt) hI.size), h2⟩
    · intro _ a W hI hun haft hi
      have f1 : a.eval (.tmp 4) = .int .i64 t := haft ⟨1, .data⟩ (by simp) rfl _ _ rfl rfl
      have z4 : Ob q W (a.eval (.tmp 7)) b := haft ⟨4, .data⟩ (by simp) rfl _ _ rfl rfl
      obtain ⟨B, d, hz⟩ := Ob.form z4
      rw [hz] at z4
      exact b_same hi hI rfl _ (run_build_op rfl (by simp only [List.map_toArray, List.map_cons, List.map_nil, f1, hz]) (build_pc t B b.length d W)) ⟨_, rfl, z4⟩
  · intro vals a W hI hun hsl hp
    have e2 : a.eval (.tmp 2) = .pointer (some ⟨q + 1, 0, none⟩) := hun 2 (by kernel_rfl)
    obtain ⟨u, h5, ho5⟩ : ∃ u, vals 5 = .agg #[.int .i64 t, u] ∧ Ob q W u b := hp 5 (by decide)
    have f5 : a.eval (.tmp 8) = .agg #[.int .i64 t, u] := (hsl 5 _ _ rfl (by decide) rfl).trans h5
    obtain ⟨B, d, rfl⟩ := ho5.form
    have hC := HC.out.below hI HC.out.lt
    have hne : ∀ k, (Value.slice B b.length d).ownBlock = some k → k ≠ q + 1 := fun k hk => by
      obtain ⟨_, cs, hb⟩ := own_blk ho5 hk
      exact blk_ne hb hC (by decide)
    exact Lt.l_skip rfl rfl _ (run_storemid_op rfl e2 f5 (fun j hj => by
      have hj2 : j < 2 := hj
      rw [Nat.zero_add]
      refine ⟨?_, hC.free j⟩
      rw [hC.cell j]
      rcases (show j = 0 ∨ j = 1 by omega) with rfl | rfl <;> rfl) sizePc (by simp [Value.oneCell'])) ⟨_, rfl, fun _ _ _ => ⟨_, own_keep ho5 fun k hk => heap_setCells_ne W (q + 1) _ _ (hne k hk), set2_blk hC, HwX.out.trans ((hI.mono (by have := HwX.out.size; exact this)).trans ((But.setCells W (q + 1) 0 _).below (by have := HQ.out; omega) (Nat.le_trans HwX.out.size hI.size)))⟩⟩
  · rintro vals W ⟨u, h1, h2, h3⟩
    have H1 := Lib.hid h1
    have H2 := Lib.hid h2
    have H3 := Lib.hid h3
    clear h1 h2 h3
    go_wp2
    refine bodyPost_ret (ret_cell1 rfl _ _ _ _ _ _ rfl H2.out Try.underlying35 rfl sizePc) rfl ?_
    exact ⟨u, rfl, by rw [HQ.out]; exact H1.out, H3.out⟩

/-- What the operations of put's append yield. -/
def pU (q : Nat) (t : Int) (b : List UInt8) (m : Bool) (i : Nat) (v : Value) (W : World) : Prop := match i with
  | 7 => ∃ u, v = .agg #[.int .i64 t, u] ∧ Ob q W u b
  | 10 => ∃ u, v = .agg #[.int .i64 t, u, .bool m] ∧ Ob q W u b
  | 11 => ∃ u, SlK encP 3 W v [⟨t, b, u, m⟩] ∧ Ob q W u b
  | _ => True
theorem pU_keep {q : Nat} {t : Int} {b : List UInt8} {m : Bool} (i : Nat) (v : Value) (w w' : World) (hb : Below w.heap.size w w') (h : pU q t b m i v w) : pU q t b m i v w' := by
  unfold pU at *
  split at h
  · obtain ⟨u, e, h⟩ := h
    exact ⟨u, e, h.keep hb⟩
  · obtain ⟨u, e, h⟩ := h
    exact ⟨u, e, h.keep hb⟩
  · obtain ⟨u, e, h⟩ := h
    exact ⟨u, e.below hb, h.keep hb⟩
  · trivial
def puP (i : Nat) : Bool := [0, 13, 14].contains i
theorem sl_sent (t : Int) (u : Value) (m : Bool) (b : List UInt8) (w : World) : SlK encP 3 (w.alloc (.cells #[.int .i64 t, u, .bool m] 52)) (.slice (some ⟨w.heap.size, 0, none⟩) 1 1) [⟨t, b, u, m⟩] := by
  refine ⟨_, 1, rfl, Nat.le_refl _, fun _ => ⟨w.heap.size, 0, rfl, by simp, fun j x hj => ?_⟩⟩
  have : j = 0 := by
    have := (List.getElem?_eq_some_iff.1 hj).1
    simpa using this
  subst this
  have : x = ⟨t, b, u, m⟩ := by simpa using hj.symm
  subst this
  intro i u' hu
  have := (Blk.new w 52 #[.int .i64 t, u, .bool m]).cell i
  rw [show 0 + 0 * 3 + i = i from by omega, this]
  simpa [encP] using hu
theorem encP_one (p : Pc) : ∀ x ∈ encP p, x ≠ p.v → x.oneCell' = true := by
  intro x hx hn
  simp only [encP, List.mem_cons, List.not_mem_nil, or_false] at hx
  rcases hx with rfl | rfl | rfl
  · rfl
  · exact absurd rfl hn
  · rfl
/-- What a net is once a parcel lies behind all. -/
def PutQ (R g : Nat) (l : List Pc) (t : Int) (b : List UInt8) (m : Bool) (w w' : World) : Prop := ∃ v' u, Nt R w' g v' (l ++ [⟨t, b, u, m⟩]) ∧ Tn R w w'

set_option maxRecDepth 100000 in
set_option maxHeartbeats 2000000 in
theorem nput_any {R g : Nat} {v : Value} {l : List Pc} (t : Int) (vb : Value) (b : List UInt8) (m : Bool) (w : World) (h : Nt R w g v l) (hs : Sl bv w vb b) (hl : b.length ≤ 140737488355328) (hn : l.length < 256) :
    Calls Try.prog 14 #[.pointer (some ⟨g, 0, none⟩), .agg #[.int .i64 t, vb, .bool m]] w fun e w' => e = .returned (.int .i64 0) ∧ PutQ R g l t b m w w' := by
  obtain ⟨A, c, rfl⟩ := h.form
  obtain ⟨B, d, rfl⟩ := hs.form
  have HL := Lib.hid hl
  have HN256 := Lib.hid hn
  obtain ⟨q, hq⟩ : ∃ q, w.heap.size = q := ⟨_, rfl⟩
  obtain ⟨X, hX⟩ : ∃ X, X = w.alloc (.cells #[.int .i64 t, .slice B b.length d, .bool m] 52) := ⟨_, rfl⟩
  have hXb : Below w.heap.size w X := by rw [hX]; exact (Below.refl _ _).alloc (Nat.le_refl _) _
  have HB := Lib.hid (show Blk X q 52 #[.int .i64 t, .slice B b.length d, .bool m] by rw [hX, ← hq]; exact Blk.new w _ _)
  have HN := Lib.hid (h.keep hXb)
  have HS := Lib.hid (hs.below hXb)
  have HwX := Lib.hid hXb
  have HN0 := Lib.hid h
  have HQX := Lib.hid (show q ≤ X.heap.size from hq ▸ hXb.size)
  have HQ := Lib.hid hq
  have HRq := Lib.hid (show R ≤ w.heap.size from Nat.le_trans h.base (Nat.le_of_lt h.lt))
  have HX := Lib.hid hX
  have c0 := (h.keep hXb).blk.cell 0
  simp at c0
  clear hl hX hXb h hs
  go_enter Try.func14, Try.ntmps14
  go_upto_region 1 with fail
  rw [← HX.out]
  clear hq
  go_upto_region 3 with fail
  clear c0 hn
  refine wp_region_any (by kernel_rfl) ?_
  refine Lt.wpAny_turn puP (pN ([some (.pointer (some ⟨g, 0, none⟩)), some (.pointer (some ⟨g, 0, none⟩)), some (.pointer (some ⟨g, 0, none⟩)), some (.pointer (some ⟨g, 0, none⟩)), some (.slice A l.length c), some (.pointer (some ⟨q, 0, none⟩)), some (.agg #[.int .i64 t, .slice B b.length d]), none, some (.pointer (some ⟨q, 2, none⟩)), some (.bool m), none, none, none, some (.pointer (some ⟨g, 0, none⟩)), some (.pointer (some ⟨g, 0, none⟩)), some (undef)]) (pU q t b m)) _ X 12 15 _ _ (fun v W => ∃ u, OwnK encP R 52 3 W v (l ++ [Pc.mk t b u m]) ∧ Blk W g 49 #[.slice A l.length c] ∧ (∀ p ∈ l ++ [Pc.mk t b u m], Ob R W p.v p.b) ∧ Apart ((l ++ [Pc.mk t b u m]).map Pc.v) ∧ Tn R w W) (fun W => PutQ R g l t b m w W)
    (by kernel_rfl) (by decide) rfl rfl rfl (by kernel_rfl) (by kernel_rfl) (by kernel_rfl) (by kernel_rfl) (by kernel_rfl) (pN_keep pU_keep) (fun i v w w' hp h => ?_) ?_ ?_ ?_ ?_ ?_
  · have : i = 0 ∨ i = 13 ∨ i = 14 := by simpa [puP] using hp
    rcases this with rfl | rfl | rfl <;> exact h
  · refine ⟨?_, ?_, ?_, ?_, ?_, ?_, ?_, ?_, ?_, ?_, ?_, ?_, ?_, ?_, ?_, ?_, trivial⟩
    · exact fun _ _ h => absurd h (by decide)
    · intro _ _ _ a W hI hun haft hi
      have e0 : a.eval (.tmp 0) = .pointer (some ⟨g, 0, none⟩) := hun 0 (by kernel_rfl)
      exact b_same hi hI rfl _ (run_move_op rfl e0) rfl
    · intro _ _ _ a W hI hun haft hi
      have f1 : a.eval (.tmp 12) = .pointer (some ⟨g, 0, none⟩) := haft ⟨1, .data⟩ (by simp) rfl _ _ rfl rfl
      exact b_same hi hI rfl _ (run_nilCheck_op rfl f1) rfl
    · intro _ _ _ a W hI hun haft hi
      have f2 : a.eval (.tmp 13) = .pointer (some ⟨g, 0, none⟩) := haft ⟨2, .data⟩ (by simp) rfl _ _ rfl rfl
      exact b_same hi hI rfl _ (run_fieldAddr_any rfl f2 (at_net0 _ _ _)) rfl
    · intro _ _ _ a W hI hun haft hi
      have f3 : a.eval (.tmp 14) = .pointer (some ⟨g, 0, none⟩) := haft ⟨3, .data⟩ (by simp) rfl _ _ rfl rfl
      exact b_same hi hI rfl _ (run_load1_op rfl f3 Try.underlying47 rfl ((HN.out.keep hI).blk.cell 0)) rfl
    · intro _ _ _ a W hI hun haft hi
      have e3 : a.eval (.tmp 3) = .pointer (some ⟨q, 0, none⟩) := hun 3 (by kernel_rfl)
      exact b_same hi hI rfl _ (run_fieldAddr_any rfl e3 (at_sent0 _ _ _)) rfl
    · intro _ _ _ a W hI hun haft hi
      have f5 : a.eval (.tmp 16) = .pointer (some ⟨q, 0, none⟩) := haft ⟨5, .data⟩ (by simp) rfl _ _ rfl rfl
      exact b_same hi hI rfl _ (run_loadmid_op (cs := [.int .i64 t, .slice B b.length d]) rfl f5 (World.rangeAt_of_block (C := #[.int .i64 t, .slice B b.length d, .bool m]) (HB.out.below hI HB.out.lt) 0 2) Try.underlying35 rfl sizePc) rfl
    · intro _ _ _ a W hI hun haft hi
      have f6 : a.eval (.tmp 17) = .agg #[.int .i64 t, .slice B b.length d] := haft ⟨6, .data⟩ (by simp) rfl _ _ rfl rfl
      refine b_call hi hI rfl _ _ (run_call_op (args := #[.agg #[.int .i64 t, .slice B b.length d]]) rfl (by simp [f6]) (by kernel_rfl)) ?_
      exact (twin_any t _ b W (HS.out.below hI) HL.out).mono fun e w' H => by
        obtain ⟨u, e1, h1, h2⟩ := H
        exact ⟨_, e1, ⟨u, rfl, own_base h1 (Nat.le_trans HQX.out hI.size)⟩, h2⟩
    · intro _ _ _ a W hI hun haft hi
      have e3 : a.eval (.tmp 3) = .pointer (some ⟨q, 0, none⟩) := hun 3 (by kernel_rfl)
      exact b_same hi hI rfl _ (run_fieldAddr_any rfl e3 (at_sent1 _ _ _)) rfl
    · intro _ _ _ a W hI hun haft hi
      have f8 : a.eval (.tmp 19) = .pointer (some ⟨q, 2, none⟩) := haft ⟨8, .data⟩ (by simp) rfl _ _ rfl rfl
      exact b_same hi hI rfl _ (run_load1_op rfl f8 Try.underlying4 rfl ((HB.out.below hI HB.out.lt).cell 2)) rfl
    · intro _ _ _ a W hI hun haft hi
      have z7 : ∃ u, (a.eval (.tmp 18)) = .agg #[.int .i64 t, u] ∧ Ob q W u b := haft ⟨7, .data⟩ (by simp) rfl _ _ rfl rfl
      have f9 : a.eval (.tmp 20) = .bool m := haft ⟨9, .data⟩ (by simp) rfl _ _ rfl rfl
      obtain ⟨u, hz, ho⟩ := z7
      obtain ⟨C, k, rfl⟩ := Ob.form ho
      exact b_same hi hI rfl _ (run_build_op rfl (by simp only [List.map_toArray, List.map_cons, List.map_nil, hz, f9]) (build_sent t C b.length k m W)) ⟨_, rfl, ho⟩
    · intro _ _ _ a W hI hun haft hi
      have z10 : ∃ u, (a.eval (.tmp 21)) = .agg #[.int .i64 t, u, .bool m] ∧ Ob q W u b := haft ⟨10, .data⟩ (by simp) rfl _ _ rfl rfl
      obtain ⟨u, hz, ho⟩ := z10
      obtain ⟨C, k, rfl⟩ := Ob.form ho
      have hba : Below W.heap.size W (W.alloc (.cells #[.int .i64 t, .slice C b.length k, .bool m] 52)) := (Below.refl _ _).alloc (Nat.le_refl _) _
      refine b_val hi hI rfl _ _ (run_buildSlice_op rfl (by simp only [List.map_toArray, List.map_cons, List.map_nil, hz]) (bs_sent t C b.length k m W)) hba ⟨_, sl_sent t _ m b W, ho.keep hba⟩
    · exact fun _ h => absurd rfl h
    · exact fun _ _ h => absurd h (by decide)
    · exact fun _ _ h => absurd h (by decide)
    · exact fun h => absurd h (Nat.lt_irrefl _)
  · refine ⟨?_, ?_, ?_, ?_, ?_, ?_, ?_, ?_, ?_, ?_, ?_, ?_, ?_, ?_, ?_, ?_, trivial⟩
    · intro _ _ a W hun haft hi
      have e0 : a.eval (.tmp 0) = .pointer (some ⟨g, 0, none⟩) := hun 0 (by kernel_rfl)
      exact wpOp_val hi rfl _ _ (run_move_op rfl e0) ⟨_, rfl, rfl, rfl⟩
    · exact fun _ h => absurd h (by decide)
    · exact fun _ h => absurd h (by decide)
    · exact fun _ h => absurd h (by decide)
    · exact fun _ h => absurd h (by decide)
    · exact fun _ h => absurd h (by decide)
    · exact fun _ h => absurd h (by decide)
    · exact fun _ h => absurd h (by decide)
    · exact fun _ h => absurd h (by decide)
    · exact fun _ h => absurd h (by decide)
    · exact fun _ h => absurd h (by decide)
    · exact fun _ h => absurd h (by decide)
    · exact fun _ h => absurd h (by decide)
    · intro _ _ a W hun haft hi
      have f0 : a.eval (.tmp 11) = .pointer (some ⟨g, 0, none⟩) := haft ⟨0, .data⟩ (by simp) rfl rfl _ _ rfl rfl
      exact wpOp_val hi rfl _ _ (run_nilCheck_op rfl f0) ⟨_, rfl, rfl, rfl⟩
    · intro _ _ a W hun haft hi
      have f13 : a.eval (.tmp 24) = .pointer (some ⟨g, 0, none⟩) := haft ⟨13, .data⟩ (by simp) rfl rfl _ _ rfl rfl
      exact wpOp_val hi rfl _ _ (run_fieldAddr_any rfl f13 (at_net0 _ _ _)) ⟨_, rfl, rfl, rfl⟩
    · exact fun h => absurd h (Nat.lt_irrefl _)
  · intro a W hI hun haft
    have f4 : a.eval (.tmp 15) = .slice A l.length c := haft ⟨4, .data⟩ (by simp) rfl _ _ rfl rfl
    obtain ⟨u, z11, hou⟩ : ∃ u, SlK encP 3 W (a.eval (.tmp 22)) [⟨t, b, u, m⟩] ∧ Ob q W u b := haft ⟨11, .data⟩ (by simp) rfl _ _ rfl rfl
    have hN := HN.out.keep hI
    have hRW : R ≤ W.heap.size := Nat.le_trans (Nat.le_trans HRq.out HwX.out.size) hI.size
    have hRq : R ≤ q := by have := HRq.out; rw [HQ.out] at this; exact this
    obtain ⟨i, hi, hz0, hz1, hz2⟩ := info_parts infoSent
    have hou1 : u.oneCell' = true := by obtain ⟨C, k, rfl⟩ := hou.form; rfl
    obtain ⟨v', w3, hr3, ho3, hg3⟩ := run_append_K1 (P := Try.prog) encP_len (by decide) W R 47 47 52 i _ 40 Try.underlying47 hi hz0 hz1 hz2 rfl _ l hN.own _ [⟨t, b, u, m⟩] z11
      (fun p hp x hx => by
        have : p = ⟨t, b, u, m⟩ := by simpa using hp
        subst this
        by_cases hxu : x = u
        · rw [hxu]; exact hou1
        · exact encP_one _ x hx hxu) (by have := HN256.out; simp; omega) (by have := HN256.out; simp; omega) hRW
    refine wpOp_val rfl rfl v' w3 (run_append_op rfl f4 rfl hr3) ⟨_, rfl, u, ho3, ?_, ?_, ?_, ?_⟩
    · refine (hg3.block g hN.lt fun e => ?_).trans hN.blk
      obtain ⟨_, cs, hb⟩ := own_blk hN.own e.symm
      exact blk_ne hb hN.blk (by decide) rfl
    · have hk : ∀ (x : Value) (y : List UInt8) (R' : Nat), Ob R' W x y → Ob R' w3 x y := fun x y R' hx => own_keep hx fun k hk => hg3.block k (Blk.lt (own_blk hx hk).2.choose_spec) fun e => by
        obtain ⟨_, cs, hb⟩ := own_blk hN.own e.symm
        obtain ⟨_, cs', hb'⟩ := own_blk hx hk
        exact blk_ne hb hb' (by decide) rfl
      intro p hp
      rcases List.mem_append.1 hp with hp | hp
      · exact hk _ _ _ (hN.row p hp)
      · have : p = ⟨t, b, u, m⟩ := by simpa using hp
        subst this
        exact own_base (hk _ _ _ hou) hRq
    · rw [List.map_append]
      refine List.pairwise_append.2 ⟨hN.apart, by simp, fun x hx y hy k hkx => ?_⟩
      obtain ⟨p, hp, rfl⟩ := List.mem_map.1 hx
      have : y = u := by simpa using hy
      subst this
      intro hky
      have h1 := (own_blk hou hky).1
      have h2 := (own_blk (HN.out.row p hp) hkx).2.choose_spec.lt
      have h3 := (own_blk (HN0.out.row p hp) hkx).2.choose_spec.lt
      have := HQ.out
      omega
    · exact ((Tn.of_below HwX.out HRq.out).then hI HRq.out).trans (Tn.grown hg3 hRW (fun k hk => own_blk hN.own hk) (.inr (.inl rfl)))
  · intro vals a W hJ hsl hp
    obtain ⟨u, h1, h2, h3, h4, h5⟩ := hJ
    have f14 : a.eval (.tmp 25) = .pointer (some ⟨g, 0, none⟩) := (hsl 14 _ _ rfl (by decide) rfl).trans (hp 14 (by decide) (by decide))
    have f12 : a.eval (.tmp 23) = vals 12 := hsl 12 _ _ rfl (by decide) rfl
    obtain ⟨A', c', hv, _, _⟩ := h1.read encP_len
    rw [hv] at f12 h1
    have hne : ∀ (e : TypeId) (x : Value) (R' k n : Nat) (xs : List Value), e ≠ 49 → W.ownsRow R' e k x n xs → ∀ j, x.ownBlock = some j → j ≠ g := fun e x R' k n xs he hx j hj => by
      obtain ⟨_, cs, hb⟩ := own_blk hx hj
      exact blk_ne hb h2 he
    refine Lt.l_skip rfl rfl _ (run_store1_op rfl f14 f12 rfl rfl sizeRow ((h2.cell 0).trans rfl) (h2.free 0)) ⟨_, rfl, _, u, ⟨HN.out.base, by simpa using h2.set_ 0 _, own_keep h1 fun k hk => Below.heap_setCell W ⟨g, 0, none⟩ _ k (hne _ _ _ _ _ _ (by decide) h1 k hk), fun p hp => own_keep (h3 p hp) fun k hk => Below.heap_setCell W ⟨g, 0, none⟩ _ k (hne _ _ _ _ _ _ (by decide) (h3 p hp) k hk), h4⟩,
      h5.trans (Tn.but (But.setCell W g 0 _) HN.out.base (Nat.le_trans HN.out.base (Nat.le_of_lt h2.lt)) h2 (.inl rfl))⟩
  · rintro vals W hJ
    have HJ := Lib.hid hJ
    clear hJ
    simp only [layN, List.size_toArray, List.length_cons, List.length_nil, List.range, List.range.loop, if_true, List.getElem?_toArray, List.getElem?_cons_zero, List.getElem?_cons_succ, Act.put, List.setIfInBounds_toArray, List.set_cons_zero, List.set_cons_succ, Nat.zero_add, Nat.reduceAdd]
    go_wp2
    go_ret
    exact ⟨rfl, HJ.out⟩

set_option maxRecDepth 100000 in
set_option maxHeartbeats 1000000 in
theorem nput_full {R g : Nat} {v : Value} {l : List Pc} (t : Int) (vb : Value) (b : List UInt8) (m : Bool) (w : World) (h : Nt R w g v l) (hs : Sl bv w vb b) (hn : 256 ≤ l.length) :
    Calls Try.prog 14 #[.pointer (some ⟨g, 0, none⟩), .agg #[.int .i64 t, vb, .bool m]] w fun e w' => e = .returned (.int .i64 6) ∧ Below w.heap.size w w' := by
  obtain ⟨A, c, rfl⟩ := h.form
  obtain ⟨B, d, rfl⟩ := hs.form
  have hXb : Below w.heap.size w (w.alloc (.cells #[.int .i64 t, .slice B b.length d, .bool m] 52)) := (Below.refl _ _).alloc (Nat.le_refl _) _
  have c0 := (h.keep hXb).blk.cell 0
  simp at c0
  have HX := Lib.hid hXb
  clear h hs hXb
  go_enter Try.func14, Try.ntmps14
  go_wp2
  go_ret
  exact ⟨rfl, HX.out⟩

end Go.Proofs.Ytoicncmlmhljmaa
