/-
  Buffer.Lacks, All, Add, Ack: the contracts, by walks (written by genbf.py). Conditions: lengths.
-/
import Derived.Test.YtbhckfkjbeocoaaBfLacks
import Derived.Test.YtbhckfkjbeocoaaTurn
namespace Go.Proofs.Ytbhckfkjbeocoaa
open Go.RowKit

theorem run_storesl_op {P : Program} {o : Oper} {ρ : Operand → Value} {w : World} {ty : TypeId} {x y : Operand} {ad : Addr} {A : Option Addr} {n c : Nat} {u : Value} (ho : o.op = .store ty x y) (hx : ρ x = .pointer (some ad)) (hy : ρ y = .slice A n c) (hi : (P.info? ty).map (·.size) = some 1) (hc : w.cell? ad = some u) (hf : w.frozen? ad = false) :
    (execOp ρ o).run P w = .ok .skip (w.setCell ad (.slice A n c)) := by
  cases hq : P.info? ty with
  | none => simp [hq] at hi
  | some i =>
    have hs : i.size = 1 := by simpa [hq] using hi
    have h2 : (storeVar ty ad (.slice A n c)).run P w = .ok () (w.setCell ad (.slice A n c)) := by
      simp [storeVar, Value.cells, sizeOf, typeInfo, hq, hs, storeCells, run_store P _ _ (.slice A n c) _ rfl, Addr.add_zero', hc, hf, Result.andThen]
    unfold execOp
    simp only [ho, hx, hy, Instr.storeAt, Instr.sureAddr, Sem.run_bind, Sem.run_pure, Result.andThen_ok, h2]
theorem heap_setCells_ne (w : World) (g o : Nat) (vs : List Value) {k : Nat} (h : k ≠ g) : (w.setCells g o vs).heap[k]? = w.heap[k]? := by
  induction vs generalizing o w with
  | nil => rfl
  | cons u r ih => exact (ih _ _).trans (Below.heap_setCell w ⟨g, o, none⟩ u k h)
/-- What the operations of the append yield. -/
def pA (P : Nat) (A : Option Addr) (n c : Nat) (e : Ev) (i : Nat) (v : Value) (W : World) : Prop :=
  match i with
  | 0 | 1 | 2 | 8 => v = .pointer (some ⟨P, 0, none⟩)
  | 3 | 9 => v = .pointer (some ⟨P, 258, none⟩)
  | 4 => v = .slice A n c
  | 5 => v = .agg (evC e)
  | 6 => SlK encE 27 W v [e]
  | _ => True
theorem pA_keep {P : Nat} {A : Option Addr} {n c : Nat} {e : Ev} {i : Nat} {v : Value} {w w' : World} (hb : Below w.heap.size w w') (h : pA P A n c e i v w) : pA P A n c e i v w' := by
  unfold pA at *
  split at h
  all_goals first
    | exact h
    | exact h.below hb
def puA (i : Nat) : Bool := [0, 1, 2, 3, 8, 9].contains i
theorem pA_pure {P : Nat} {A : Option Addr} {n c : Nat} {e : Ev} (i : Nat) (v : Value) (w w' : World) (hp : puA i = true) (h : pA P A n c e i v w) : pA P A n c e i v w' := by
  have : i = 0 ∨ i = 1 ∨ i = 2 ∨ i = 3 ∨ i = 8 ∨ i = 9 := by simpa [puA] using hp
  rcases this with rfl | rfl | rfl | rfl | rfl | rfl <;> exact h
def pK (R : Nat) (L : List Ev) (tab : List (Option Value)) (i : Nat) (v : Value) (W : World) : Prop := match tab.getD i (some undef) with | some u => v = u | none => OwnK encE R 35 27 W v L
theorem pK_keep {R : Nat} {L : List Ev} {tab : List (Option Value)} {i : Nat} {v : Value} {w w' : World} (hb : Below w.heap.size w w') (h : pK R L tab i v w) : pK R L tab i v w' := by
  unfold pK at *
  split at h
  · exact h
  · exact h.keep hb
theorem at_buffer2 (g q : Nat) (w : World) : (Instr.fieldAt 49 (.pointer (some ⟨g, q, none⟩)) 2).run Try.prog w = .ok (.pointer (some ⟨g, q + 2, none⟩)) w := by go_simp
theorem at_buffer3 (g q : Nat) (w : World) : (Instr.fieldAt 49 (.pointer (some ⟨g, q, none⟩)) 3).run Try.prog w = .ok (.pointer (some ⟨g, q + 258, none⟩)) w := by go_simp
theorem at_event0 (g q : Nat) (w : World) : (Instr.fieldAt 35 (.pointer (some ⟨g, q, none⟩)) 0).run Try.prog w = .ok (.pointer (some ⟨g, q, none⟩)) w := by go_simp
theorem eq_pnil (g q : Nat) (w : World) : (binOp .eql 24 (.pointer (some ⟨g, q, none⟩)) (.pointer none)).run Try.prog w = .ok (.bool false) w := by go_simp
/-- What was there is as it was, but for the buffer and the row of its own. -/
structure Bm (P : Nat) (v : Value) (w w' : World) : Prop where
  os : w'.os = w.os
  tape : w'.tape = w.tape
  output : w'.output = w.output
  size : w.heap.size ≤ w'.heap.size
  block : ∀ k, k < w.heap.size → k ≠ P → v.ownBlock ≠ some k → w'.heap[k]? = w.heap[k]?
section
variable {P : Nat} {v : Value} {w w1 w2 : World}
theorem Bm.of_below (h : Below w.heap.size w w1) : Bm P v w w1 := ⟨h.os, h.tape, h.output, h.size, fun k hk _ _ => h.block k hk⟩
theorem Bm.then (h : Bm P v w w1) (k : Below w1.heap.size w1 w2) : Bm P v w w2 := ⟨k.os.trans h.os, k.tape.trans h.tape, k.output.trans h.output, Nat.le_trans h.size k.size, fun i hi h1 h2 => (k.block i (Nat.lt_of_lt_of_le hi h.size)).trans (h.block i hi h1 h2)⟩
theorem Bm.grown (h : Bm P v w w1) (k : w1.grownBy w2 v.ownBlock) : Bm P v w w2 := ⟨k.os.trans h.os, k.tape.trans h.tape, k.output.trans h.output, Nat.le_trans h.size k.size, fun i hi h1 h2 => (k.block i (Nat.lt_of_lt_of_le hi h.size) (fun e => h2 e.symm)).trans (h.block i hi h1 h2)⟩
theorem Bm.setP (h : Bm P v w w1) (i : Nat) (u : Value) : Bm P v w (w1.setCell ⟨P, i, none⟩ u) := ⟨h.os, h.tape, h.output, Nat.le_trans h.size (by simp [World.setCell]), fun k hk h1 h2 => (Below.heap_setCell w1 ⟨P, i, none⟩ u k h1).trans (h.block k hk h1 h2)⟩
theorem Bm.setsP (h : Bm P v w w1) (o : Nat) (us : List Value) : Bm P v w (w1.setCells P o us) := by
  induction us generalizing o w1 with
  | nil => exact h
  | cons u r ih => exact ih (h.setP o u) _
theorem Bm.below {R : Nat} {l : List Ev} (h : Bm P v w w1) (hR : R ≤ P) (ho : OwnK encE R 35 27 w v l) (hP : P < w.heap.size) : Below R w w1 := ⟨h.os, h.tape, h.output, h.size, fun k hk => h.block k (by omega) (by omega) (fun e => by have := (ho.lt k e).1; omega)⟩
end
theorem own_form {R : Nat} {w : World} {v : Value} {l : List Ev} (h : OwnK encE R 35 27 w v l) : ∃ A c, v = .slice A l.length c := by
  obtain ⟨A, c, rfl, _, _⟩ := h.read encE_len
  exact ⟨A, c, rfl⟩

set_option maxRecDepth 100000 in
set_option maxHeartbeats 2000000 in
theorem blacks_any {P : Nat} {n s : Int} {f : Nat → Nat → Int} {v : Value} (l : List Ev) (R : Nat) (g : Nat → Int) (M : Int) (w : World) (hb : Bf w P n s f v) (ho : OwnK encE R 35 27 w v l) (hM : (l.length : Int) ≤ M) (hN2 : l.length ≤ 10000) :
    Calls Try.prog 9 #[.pointer (some ⟨P, 0, none⟩), .agg (vA g), .int .i64 M] w fun x w' => ∃ u, x = .returned u ∧ OwnK encE w.heap.size 35 27 w' u (lackL g l) ∧ Below w.heap.size w w' := by
  obtain ⟨A, c, rfl⟩ := own_form ho
  have HM := Lib.hid hM
  have HN2 := Lib.hid hN2
  obtain ⟨q, hq⟩ : ∃ q, w.heap.size = q := ⟨_, rfl⟩
  have HQ := Lib.hid hq
  obtain ⟨X, hX⟩ : ∃ X, X = w.alloc (.cells (vA g) 27) := ⟨_, rfl⟩
  have hXb : Below w.heap.size w X := by rw [hX]; exact (Below.refl _ _).alloc (Nat.le_refl _) _
  have HV := Lib.hid (show VB X q g by rw [hX, ← hq]; exact VB.new_ _ rfl)
  have HBf := Lib.hid (hb.keep hXb)
  have HSl := Lib.hid ((ho.read encE_len).below hXb)
  have HXb := Lib.hid hXb
  have HX := Lib.hid hX
  clear hM hN2 hX hXb hb ho
  go_enter Try.func9, Try.ntmps9
  go_upto_region 1 with fail
  rw [← HX.out]
  clear hq
  go_upto_region 3 with fail
  refine wp_region_any (by kernel_rfl) ?_
  refine wpAny_below (fun i uq wq => pK q ((lackL g l)) ([some (.agg (vA g)), some (.pointer (some ⟨P, 0, none⟩)), some (.pointer (some ⟨P, 0, none⟩)), some (.pointer (some ⟨P, 258, none⟩)), some (.slice A l.length c), some (.int .i64 M), none, none] : List (Option Value)) i uq wq) _ X (by kernel_rfl) (by kernel_rfl) (by kernel_rfl) (fun i v w w' hb h => pK_keep hb h) ?_ ?_
  · refine ⟨?_, ?_, ?_, ?_, ?_, ?_, ?_, ?_, trivial⟩
    · intro a W hI hun haft hi
      have e4 : a.eval (.tmp 4) = .pointer (some ⟨q, 0, none⟩) := hun 4 (by kernel_rfl)
      exact b_same hi hI rfl _ (run_load_op rfl e4 (Blk.below HV.out hI (Blk.lt HV.out)) Try.underlying27 rfl (sizeV _)) rfl
    · intro a W hI hun haft hi
      have e0 : a.eval (.tmp 0) = .pointer (some ⟨P, 0, none⟩) := hun 0 (by kernel_rfl)
      exact b_same hi hI rfl _ (run_move_op rfl e0) rfl
    · intro a W hI hun haft hi
      have f1 : a.eval (.tmp 10) = .pointer (some ⟨P, 0, none⟩) := haft ⟨1, .data⟩ (by simp) rfl _ _ rfl rfl
      exact b_same hi hI rfl _ (run_nilCheck_op rfl f1) rfl
    · intro a W hI hun haft hi
      have f2 : a.eval (.tmp 11) = .pointer (some ⟨P, 0, none⟩) := haft ⟨2, .data⟩ (by simp) rfl _ _ rfl rfl
      exact b_same hi hI rfl _ (run_fieldAddr_any rfl f2 (at_buffer3 _ 0 _)) rfl
    · intro a W hI hun haft hi
      have f3 : a.eval (.tmp 12) = .pointer (some ⟨P, 258, none⟩) := haft ⟨3, .data⟩ (by simp) rfl _ _ rfl rfl
      exact b_same hi hI rfl _ (run_loadsl_op rfl f3 Try.underlying22 ((HBf.out.keep hI).cv)) rfl
    · intro a W hI hun haft hi
      have e2 : a.eval (.tmp 2) = .int .i64 M := hun 2 (by kernel_rfl)
      exact b_same hi hI rfl _ (run_move_op rfl e2) rfl
    · intro a W hI hun haft hi
      have f0 : a.eval (.tmp 9) = .agg (vA g) := haft ⟨0, .data⟩ (by simp) rfl _ _ rfl rfl
      have f4 : a.eval (.tmp 13) = .slice A l.length c := haft ⟨4, .data⟩ (by simp) rfl _ _ rfl rfl
      have f5 : a.eval (.tmp 14) = .int .i64 M := haft ⟨5, .data⟩ (by simp) rfl _ _ rfl rfl
      refine b_call hi hI rfl _ _ (run_call_op (args := #[.agg (vA g), .slice A l.length c, .int .i64 M]) rfl (by simp [f0, f4, f5]) (by kernel_rfl)) ?_
      exact (lacks_any l A l.length c g M W HM.out (SlK.below HSl.out hI) rfl HN2.out).mono fun e w' H => by
        obtain ⟨v, e1, h1, h2⟩ := H
        exact ⟨v, e1, h1.base_ (Nat.le_trans (Nat.le_of_lt (Blk.lt HV.out)) hI.size), h2⟩
    · intro a W hI hun haft hi
      have f6 : OwnK encE q 35 27 W (a.eval (.tmp 15)) (lackL g l) := haft ⟨6, .data⟩ (by simp) rfl _ _ rfl rfl
      exact b_same hi hI rfl _ (run_assign_op rfl rfl) f6
  · intro vals W hI hp
    have ho7 : OwnK encE q 35 27 W (vals 7) (lackL g l) := hp 7 (by decide)
    have HI := Lib.hid hI
    clear hp hI
    simp only [layN, List.size_toArray, List.length_cons, List.length_nil, List.range, List.range.loop, if_true, List.getElem?_toArray, List.getElem?_cons_zero, List.getElem?_cons_succ, Act.put, List.setIfInBounds_toArray, List.set_cons_zero, List.set_cons_succ, Nat.zero_add, Nat.reduceAdd]
    go_wp2
    go_ret
    exact ⟨_, rfl, by rw [HQ.out]; exact ho7, by rw [HQ.out]; exact (HXb.out.mono (by rw [HQ.out]; exact Nat.le_refl _)).trans (HI.out.mono (Nat.le_of_lt (Blk.lt HV.out)))⟩

set_option maxRecDepth 100000 in
set_option maxHeartbeats 1000000 in
theorem bclone_any (l : List Ev) (R : Nat) (v : Value) (w : World) (ho : OwnK encE R 35 27 w v l) (hl : l.length ≤ 10000) :
    Calls Try.prog 16 #[v] w fun x w' => ∃ u, x = .returned u ∧ OwnK encE w.heap.size 35 27 w' u l ∧ Below w.heap.size w w' := by
  have HS := Lib.hid (ho.read encE_len)
  have HL := Lib.hid hl
  obtain ⟨h1, h2⟩ := ho
  rcases h2 with ⟨rfl, h0⟩ | ⟨g, cap, cur, rfl, _⟩
  · have e : l = [] := List.eq_nil_of_length_eq_zero h0
    subst e
    clear h1 h0
    have hnil := Lib.run_eql_slice_nil (P := Try.prog) w 22 35 none 0 0 0 0 Try.underlying22
    go_enter Try.func16, Try.ntmps16
    go_wp2_with (first
      | (refine wpList_val (o := ⟨some 4, _, _, _, _, _⟩) rfl (.bool true) w (run_bin_op rfl rfl rfl (by kernel_rfl) hnil) ?_)
      | fail)
    go_ret
    exact ⟨_, rfl, OwnK.nil_ _ _ _ _ _, Below.refl _ _⟩
  · clear h1
    have hba : Below w.heap.size w (w.alloc (.cells #[] 35)) := (Below.refl _ _).alloc (Nat.le_refl _) _
    obtain ⟨u, w3, hr3, ho3, hg3⟩ := append_ev w.heap.size _ _ [] (own_empty w) _ l (HS.out.below hba) (by have := HL.out; simp; omega) (by simp)
    have HA := Lib.hid hr3
    have HO3 := Lib.hid ho3
    have HB3 := Lib.hid (hba.grown hg3 hba.size (fun k hk => by have := Option.some.inj hk; exact Nat.le_of_eq this))
    have HBs := Lib.hid (bsNil w)
    clear hr3 ho3 hg3 hba
    have hnil := fun n c => Lib.run_eql_slice_nil (P := Try.prog) w 22 35 (some ⟨g, 0, none⟩) n c 0 0 Try.underlying22
    go_enter Try.func16, Try.ntmps16
    go_wp2_with (first
      | (refine wpList_val (o := ⟨some 4, _, _, _, _, _⟩) rfl (.bool false) w (run_bin_op rfl rfl rfl (by kernel_rfl) (hnil l.length cap)) ?_)
      | (refine wpList_val (o := ⟨some 5, _, _, _, _, _⟩) rfl (.slice (some ⟨w.heap.size, 0, none⟩) 0 0) (w.alloc (.cells #[] 35)) (run_buildSlice_op (vs := #[]) rfl rfl HBs.out) ?_)
      | (at_builtin; refine Lib.wpList_append_run (o := ⟨some 7, _, _, _, _, _⟩) _ rfl _ _ _ _ rfl _ _ rfl rfl _ _ HA.out ?_)
      | fail)
    go_ret
    exact ⟨_, rfl, by simpa using HO3.out, HB3.out⟩

theorem ball_any {P : Nat} {n s : Int} {f : Nat → Nat → Int} {v : Value} (l : List Ev) (R : Nat) (w : World) (hb : Bf w P n s f v) (ho : OwnK encE R 35 27 w v l) (hl : l.length ≤ 10000) :
    Calls Try.prog 8 #[.pointer (some ⟨P, 0, none⟩)] w fun x w' => ∃ u, x = .returned u ∧ OwnK encE w.heap.size 35 27 w' u l ∧ Below w.heap.size w w' := by
  have HC := Lib.hid (bclone_any l R v w ho hl)
  obtain ⟨A, c, rfl⟩ := own_form ho
  have c0 := hb.cv
  clear hb ho hl
  go_enter Try.func8, Try.ntmps8
  go_wp2_with fail
  refine HC.out.mono ?_
  rintro x w' ⟨u, rfl, h1, h2⟩
  have H1 := Lib.hid h1
  have H2 := Lib.hid h2
  clear h1 h2
  go_wp2
  go_ret
  exact ⟨_, rfl, H1.out, H2.out⟩

/-- Is an event known to all? What is there with it? -/
def addB (n s : Int) (f : Nat → Nat → Int) (e : Ev) : Bool := decide (n < 2) || knowsB (stF n s f 16) e.r e.c
def addL (n s : Int) (f : Nat → Nat → Int) (l : List Ev) (e : Ev) : List Ev := if addB n s f e = true then l else l ++ [e]
theorem alone_is {P : Nat} {n s : Int} {f : Nat → Nat → Int} {v : Value} {b : Bool} (h : decide (n < 2) = b) (w : World) (hb : Bf w P n s f v) : Calls Try.prog 14 #[.pointer (some ⟨P, 0, none⟩)] w fun e w' => e = .returned (.bool b) ∧ Below w.heap.size w w' := by
  subst h; exact alone_any w hb
set_option maxRecDepth 100000 in
set_option maxHeartbeats 4000000 in
theorem badd_any {P : Nat} {n s : Int} {f : Nat → Nat → Int} {v : Value} (l : List Ev) (e : Ev) (R : Nat) (w : World) (hb : Bf w P n s f v) (ho : OwnK encE R 35 27 w v l) (hR : R ≤ P) (hl : l.length ≤ 10000) :
    Calls Try.prog 6 #[.pointer (some ⟨P, 0, none⟩), .agg (evC e)] w fun x w' => x = .returned (.tuple #[]) ∧ ∃ u, Bf w' P n s f u ∧ OwnK encE R 35 27 w' u (addL n s f l e) ∧ Bm P v w w' := by
  obtain ⟨A, c, rfl⟩ := own_form ho
  have HL := Lib.hid hl
  obtain ⟨G, hG⟩ : ∃ G, stF n s f 16 = G := ⟨_, rfl⟩
  have HG := Lib.hid hG
  obtain ⟨q, hq⟩ : ∃ q, w.heap.size = q := ⟨_, rfl⟩
  obtain ⟨X, hX⟩ : ∃ X, X = w.alloc (.cells (evC e) 35) := ⟨_, rfl⟩
  have hXb : Below w.heap.size w X := by rw [hX]; exact (Below.refl _ _).alloc (Nat.le_refl _) _
  have HE := Lib.hid (show EB X q e by rw [hX, ← hq]; exact EB.new_ _ _)
  have HBf := Lib.hid (hb.keep hXb)
  have HO := Lib.hid (ho.keep hXb)
  have HXb := Lib.hid (Bm.of_below (P := P) (v := .slice A l.length c) hXb)
  have HRX := Lib.hid (show R ≤ X.heap.size from Nat.le_trans (Nat.le_trans hR (Nat.le_of_lt hb.lt)) hXb.size)
  have HRP := Lib.hid hR
  have HX := Lib.hid hX
  clear hl hX hXb hb ho hG hR
  go_enter Try.func6, Try.ntmps6
  go_upto_region 1 with fail
  rw [← HX.out]
  clear hq
  cases hn : decide (n < 2)
  · have HN := Lib.hid hn
    clear hn
    cases hk : knowsB G e.r e.c
    · have HK := Lib.hid hk
      clear hk
      refine wp_region_any (by kernel_rfl) ?_
      refine wpAny_below (fun i uq wq => pK R (l) ([some (.pointer (some ⟨P, 0, none⟩)), some (.bool false), some (.bool false), some (.pointer (some ⟨P, 0, none⟩)), some (.bool false), some (.bool false), some (.bool false), some (.pointer (some ⟨P, 0, none⟩)), some (.agg (vA G)), some (.pointer (some ⟨q, 0, none⟩)), some (.agg #[.int .i64 e.r, .int .i64 e.c]), some (.bool false), some (.bool false)] : List (Option Value)) i uq wq) _ X (by kernel_rfl) (by kernel_rfl) (by kernel_rfl) (fun i v w w' hb h => pK_keep hb h) ?_ ?_
      · refine ⟨?_, ?_, ?_, ?_, ?_, ?_, ?_, ?_, ?_, ?_, ?_, ?_, ?_, trivial⟩
        · intro a W hI hun haft hi
          have e0 : a.eval (.tmp 0) = .pointer (some ⟨P, 0, none⟩) := hun 0 (by kernel_rfl)
          exact b_same hi hI rfl _ (run_move_op rfl e0) rfl
        · intro a W hI hun haft hi
          have f0 : a.eval (.tmp 4) = .pointer (some ⟨P, 0, none⟩) := haft ⟨0, .data⟩ (by simp) rfl _ _ rfl rfl
          exact b_same hi hI rfl (.bool false) (run_bin_op rfl f0 rfl (by kernel_rfl) (eq_pnil P 0 _)) rfl
        · intro a W hI hun haft hi
          have f1 : a.eval (.tmp 5) = .bool false := haft ⟨1, .data⟩ (by simp) rfl _ _ rfl rfl
          exact b_same hi hI rfl _ (run_move_op rfl f1) rfl
        · intro a W hI hun haft hi
          have fg : a.eval (.tmp 6) = .bool false := haft ⟨2, .guard⟩ (by simp) rfl _ _ rfl rfl
          have e0 : a.eval (.tmp 0) = .pointer (some ⟨P, 0, none⟩) := hun 0 (by kernel_rfl)
          exact b_same hi hI (guard_ok rfl rfl rfl fg) _ (run_move_op rfl e0) rfl
        · intro a W hI hun haft hi
          have fg : a.eval (.tmp 6) = .bool false := haft ⟨2, .guard⟩ (by simp) rfl _ _ rfl rfl
          have f3 : a.eval (.tmp 7) = .pointer (some ⟨P, 0, none⟩) := haft ⟨3, .data⟩ (by simp) rfl _ _ rfl rfl
          refine b_call hi hI (guard_ok rfl rfl rfl fg) _ _ (run_call_op (args := #[.pointer (some ⟨P, 0, none⟩)]) rfl (by simp [f3]) (by kernel_rfl)) ?_
          exact (alone_is HN.out W (HBf.out.keep hI)).mono fun e w' H => ⟨_, H.1, rfl, H.2⟩
        · intro a W hI hun haft hi
          have f2 : a.eval (.tmp 6) = .bool false := haft ⟨2, .data⟩ (by simp) rfl _ _ rfl rfl
          have f4 : a.eval (.tmp 8) = .bool false := haft ⟨4, .data⟩ (by simp) rfl _ _ rfl rfl
          exact b_same hi hI rfl _ (run_pick_op (b := false) rfl f2 rfl f4) rfl
        · intro a W hI hun haft hi
          have f5 : a.eval (.tmp 9) = .bool false := haft ⟨5, .data⟩ (by simp) rfl _ _ rfl rfl
          exact b_same hi hI rfl _ (run_move_op rfl f5) rfl
        · intro a W hI hun haft hi
          have fg : a.eval (.tmp 10) = .bool false := haft ⟨6, .guard⟩ (by simp) rfl _ _ rfl rfl
          have e0 : a.eval (.tmp 0) = .pointer (some ⟨P, 0, none⟩) := hun 0 (by kernel_rfl)
          exact b_same hi hI (guard_ok rfl rfl rfl fg) _ (run_move_op rfl e0) rfl
        · intro a W hI hun haft hi
          have fg : a.eval (.tmp 10) = .bool false := haft ⟨6, .guard⟩ (by simp) rfl _ _ rfl rfl
          have f7 : a.eval (.tmp 11) = .pointer (some ⟨P, 0, none⟩) := haft ⟨7, .data⟩ (by simp) rfl _ _ rfl rfl
          refine b_call hi hI (guard_ok rfl rfl rfl fg) _ _ (run_call_op (args := #[.pointer (some ⟨P, 0, none⟩)]) rfl (by simp [f7]) (by kernel_rfl)) ?_
          exact (stable_is G HG.out W (HBf.out.keep hI)).mono fun e w' H => ⟨_, H.1, rfl, H.2⟩
        · intro a W hI hun haft hi
          have fg : a.eval (.tmp 10) = .bool false := haft ⟨6, .guard⟩ (by simp) rfl _ _ rfl rfl
          have e3 : a.eval (.tmp 3) = .pointer (some ⟨q, 0, none⟩) := hun 3 (by kernel_rfl)
          exact b_same hi hI (guard_ok rfl rfl rfl fg) _ (run_fieldAddr_any rfl e3 (at_event0 _ 0 _)) rfl
        · intro a W hI hun haft hi
          have fg : a.eval (.tmp 10) = .bool false := haft ⟨6, .guard⟩ (by simp) rfl _ _ rfl rfl
          have f9 : a.eval (.tmp 13) = .pointer (some ⟨q, 0, none⟩) := haft ⟨9, .data⟩ (by simp) rfl _ _ rfl rfl
          exact b_same hi hI (guard_ok rfl rfl rfl fg) _ (run_loadmid_op rfl f9 ((EB.keep HE.out hI).dot) Try.underlying29 rfl (by kernel_rfl)) rfl
        · intro a W hI hun haft hi
          have fg : a.eval (.tmp 10) = .bool false := haft ⟨6, .guard⟩ (by simp) rfl _ _ rfl rfl
          have f8 : a.eval (.tmp 12) = .agg (vA G) := haft ⟨8, .data⟩ (by simp) rfl _ _ rfl rfl
          have f10 : a.eval (.tmp 14) = .agg #[.int .i64 e.r, .int .i64 e.c] := haft ⟨10, .data⟩ (by simp) rfl _ _ rfl rfl
          refine b_call hi hI (guard_ok rfl rfl rfl fg) _ _ (run_call_op (args := #[.agg (vA G), .agg #[.int .i64 e.r, .int .i64 e.c]]) rfl (by simp [f8, f10]) (by kernel_rfl)) ?_
          exact (knows_isB G e.r e.c _ HK.out W).mono fun e w' H => ⟨_, H.1, rfl, H.2⟩
        · intro a W hI hun haft hi
          have f6 : a.eval (.tmp 10) = .bool false := haft ⟨6, .data⟩ (by simp) rfl _ _ rfl rfl
          have f11 : a.eval (.tmp 15) = .bool false := haft ⟨11, .data⟩ (by simp) rfl _ _ rfl rfl
          exact b_same hi hI rfl _ (run_pick_op (b := false) rfl f6 rfl f11) rfl
      · intro vals W hI hp
        have hl12 : vals 12 = .bool false := hp 12 (by decide)
        have HI := Lib.hid hI
        clear hp hI
        simp only [layN, List.size_toArray, List.length_cons, List.length_nil, List.range, List.range.loop, if_true, List.getElem?_toArray, List.getElem?_cons_zero, List.getElem?_cons_succ, Act.put, List.setIfInBounds_toArray, List.set_cons_zero, List.set_cons_succ, Nat.zero_add, Nat.reduceAdd, hl12]
        clear hl12
        obtain ⟨V, hV⟩ : ∃ V, V = W := ⟨_, rfl⟩
        have hIV : Below X.heap.size X V := by rw [hV]; exact HI.out
        have HBf2 := Lib.hid (HBf.out.keep hIV)
        have HO2 := Lib.hid (HO.out.keep hIV)
        have HE2 := Lib.hid (EB.keep HE.out hIV)
        have HXb2 := Lib.hid (HXb.out.then hIV)
        have HRW := Lib.hid (Nat.le_trans HRX.out hIV.size)
        have HL5 := Lib.hid (show addL n s f l e = l ++ [e] by unfold addL addB; rw [HG.out, HN.out, HK.out]; rfl)
        rw [← hV]
        clear hV hIV HI
        go_upto_region 2 with fail
        refine wp_region_any (by kernel_rfl) ?_
        refine Lt.wpAny_turn puA (pA P A l.length c e) _ V 7 10 _ _ (fun v W => Bf W P n s f (.slice A l.length c) ∧ OwnK encE R 35 27 W v (l ++ [e]) ∧ Bm P (.slice A l.length c) w W) (fun W => ∃ u, Bf W P n s f u ∧ OwnK encE R 35 27 W u (l ++ [e]) ∧ Bm P (.slice A l.length c) w W)
          (by kernel_rfl) (by decide) rfl rfl rfl (by kernel_rfl) (by kernel_rfl) (by kernel_rfl) (by kernel_rfl) (by kernel_rfl) (fun i v w w' hb h => pA_keep hb h) pA_pure ?_ ?_ ?_ ?_ ?_
        · refine ⟨?_, ?_, ?_, ?_, ?_, ?_, ?_, ?_, ?_, ?_, ?_, trivial⟩
          · exact fun _ _ h => absurd h (by decide)
          · exact fun _ _ h => absurd h (by decide)
          · exact fun _ _ h => absurd h (by decide)
          · exact fun _ _ h => absurd h (by decide)
          · intro _ _ _ a W hI hun haft hi
            have f3 : a.eval (.tmp 20) = .pointer (some ⟨P, 258, none⟩) := haft ⟨3, .data⟩ (by simp) rfl _ _ rfl rfl
            exact b_same hi hI rfl _ (run_loadsl_op rfl f3 Try.underlying22 (HBf2.out.keep hI).cv) rfl
          · intro _ _ _ a W hI hun haft hi
            have e3 : a.eval (.tmp 3) = .pointer (some ⟨q, 0, none⟩) := hun 3 (by kernel_rfl)
            exact b_same hi hI rfl _ (run_load_op rfl e3 (EB.keep HE2.out hI) Try.underlying35 rfl (sizeE e)) rfl
          · intro _ _ _ a W hI hun haft hi
            have f5 : a.eval (.tmp 22) = .agg (evC e) := haft ⟨5, .data⟩ (by simp) rfl _ _ rfl rfl
            exact b_val hi hI rfl _ _ (run_bsEv_op e W rfl f5) ((Below.refl _ _).alloc (Nat.le_refl _) _) (sl_one e W)
          · exact fun _ h => absurd rfl h
          · exact fun _ _ h => absurd h (by decide)
          · exact fun _ _ h => absurd h (by decide)
          · exact fun h => absurd h (Nat.lt_irrefl _)
        · refine ⟨?_, ?_, ?_, ?_, ?_, ?_, ?_, ?_, ?_, ?_, ?_, trivial⟩
          · intro _ _ a W hun haft hi
            have e0 : a.eval (.tmp 0) = .pointer (some ⟨P, 0, none⟩) := hun 0 (by kernel_rfl)
            exact wpOp_val hi rfl _ _ (run_move_op rfl e0) ⟨_, rfl, rfl, rfl⟩
          · intro _ _ a W hun haft hi
            have e0 : a.eval (.tmp 0) = .pointer (some ⟨P, 0, none⟩) := hun 0 (by kernel_rfl)
            exact wpOp_val hi rfl _ _ (run_move_op rfl e0) ⟨_, rfl, rfl, rfl⟩
          · intro _ _ a W hun haft hi
            have f1 : a.eval (.tmp 18) = .pointer (some ⟨P, 0, none⟩) := haft ⟨1, .data⟩ (by simp) rfl rfl _ _ rfl rfl
            exact wpOp_val hi rfl _ _ (run_nilCheck_op rfl f1) ⟨_, rfl, rfl, rfl⟩
          · intro _ _ a W hun haft hi
            have f2 : a.eval (.tmp 19) = .pointer (some ⟨P, 0, none⟩) := haft ⟨2, .data⟩ (by simp) rfl rfl _ _ rfl rfl
            exact wpOp_val hi rfl _ _ (run_fieldAddr_any rfl f2 (at_buf3 P W)) ⟨_, rfl, rfl, rfl⟩
          · exact fun _ h => absurd h (by decide)
          · exact fun _ h => absurd h (by decide)
          · exact fun _ h => absurd h (by decide)
          · exact fun _ h => absurd h (by decide)
          · intro _ _ a W hun haft hi
            have f0 : a.eval (.tmp 17) = .pointer (some ⟨P, 0, none⟩) := haft ⟨0, .data⟩ (by simp) rfl rfl _ _ rfl rfl
            exact wpOp_val hi rfl _ _ (run_nilCheck_op rfl f0) ⟨_, rfl, rfl, rfl⟩
          · intro _ _ a W hun haft hi
            have f8 : a.eval (.tmp 25) = .pointer (some ⟨P, 0, none⟩) := haft ⟨8, .data⟩ (by simp) rfl rfl _ _ rfl rfl
            exact wpOp_val hi rfl _ _ (run_fieldAddr_any rfl f8 (at_buf3 P W)) ⟨_, rfl, rfl, rfl⟩
          · exact fun h => absurd h (Nat.lt_irrefl _)
        · intro a W hI hun haft
          have f4 : a.eval (.tmp 21) = .slice A l.length c := haft ⟨4, .data⟩ (by simp) rfl _ _ rfl rfl
          have f6 : SlK encE 27 W (a.eval (.tmp 23)) [e] := haft ⟨6, .data⟩ (by simp) rfl _ _ rfl rfl
          have hO := HO2.out.keep hI
          have hB := HBf2.out.keep hI
          have hRV : R ≤ W.heap.size := Nat.le_trans HRW.out hI.size
          obtain ⟨u', w3, hr3, ho3, hg3⟩ := append_ev R W _ _ hO _ [e] f6 (by have := HL.out; simp; omega) hRV
          have hne : (Value.slice A l.length c).ownBlock ≠ some P := by
            obtain ⟨cs, h1, _⟩ := hB
            exact own_ne_blk hO h1 (by decide)
          exact wpOp_val rfl rfl u' w3 (run_append_op rfl f4 rfl hr3) ⟨_, rfl, hB.same (hg3.block P hB.lt (fun h => hne h.symm)), ho3, (HXb2.out.then hI).grown hg3⟩
        · intro vals a W hJ hsl hp
          obtain ⟨hB4, ho4, hX4⟩ := hJ
          have f9 : a.eval (.tmp 26) = .pointer (some ⟨P, 258, none⟩) := (hsl 9 _ _ rfl (by decide) rfl).trans (hp 9 (by decide) (by decide))
          have f7 : a.eval (.tmp 24) = vals 7 := hsl 7 _ _ rfl (by decide) rfl
          have hne5 : ∀ g, (vals 7).ownBlock = some g → g ≠ P := by
            intro g hg e5
            obtain ⟨cs, h1, _⟩ := hB4
            rw [e5] at hg
            exact own_ne_blk ho4 h1 (by decide) hg
          obtain ⟨Au, cu, hu⟩ := own_form ho4
          rw [hu] at f7 ho4 hne5
          exact Lt.l_skip rfl rfl _ (run_storesl_op rfl f9 f7 (by kernel_rfl) hB4.cv (hB4.fr 258)) ⟨_, rfl, _, hB4.put_v _, ho4.same fun g hg => Below.heap_setCell _ _ _ _ (hne5 g hg), hX4.setP 258 _⟩
        · rintro vals W ⟨u, hu1, hu2, hu3⟩
          have HJ1 := Lib.hid hu1
          have HJ2 := Lib.hid hu2
          have HJ3 := Lib.hid hu3
          clear hu1 hu2 hu3
          simp only [layN, List.size_toArray, List.length_cons, List.length_nil, List.range, List.range.loop, if_true, List.getElem?_toArray, List.getElem?_cons_zero, List.getElem?_cons_succ, Act.put, List.setIfInBounds_toArray, List.set_cons_zero, List.set_cons_succ, Nat.zero_add, Nat.reduceAdd]
          go_wp2
          go_end0
          exact ⟨rfl, _, HJ1.out, by rw [HL5.out]; exact HJ2.out, HJ3.out⟩
    · have HK := Lib.hid hk
      clear hk
      refine wp_region_any (by kernel_rfl) ?_
      refine wpAny_below (fun i uq wq => pK R (l) ([some (.pointer (some ⟨P, 0, none⟩)), some (.bool false), some (.bool false), some (.pointer (some ⟨P, 0, none⟩)), some (.bool false), some (.bool false), some (.bool false), some (.pointer (some ⟨P, 0, none⟩)), some (.agg (vA G)), some (.pointer (some ⟨q, 0, none⟩)), some (.agg #[.int .i64 e.r, .int .i64 e.c]), some (.bool true), some (.bool true)] : List (Option Value)) i uq wq) _ X (by kernel_rfl) (by kernel_rfl) (by kernel_rfl) (fun i v w w' hb h => pK_keep hb h) ?_ ?_
      · refine ⟨?_, ?_, ?_, ?_, ?_, ?_, ?_, ?_, ?_, ?_, ?_, ?_, ?_, trivial⟩
        · intro a W hI hun haft hi
          have e0 : a.eval (.tmp 0) = .pointer (some ⟨P, 0, none⟩) := hun 0 (by kernel_rfl)
          exact b_same hi hI rfl _ (run_move_op rfl e0) rfl
        · intro a W hI hun haft hi
          have f0 : a.eval (.tmp 4) = .pointer (some ⟨P, 0, none⟩) := haft ⟨0, .data⟩ (by simp) rfl _ _ rfl rfl
          exact b_same hi hI rfl (.bool false) (run_bin_op rfl f0 rfl (by kernel_rfl) (eq_pnil P 0 _)) rfl
        · intro a W hI hun haft hi
          have f1 : a.eval (.tmp 5) = .bool false := haft ⟨1, .data⟩ (by simp) rfl _ _ rfl rfl
          exact b_same hi hI rfl _ (run_move_op rfl f1) rfl
        · intro a W hI hun haft hi
          have fg : a.eval (.tmp 6) = .bool false := haft ⟨2, .guard⟩ (by simp) rfl _ _ rfl rfl
          have e0 : a.eval (.tmp 0) = .pointer (some ⟨P, 0, none⟩) := hun 0 (by kernel_rfl)
          exact b_same hi hI (guard_ok rfl rfl rfl fg) _ (run_move_op rfl e0) rfl
        · intro a W hI hun haft hi
          have fg : a.eval (.tmp 6) = .bool false := haft ⟨2, .guard⟩ (by simp) rfl _ _ rfl rfl
          have f3 : a.eval (.tmp 7) = .pointer (some ⟨P, 0, none⟩) := haft ⟨3, .data⟩ (by simp) rfl _ _ rfl rfl
          refine b_call hi hI (guard_ok rfl rfl rfl fg) _ _ (run_call_op (args := #[.pointer (some ⟨P, 0, none⟩)]) rfl (by simp [f3]) (by kernel_rfl)) ?_
          exact (alone_is HN.out W (HBf.out.keep hI)).mono fun e w' H => ⟨_, H.1, rfl, H.2⟩
        · intro a W hI hun haft hi
          have f2 : a.eval (.tmp 6) = .bool false := haft ⟨2, .data⟩ (by simp) rfl _ _ rfl rfl
          have f4 : a.eval (.tmp 8) = .bool false := haft ⟨4, .data⟩ (by simp) rfl _ _ rfl rfl
          exact b_same hi hI rfl _ (run_pick_op (b := false) rfl f2 rfl f4) rfl
        · intro a W hI hun haft hi
          have f5 : a.eval (.tmp 9) = .bool false := haft ⟨5, .data⟩ (by simp) rfl _ _ rfl rfl
          exact b_same hi hI rfl _ (run_move_op rfl f5) rfl
        · intro a W hI hun haft hi
          have fg : a.eval (.tmp 10) = .bool false := haft ⟨6, .guard⟩ (by simp) rfl _ _ rfl rfl
          have e0 : a.eval (.tmp 0) = .pointer (some ⟨P, 0, none⟩) := hun 0 (by kernel_rfl)
          exact b_same hi hI (guard_ok rfl rfl rfl fg) _ (run_move_op rfl e0) rfl
        · intro a W hI hun haft hi
          have fg : a.eval (.tmp 10) = .bool false := haft ⟨6, .guard⟩ (by simp) rfl _ _ rfl rfl
          have f7 : a.eval (.tmp 11) = .pointer (some ⟨P, 0, none⟩) := haft ⟨7, .data⟩ (by simp) rfl _ _ rfl rfl
          refine b_call hi hI (guard_ok rfl rfl rfl fg) _ _ (run_call_op (args := #[.pointer (some ⟨P, 0, none⟩)]) rfl (by simp [f7]) (by kernel_rfl)) ?_
          exact (stable_is G HG.out W (HBf.out.keep hI)).mono fun e w' H => ⟨_, H.1, rfl, H.2⟩
        · intro a W hI hun haft hi
          have fg : a.eval (.tmp 10) = .bool false := haft ⟨6, .guard⟩ (by simp) rfl _ _ rfl rfl
          have e3 : a.eval (.tmp 3) = .pointer (some ⟨q, 0, none⟩) := hun 3 (by kernel_rfl)
          exact b_same hi hI (guard_ok rfl rfl rfl fg) _ (run_fieldAddr_any rfl e3 (at_event0 _ 0 _)) rfl
        · intro a W hI hun haft hi
          have fg : a.eval (.tmp 10) = .bool false := haft ⟨6, .guard⟩ (by simp) rfl _ _ rfl rfl
          have f9 : a.eval (.tmp 13) = .pointer (some ⟨q, 0, none⟩) := haft ⟨9, .data⟩ (by simp) rfl _ _ rfl rfl
          exact b_same hi hI (guard_ok rfl rfl rfl fg) _ (run_loadmid_op rfl f9 ((EB.keep HE.out hI).dot) Try.underlying29 rfl (by kernel_rfl)) rfl
        · intro a W hI hun haft hi
          have fg : a.eval (.tmp 10) = .bool false := haft ⟨6, .guard⟩ (by simp) rfl _ _ rfl rfl
          have f8 : a.eval (.tmp 12) = .agg (vA G) := haft ⟨8, .data⟩ (by simp) rfl _ _ rfl rfl
          have f10 : a.eval (.tmp 14) = .agg #[.int .i64 e.r, .int .i64 e.c] := haft ⟨10, .data⟩ (by simp) rfl _ _ rfl rfl
          refine b_call hi hI (guard_ok rfl rfl rfl fg) _ _ (run_call_op (args := #[.agg (vA G), .agg #[.int .i64 e.r, .int .i64 e.c]]) rfl (by simp [f8, f10]) (by kernel_rfl)) ?_
          exact (knows_isB G e.r e.c _ HK.out W).mono fun e w' H => ⟨_, H.1, rfl, H.2⟩
        · intro a W hI hun haft hi
          have f6 : a.eval (.tmp 10) = .bool false := haft ⟨6, .data⟩ (by simp) rfl _ _ rfl rfl
          have f11 : a.eval (.tmp 15) = .bool true := haft ⟨11, .data⟩ (by simp) rfl _ _ rfl rfl
          exact b_same hi hI rfl _ (run_pick_op (b := false) rfl f6 rfl f11) rfl
      · intro vals W hI hp
        have hl12 : vals 12 = .bool true := hp 12 (by decide)
        have HI := Lib.hid hI
        clear hp hI
        simp only [layN, List.size_toArray, List.length_cons, List.length_nil, List.range, List.range.loop, if_true, List.getElem?_toArray, List.getElem?_cons_zero, List.getElem?_cons_succ, Act.put, List.setIfInBounds_toArray, List.set_cons_zero, List.set_cons_succ, Nat.zero_add, Nat.reduceAdd, hl12]
        clear hl12
        go_wp2
        refine bodyPost_ret (results_none rfl _ _ _) rfl ?_
        exact ⟨rfl, .slice A l.length c, (HBf.out.keep HI.out), by unfold addL addB; simp only [HG.out, HN.out, HK.out, Bool.or_true, if_true]; exact HO.out.keep HI.out, HXb.out.then HI.out⟩
  · have HN := Lib.hid hn
    clear hn
    refine wp_region_any (by kernel_rfl) ?_
    refine wpAny_below (fun i uq wq => pK R (l) ([some (.pointer (some ⟨P, 0, none⟩)), some (.bool false), some (.bool false), some (.pointer (some ⟨P, 0, none⟩)), some (.bool true), some (.bool true), some (.bool true), some (undef), some (undef), some (undef), some (undef), some (undef), some (.bool true)] : List (Option Value)) i uq wq) _ X (by kernel_rfl) (by kernel_rfl) (by kernel_rfl) (fun i v w w' hb h => pK_keep hb h) ?_ ?_
    · refine ⟨?_, ?_, ?_, ?_, ?_, ?_, ?_, ?_, ?_, ?_, ?_, ?_, ?_, trivial⟩
      · intro a W hI hun haft hi
        have e0 : a.eval (.tmp 0) = .pointer (some ⟨P, 0, none⟩) := hun 0 (by kernel_rfl)
        exact b_same hi hI rfl _ (run_move_op rfl e0) rfl
      · intro a W hI hun haft hi
        have f0 : a.eval (.tmp 4) = .pointer (some ⟨P, 0, none⟩) := haft ⟨0, .data⟩ (by simp) rfl _ _ rfl rfl
        exact b_same hi hI rfl (.bool false) (run_bin_op rfl f0 rfl (by kernel_rfl) (eq_pnil P 0 _)) rfl
      · intro a W hI hun haft hi
        have f1 : a.eval (.tmp 5) = .bool false := haft ⟨1, .data⟩ (by simp) rfl _ _ rfl rfl
        exact b_same hi hI rfl _ (run_move_op rfl f1) rfl
      · intro a W hI hun haft hi
        have fg : a.eval (.tmp 6) = .bool false := haft ⟨2, .guard⟩ (by simp) rfl _ _ rfl rfl
        have e0 : a.eval (.tmp 0) = .pointer (some ⟨P, 0, none⟩) := hun 0 (by kernel_rfl)
        exact b_same hi hI (guard_ok rfl rfl rfl fg) _ (run_move_op rfl e0) rfl
      · intro a W hI hun haft hi
        have fg : a.eval (.tmp 6) = .bool false := haft ⟨2, .guard⟩ (by simp) rfl _ _ rfl rfl
        have f3 : a.eval (.tmp 7) = .pointer (some ⟨P, 0, none⟩) := haft ⟨3, .data⟩ (by simp) rfl _ _ rfl rfl
        refine b_call hi hI (guard_ok rfl rfl rfl fg) _ _ (run_call_op (args := #[.pointer (some ⟨P, 0, none⟩)]) rfl (by simp [f3]) (by kernel_rfl)) ?_
        exact (alone_is HN.out W (HBf.out.keep hI)).mono fun e w' H => ⟨_, H.1, rfl, H.2⟩
      · intro a W hI hun haft hi
        have f2 : a.eval (.tmp 6) = .bool false := haft ⟨2, .data⟩ (by simp) rfl _ _ rfl rfl
        have f4 : a.eval (.tmp 8) = .bool true := haft ⟨4, .data⟩ (by simp) rfl _ _ rfl rfl
        exact b_same hi hI rfl _ (run_pick_op (b := false) rfl f2 rfl f4) rfl
      · intro a W hI hun haft hi
        have f5 : a.eval (.tmp 9) = .bool true := haft ⟨5, .data⟩ (by simp) rfl _ _ rfl rfl
        exact b_same hi hI rfl _ (run_move_op rfl f5) rfl
      · intro a W hI hun haft hi
        have fg : a.eval (.tmp 10) = .bool true := haft ⟨6, .guard⟩ (by simp) rfl _ _ rfl rfl
        exact b_skip hi hI (guard_no rfl rfl rfl (.inl fg)) rfl
      · intro a W hI hun haft hi
        have fg : a.eval (.tmp 10) = .bool true := haft ⟨6, .guard⟩ (by simp) rfl _ _ rfl rfl
        exact b_skip hi hI (guard_no rfl rfl rfl (.inl fg)) rfl
      · intro a W hI hun haft hi
        have fg : a.eval (.tmp 10) = .bool true := haft ⟨6, .guard⟩ (by simp) rfl _ _ rfl rfl
        exact b_skip hi hI (guard_no rfl rfl rfl (.inl fg)) rfl
      · intro a W hI hun haft hi
        have fg : a.eval (.tmp 10) = .bool true := haft ⟨6, .guard⟩ (by simp) rfl _ _ rfl rfl
        exact b_skip hi hI (guard_no rfl rfl rfl (.inl fg)) rfl
      · intro a W hI hun haft hi
        have fg : a.eval (.tmp 10) = .bool true := haft ⟨6, .guard⟩ (by simp) rfl _ _ rfl rfl
        exact b_skip hi hI (guard_no rfl rfl rfl (.inl fg)) rfl
      · intro a W hI hun haft hi
        have f6 : a.eval (.tmp 10) = .bool true := haft ⟨6, .data⟩ (by simp) rfl _ _ rfl rfl
        have f11 : a.eval (.tmp 15) = undef := haft ⟨11, .data⟩ (by simp) rfl _ _ rfl rfl
        exact b_same hi hI rfl _ (run_pick_op (b := true) rfl f6 rfl f11) rfl
    · intro vals W hI hp
      have hl12 : vals 12 = .bool true := hp 12 (by decide)
      have HI := Lib.hid hI
      clear hp hI
      simp only [layN, List.size_toArray, List.length_cons, List.length_nil, List.range, List.range.loop, if_true, List.getElem?_toArray, List.getElem?_cons_zero, List.getElem?_cons_succ, Act.put, List.setIfInBounds_toArray, List.set_cons_zero, List.set_cons_succ, Nat.zero_add, Nat.reduceAdd, hl12]
      clear hl12
      go_wp2
      refine bodyPost_ret (results_none rfl _ _ _) rfl ?_
      exact ⟨rfl, .slice A l.length c, (HBf.out.keep HI.out), by unfold addL addB; simp only [HG.out, HN.out, Bool.true_or, if_true]; exact HO.out.keep HI.out, HXb.out.then HI.out⟩

/-- What peers are known to know behind what one tells. -/
def ackF (f : Nat → Nat → Int) (p : Nat) (g : Nat → Int) : Nat → Nat → Int := fun q => if q = p then joinV (f p) g else f q
set_option maxRecDepth 100000 in
set_option maxHeartbeats 4000000 in
theorem back_any {P p : Nat} {n s : Int} {f : Nat → Nat → Int} {v : Value} (l : List Ev) (g : Nat → Int) (R : Nat) (w : World) (hb : Bf w P n s f v) (ho : OwnK encE R 35 27 w v l) (hR : R ≤ P) (hl : l.length ≤ 10000) (hp : p < 16) (hpe : peerB n s p = true) :
    Calls Try.prog 11 #[.pointer (some ⟨P, 0, none⟩), .int .i64 p, .agg (vA g)] w fun x w' => x = .returned (.int .i64 0) ∧ ∃ u, Bf w' P n s (ackF f p g) u ∧ OwnK encE R 35 27 w' u (lackL (stF n s (ackF f p g) 16) l) ∧ Bm P v w w' := by
  obtain ⟨A, c, rfl⟩ := own_form ho
  have HN2 := Lib.hid hl
  have HP16 := Lib.hid hp
  have HPe := Lib.hid hpe
  obtain ⟨G, hG⟩ : ∃ G, stF n s (ackF f p g) 16 = G := ⟨_, rfl⟩
  have HG := Lib.hid hG
  rw [hG]
  obtain ⟨q, hq⟩ : ∃ q, w.heap.size = q := ⟨_, rfl⟩
  obtain ⟨Y, hY⟩ : ∃ Y, Y = w.alloc (.cells (vA g) 27) := ⟨_, rfl⟩
  have hYb : Below w.heap.size w Y := by rw [hY]; exact (Below.refl _ _).alloc (Nat.le_refl _) _
  have HVg0 := Lib.hid (show VB Y q g by rw [hY, ← hq]; exact VB.new_ _ rfl)
  have HBf0 := Lib.hid (hb.keep hYb)
  have HO0 := Lib.hid (ho.keep hYb)
  have HYb := Lib.hid (Bm.of_below (P := P) (v := .slice A l.length c) hYb)
  have HRY := Lib.hid (show R ≤ Y.heap.size from Nat.le_trans (Nat.le_trans hR (Nat.le_of_lt hb.lt)) hYb.size)
  have HRP := Lib.hid hR
  have HY := Lib.hid hY
  clear hl hY hYb hb ho hG hR hp hpe
  go_enter Try.func11, Try.ntmps11
  go_upto_region 1 with fail
  rw [← HY.out]
  clear hq
  go_wp2_with fail
  refine (peer_is p Y HBf0.out true HPe.out).mono ?_
  rintro x X ⟨rfl, hbX⟩
  have HVg := Lib.hid (VB.keep HVg0.out hbX)
  have HBf := Lib.hid (HBf0.out.keep hbX)
  have HO := Lib.hid (HO0.out.keep hbX)
  have HXb := Lib.hid (HYb.out.then hbX)
  have HRX := Lib.hid (Nat.le_trans HRY.out hbX.size)
  clear hbX
  go_upto_region 5 with fail
  refine wp_region_any (by kernel_rfl) ?_
  refine Lt.wpAny_last (fun i uq wq => pK R (l) ([some (.pointer (some ⟨P, 0, none⟩)), some (.int .i64 p), some (.pointer (some ⟨P, 0, none⟩)), some (.int .i64 p), some (.pointer (some ⟨P, 0, none⟩)), some (.pointer (some ⟨P, 2, none⟩)), some (.pointer (some ⟨P, 2 + p * 16, none⟩)), some (.agg (vA (f p))), some (.agg (vA g)), some (.agg (vA (joinV (f p) g))), some (.pointer (some ⟨P, 0, none⟩)), some (.pointer (some ⟨P, 2, none⟩)), some (.pointer (some ⟨P, 2 + p * 16, none⟩)), some (undef)] : List (Option Value)) i uq wq) _ X 13 _ (fun _ wq => (fun W => Bf W P n s (ackF f p g) (.slice A l.length c) ∧ OwnK encE R 35 27 W (.slice A l.length c) l ∧ Bm P (.slice A l.length c) w W) wq) (by kernel_rfl) rfl (by kernel_rfl) (by kernel_rfl) (by kernel_rfl) (by kernel_rfl) (fun i v w w' hb h => pK_keep hb h) ?_ ?_ ?_
  · refine ⟨?_, ?_, ?_, ?_, ?_, ?_, ?_, ?_, ?_, ?_, ?_, ?_, ?_, fun h => absurd h (Nat.lt_irrefl _), trivial⟩
    · intro _ a W hI hun haft hi
      have e0 : a.eval (.tmp 0) = .pointer (some ⟨P, 0, none⟩) := hun 0 (by kernel_rfl)
      exact b_same hi hI rfl _ (run_move_op rfl e0) rfl
    · intro _ a W hI hun haft hi
      have e1 : a.eval (.tmp 1) = .int .i64 p := hun 1 (by kernel_rfl)
      exact b_same hi hI rfl _ (run_move_op rfl e1) rfl
    · intro _ a W hI hun haft hi
      have e0 : a.eval (.tmp 0) = .pointer (some ⟨P, 0, none⟩) := hun 0 (by kernel_rfl)
      exact b_same hi hI rfl _ (run_move_op rfl e0) rfl
    · intro _ a W hI hun haft hi
      have e1 : a.eval (.tmp 1) = .int .i64 p := hun 1 (by kernel_rfl)
      exact b_same hi hI rfl _ (run_move_op rfl e1) rfl
    · intro _ a W hI hun haft hi
      have f2 : a.eval (.tmp 15) = .pointer (some ⟨P, 0, none⟩) := haft ⟨2, .data⟩ (by simp) rfl _ _ rfl rfl
      exact b_same hi hI rfl _ (run_nilCheck_op rfl f2) rfl
    · intro _ a W hI hun haft hi
      have f4 : a.eval (.tmp 17) = .pointer (some ⟨P, 0, none⟩) := haft ⟨4, .data⟩ (by simp) rfl _ _ rfl rfl
      exact b_same hi hI rfl _ (run_fieldAddr_any rfl f4 (at_buffer2 _ 0 _)) rfl
    · intro _ a W hI hun haft hi
      have f5 : a.eval (.tmp 18) = .pointer (some ⟨P, 2, none⟩) := haft ⟨5, .data⟩ (by simp) rfl _ _ rfl rfl
      have f3 : a.eval (.tmp 16) = .int .i64 p := haft ⟨3, .data⟩ (by simp) rfl _ _ rfl rfl
      exact b_same hi hI rfl _ (run_indexAddr_op rfl f5 f3 (at_rows P p HP16.out W)) rfl
    · intro _ a W hI hun haft hi
      have f6 : a.eval (.tmp 19) = .pointer (some ⟨P, 2 + p * 16, none⟩) := haft ⟨6, .data⟩ (by simp) rfl _ _ rfl rfl
      exact b_same hi hI rfl _ (run_loadmid_op rfl f6 ((HBf.out.keep hI).row p HP16.out) Try.underlying27 rfl (sizeV _)) rfl
    · intro _ a W hI hun haft hi
      have e5 : a.eval (.tmp 5) = .pointer (some ⟨q, 0, none⟩) := hun 5 (by kernel_rfl)
      exact b_same hi hI rfl _ (run_load_op rfl e5 (Blk.below HVg.out hI (Blk.lt HVg.out)) Try.underlying27 rfl (sizeV _)) rfl
    · intro _ a W hI hun haft hi
      have f7 : a.eval (.tmp 20) = .agg (vA (f p)) := haft ⟨7, .data⟩ (by simp) rfl _ _ rfl rfl
      have f8 : a.eval (.tmp 21) = .agg (vA g) := haft ⟨8, .data⟩ (by simp) rfl _ _ rfl rfl
      refine b_call hi hI rfl _ _ (run_call_op (args := #[.agg (vA (f p)), .agg (vA g)]) rfl (by simp [f7, f8]) (by kernel_rfl)) ?_
      exact (join_any (f p) g W).mono fun e w' H => ⟨_, H.1, rfl, H.2⟩
    · intro _ a W hI hun haft hi
      have f0 : a.eval (.tmp 13) = .pointer (some ⟨P, 0, none⟩) := haft ⟨0, .data⟩ (by simp) rfl _ _ rfl rfl
      exact b_same hi hI rfl _ (run_nilCheck_op rfl f0) rfl
    · intro _ a W hI hun haft hi
      have f10 : a.eval (.tmp 23) = .pointer (some ⟨P, 0, none⟩) := haft ⟨10, .data⟩ (by simp) rfl _ _ rfl rfl
      exact b_same hi hI rfl _ (run_fieldAddr_any rfl f10 (at_buffer2 _ 0 _)) rfl
    · intro _ a W hI hun haft hi
      have f11 : a.eval (.tmp 24) = .pointer (some ⟨P, 2, none⟩) := haft ⟨11, .data⟩ (by simp) rfl _ _ rfl rfl
      have f1 : a.eval (.tmp 14) = .int .i64 p := haft ⟨1, .data⟩ (by simp) rfl _ _ rfl rfl
      exact b_same hi hI rfl _ (run_indexAddr_op rfl f11 f1 (at_rows P p HP16.out W)) rfl
  · intro vals a W hI hun hsl hp
    have f12 : a.eval (.tmp 25) = .pointer (some ⟨P, 2 + p * 16, none⟩) := (hsl 12 _ _ rfl (by decide) rfl).trans (hp 12 (by decide))
    have f9 : a.eval (.tmp 22) = .agg (vA (joinV (f p) g)) := (hsl 9 _ _ rfl (by decide) rfl).trans (hp 9 (by decide))
    have hB := HBf.out.keep hI
    have hO := HO.out.keep hI
    have hne : (Value.slice A l.length c).ownBlock ≠ some P := by
      obtain ⟨cs, h1, _⟩ := hB
      exact own_ne_blk hO h1 (by decide)
    exact Lt.l_skip rfl rfl _ (run_storemid_op rfl f12 f9 (by rw [vA_size]; exact hB.there _ _ (by have := HP16.out; omega)) (sizeV _) (vA_one _)) ⟨_, rfl, fun _ _ _ => ⟨hB.put_row p HP16.out _, hO.same fun k hk => heap_setCells_ne W P _ _ (fun e => hne (by rw [hk, e])), (HXb.out.then hI).setsP _ _⟩⟩
  · rintro vals W hJ
    have HJ := Lib.hid hJ
    clear hJ
    simp only [layN, List.size_toArray, List.length_cons, List.length_nil, List.range, List.range.loop, if_true, List.getElem?_toArray, List.getElem?_cons_zero, List.getElem?_cons_succ, Act.put, List.setIfInBounds_toArray, List.set_cons_zero, List.set_cons_succ, Nat.zero_add, Nat.reduceAdd]
    have HB1 := Lib.hid HJ.out.1
    have HO1 := Lib.hid HJ.out.2.1
    have HX1 := Lib.hid HJ.out.2.2
    have HR1 := Lib.hid (Nat.le_trans HRP.out (Nat.le_of_lt HB1.out.lt))
    clear HJ
    rename_i W1
    go_upto_region 6 with fail
    refine wp_region_any (by kernel_rfl) ?_
    refine Lt.wpAny_last (fun i uq wq => pK R ((lackL G l)) ([some (.pointer (some ⟨P, 0, none⟩)), some (.pointer (some ⟨P, 0, none⟩)), some (.agg (vA G)), some (.pointer (some ⟨P, 0, none⟩)), some (.pointer (some ⟨P, 0, none⟩)), some (.pointer (some ⟨P, 258, none⟩)), some (.slice A l.length c), some (.pointer (some ⟨P, 0, none⟩)), some (.pointer (some ⟨P, 0, none⟩)), some (.pointer (some ⟨P, 258, none⟩)), some (.slice A l.length c), some (.int .i64 l.length), none, some (.pointer (some ⟨P, 0, none⟩)), some (.pointer (some ⟨P, 258, none⟩)), some (undef)] : List (Option Value)) i uq wq) _ W 15 _ (fun _ wq => (fun W => ∃ u, Bf W P n s (ackF f p g) u ∧ OwnK encE R 35 27 W u (lackL G l) ∧ Bm P (.slice A l.length c) w W) wq) (by kernel_rfl) rfl (by kernel_rfl) (by kernel_rfl) (by kernel_rfl) (by kernel_rfl) (fun i v w w' hb h => pK_keep hb h) ?_ ?_ ?_
    · refine ⟨?_, ?_, ?_, ?_, ?_, ?_, ?_, ?_, ?_, ?_, ?_, ?_, ?_, ?_, ?_, fun h => absurd h (Nat.lt_irrefl _), trivial⟩
      · intro _ a W hI hun haft hi
        have e0 : a.eval (.tmp 0) = .pointer (some ⟨P, 0, none⟩) := hun 0 (by kernel_rfl)
        exact b_same hi hI rfl _ (run_move_op rfl e0) rfl
      · intro _ a W hI hun haft hi
        have e0 : a.eval (.tmp 0) = .pointer (some ⟨P, 0, none⟩) := hun 0 (by kernel_rfl)
        exact b_same hi hI rfl _ (run_move_op rfl e0) rfl
      · intro _ a W hI hun haft hi
        have f1 : a.eval (.tmp 27) = .pointer (some ⟨P, 0, none⟩) := haft ⟨1, .data⟩ (by simp) rfl _ _ rfl rfl
        refine b_call hi hI rfl _ _ (run_call_op (args := #[.pointer (some ⟨P, 0, none⟩)]) rfl (by simp [f1]) (by kernel_rfl)) ?_
        exact (stable_is G HG.out W (HB1.out.keep hI)).mono fun e w' H => ⟨_, H.1, rfl, H.2⟩
      · intro _ a W hI hun haft hi
        have e0 : a.eval (.tmp 0) = .pointer (some ⟨P, 0, none⟩) := hun 0 (by kernel_rfl)
        exact b_same hi hI rfl _ (run_move_op rfl e0) rfl
      · intro _ a W hI hun haft hi
        have f3 : a.eval (.tmp 29) = .pointer (some ⟨P, 0, none⟩) := haft ⟨3, .data⟩ (by simp) rfl _ _ rfl rfl
        exact b_same hi hI rfl _ (run_nilCheck_op rfl f3) rfl
      · intro _ a W hI hun haft hi
        have f4 : a.eval (.tmp 30) = .pointer (some ⟨P, 0, none⟩) := haft ⟨4, .data⟩ (by simp) rfl _ _ rfl rfl
        exact b_same hi hI rfl _ (run_fieldAddr_any rfl f4 (at_buffer3 _ 0 _)) rfl
      · intro _ a W hI hun haft hi
        have f5 : a.eval (.tmp 31) = .pointer (some ⟨P, 258, none⟩) := haft ⟨5, .data⟩ (by simp) rfl _ _ rfl rfl
        exact b_same hi hI rfl _ (run_loadsl_op rfl f5 Try.underlying22 ((HB1.out.keep hI).cv)) rfl
      · intro _ a W hI hun haft hi
        have e0 : a.eval (.tmp 0) = .pointer (some ⟨P, 0, none⟩) := hun 0 (by kernel_rfl)
        exact b_same hi hI rfl _ (run_move_op rfl e0) rfl
      · intro _ a W hI hun haft hi
        have f7 : a.eval (.tmp 33) = .pointer (some ⟨P, 0, none⟩) := haft ⟨7, .data⟩ (by simp) rfl _ _ rfl rfl
        exact b_same hi hI rfl _ (run_nilCheck_op rfl f7) rfl
      · intro _ a W hI hun haft hi
        have f8 : a.eval (.tmp 34) = .pointer (some ⟨P, 0, none⟩) := haft ⟨8, .data⟩ (by simp) rfl _ _ rfl rfl
        exact b_same hi hI rfl _ (run_fieldAddr_any rfl f8 (at_buffer3 _ 0 _)) rfl
      · intro _ a W hI hun haft hi
        have f9 : a.eval (.tmp 35) = .pointer (some ⟨P, 258, none⟩) := haft ⟨9, .data⟩ (by simp) rfl _ _ rfl rfl
        exact b_same hi hI rfl _ (run_loadsl_op rfl f9 Try.underlying22 ((HB1.out.keep hI).cv)) rfl
      · intro _ a W hI hun haft hi
        have f10 : a.eval (.tmp 36) = .slice A l.length c := haft ⟨10, .data⟩ (by simp) rfl _ _ rfl rfl
        exact b_same hi hI rfl _ (run_len_op Try.underlying22 rfl f10) rfl
      · intro _ a W hI hun haft hi
        have f2 : a.eval (.tmp 28) = .agg (vA G) := haft ⟨2, .data⟩ (by simp) rfl _ _ rfl rfl
        have f6 : a.eval (.tmp 32) = .slice A l.length c := haft ⟨6, .data⟩ (by simp) rfl _ _ rfl rfl
        have f11 : a.eval (.tmp 37) = .int .i64 l.length := haft ⟨11, .data⟩ (by simp) rfl _ _ rfl rfl
        refine b_call hi hI rfl _ _ (run_call_op (args := #[.agg (vA G), .slice A l.length c, .int .i64 l.length]) rfl (by simp [f2, f6, f11]) (by kernel_rfl)) ?_
        exact (lacks_any l A l.length c G (l.length : Int) W (Int.le_refl _) (SlK.below (HO1.out.read encE_len) hI) rfl HN2.out).mono fun e w' H => by
          obtain ⟨v, e1, h1, h2⟩ := H
          exact ⟨v, e1, h1.base_ (Nat.le_trans HR1.out hI.size), h2⟩
      · intro _ a W hI hun haft hi
        have f0 : a.eval (.tmp 26) = .pointer (some ⟨P, 0, none⟩) := haft ⟨0, .data⟩ (by simp) rfl _ _ rfl rfl
        exact b_same hi hI rfl _ (run_nilCheck_op rfl f0) rfl
      · intro _ a W hI hun haft hi
        have f13 : a.eval (.tmp 39) = .pointer (some ⟨P, 0, none⟩) := haft ⟨13, .data⟩ (by simp) rfl _ _ rfl rfl
        exact b_same hi hI rfl _ (run_fieldAddr_any rfl f13 (at_buffer3 _ 0 _)) rfl
    · intro vals a W hI hun hsl hp
      have f14 : a.eval (.tmp 40) = .pointer (some ⟨P, 258, none⟩) := (hsl 14 _ _ rfl (by decide) rfl).trans (hp 14 (by decide))
      have f12 : OwnK encE R 35 27 W (a.eval (.tmp 38)) (lackL G l) := by rw [hsl 12 _ _ rfl (by decide) rfl]; exact hp 12 (by decide)
      have hB := HB1.out.keep hI
      obtain ⟨Au, cu, hu⟩ := own_form f12
      have hne : ∀ k, (a.eval (.tmp 38)).ownBlock = some k → k ≠ P := by
        intro k hk e5
        obtain ⟨cs, h1, _⟩ := hB
        rw [e5] at hk
        exact own_ne_blk f12 h1 (by decide) hk
      exact Lt.l_skip rfl rfl _ (run_storesl_op rfl f14 hu (by kernel_rfl) hB.cv (hB.fr 258)) ⟨_, rfl, fun _ _ _ => ⟨_, hB.put_v _, by rw [← hu]; exact f12.same fun k hk => Below.heap_setCell _ _ _ _ (hne k hk), (HX1.out.then hI).setP 258 _⟩⟩
    · rintro vals W hJ
      have HJ := Lib.hid hJ
      clear hJ
      simp only [layN, List.size_toArray, List.length_cons, List.length_nil, List.range, List.range.loop, if_true, List.getElem?_toArray, List.getElem?_cons_zero, List.getElem?_cons_succ, Act.put, List.setIfInBounds_toArray, List.set_cons_zero, List.set_cons_succ, Nat.zero_add, Nat.reduceAdd]
      obtain ⟨u, hu1, hu2, hu3⟩ := HJ.out
      have HJ1 := Lib.hid hu1
      have HJ2 := Lib.hid hu2
      have HJ3 := Lib.hid hu3
      clear HJ hu1 hu2 hu3
      go_wp2
      go_ret
      exact ⟨rfl, _, HJ1.out, HJ2.out, HJ3.out⟩
theorem back_none {P : Nat} {n s : Int} {f : Nat → Nat → Int} {v : Value} (i : Int) (g : Nat → Int) (w : World) (hb : Bf w P n s f v) (hpe : peerB n s i = false) :
    Calls Try.prog 11 #[.pointer (some ⟨P, 0, none⟩), .int .i64 i, .agg (vA g)] w fun x w' => x = .returned (.int .i64 5) ∧ Below w.heap.size w w' := by
  obtain ⟨Y, hY⟩ : ∃ Y, Y = w.alloc (.cells (vA g) 27) := ⟨_, rfl⟩
  have hYb : Below w.heap.size w Y := by rw [hY]; exact (Below.refl _ _).alloc (Nat.le_refl _) _
  have HBf := Lib.hid (hb.keep hYb)
  have HYb := Lib.hid hYb
  have HY := Lib.hid hY
  have HPe := Lib.hid hpe
  clear hY hYb hb hpe
  go_enter Try.func11, Try.ntmps11
  go_upto_region 1 with fail
  rw [← HY.out]
  go_wp2_with fail
  refine (peer_is i Y HBf.out false HPe.out).mono ?_
  rintro x X ⟨rfl, hbX⟩
  have HXb := Lib.hid (HYb.out.trans (hbX.mono HYb.out.size))
  clear hbX
  go_wp2
  go_ret
  exact ⟨rfl, HXb.out⟩
theorem back_nil (i : Int) (g : Nat → Int) (w : World) :
    Calls Try.prog 11 #[.pointer none, .int .i64 i, .agg (vA g)] w fun x w' => x = .returned (.int .i64 1) ∧ Below w.heap.size w w' := by
  obtain ⟨Y, hY⟩ : ∃ Y, Y = w.alloc (.cells (vA g) 27) := ⟨_, rfl⟩
  have HYb := Lib.hid (show Below w.heap.size w Y by rw [hY]; exact (Below.refl _ _).alloc (Nat.le_refl _) _)
  have HY := Lib.hid hY
  clear hY
  go_enter Try.func11, Try.ntmps11
  go_upto_region 1 with fail
  rw [← HY.out]
  go_wp2
  go_ret
  exact ⟨rfl, HYb.out⟩

end Go.Proofs.Ytbhckfkjbeocoaa
