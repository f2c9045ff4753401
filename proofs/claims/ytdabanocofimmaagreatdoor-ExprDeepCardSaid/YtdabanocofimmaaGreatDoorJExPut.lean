/-
  (*expr.reader).put: the contract, by a walk. (*expr.reader).value: the contract, by a walk. What a rule of the grammar comes to; (*expr.reader).within: the contract, by a walk. Conditions: lengths.
-/
import Derived.Test.YtdabanocofimmaaGreatDoorExOps
namespace Go.Proofs.YtdabanocofimmaaGreatDoor
open Go.RowKit

theorem at_reader1 (g q : Nat) (w : World) : (Instr.fieldAt 69 (.pointer (some ⟨g, q, none⟩)) 1).run Tryz.prog w = .ok (.pointer (some ⟨g, q + 2, none⟩)) w := by go_simp
theorem bs_X (e : Ex.X) (w : World) : (Instr.buildSlice 22 1 #[(0, .agg (exC e))]).run Tryz.prog w = .ok (.slice (some ⟨w.heap.size, 0, none⟩) 1 1) (w.alloc (.cells (exC e) 49)) := by
  unfold exC
  go_simp
/-- A cell of the reader's block behind its first two is written. -/
theorem RdAt.put_ {R : Nat} {w : World} {b : Nat} {t : TypeId} {cs : Array Value} {L : List Lx.Tk} {er : Int} (h : RdAt R w b t cs L er) (i : Nat) (hi : 2 ≤ i) (u : Value) : RdAt R (w.setCell ⟨b, i, none⟩ u) b t (cs.setIfInBounds i u) L er := by
  obtain ⟨A, c, h1, h2, h3⟩ := h.left
  refine ⟨h.blk.set_ i _, h.lo, by rw [Array.getElem?_setIfInBounds_ne (by omega)]; exact h.err, A, c, by rw [Array.getElem?_setIfInBounds_ne (by omega)]; exact h1, ?_, h3⟩
  obtain ⟨A', c', e1, e2, e3⟩ := h2
  refine ⟨A', c', e1, e2, fun hne => ?_⟩
  obtain ⟨g, o, rfl, hg, hc⟩ := e3 hne
  injection e1 with e1 _ _
  have hlt := h3 g o none e1
  have hlo := h.lo
  exact ⟨g, o, rfl, by simpa using hg, fun j x hj q u' hu => by
    have := hc j x hj q u' hu
    rw [← this]
    exact World.cell?_of_block (Below.heap_setCell w ⟨b, i, none⟩ _ g (by show g ≠ b; omega))⟩
theorem cells2 {cs : Array Value} {v x : Value} (h : cs.toList.drop 2 = [v, x]) : cs[2]? = some v ∧ cs[3]? = some x := by
  have h0 : (cs.toList.drop 2)[0]? = some v := by rw [h]; rfl
  have h1 : (cs.toList.drop 2)[1]? = some x := by rw [h]; rfl
  rw [List.getElem?_drop, Array.getElem?_toList] at h0 h1
  exact ⟨h0, h1⟩
theorem set2 {cs : Array Value} {v x : Value} (h : cs.toList.drop 2 = [v, x]) (u : Value) : (cs.setIfInBounds 2 u).toList.drop 2 = [u, x] := by
  rw [Array.toList_setIfInBounds, List.drop_set, if_neg (by omega), h]
  rfl
theorem set3 {cs : Array Value} {v x : Value} (h : cs.toList.drop 2 = [v, x]) (u : Value) : (cs.setIfInBounds 3 u).toList.drop 2 = [v, u] := by
  rw [Array.toList_setIfInBounds, List.drop_set, if_neg (by omega), h]
  rfl
/-- The row has grown, and is the reader's. -/
theorem Est.grown {w0 w X W1 : World} {b : Nat} {v v1 : Value} {L : List Lx.Tk} {er : Int} {row row1 : List Ex.X} {d : Nat} {cs : Array Value} (h : Est w0 b w v L er row d) (hX : Below w.heap.size w X) (h1 : RdAt w0.heap.size X b 69 cs L er) (h2 : cs.toList.drop 2 = [v, .int .i64 d])
    (ho : OwnK encX w0.heap.size 49 8 W1 v1 row1) (hg : X.grownBy W1 v.ownBlock) (hl : v1.ownBlock = v.ownBlock ∨ ∀ g, v1.ownBlock = some g → X.heap.size ≤ g) :
    EstTo w0 b w v L er row1 d (W1.setCell ⟨b, 2, none⟩ v1) := by
  have hR : w0.heap.size ≤ X.heap.size := Nat.le_trans h.rd.2.size hX.size
  have hbX : b < X.heap.size := h1.blk.lt
  have hb1 : Below w0.heap.size X W1 := (Below.refl _ X).grown hg hR fun k hk => (h.own.lt k hk).1
  have hblk : W1.heap[b]? = X.heap[b]? := hg.block b hbX (fun e => h.apart e.symm)
  have h3 := (h1.frame hb1 hblk).put_ 2 (by omega) v1
  have hap : v1.ownBlock ≠ some b := by
    intro e
    rcases hl with hl | hl
    · exact h.apart (hl.symm.trans e)
    · have := hl b e; omega
  refine ⟨v1, ⟨⟨⟨_, h3, set2 h2 v1⟩, ((h.rd.2.trans (hX.mono h.rd.2.size)).trans hb1).setCell (p := ⟨b, 2, none⟩) h1.lo v1⟩, ?_, hap⟩, ⟨?_, fun i hi hb hv => ?_, ?_⟩⟩
  · exact ho.same fun g hg => Below.heap_setCell _ _ _ _ (fun e => hap (by rw [hg, e]))
  · simpa using Nat.le_trans hX.size hg.size
  · rw [Below.heap_setCell _ _ _ _ (by exact hb), hg.block i (Nat.lt_of_lt_of_le hi hX.size) hv]
    exact hX.block i hi
  · rcases hl with hl | hl
    · exact .inl hl
    · exact .inr fun g e => Nat.le_trans hX.size (hl g e)

set_option maxRecDepth 100000 in
set_option maxHeartbeats 4000000 in
theorem put_any {w0 w : World} {b : Nat} {v : Value} {L : List Lx.Tk} {er : Int} {row : List Ex.X} {d : Nat} (e : Ex.X) (h : Est w0 b w v L er row d) (hn : row.length + 1 ≤ 1000000) :
    Calls Tryz.prog 105 #[.pointer (some ⟨b, 0, none⟩), exV e] w fun r w' => r = .returned (.int .i64 row.length) ∧ EstTo w0 b w v L er (row ++ [e]) d w' := by
  obtain ⟨p, hp⟩ : ∃ p, w.heap.size = p := ⟨_, rfl⟩
  obtain ⟨X, hX⟩ : ∃ X, X = w.alloc (.cells (exC e) 49) := ⟨_, rfl⟩
  have hbX : Below w.heap.size w X := by rw [hX]; exact (Below.refl _ _).alloc (Nat.le_refl _) _
  have hE : Blk X p 49 (exC e) := by rw [hX, ← hp]; exact Blk.new w _ _
  obtain ⟨⟨⟨cs, h1, h2⟩, _⟩, _⟩ := h.rd.keep hbX
  have hO := h.own.keep hbX
  obtain ⟨A, c, hv, _⟩ := hO.read encX_len
  subst hv
  obtain ⟨n, hnn⟩ : ∃ n, row.length = n := ⟨_, rfl⟩
  rw [hnn] at hO h h2 ⊢
  have HO := Lib.hid hO
  have HC := Lib.hid (show ∀ W, Below X.heap.size X W → Blk W b 69 cs ∧ Blk W p 49 (exC e) from fun W hW => ⟨h1.blk.below hW h1.blk.lt, hE.below hW hE.lt⟩)
  have HC2 := Lib.hid (cells2 h2).1
  have HN := Lib.hid (show row.length + [e].length ≤ 1000000 from hn)
  have HR := Lib.hid (Nat.le_trans h.rd.2.size hbX.size)
  have HAp := Lib.hid h.apart
  have HG := Lib.hid (fun (v1 : Value) (W1 : World) ho hg hl => h.grown (v1 := v1) (W1 := W1) (row1 := row ++ [e]) hbX h1 h2 ho hg hl)
  have HX := Lib.hid hX
  have HP := Lib.hid hp
  have HNn := Lib.hid hnn
  clear hX hp hbX hE h1 h2 hO h hn hnn
  unfold exV
  go_enter Tryz.func105, Tryz.ntmps105
  go_upto_region 1 with fail
  rw [← HX.out, HP.out]
  refine wp_region_any (by kernel_rfl) ?_
  refine Lt.wpAny_chg (fun i => [0, 8, 9].contains i) (fun iq uq wq => if iq = 6 then SlK encX 8 wq uq [e] else uq = ([.pointer (some ⟨b, 0, none⟩), .pointer (some ⟨b, 0, none⟩), .pointer (some ⟨b, 0, none⟩), .pointer (some ⟨b, 2, none⟩), .slice A n c, .agg (exC e), undef, undef, .pointer (some ⟨b, 0, none⟩), .pointer (some ⟨b, 2, none⟩), undef] : List Value).getD iq undef) _ X 7 10 _ _ (fun v1 W => Blk W b 69 cs ∧ OwnK encX w0.heap.size 49 8 W v1 (row ++ [e]) ∧ X.grownBy W (Value.slice A n c).ownBlock ∧ (v1.ownBlock = (Value.slice A n c).ownBlock ∨ ∀ g, v1.ownBlock = some g → X.heap.size ≤ g)) (fun W => ∃ v1 W1, W = W1.setCell ⟨b, 2, none⟩ v1 ∧ (Blk W1 b 69 cs ∧ OwnK encX w0.heap.size 49 8 W1 v1 (row ++ [e]) ∧ X.grownBy W1 (Value.slice A n c).ownBlock ∧ (v1.ownBlock = (Value.slice A n c).ownBlock ∨ ∀ g, v1.ownBlock = some g → X.heap.size ≤ g))) (by kernel_rfl) (by decide) rfl rfl rfl (by kernel_rfl) (by kernel_rfl) (by kernel_rfl) (by kernel_rfl) (by kernel_rfl) (fun i v w w' hb h => by
      by_cases h6 : i = 6
      · rw [if_pos h6] at h ⊢; exact SlK.below h hb
      rw [if_neg h6] at h ⊢
      exact h) (fun i v w w' hp h => ?_) ?_ ?_ ?_ ?_ ?_
  · have : i = 0 ∨ i = 8 ∨ i = 9 := by simpa using hp
    rcases this with rfl | rfl | rfl <;> exact h
  · refine ⟨?_, ?_, ?_, ?_, ?_, ?_, ?_, ?_, ?_, ?_, ?_, trivial⟩
    · exact fun _ _ h => absurd h (by decide)
    · intro _ _ _ a W hI hun haft hi
      have e0 : a.eval (.tmp 0) = .pointer (some ⟨b, 0, none⟩) := hun 0 (by kernel_rfl)
      exact b_same hi hI rfl _ (run_move_op rfl e0) rfl
    · intro _ _ _ a W hI hun haft hi
      have f1 : a.eval (.tmp 6) = .pointer (some ⟨b, 0, none⟩) := haft ⟨1, .data⟩ (by simp) rfl _ _ rfl rfl
      exact b_same hi hI rfl _ (run_nilCheck_op rfl f1) rfl
    · intro _ _ _ a W hI hun haft hi
      have f2 : a.eval (.tmp 7) = .pointer (some ⟨b, 0, none⟩) := haft ⟨2, .data⟩ (by simp) rfl _ _ rfl rfl
      exact b_same hi hI rfl _ (run_fieldAddr_any rfl f2 (at_reader1 _ 0 _)) rfl
    · intro _ _ _ a W hI hun haft hi
      obtain ⟨kv, kw⟩ := HC.out W hI -- (.inl hI)
      have f3 : a.eval (.tmp 8) = .pointer (some ⟨b, 2, none⟩) := haft ⟨3, .data⟩ (by simp) rfl _ _ rfl rfl
      exact b_same hi hI rfl _ (run_loadsl_op rfl f3 Tryz.underlying22 ((Blk.cell kv 2).trans HC2.out)) rfl
    · intro _ _ _ a W hI hun haft hi
      obtain ⟨kv, kw⟩ := HC.out W hI -- (.inl hI)
      have e3 : a.eval (.tmp 3) = .pointer (some ⟨p, 0, none⟩) := hun 3 (by kernel_rfl)
      exact b_same hi hI rfl _ (run_load_op rfl e3 (kw) Tryz.underlying49 rfl (sizeX e)) rfl
    · intro _ _ _ a W hI hun haft hi
      have f5 : a.eval (.tmp 10) = .agg (exC e) := haft ⟨5, .data⟩ (by simp) rfl _ _ rfl rfl
      exact b_val hi hI rfl _ _ (run_buildSlice_op (vs := #[(0, .agg (exC e))]) rfl (by simp only [List.map_toArray, List.map_cons, List.map_nil, f5]) (bs_X _ W)) ((Below.refl _ _).alloc (Nat.le_refl _) _) (sl_oneX _ W)
    · exact fun _ h => absurd rfl h
    · exact fun _ _ h => absurd h (by decide)
    · exact fun _ _ h => absurd h (by decide)
    · exact fun h => absurd h (Nat.lt_irrefl _)
  · refine ⟨?_, ?_, ?_, ?_, ?_, ?_, ?_, ?_, ?_, ?_, ?_, trivial⟩
    · intro _ _ a W hor hun haft hi
      have e0 : a.eval (.tmp 0) = .pointer (some ⟨b, 0, none⟩) := hun 0 (by kernel_rfl)
      exact wpOp_val hi rfl _ _ (run_move_op rfl e0) ⟨_, rfl, rfl, rfl⟩
    · exact fun _ h => absurd h (by decide)
    · exact fun _ h => absurd h (by decide)
    · exact fun _ h => absurd h (by decide)
    · exact fun _ h => absurd h (by decide)
    · exact fun _ h => absurd h (by decide)
    · exact fun _ h => absurd h (by decide)
    · exact fun _ h => absurd h (by decide)
    · intro _ _ a W hor hun haft hi
      have f0 : a.eval (.tmp 5) = .pointer (some ⟨b, 0, none⟩) := haft ⟨0, .data⟩ (by simp) rfl rfl _ _ rfl rfl
      exact wpOp_val hi rfl _ _ (run_nilCheck_op rfl f0) ⟨_, rfl, rfl, rfl⟩
    · intro _ _ a W hor hun haft hi
      have f8 : a.eval (.tmp 13) = .pointer (some ⟨b, 0, none⟩) := haft ⟨8, .data⟩ (by simp) rfl rfl _ _ rfl rfl
      exact wpOp_val hi rfl _ _ (run_fieldAddr_any rfl f8 (at_reader1 _ 0 _)) ⟨_, rfl, rfl, rfl⟩
    · exact fun h => absurd h (Nat.lt_irrefl _)
  · intro a W hI hun haft
    have f4 : a.eval (.tmp 9) = .slice A n c := haft ⟨4, .data⟩ (by simp) rfl _ _ rfl rfl
    have f6 : SlK encX 8 W (a.eval (.tmp 11)) [e] := haft ⟨6, .data⟩ (by simp) rfl _ _ rfl rfl
    obtain ⟨kv, _⟩ := HC.out W hI
    have hO := HO.out.keep hI
    obtain ⟨v1, w1, hr, ho, hg, hloc⟩ := append_x w0.heap.size W (.slice A n c) row hO _ [e] f6 HN.out (Nat.le_trans HR.out hI.size)
    have hgX : X.grownBy w1 (Value.slice A n c).ownBlock := ⟨hg.os.trans hI.os, hg.tape.trans hI.tape, hg.output.trans hI.output, Nat.le_trans hI.size hg.size, fun k hk hne => (hg.block k (Nat.lt_of_lt_of_le hk hI.size) hne).trans (hI.block k hk)⟩
    refine wpOp_val rfl rfl v1 w1 (run_append_op rfl f4 rfl hr) ⟨_, rfl, (hg.block b kv.lt (fun e => HAp.out e.symm)).trans kv, ho, hgX, ?_⟩
    rcases hloc with h | ⟨_, h⟩
    · exact .inl h
    · exact .inr fun g hg => Nat.le_trans hI.size (h g hg)
  · intro vals a W hJ hsl hp
    obtain ⟨kv, ho, hg, hloc⟩ := hJ
    have f9 : a.eval (.tmp 14) = .pointer (some ⟨b, 2, none⟩) := (hsl 9 _ _ rfl (by decide) rfl).trans (hp 9 (by decide) (by decide))
    have f7 : a.eval (.tmp 12) = vals 7 := hsl 7 _ _ rfl (by decide) rfl
    obtain ⟨A1, c1, hv1, _⟩ := ho.read encX_len
    refine l_skip rfl rfl _ (run_store1_op rfl f9 f7 (by rw [hv1]; rfl) (by rw [hv1]; rfl) (by kernel_rfl) ((Blk.cell kv 2).trans HC2.out) (Blk.free kv 2)) ⟨_, rfl, _, _, rfl, kv, ho, hg, hloc⟩
  · intro vals W hK
    have HK := Lib.hid hK
    clear hK
    simp only [layN, List.size_toArray, List.length_cons, List.length_nil, List.range, List.range.loop, if_true, List.getElem?_toArray, List.getElem?_cons_zero, List.getElem?_cons_succ, Act.put, List.setIfInBounds_toArray, List.set_cons_zero, List.set_cons_succ, Nat.zero_add, Nat.reduceAdd]
    obtain ⟨v1, W1, rfl, kv, ho, hg, hl⟩ := HK.out
    obtain ⟨A1, c1, rfl, _⟩ := ho.read encX_len
    have hFin := HG.out _ _ ho hg hl
    have k2 := kv.set_ 2 (.slice A1 (row ++ [e]).length c1)
    have c0 : (W1.setCell ⟨b, 2, none⟩ (.slice A1 (row ++ [e]).length c1)).cell? ⟨b, 2, none⟩ = some (.slice A1 (row ++ [e]).length c1) := (Blk.cell k2 2).trans (Array.getElem?_setIfInBounds_self_of_lt (Array.getElem?_eq_some_iff.1 HC2.out).1)
    obtain ⟨m, hm⟩ : ∃ m, (row ++ [e]).length = m := ⟨_, rfl⟩
    have hmn : m = n + 1 := by rw [← hm, List.length_append, HNn.out]; rfl
    obtain ⟨W, hW⟩ : ∃ W, W = W1.setCell ⟨b, 2, none⟩ (.slice A1 (row ++ [e]).length c1) := ⟨_, rfl⟩
    rw [← hW] at hFin c0 ⊢
    rw [hm] at c0
    have HFin := Lib.hid hFin
    have HSub := Lib.hid (show (binOp .sub 3 (.int .i64 (m : Int)) (.int .i64 1)).run Tryz.prog W = .ok (.int .i64 (n : Int)) W by
      have h1 := HN.out
      have h2 := HNn.out
      have h3 : [e].length = 1 := rfl
      have hs : IntKind.i64.wrap (n : Int) = (n : Int) := by rw [IntKind.wrap_i64]; omega
      subst hmn
      go_simp)
    clear hFin ho hg hl kv k2 hW hm hmn HK HC HO HG HC2 HAp HR HX HN
    (try simp only [Exit.then])
    go_wp2_with (first
      | (refine wpList_val (o := ⟨some 20, _, _, _, _, _⟩) rfl (.int .i64 (n : Int)) W (run_bin_op rfl rfl rfl (by kernel_rfl) HSub.out) ?_)
      | fail)
    go_ret
    exact ⟨rfl, HFin.out⟩

end Go.Proofs.YtdabanocofimmaaGreatDoor

namespace Go.Proofs.YtdabanocofimmaaGreatDoor
open Go.RowKit

set_option maxRecDepth 100000 in
set_option maxHeartbeats 4000000 in
theorem value_any {w0 w : World} {b : Nat} {v : Value} {L : List Lx.Tk} {er : Int} {row : List Ex.X} {d : Nat} (k n : Int) (s : ByteArray) (h : Est w0 b w v L er row d) (hn : row.length + 1 ≤ 1000000) :
    Calls Tryz.prog 156 #[.pointer (some ⟨b, 0, none⟩), .agg #[.int .i64 k, .int .i64 n, .string s]] w fun r w' => r = .returned (.int .i64 row.length) ∧ EstTo w0 b w v L er (row ++ [Ex.valE k n s.data.toList]) d w' := by
  obtain ⟨p, hp⟩ : ∃ p, w.heap.size = p := ⟨_, rfl⟩
  obtain ⟨X, hX⟩ : ∃ X, X = w.alloc (.cells #[.int .i64 k, .int .i64 n, .string s] 47) := ⟨_, rfl⟩
  have hbX : Below w.heap.size w X := by rw [hX]; exact (Below.refl _ _).alloc (Nat.le_refl _) _
  have hE : Blk X p 47 #[.int .i64 k, .int .i64 n, .string s] := by rw [hX, ← hp]; exact Blk.new w _ _
  obtain ⟨v1, h1, hf⟩ := h.to (h.rd.keep hbX)
  have hP := put_any (Ex.valE k n s.data.toList) h1 hn
  unfold exV exC Ex.valE at hP
  dsimp only at hP
  rw [show (⟨s.data.toList.toArray⟩ : ByteArray) = s by simp] at hP
  have HPu := Lib.hid hP
  have HF := Lib.hid hf
  have HX := Lib.hid hX
  have HP := Lib.hid hp
  have c0 : X.cell? ⟨p, 0, none⟩ = some (.int .i64 k) := (Blk.cell hE 0).trans rfl
  have c1 : X.cell? ⟨p, 1, none⟩ = some (.int .i64 n) := (Blk.cell hE 1).trans rfl
  have c2 : X.cell? ⟨p, 2, none⟩ = some (.string s) := (Blk.cell hE 2).trans rfl
  have HV := Lib.hid (show Ex.valE k n s.data.toList = ⟨1, k, n, s.data.toList, [], [], 0, 0⟩ from rfl)
  rw [HV.out]
  clear hp hX hbX hE h1 hf hP h hn HV
  obtain ⟨m, hm⟩ : ∃ m, row.length = m := ⟨_, rfl⟩
  rw [hm] at HPu ⊢
  clear hm
  go_enter Tryz.func156, Tryz.ntmps156
  go_upto_region 1 with fail
  rw [← HX.out, HP.out]
  go_wp2_with (first
    | (refine wpList_build (o := ⟨some 7, _, _, _, _, _⟩) rfl _ _ rfl rfl ?_)
    | fail)
  refine HPu.out.mono ?_
  rintro e w1 ⟨rfl, h1⟩
  have HT := Lib.hid (EstTo.trans HF.out h1)
  clear h1
  go_wp2_with fail
  go_ret
  exact ⟨rfl, HT.out⟩

end Go.Proofs.YtdabanocofimmaaGreatDoor

namespace Go.Proofs.YtdabanocofimmaaGreatDoor
open Go.RowKit

/-- What a rule leaves: the tokens, the fault, the row; behind a fault that stood ahead, nothing but bounds counts. -/
def RuleTo (F : Ex.P) (w0 : World) (b : Nat) (w : World) (v : Value) (L : List Lx.Tk) (er : Int) (row : List Ex.X) (d : Nat) (place : Nat) (w' : World) : Prop :=
  ∃ L2 er2 row2, EstTo w0 b w v L2 er2 row2 d w' ∧ row2.length + 2 * L2.length ≤ row.length + 1 + 2 * L.length ∧ L2.length ≤ L.length ∧ TkSm L2 ∧ (er ≠ 0 → er2 = er) ∧
    (er = 0 → match F d L row with | .ok (p, L3, row3) => er2 = 0 ∧ place = p ∧ L2 = L3 ∧ row2 = row3 | .error e => er2 = e ∧ e ≠ 0)
/-- A rule's contract, for at most so many tokens. -/
def RuleC (w0 : World) (b : Nat) (f : FuncId) (F : Ex.P) (K : Nat) : Prop :=
  ∀ (w : World) (v : Value) (L : List Lx.Tk) (er : Int) (row : List Ex.X) (d : Nat), Est w0 b w v L er row d → TkSm L → row.length + 2 * L.length + 2 ≤ 1000000 → L.length ≤ K → d ≤ 64 →
    Calls Tryz.prog f #[.pointer (some ⟨b, 0, none⟩)] w fun r w' => ∃ place : Nat, r = .returned (.int .i64 place) ∧ RuleTo F w0 b w v L er row d place w'
/-- A rule as a value. -/
def ruleV (b : Nat) (f : FuncId) : Value := .func (.func f) #[.pointer (some ⟨b, 0, none⟩)] #[]
/-- A rule's value is entered as it is. -/
def Ent (b : Nat) (f : FuncId) : Prop := ∀ W : World, (callFunc f #[.pointer (some ⟨b, 0, none⟩)]).run Tryz.prog W = .ok (.enter f #[.pointer (some ⟨b, 0, none⟩)]) W
theorem Est.deep {w0 w : World} {b : Nat} {v : Value} {L : List Lx.Tk} {er : Int} {row : List Ex.X} {d : Nat} (h : Est w0 b w v L er row d) (d2 : Nat) : Est w0 b (w.setCell ⟨b, 3, none⟩ (.int .i64 d2)) v L er row d2 ∧ Fr b v v w (w.setCell ⟨b, 3, none⟩ (.int .i64 d2)) := by
  obtain ⟨⟨⟨cs, h1, h2⟩, h3⟩, h4, h5⟩ := h
  refine ⟨⟨⟨⟨_, h1.put_ 3 (by omega) _, set3 h2 _⟩, h3.setCell (p := ⟨b, 3, none⟩) h1.lo _⟩, ?_, h5⟩, .of_but (But.setCell w b 3 _)⟩
  exact h4.same fun g hg => Below.heap_setCell _ _ _ _ (fun e => h5 (by rw [hg, e]))
theorem Est.cell3 {w0 w : World} {b : Nat} {v : Value} {L : List Lx.Tk} {er : Int} {row : List Ex.X} {d : Nat} (h : Est w0 b w v L er row d) : w.cell? ⟨b, 3, none⟩ = some (.int .i64 d) ∧ w.frozen? ⟨b, 3, none⟩ = false := by
  obtain ⟨⟨⟨cs, h1, h2⟩, _⟩, _, _⟩ := h
  exact ⟨(Blk.cell h1.blk 3).trans (cells2 h2).2, Blk.free h1.blk 3⟩

set_option maxRecDepth 100000 in
set_option maxHeartbeats 4000000 in
theorem within_any {w0 w : World} {b : Nat} {v : Value} {L : List Lx.Tk} {er : Int} {row : List Ex.X} {d K : Nat} (f : FuncId) (F : Ex.P) (hq : Ent b f) (hF : RuleC w0 b f F K) (h : Est w0 b w v L er row d) (hL : TkSm L) (hn : row.length + 2 * L.length + 2 ≤ 1000000) (hK : L.length ≤ K) (hd : d ≤ 64) :
    Calls Tryz.prog 106 #[.pointer (some ⟨b, 0, none⟩), ruleV b f] w fun r w' => ∃ place : Nat, r = .returned (.int .i64 place) ∧ RuleTo (Ex.withinF F) w0 b w v L er row d place w' := by
  obtain ⟨c3, f3⟩ := h.cell3
  unfold ruleV
  by_cases h64 : d = 64
  · subst h64
    have HFa := Lib.hid (fail_st 13 h.rd)
    have HG := Lib.hid (fun w' (k : RdTo w0 b 69 [v, .int .i64 (64 : Nat)] w L (failS er 13) w') => (show RuleTo (Ex.withinF F) w0 b w v L er row 64 0 w' from
      ⟨L, _, row, h.to k, by omega, Nat.le_refl _, hL, fun e => if_neg e, fun e => by unfold Ex.withinF; rw [if_pos rfl]; exact ⟨if_pos e, by decide⟩⟩))
    clear h hL hn hK hd hF hq
    go_enter Tryz.func106, Tryz.ntmps106
    go_wp2_with fail
    refine HFa.out.mono ?_
    rintro e w1 ⟨rfl, h1⟩
    have HR := Lib.hid (HG.out _ h1)
    clear h1
    go_wp2_with fail
    go_ret
    exact ⟨0, rfl, HR.out⟩
  · obtain ⟨h1, hf1⟩ := h.deep (d + 1)
    have HC := Lib.hid (hF _ v L er row (d + 1) h1 hL hn hK (by omega))
    obtain ⟨X, hX⟩ : ∃ X, X = w.setCell ⟨b, 3, none⟩ (.int .i64 ((d : Int) + 1)) := ⟨_, rfl⟩
    rw [← show X = w.setCell ⟨b, 3, none⟩ (.int .i64 (d + 1 : Nat)) from hX] at HC hf1
    have HX := Lib.hid hX
    have HF1 := Lib.hid hf1
    have e64 : ((d : Int) == 64) = false := by rw [beq_eq_false_iff_ne]; omega
    have HAdd := Lib.hid (show (binOp .add 3 (.int .i64 (d : Int)) (.int .i64 1)).run Tryz.prog w = .ok (.int .i64 ((d : Int) + 1)) w by
      have hs := IntWalk.i64_in ((d : Int) + 1) (by omega)
      go_simp)
    have HSub := Lib.hid (fun W => show (binOp .sub 3 (.int .i64 ((d + 1 : Nat) : Int)) (.int .i64 1)).run Tryz.prog W = .ok (.int .i64 (d : Int)) W by
      have hs := IntWalk.i64_in (d : Int) (by omega)
      go_simp)
    have HG := Lib.hid (fun (pl : Nat) (w2 W : World) (v2 : Value) (L2 : List Lx.Tk) (er2 : Int) (row2 : List Ex.X) (k1 : Fr b v v2 w W) (k2 : Est w0 b W v2 L2 er2 row2 d)
      (k3 : row2.length + 2 * L2.length ≤ row.length + 1 + 2 * L.length ∧ L2.length ≤ L.length ∧ TkSm L2 ∧ (er ≠ 0 → er2 = er) ∧
        (er = 0 → match F (d + 1) L row with | .ok (p, L3, row3) => er2 = 0 ∧ pl = p ∧ L2 = L3 ∧ row2 = row3 | .error e => er2 = e ∧ e ≠ 0)) (_ : w2.heap.size = W.heap.size) =>
      (show RuleTo (Ex.withinF F) w0 b w v L er row d pl W from ⟨L2, er2, row2, ⟨v2, k2, k1⟩, k3.1, k3.2.1, k3.2.2.1, k3.2.2.2.1, fun e => by unfold Ex.withinF; rw [if_neg h64]; exact k3.2.2.2.2 e⟩))
    have HQ := Lib.hid hq
    clear h hL hn hK hd hF hX hf1 h1 h64 hq
    go_enter Tryz.func106, Tryz.ntmps106
    go_upto_region 5 with (first
      | (refine wpList_val (o := ⟨some 19, _, _, _, _, _⟩) rfl (.int .i64 ((d : Int) + 1)) w (run_bin_op rfl rfl rfl (by kernel_rfl) HAdd.out) ?_)
      | fail)
    rw [← HX.out]
    clear c3 f3
    go_wp2_with fail
    rw [HQ.out, Oper.upon_enter]
    refine HC.out.mono ?_
    rintro e w2 ⟨pl, rfl, L2, er2, row2, ⟨v2, k1, k2⟩, k3⟩
    obtain ⟨c3, f3⟩ := k1.cell3
    obtain ⟨k4, k5⟩ := k1.deep d
    have HR := Lib.hid (HG.out pl w2 _ v2 L2 er2 row2 (HF1.out.trans (k2.trans k5)) k4 k3 (by simp))
    clear k1 k2 k3 k4 k5 HG
    go_wp2_with (first
      | (refine wpList_val (o := ⟨some 28, _, _, _, _, _⟩) rfl (.int .i64 (d : Int)) w2 (run_bin_op rfl rfl rfl (by kernel_rfl) (HSub.out w2)) ?_)
      | fail)
    go_ret
    exact ⟨pl, rfl, HR.out⟩

end Go.Proofs.YtdabanocofimmaaGreatDoor
