/-
  snap.layItem: an item's bytes: the contract, by a walk. Conditions: lengths.
-/
import Derived.Test.YtejljikikhecnaaGreatSnRow
namespace Go.Proofs.YtejljikikhecnaaGreat
open Go.RowKit Go.MapKept Go.Sort

/-- An item's bytes. -/
def bytesI (x : El) (l : List (Dt × Va)) : List UInt8 := bytesX x ++ (putB l.length ++ (l.map bytesN).flatten)
theorem flat_le (B : Nat) : ∀ (l : List (List UInt8)), (∀ b ∈ l, b.length ≤ B) → l.flatten.length ≤ l.length * B
  | [], _ => by simp
  | b :: l, h => by
    have h1 := flat_le B l fun f hf => h f (List.mem_cons_of_mem _ hf)
    have h2 := h b List.mem_cons_self
    rw [List.flatten_cons, List.length_append, List.length_cons, Nat.add_mul]
    omega
theorem entries_len (l : List (Dt × Va)) (h : ∀ q ∈ l, q.2.t.size ≤ 4294967280) : (putB l.length ++ (l.map bytesN).flatten).length ≤ 9 + l.length * 4294967325 := by
  have h1 := putB_len l.length
  have h2 := flat_le 4294967325 (l.map bytesN) (fun b hb => by
    obtain ⟨q, hq, rfl⟩ := List.mem_map.1 hb
    have := t_len q (h q hq)
    omega)
  rw [List.length_map] at h2
  rw [List.length_append]
  omega
theorem at_snI1 (g : Nat) (w : World) : (Instr.fieldAt 61 (.pointer (some ⟨g, 0, none⟩)) 1).run Tryz.prog w = .ok (.pointer (some ⟨g, 5, none⟩)) w := by go_simp
theorem at_snI0 (g : Nat) (w : World) : (Instr.fieldAt 61 (.pointer (some ⟨g, 0, none⟩)) 0).run Tryz.prog w = .ok (.pointer (some ⟨g, 0, none⟩)) w := by go_simp
def pIt (w : World) (p : Nat) (x : El) (A : Option Addr) (N c : Nat) (l : List (Dt × Va)) (i : Nat) (v : Value) (W : World) : Prop :=
  match i with
  | 0 => v = .pointer (some ⟨p, 0, none⟩)
  | 1 => v = eE x
  | 2 => W.ownsRow w.heap.size 5 1 v (bytesX x).length (bs (bytesX x))
  | 3 => v = .pointer (some ⟨p, 5, none⟩)
  | 4 => v = .slice A N c
  | 5 => Sl bv W v (putB l.length ++ (l.map bytesN).flatten)
  | _ => True

set_option maxRecDepth 100000 in
set_option maxHeartbeats 3000000 in
theorem layItem_any (x : El) (l : List (Dt × Va)) (A : Option Addr) (N c : Nat) (w : World) (hs : SlK enN 5 w (.slice A N c) l) (hN : l.length = N) (hN2 : N ≤ 10000) (hx : LenE x) (hl : ∀ q ∈ l, q.2.t.size ≤ 4294967280) :
    Calls Tryz.prog 24 #[.agg #[.int .i64 x.k, .string x.a, .string x.b, .string x.c, .string x.d, .slice A N c]] w (Makes w (bytesI x l)) := by
  have HBn := Lib.hid (show (putB l.length ++ (l.map bytesN).flatten).length ≤ 9 + 10000 * 4294967325 from Nat.le_trans (entries_len l hl) (by
    have h4 : l.length * 4294967325 ≤ 10000 * 4294967325 := Nat.mul_le_mul_right _ (by omega)
    omega))
  have HXl := Lib.hid (show (bytesX x).length ≤ 9 + 4294967289 * 4 from (s_len x hx).2.2.2.2)
  have HLx := Lib.hid (fun W => layElem_any x W hx)
  have HLr : Hid (∀ W, SlK enN 5 W (.slice A N c) l → Calls Tryz.prog 59 #[.slice A N c, .func (.func 60) #[] #[]] W (Makes W (putB l.length ++ (l.map bytesN).flatten))) := Lib.hid (fun W h => by
    have hq := layRowN_any l (l.map bytesN) A N c W h hN (by rw [List.length_map]; exact hN) (by omega) (by rw [← hN]; have := HBn.out; omega) (fun y _ => cN_one y) (fun i y b h1 h2 W' _ => by
      rw [List.getElem?_map, h1] at h2
      have e : bytesN y = b := by simpa using h2
      rw [← e]
      exact layEntry_any y W' (hl y (List.mem_of_getElem? h1)))
    rw [← hN] at hq ⊢
    exact hq)
  obtain ⟨p, hp⟩ : ∃ p, w.heap.size = p := ⟨_, rfl⟩
  obtain ⟨X, hX⟩ : ∃ X, X = w.alloc (.cells (cI (x, .slice A N c)) 61) := ⟨_, rfl⟩
  have hbX : Below w.heap.size w X := by rw [hX]; exact (Below.refl _ _).alloc (Nat.le_refl _) _
  have K0 := Lib.hid (show Blk X p 61 (cI (x, .slice A N c)) by rw [hX, ← hp]; exact Blk.new _ _ _)
  have HX := Lib.hid (show X = w.alloc (.cells #[.int .i64 x.k, .string x.a, .string x.b, .string x.c, .string x.d, .slice A N c] 61) from hX)
  have HP := Lib.hid hp
  have Y0 := Lib.hid hbX
  have S0 := Lib.hid (hs.below hbX)
  clear hX hp hbX hs hN hN2 hx hl
  go_enter Tryz.func24, Tryz.ntmps24
  go_upto_region 1 with fail
  rw [← HX.out, HP.out]
  refine wp_region_any (by kernel_rfl) ?_
  refine Lt.wpAny_mid (pIt w p x A N c l) _ X 6 _ _ (fun v W => W.ownsRow w.heap.size 5 1 v (bytesI x l).length (bs (bytesI x l)) ∧ Below w.heap.size w W) (by kernel_rfl) rfl rfl (by kernel_rfl) (by kernel_rfl) (by kernel_rfl) (by kernel_rfl) (by kernel_rfl) (fun i v w1 w' hb h => by
    match i, h with
    | 0, h => exact h
    | 1, h => exact h
    | 2, h => exact own_belowS h hb
    | 3, h => exact h
    | 4, h => exact h
    | 5, h => exact Sl.below h hb
    | _ + 6, _ => trivial) ?_ ?_ ?_ ?_
  · refine ⟨?_, ?_, ?_, ?_, ?_, ?_, fun h => absurd h (Nat.lt_irrefl _), fun h => absurd h (by decide), trivial⟩
    · intro _ a W hI hun haft hi
      have e1 : a.eval (.tmp 1) = .pointer (some ⟨p, 0, none⟩) := hun 1 (by kernel_rfl)
      exact b_same hi hI rfl _ (run_fieldAddr_any rfl e1 (at_snI0 p W)) rfl
    · intro _ a W hI hun haft hi
      have f0 : a.eval (.tmp 3) = .pointer (some ⟨p, 0, none⟩) := haft ⟨0, .data⟩ (by simp) rfl _ _ rfl rfl
      exact b_same hi hI rfl _ (run_loadmid_op rfl f0 (rangeAt_same (World.rangeAt_of_block (C := cI (x, .slice A N c)) K0.out 0 5) (hI.block p (Blk.lt K0.out))) Tryz.underlying45 rfl (by kernel_rfl)) rfl
    · intro _ a W hI hun haft hi
      have f1 : a.eval (.tmp 4) = eE x := haft ⟨1, .data⟩ (by simp) rfl _ _ rfl rfl
      refine b_call hi hI rfl _ _ (run_call_op (args := #[eE x]) rfl (by simp [f1]) (by kernel_rfl)) ?_
      exact (HLx.out W).mono fun e' w' H => by
        obtain ⟨v', he, ho, hb⟩ := H
        exact ⟨v', he, own_base ho (Nat.le_trans Y0.out.size hI.size), hb⟩
    · intro _ a W hI hun haft hi
      have e1 : a.eval (.tmp 1) = .pointer (some ⟨p, 0, none⟩) := hun 1 (by kernel_rfl)
      exact b_same hi hI rfl _ (run_fieldAddr_any rfl e1 (at_snI1 p W)) rfl
    · intro _ a W hI hun haft hi
      have f3 : a.eval (.tmp 6) = .pointer (some ⟨p, 5, none⟩) := haft ⟨3, .data⟩ (by simp) rfl _ _ rfl rfl
      exact b_same hi hI rfl _ (run_loadsl_op rfl f3 Tryz.underlying59 ((Blk.cell (Blk.below K0.out hI (Blk.lt K0.out)) 5).trans rfl)) rfl
    · intro _ a W hI hun haft hi
      have f4 : a.eval (.tmp 7) = .slice A N c := haft ⟨4, .data⟩ (by simp) rfl _ _ rfl rfl
      refine b_call hi hI rfl _ _ (run_call_op (args := #[.slice A N c, .func (.func 60) #[] #[]]) rfl (by simp only [List.map_toArray, List.map_cons, List.map_nil, f4] <;> rfl) (by kernel_rfl)) ?_
      exact (HLr.out W (S0.out.below hI)).mono fun e' w' H => by
        obtain ⟨v', he, ho, hb⟩ := H
        exact ⟨v', he, Sl.of_own ho, hb⟩
  · intro a W hI haft
    have f2 : W.ownsRow w.heap.size 5 1 (a.eval (.tmp 5)) (bytesX x).length (bs (bytesX x)) := haft ⟨2, .data⟩ (by simp) rfl _ _ rfl rfl
    have f5 : Sl bv W (a.eval (.tmp 8)) (putB l.length ++ (l.map bytesN).flatten) := haft ⟨5, .data⟩ (by simp) rfl _ _ rfl rfl
    have hbw : Below w.heap.size w W := Y0.out.trans (hI.mono Y0.out.size)
    obtain ⟨v', w', hr, ho', hg⟩ := append_bytes w.heap.size W _ (bytesX x) f2 _ _ f5 (by have := HBn.out; have := HXl.out; omega) hbw.size
    refine wpOp_val rfl rfl v' w' (run_append_op rfl rfl rfl hr) ?_
    exact ⟨v', rfl, ho', hbw.grown hg hbw.size (fun q e => (f2.lt q e).1)⟩
  · intro v a W hv
    have f6 : a.eval (.tmp 9) = v := hv 9 rfl
    exact wpOp_val rfl rfl v W (run_assign_op rfl f6) ⟨rfl, rfl⟩
  · rintro vals W ⟨q1, q2⟩ hv7
    have Q1 := Lib.hid q1
    have Q2 := Lib.hid q2
    clear q1 q2
    simp only [layN, List.size_toArray, List.length_cons, List.length_nil, List.range, List.range.loop, if_true, List.getElem?_toArray, List.getElem?_cons_zero, List.getElem?_cons_succ, Act.put, List.setIfInBounds_toArray, List.set_cons_zero, List.set_cons_succ, Nat.zero_add, Nat.reduceAdd, hv7]
    go_wp2
    go_ret
    exact ⟨_, rfl, Q1.out, Q2.out⟩

end Go.Proofs.YtejljikikhecnaaGreat
