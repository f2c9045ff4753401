/-
  (*expr.reader).pairs: the contract, by a walk. The rules of two sides: or, and, add, mul: the contracts, by walks. Conditions: lengths.
-/
import Derived.Test.YtdabanocofimmaaGreatDoorExPair
namespace Go.Proofs.YtdabanocofimmaaGreatDoor
open Go.RowKit

/-- Between two rounds of pairs. -/
def PInv (F : Ex.P) (ks : List Int) (d : Nat) (L : List Lx.Tk) (row : List Ex.X) (er : Int) (pl : Nat) (more : Bool) (L2 : List Lx.Tk) (er2 : Int) (row2 : List Ex.X) : Prop :=
  (er ≠ 0 → er2 = er) ∧ (er = 0 → (er2 = 0 → (more = true → ∃ fuel, L2.length ≤ fuel ∧ Ex.pairsF F ks d L row = Ex.loopF F ks fuel d pl L2 row2) ∧ (more = false → Ex.pairsF F ks d L row = .ok (pl, L2, row2))) ∧
    (er2 ≠ 0 → Ex.pairsF F ks d L row = .error er2))
theorem PInv.first {F : Ex.P} {ks : List Int} {d : Nat} {L L2 : List Lx.Tk} {row row2 : List Ex.X} {er er2 : Int} {pl : Nat} (h0 : er ≠ 0 → er2 = er)
    (h : er = 0 → match F d L row with | .ok (p, L3, row3) => er2 = 0 ∧ pl = p ∧ L2 = L3 ∧ row2 = row3 | .error e => er2 = e ∧ e ≠ 0) : PInv F ks d L row er pl true L2 er2 row2 := by
  refine ⟨h0, fun e0 => ?_⟩
  have h1 := h e0
  unfold Ex.pairsF
  cases hF : F d L row with
  | error e =>
    rw [hF] at h1
    obtain ⟨rfl, h2⟩ := h1
    exact ⟨fun e => absurd e h2, fun _ => rfl⟩
  | ok q =>
    obtain ⟨p, L3, row3⟩ := q
    rw [hF] at h1
    obtain ⟨e1, e2, e3, e4⟩ := h1
    subst e2 e3 e4
    exact ⟨fun _ => ⟨fun _ => ⟨_, Nat.le_refl _, rfl⟩, (fun e => by cases e)⟩, fun e => absurd e1 e⟩
theorem PInv.stop {F : Ex.P} {ks : List Int} {d : Nat} {L L2 : List Lx.Tk} {row row2 : List Ex.X} {er er2 : Int} {pl : Nat} (h : PInv F ks d L row er pl true L2 er2 row2) (hp : er2 = 0 → Ex.pickL ks L2 = none) : PInv F ks d L row er pl false L2 er2 row2 := by
  refine ⟨h.1, fun e0 => ⟨fun e2 => ⟨(fun e => by cases e), fun _ => ?_⟩, (h.2 e0).2⟩⟩
  obtain ⟨fuel, _, h2⟩ := ((h.2 e0).1 e2).1 rfl
  rw [h2]
  cases fuel with
  | zero => rfl
  | succ n =>
    unfold Ex.loopF
    rw [hp e2]
theorem PInv.step {F : Ex.P} {ks : List Int} {d : Nat} {L L2 L4 L1 : List Lx.Tk} {row row2 row4 : List Ex.X} {er er4 k : Int} {pl p4 : Nat} (h : PInv F ks d L row er pl true L2 0 row2) (hp : Ex.pickL ks L2 = some (k, L1)) (hl : L4.length < L2.length)
    (hm : match F d L1 row2 with | .ok (q, L3, row3) => er4 = 0 ∧ p4 = row3.length ∧ L4 = L3 ∧ row4 = row3 ++ [Ex.biE k pl q] | .error e => er4 = e ∧ e ≠ 0) : PInv F ks d L row er p4 true L4 er4 row4 := by
  have he : er = 0 := Classical.byContradiction fun e => e (h.1 e).symm
  refine ⟨fun e => absurd he e, fun e0 => ?_⟩
  obtain ⟨fuel, h1, h2⟩ := ((h.2 e0).1 rfl).1 rfl
  cases fuel with
  | zero => omega
  | succ n =>
    rw [h2, show Ex.loopF F ks (n + 1) d pl L2 row2 = Ex.nextR (F d L1 row2) fun q l2 row3 => Ex.loopF F ks n d row3.length l2 (row3 ++ [Ex.biE k pl q]) by rw [Ex.loopF, hp]]
    cases hF : F d L1 row2 with
    | error e =>
      rw [hF] at hm
      obtain ⟨rfl, h3⟩ := hm
      exact ⟨fun e => absurd e h3, fun _ => rfl⟩
    | ok q =>
      obtain ⟨q, L3, row3⟩ := q
      rw [hF] at hm
      obtain ⟨e1, e2, e3, e4⟩ := hm
      subst e2 e3 e4
      exact ⟨fun _ => ⟨fun _ => ⟨n, by omega, rfl⟩, (fun e => by cases e)⟩, fun e => absurd e1 e⟩
theorem PInv.last {F : Ex.P} {ks : List Int} {d : Nat} {L L2 : List Lx.Tk} {row row2 : List Ex.X} {er er2 : Int} {pl : Nat} (h : PInv F ks d L row er pl false L2 er2 row2) (e0 : er = 0) :
    match Ex.pairsF F ks d L row with | .ok (p, L3, row3) => er2 = 0 ∧ pl = p ∧ L2 = L3 ∧ row2 = row3 | .error e => er2 = e ∧ e ≠ 0 := by
  by_cases e2 : er2 = 0
  · rw [((h.2 e0).1 e2).2 rfl]
    exact ⟨e2, rfl, rfl, rfl⟩
  · rw [(h.2 e0).2 e2]
    exact ⟨rfl, e2⟩
/-- How many tokens a reader has left. -/
def leftN (w : World) (b : Nat) : Nat := match w.cell? ⟨b, 0, none⟩ with | some (.slice _ n _) => n | _ => 0
theorem Est.leftN_ {w0 w : World} {b : Nat} {v : Value} {L : List Lx.Tk} {er : Int} {row : List Ex.X} {d : Nat} (h : Est w0 b w v L er row d) : leftN w b = L.length := by
  obtain ⟨⟨⟨cs, h1, _⟩, _⟩, _, _⟩ := h
  obtain ⟨A, c, e, _⟩ := h1.left
  unfold leftN
  rw [(Blk.cell h1.blk 0).trans e]

set_option maxRecDepth 100000 in
set_option maxHeartbeats 6000000 in
theorem pairs_any {w0 w : World} {b : Nat} {v : Value} {L : List Lx.Tk} {er : Int} {row : List Ex.X} {d K : Nat} (f : FuncId) (F : Ex.P) (hq : Ent b f) (hF : RuleC w0 b f F K) (ks : List Int) (g o n c : Nat) (hks : ks.length = n) (hn2 : n ≤ 100) (hkr : ∀ k ∈ ks, 0 ≤ k ∧ k < 19)
    (hg : g < w.heap.size) (hgb : g ≠ b) (hgv : some g ≠ v.ownBlock) (hc : ∀ j, j < ks.length → w.cell? ⟨g, o + j, none⟩ = some (.int .i64 (ks.getD j 0)))
    (h : Est w0 b w v L er row d) (hw : WOk w0) (hB : BetwIs w0) (hL : TkSm L) (hn : row.length + 2 * L.length + 2 ≤ 1000000) (hK : L.length ≤ K) (hd : d ≤ 64) :
    Calls Tryz.prog 63 #[.pointer (some ⟨b, 0, none⟩), ruleV b f, .slice (some ⟨g, o, none⟩) n c] w fun r w' => ∃ place : Nat, r = .returned (.int .i64 place) ∧ RuleTo (Ex.pairsF F ks) w0 b w v L er row d place w' := by
  have HF := Lib.hid (hF w v L er row d h hL hn hK hd)
  have HQ := Lib.hid hq
  have HN := Lib.hid hn
  have HKk := Lib.hid hK
  have HG := Lib.hid (And.intro hg hgv)
  have HP := Lib.hid (fun (wr : World) (vr : Value) (Lr : List Lx.Tk) (e : Int) (r2 : List Ex.X) (pl : Nat) (h2 : Est w0 b wr vr Lr e r2 d) (hf : Fr b v vr w wr) (h3 : TkSm Lr) (h4 : r2.length + 2 * Lr.length ≤ row.length + 1 + 2 * L.length) (h5 : Lr.length ≤ L.length) (h6 : r2.length + 2 * Lr.length + 1 ≤ 1000000) =>
    pair_any pl f F hq hF ks g o n c hks hn2 hkr (Nat.lt_of_lt_of_le hg hf.size) hgb (fun e => by
      rcases hf.own with h | h
      · exact hgv (e.trans h)
      · have := h g e.symm; omega) (fun j hj => by
      rw [← hc j hj]
      exact World.cell?_of_block (hf.block g hg hgb hgv)) h2 hw hB h3 h6 (by omega) hd)
  have HL := Lib.hid hL
  clear hF hq hks hkr hg hgb hgv hc h hw hB hL hn hK hd hn2
  unfold ruleV at *
  go_enter Tryz.func63, Tryz.ntmps63
  go_wp2_with fail
  rw [HQ.out, Oper.upon_enter]
  refine HF.out.mono ?_
  rintro e w1 ⟨pl, rfl, L1, er1, row1, ⟨v1, k1, k2⟩, k3, k4, k5, k6, k7⟩
  have HI := Lib.hid (PInv.first (ks := ks) k6 k7)
  have HE := Lib.hid k1
  have HR := Lib.hid k2
  have HBd := Lib.hid (And.intro k3 (And.intro k4 k5))
  clear k1 k2 k3 k4 k5 k6 k7
  go_wp2_with fail
  go_loopw [7, 8] (fun v7 v8 wr => ∃ (p : Nat) (m : Bool) (vr : Value) (Lr : List Lx.Tk) (e2 : Int) (r2 : List Ex.X), v7 = .int .i64 p ∧ v8 = .bool m ∧ Est w0 b wr vr Lr e2 r2 d ∧ Fr b v vr w wr ∧ TkSm Lr ∧ r2.length + 2 * Lr.length ≤ row.length + 1 + 2 * L.length ∧ Lr.length ≤ L.length ∧ PInv F ks d L row er p m Lr e2 r2)
    (fun _ v8 wr => match v8 with | .bool true => leftN wr b + 1 | _ => 0)
  case atStart => exact ⟨pl, true, v1, L1, er1, row1, rfl, rfl, HE.out, HR.out, HBd.out.2.2, HBd.out.1, HBd.out.2.1, HI.out⟩
  case round =>
    obtain ⟨p, m, vr, Lr, e2, r2, rfl, rfl, h1, h2, h3, h4, h5, h6⟩ := hrel
    cases m
    · have HT := Lib.hid (show RuleTo (Ex.pairsF F ks) w0 b w v L er row d p wr from ⟨Lr, e2, r2, ⟨vr, h1, h2⟩, h4, h5, h3, h6.1, h6.last⟩)
      clear h1 h2 h3 h4 h5 h6
      go_wp2_with fail
      go_ret
      exact ⟨p, rfl, HT.out⟩
    · have HPa := Lib.hid (HP.out wr vr Lr e2 r2 p h1 h2 h3 h4 h5 (by have := HN.out; omega))
      have H1 := Lib.hid h1
      have H2 := Lib.hid h2
      have H45 := Lib.hid (And.intro h4 h5)
      have H6 := Lib.hid h6
      clear h1 h2 h3 h4 h5 h6
      go_wp2_with fail
      refine HPa.out.mono ?_
      rintro e w3 ⟨p3, m3, rfl, L3, e3, r3, ⟨v3, j1, j2⟩, j3, j4, j5⟩
      have HJ1 := Lib.hid j1
      have HJ2 := Lib.hid (H2.out.trans j2)
      have HJ3 := Lib.hid j3
      have HJ4 := Lib.hid j4
      have HJ5 := Lib.hid j5
      clear j1 j2 j3 j4 j5
      cases m3
      · obtain ⟨rfl, rfl, rfl, rfl, hpk⟩ := HJ4.out rfl
        go_wp2_with fail
        go_roundw
        case rel => exact ⟨_, false, v3, _, _, _, rfl, rfl, HJ1.out, HJ2.out, HJ3.out, H45.out.1, H45.out.2, H6.out.stop hpk⟩
        case measure => exact Nat.succ_pos _
      · obtain ⟨hz, hb, hl, k, Lk, hpk, hm⟩ := HJ5.out rfl
        have HX := Lib.hid (And.intro hb hl)
        have HS := Lib.hid (PInv.step (hz ▸ H6.out) hpk hl hm)
        have HM := Lib.hid (show leftN w3 b < leftN wr b by rw [HJ1.out.leftN_, H1.out.leftN_]; exact hl)
        clear hz hb hl hpk hm
        go_wp2_with fail
        go_roundw
        case rel => exact ⟨p3, true, v3, L3, e3, r3, rfl, rfl, HJ1.out, HJ2.out, HJ3.out, by have := HX.out.1; have := H45.out.1; omega, by have := HX.out.2; have := H45.out.2; omega, HS.out⟩
        case measure =>
          exact Nat.succ_lt_succ HM.out

end Go.Proofs.YtdabanocofimmaaGreatDoor

namespace Go.Proofs.YtdabanocofimmaaGreatDoor
open Go.RowKit

theorem RuleTo.from_ {F : Ex.P} {w0 w X w' : World} {b : Nat} {v : Value} {L : List Lx.Tk} {er : Int} {row : List Ex.X} {d pl : Nat} (hf : Fr b v v w X) (h : RuleTo F w0 b X v L er row d pl w') : RuleTo F w0 b w v L er row d pl w' := by
  obtain ⟨L2, er2, row2, h1, h2⟩ := h
  exact ⟨L2, er2, row2, EstTo.trans hf h1, h2⟩
theorem ent_and (b : Nat) : Ent b 64 := fun W => by go_simp
theorem bs_or (w : World) : (Instr.buildSlice 57 1 #[(0, .int .i64 8)]).run Tryz.prog w = .ok (.slice (some ⟨w.heap.size, 0, none⟩) 1 1) (w.alloc (.cells #[.int .i64 8] 3)) := by go_simp

set_option maxRecDepth 100000 in
set_option maxHeartbeats 1500000 in
theorem or_rule {w0 : World} {b K : Nat} (F : Ex.P) (hF : RuleC w0 b 64 F K) (hw : WOk w0) (hB : BetwIs w0) : RuleC w0 b 40 (Ex.pairsF F [8]) K := by
  intro w v L er row d h hL hn hK hd
  obtain ⟨p, hp⟩ : ∃ p, w.heap.size = p := ⟨_, rfl⟩
  obtain ⟨X, hX⟩ : ∃ X, X = w.alloc (.cells #[.int .i64 8] 3) := ⟨_, rfl⟩
  have hbX : Below w.heap.size w X := by rw [hX]; exact (Below.refl _ _).alloc (Nat.le_refl _) _
  have hE : Blk X p 3 #[.int .i64 8] := by rw [hX, ← hp]; exact Blk.new w _ _
  have hk := h.rd.keep hbX
  have HPs := Lib.hid (pairs_any 64 F (ent_and b) hF [8] p 0 1 1 rfl (by omega) (by decide) hE.lt (by
      obtain ⟨⟨cs, h1, _⟩, _⟩ := h.rd
      have := h1.blk.lt
      omega) (fun e => by have := (h.own.lt p e.symm).2; omega) (fun j hj => by
      have hj2 : j < 1 := hj
      rw [Nat.zero_add]
      exact (Blk.cell hE j).trans (by
        match j, hj2 with
        | 0, _ => rfl)) (h.move hk) hw hB hL hn hK hd)
  have HFr := Lib.hid (show Fr b v v w X from .of_but hk.2)
  have HX := Lib.hid hX
  have HP := Lib.hid hp
  have HBs := Lib.hid (bs_or w)
  clear h hL hn hK hd hp hX hbX hE hk hF hw hB
  unfold ruleV at HPs
  go_enter Tryz.func40, Tryz.ntmps40
  go_wp2_with fail
  rw [← HX.out, HP.out]
  refine HPs.out.mono ?_
  rintro e w1 ⟨pl, rfl, h1⟩
  have HR := Lib.hid (h1.from_ HFr.out)
  clear h1
  go_wp2_with fail
  go_ret
  exact ⟨pl, rfl, HR.out⟩
theorem ent_not (b : Nat) : Ent b 92 := fun W => by go_simp
theorem bs_and (w : World) : (Instr.buildSlice 57 1 #[(0, .int .i64 9)]).run Tryz.prog w = .ok (.slice (some ⟨w.heap.size, 0, none⟩) 1 1) (w.alloc (.cells #[.int .i64 9] 3)) := by go_simp

set_option maxRecDepth 100000 in
set_option maxHeartbeats 1500000 in
theorem and_rule {w0 : World} {b K : Nat} (F : Ex.P) (hF : RuleC w0 b 92 F K) (hw : WOk w0) (hB : BetwIs w0) : RuleC w0 b 64 (Ex.pairsF F [9]) K := by
  intro w v L er row d h hL hn hK hd
  obtain ⟨p, hp⟩ : ∃ p, w.heap.size = p := ⟨_, rfl⟩
  obtain ⟨X, hX⟩ : ∃ X, X = w.alloc (.cells #[.int .i64 9] 3) := ⟨_, rfl⟩
  have hbX : Below w.heap.size w X := by rw [hX]; exact (Below.refl _ _).alloc (Nat.le_refl _) _
  have hE : Blk X p 3 #[.int .i64 9] := by rw [hX, ← hp]; exact Blk.new w _ _
  have hk := h.rd.keep hbX
  have HPs := Lib.hid (pairs_any 92 F (ent_not b) hF [9] p 0 1 1 rfl (by omega) (by decide) hE.lt (by
      obtain ⟨⟨cs, h1, _⟩, _⟩ := h.rd
      have := h1.blk.lt
      omega) (fun e => by have := (h.own.lt p e.symm).2; omega) (fun j hj => by
      have hj2 : j < 1 := hj
      rw [Nat.zero_add]
      exact (Blk.cell hE j).trans (by
        match j, hj2 with
        | 0, _ => rfl)) (h.move hk) hw hB hL hn hK hd)
  have HFr := Lib.hid (show Fr b v v w X from .of_but hk.2)
  have HX := Lib.hid hX
  have HP := Lib.hid hp
  have HBs := Lib.hid (bs_and w)
  clear h hL hn hK hd hp hX hbX hE hk hF hw hB
  unfold ruleV at HPs
  go_enter Tryz.func64, Tryz.ntmps64
  go_wp2_with fail
  rw [← HX.out, HP.out]
  refine HPs.out.mono ?_
  rintro e w1 ⟨pl, rfl, h1⟩
  have HR := Lib.hid (h1.from_ HFr.out)
  clear h1
  go_wp2_with fail
  go_ret
  exact ⟨pl, rfl, HR.out⟩
theorem ent_mul (b : Nat) : Ent b 124 := fun W => by go_simp
theorem bs_add (w : World) : (Instr.buildSlice 57 2 #[(0, .int .i64 16), (1, .int .i64 17)]).run Tryz.prog w = .ok (.slice (some ⟨w.heap.size, 0, none⟩) 2 2) (w.alloc (.cells #[.int .i64 16, .int .i64 17] 3)) := by go_simp

set_option maxRecDepth 100000 in
set_option maxHeartbeats 1500000 in
theorem add_rule {w0 : World} {b K : Nat} (F : Ex.P) (hF : RuleC w0 b 124 F K) (hw : WOk w0) (hB : BetwIs w0) : RuleC w0 b 116 (Ex.pairsF F [16, 17]) K := by
  intro w v L er row d h hL hn hK hd
  obtain ⟨p, hp⟩ : ∃ p, w.heap.size = p := ⟨_, rfl⟩
  obtain ⟨X, hX⟩ : ∃ X, X = w.alloc (.cells #[.int .i64 16, .int .i64 17] 3) := ⟨_, rfl⟩
  have hbX : Below w.heap.size w X := by rw [hX]; exact (Below.refl _ _).alloc (Nat.le_refl _) _
  have hE : Blk X p 3 #[.int .i64 16, .int .i64 17] := by rw [hX, ← hp]; exact Blk.new w _ _
  have hk := h.rd.keep hbX
  have HPs := Lib.hid (pairs_any 124 F (ent_mul b) hF [16, 17] p 0 2 2 rfl (by omega) (by decide) hE.lt (by
      obtain ⟨⟨cs, h1, _⟩, _⟩ := h.rd
      have := h1.blk.lt
      omega) (fun e => by have := (h.own.lt p e.symm).2; omega) (fun j hj => by
      have hj2 : j < 2 := hj
      rw [Nat.zero_add]
      exact (Blk.cell hE j).trans (by
        match j, hj2 with
        | 0, _ => rfl
        | 1, _ => rfl)) (h.move hk) hw hB hL hn hK hd)
  have HFr := Lib.hid (show Fr b v v w X from .of_but hk.2)
  have HX := Lib.hid hX
  have HP := Lib.hid hp
  have HBs := Lib.hid (bs_add w)
  clear h hL hn hK hd hp hX hbX hE hk hF hw hB
  unfold ruleV at HPs
  go_enter Tryz.func116, Tryz.ntmps116
  go_wp2_with fail
  rw [← HX.out, HP.out]
  refine HPs.out.mono ?_
  rintro e w1 ⟨pl, rfl, h1⟩
  have HR := Lib.hid (h1.from_ HFr.out)
  clear h1
  go_wp2_with fail
  go_ret
  exact ⟨pl, rfl, HR.out⟩
theorem ent_prim (b : Nat) : Ent b 136 := fun W => by go_simp
theorem bs_mul (w : World) : (Instr.buildSlice 57 1 #[(0, .int .i64 18)]).run Tryz.prog w = .ok (.slice (some ⟨w.heap.size, 0, none⟩) 1 1) (w.alloc (.cells #[.int .i64 18] 3)) := by go_simp

set_option maxRecDepth 100000 in
set_option maxHeartbeats 1500000 in
theorem mul_rule {w0 : World} {b K : Nat} (F : Ex.P) (hF : RuleC w0 b 136 F K) (hw : WOk w0) (hB : BetwIs w0) : RuleC w0 b 124 (Ex.pairsF F [18]) K := by
  intro w v L er row d h hL hn hK hd
  obtain ⟨p, hp⟩ : ∃ p, w.heap.size = p := ⟨_, rfl⟩
  obtain ⟨X, hX⟩ : ∃ X, X = w.alloc (.cells #[.int .i64 18] 3) := ⟨_, rfl⟩
  have hbX : Below w.heap.size w X := by rw [hX]; exact (Below.refl _ _).alloc (Nat.le_refl _) _
  have hE : Blk X p 3 #[.int .i64 18] := by rw [hX, ← hp]; exact Blk.new w _ _
  have hk := h.rd.keep hbX
  have HPs := Lib.hid (pairs_any 136 F (ent_prim b) hF [18] p 0 1 1 rfl (by omega) (by decide) hE.lt (by
      obtain ⟨⟨cs, h1, _⟩, _⟩ := h.rd
      have := h1.blk.lt
      omega) (fun e => by have := (h.own.lt p e.symm).2; omega) (fun j hj => by
      have hj2 : j < 1 := hj
      rw [Nat.zero_add]
      exact (Blk.cell hE j).trans (by
        match j, hj2 with
        | 0, _ => rfl)) (h.move hk) hw hB hL hn hK hd)
  have HFr := Lib.hid (show Fr b v v w X from .of_but hk.2)
  have HX := Lib.hid hX
  have HP := Lib.hid hp
  have HBs := Lib.hid (bs_mul w)
  clear h hL hn hK hd hp hX hbX hE hk hF hw hB
  unfold ruleV at HPs
  go_enter Tryz.func124, Tryz.ntmps124
  go_wp2_with fail
  rw [← HX.out, HP.out]
  refine HPs.out.mono ?_
  rintro e w1 ⟨pl, rfl, h1⟩
  have HR := Lib.hid (h1.from_ HFr.out)
  clear h1
  go_wp2_with fail
  go_ret
  exact ⟨pl, rfl, HR.out⟩

end Go.Proofs.YtdabanocofimmaaGreatDoor
