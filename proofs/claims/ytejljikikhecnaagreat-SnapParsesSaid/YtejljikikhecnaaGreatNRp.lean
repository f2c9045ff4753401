/-
  hedgerowref06.Put: an event's bytes, laid behind none: the contract, by a walk. Conditions: lengths.
-/
import Derived.Test.YtejljikikhecnaaGreatNRb
import Derived.Test.YtejljikikhecnaaGreatNRn
import Derived.Test.YtejljikikhecnaaGreatNLa
import Derived.Test.YtejljikikhecnaaGreatAfter
import Derived.Deep.DeepCutAuto
namespace Go.Proofs.YtejljikikhecnaaGreat
open Go.RowKit

/-- What a slot holds: just this; a slice that reads so. -/
def pOf6 (k : Option Value × Option (List UInt8)) (v : Value) (w : World) : Prop :=
  match k with
  | (some x, _) => v = x
  | (none, some l) => Sl bv w v l
  | (none, none) => True
theorem pOf6_stable (T : List (Option Value × Option (List UInt8))) (i : Nat) (v : Value) (w w' : World) (hb : Below w.heap.size w w') (h : pOf6 (T.getD i (none, none)) v w) : pOf6 (T.getD i (none, none)) v w' := by
  generalize T.getD i (none, none) = k at *
  obtain ⟨x, y⟩ := k
  cases x with
  | some x => exact h
  | none =>
    cases y with
    | some l => exact Sl.below h hb
    | none => trivial
theorem at_dot1 (g : Nat) (w : World) : (Instr.fieldAt 43 (.pointer (some ⟨g, 0, none⟩)) 1).run Tryz.prog w = .ok (.pointer (some ⟨g, 1, none⟩)) w := by go_simp
theorem at_el0 (g : Nat) (w : World) : (Instr.fieldAt 45 (.pointer (some ⟨g, 19, none⟩)) 0).run Tryz.prog w = .ok (.pointer (some ⟨g, 19, none⟩)) w := by go_simp
theorem at_val0 (g : Nat) (w : World) : (Instr.fieldAt 47 (.pointer (some ⟨g, 24, none⟩)) 0).run Tryz.prog w = .ok (.pointer (some ⟨g, 24, none⟩)) w := by go_simp
theorem at_val1 (g : Nat) (w : World) : (Instr.fieldAt 47 (.pointer (some ⟨g, 24, none⟩)) 1).run Tryz.prog w = .ok (.pointer (some ⟨g, 25, none⟩)) w := by go_simp
theorem at_val2 (g : Nat) (w : World) : (Instr.fieldAt 47 (.pointer (some ⟨g, 24, none⟩)) 2).run Tryz.prog w = .ok (.pointer (some ⟨g, 26, none⟩)) w := by go_simp
theorem at_ev0p (g : Nat) (w : World) : (Instr.fieldAt 49 (.pointer (some ⟨g, 0, none⟩)) 0).run Tryz.prog w = .ok (.pointer (some ⟨g, 0, none⟩)) w := by go_simp

def bT (e : Ev) : Nat → List UInt8
  | 0 => b5 e
  | 1 => b6 e
  | 2 => b7 e
  | 3 => b8 e
  | _ => b9 e

set_option maxRecDepth 100000 in
set_option maxHeartbeats 2000000 in
theorem refput6_any (e : Ev) (w : World) (hl : Lens e) : Calls Tryz.prog 44 #[.slice none 0 0, evV e] w (Reads w (bytesE e)) := by
  obtain ⟨m1, m2, m3, m4, m5, m6, m7, m8, m9, m10, m11⟩ := b_len e hl
  obtain ⟨l1, l2, l3, l4, l5⟩ := hl
  have L0 := Lib.hid (show ([] : List UInt8).length ≤ 140737488350000 by simp)
  have L1 := Lib.hid (show (b1 e).length ≤ 140737488350000 by omega)
  have L2 := Lib.hid (fun k (hk : k ≤ 16) => show (b3 e k).length ≤ 140737488350000 by have := m3 k; omega)
  have L4 := Lib.hid (show (b4 e).length ≤ 140737488350000 by omega)
  have L5 := Lib.hid (show (b5 e).length + e.a.size ≤ 140737488350000 by omega)
  have L6 := Lib.hid (show (b6 e).length + e.b.size ≤ 140737488350000 by omega)
  have L7 := Lib.hid (show (b7 e).length + e.cc.size ≤ 140737488350000 by omega)
  have L8 := Lib.hid (show (b8 e).length + e.d.size ≤ 140737488350000 by omega)
  have L9 := Lib.hid (show (b9 e).length ≤ 140737488350000 by omega)
  have L10 := Lib.hid (show (b10 e).length ≤ 140737488350000 by omega)
  have L11 := Lib.hid (show (b11 e).length + e.t.size ≤ 140737488350000 by omega)
  clear m1 m2 m3 m4 m5 m6 m7 m8 m9 m10 m11 l1 l2 l3 l4 l5
  have hk : EB (w.alloc (.cells (evC e) 49)) w.heap.size e := EB.new_ w e
  have hy : Below w.heap.size w (w.alloc (.cells (evC e) 49)) := (Below.refl _ _).alloc (Nat.le_refl _) _
  obtain ⟨X, hX⟩ : ∃ X, X = w.alloc (.cells (evC e) 49) := ⟨_, rfl⟩
  rw [← hX] at hk hy
  have HX := Lib.hid hX
  have K0 := Lib.hid hk
  have Y0 := Lib.hid hy
  clear hX hk hy
  unfold evV
  go_enter Tryz.func44, Tryz.ntmps44
  go_upto_region 1 with fail
  rw [← HX.out]
  go_cut [0] (fun x wx => Sl bv wx x (b2 e) ∧ Below X.heap.size X wx)
  case first =>
    refine wp_region_any (by kernel_rfl) ?_
    refine Lt.wpAny_late (fun i => pOf6 (([(some (.slice none 0 0), none), (some (.pointer (some ⟨w.heap.size, 0, none⟩)), none), (some (.pointer (some ⟨w.heap.size, 0, none⟩)), none), (some (.int .i64 e.r), none), (none, some (b1 e)), (some (.pointer (some ⟨w.heap.size, 0, none⟩)), none), (some (.pointer (some ⟨w.heap.size, 1, none⟩)), none), (some (.int .i64 e.c), none), (none, some (b2 e)), (none, some (b2 e))] : List (Option Value × Option (List UInt8))).getD i (none, none))) _ X (by kernel_rfl) (by kernel_rfl) (by kernel_rfl) (fun i v w w' => pOf6_stable _ i v w w') ?_ ?_
    · refine ⟨?_, ?_, ?_, ?_, ?_, ?_, ?_, ?_, ?_, ?_, trivial⟩
      · intro a W hI hun haft hi
        have e0 : a.eval (.tmp 0) = .slice none 0 0 := hun 0 (by kernel_rfl)
        exact b_same hi hI rfl _ (run_move_op rfl e0) rfl
      · intro a W hI hun haft hi
        have e3 : a.eval (.tmp 3) = .pointer (some ⟨w.heap.size, 0, none⟩) := hun 3 (by kernel_rfl)
        exact b_same hi hI rfl _ (run_fieldAddr_op rfl e3 (at_ev0p _ _)) rfl
      · intro a W hI hun haft hi
        have f1 : a.eval (.tmp 10) = .pointer (some ⟨w.heap.size, 0, none⟩) := haft ⟨1, .data⟩ (by simp) rfl _ _ rfl rfl
        exact b_same hi hI rfl _ (run_fieldAddr_op rfl f1 (at_dot0 _ _)) rfl
      · intro a W hI hun haft hi
        have f2 : a.eval (.tmp 11) = .pointer (some ⟨w.heap.size, 0, none⟩) := haft ⟨2, .data⟩ (by simp) rfl _ _ rfl rfl
        exact b_same hi hI rfl _ (run_loadint_op rfl f2 Tryz.underlying3 ((Blk.cell (EB.keep K0.out hI) 0).trans rfl)) rfl
      · intro a W hI hun haft hi
        have f0 : a.eval (.tmp 9) = .slice none 0 0 := haft ⟨0, .data⟩ (by simp) rfl _ _ rfl rfl
        have f3 : a.eval (.tmp 12) = .int .i64 e.r := haft ⟨3, .data⟩ (by simp) rfl _ _ rfl rfl
        refine b_call hi hI rfl _ _ (run_call_op (args := #[a.eval (.tmp 9), a.eval (.tmp 12)]) rfl (by simp) (by kernel_rfl)) ?_
        rw [f0, f3]
        exact (refput_any _ _ (e.r) W (Sl.below (Sl.nil_ bv X) hI) (L0.out)).mono fun e' w' H => by
          obtain ⟨v', he, ho, hb⟩ := H
          exact ⟨v', he, ho, hb⟩
      · intro a W hI hun haft hi
        have e3 : a.eval (.tmp 3) = .pointer (some ⟨w.heap.size, 0, none⟩) := hun 3 (by kernel_rfl)
        exact b_same hi hI rfl _ (run_fieldAddr_op rfl e3 (at_ev0p _ _)) rfl
      · intro a W hI hun haft hi
        have f5 : a.eval (.tmp 14) = .pointer (some ⟨w.heap.size, 0, none⟩) := haft ⟨5, .data⟩ (by simp) rfl _ _ rfl rfl
        exact b_same hi hI rfl _ (run_fieldAddr_op rfl f5 (at_dot1 _ _)) rfl
      · intro a W hI hun haft hi
        have f6 : a.eval (.tmp 15) = .pointer (some ⟨w.heap.size, 1, none⟩) := haft ⟨6, .data⟩ (by simp) rfl _ _ rfl rfl
        exact b_same hi hI rfl _ (run_loadint_op rfl f6 Tryz.underlying3 ((Blk.cell (EB.keep K0.out hI) 1).trans rfl)) rfl
      · intro a W hI hun haft hi
        have f4 : Sl bv W (a.eval (.tmp 13)) (b1 e) := haft ⟨4, .data⟩ (by simp) rfl _ _ rfl rfl
        have f7 : a.eval (.tmp 16) = .int .i64 e.c := haft ⟨7, .data⟩ (by simp) rfl _ _ rfl rfl
        refine b_call hi hI rfl _ _ (run_call_op (args := #[a.eval (.tmp 13), a.eval (.tmp 16)]) rfl (by simp) (by kernel_rfl)) ?_
        rw [f7]
        exact (refput_any _ _ (e.c) W f4 (L1.out)).mono fun e' w' H => by
          obtain ⟨v', he, ho, hb⟩ := H
          exact ⟨v', he, ho, hb⟩
      · intro a W hI hun haft hi
        have f8 : Sl bv W (a.eval (.tmp 17)) (b2 e) := haft ⟨8, .data⟩ (by simp) rfl _ _ rfl rfl
        exact b_same hi hI rfl _ (run_assign_op rfl rfl) f8
    · intro vals W hI hp
      have hl : Sl bv W (vals 9) (b2 e) := hp 9 (by decide)
      have HL := Lib.hid hl
      have HI := Lib.hid hI
      clear hp hl hI
      simp only [layN, List.size_toArray, List.length_cons, List.length_nil, List.range, List.range.loop, if_true, List.getElem?_toArray, List.getElem?_cons_zero, List.getElem?_cons_succ, Act.put, List.setIfInBounds_toArray, List.set_cons_zero, List.set_cons_succ, Nat.zero_add, Nat.reduceAdd]
      go_wp2_with fail
      go_meet
      exact ⟨HL.out, HI.out⟩
  case rest =>
    obtain ⟨hs1, hb1⟩ := hcut
    have K1 := Lib.hid (EB.keep K0.out hb1)
    have Y1 := Lib.hid (Y0.out.trans (hb1.mono Y0.out.size))
    have hb20 : b2 e = b3 e 0 := by simp [b3, pastB]
    rw [hb20] at hs1
    have S1 := Lib.hid hs1
    clear hb20 hs1 hb1 K0 Y0
    go_wp2_with (refine wpList_load_midif rfl 23 (.tmp 18) rfl w.heap.size 2 rfl _ _ K1.out.past Tryz.underlying23 rfl (by kernel_rfl) ?_)
    go_loopw [0, 6, 20] (fun l _ i W => ∃ k : Nat, k ≤ 16 ∧ i = .int .i64 k ∧ Sl bv W l (b3 e k) ∧ EB W w.heap.size e ∧ Below w.heap.size w W) (fun _ _ i _ => 16 - (intOf i).toNat)
    case atStart => exact ⟨0, by omega, rfl, S1.out, K1.out, Y1.out⟩
    case round =>
      clear S1 K1 Y1
      obtain ⟨k, hk, hi, hs, k2, y2⟩ := hrel
      obtain ⟨A2, c2, rfl⟩ := hs.form
      have S2 := Lib.hid hs
      have K2 := Lib.hid k2
      have Y2 := Lib.hid y2
      clear hs k2 y2
      by_cases hlt : k < 16
      · subst hi
        have hix := index_V e.p k hlt wr
        have hsu : b3 e (k + 1) = b3 e k ++ putB (e.p k) := by unfold b3; rw [pastB_succ, List.append_assoc]
        have HS := Lib.hid hsu
        clear hsu
        go_wp2_with fail
        clear hix
        refine (refput_any _ (b3 e k) (e.p k) _ S2.out (L2.out k hk)).mono ?_
        rintro e' w3 ⟨v3, rfl, ho3, hb3⟩
        rw [← HS.out] at ho3
        have O3 := Lib.hid ho3
        have K3 := Lib.hid (EB.keep K2.out hb3)
        have Y3 := Lib.hid (Y2.out.trans (hb3.mono Y2.out.size))
        clear ho3 hb3
        go_wp2
        go_roundw
        case rel => exact ⟨k + 1, by omega, by go_num, O3.out, K3.out, Y3.out⟩
        case measure => simp [intOf]; omega
      · have hkk : k = 16 := by omega
        subst hkk
        have hi' : _ = Value.int .i64 16 := hi
        subst hi'
        clear hi
        go_upto_region 7 with fail
        go_cut [0] (fun x wx => Sl bv wx x (b5 e) ∧ Below wr.heap.size wr wx)
        case first =>
          refine wp_region_any (by kernel_rfl) ?_
          refine Lt.wpAny_late (fun i => pOf6 (([(some (.slice A2 (b3 e 16).length c2), none), (some (.pointer (some ⟨w.heap.size, 18, none⟩)), none), (some (.int .i64 e.op), none), (none, some (b4 e)), (some (.pointer (some ⟨w.heap.size, 19, none⟩)), none), (some (.pointer (some ⟨w.heap.size, 19, none⟩)), none), (some (.int .i64 e.ek), none), (none, some (b5 e)), (none, some (b5 e))] : List (Option Value × Option (List UInt8))).getD i (none, none))) _ wr (by kernel_rfl) (by kernel_rfl) (by kernel_rfl) (fun i v w w' => pOf6_stable _ i v w w') ?_ ?_
          · refine ⟨?_, ?_, ?_, ?_, ?_, ?_, ?_, ?_, ?_, trivial⟩
            · intro a W hI hun haft hi
              have e0 : a.eval (.tmp 0) = .slice A2 (b3 e 16).length c2 := hun 0 (by kernel_rfl)
              exact b_same hi hI rfl _ (run_move_op rfl e0) rfl
            · intro a W hI hun haft hi
              have e3 : a.eval (.tmp 3) = .pointer (some ⟨w.heap.size, 0, none⟩) := hun 3 (by kernel_rfl)
              exact b_same hi hI rfl _ (run_fieldAddr_op rfl e3 (at_ev2 _ _)) rfl
            · intro a W hI hun haft hi
              have f1 : a.eval (.tmp 28) = .pointer (some ⟨w.heap.size, 18, none⟩) := haft ⟨1, .data⟩ (by simp) rfl _ _ rfl rfl
              exact b_same hi hI rfl _ (run_loadint_op rfl f1 Tryz.underlying3 ((Blk.cell (EB.keep K2.out hI) 18).trans rfl)) rfl
            · intro a W hI hun haft hi
              have f0 : a.eval (.tmp 27) = .slice A2 (b3 e 16).length c2 := haft ⟨0, .data⟩ (by simp) rfl _ _ rfl rfl
              have f2 : a.eval (.tmp 29) = .int .i64 e.op := haft ⟨2, .data⟩ (by simp) rfl _ _ rfl rfl
              refine b_call hi hI rfl _ _ (run_call_op (args := #[a.eval (.tmp 27), a.eval (.tmp 29)]) rfl (by simp) (by kernel_rfl)) ?_
              rw [f0, f2]
              exact (refput_any _ _ (e.op) W (Sl.below (S2.out) hI) (L2.out 16 (Nat.le_refl _))).mono fun e' w' H => by
                obtain ⟨v', he, ho, hb⟩ := H
                exact ⟨v', he, ho, hb⟩
            · intro a W hI hun haft hi
              have e3 : a.eval (.tmp 3) = .pointer (some ⟨w.heap.size, 0, none⟩) := hun 3 (by kernel_rfl)
              exact b_same hi hI rfl _ (run_fieldAddr_op rfl e3 (at_ev3 _ _)) rfl
            · intro a W hI hun haft hi
              have f4 : a.eval (.tmp 31) = .pointer (some ⟨w.heap.size, 19, none⟩) := haft ⟨4, .data⟩ (by simp) rfl _ _ rfl rfl
              exact b_same hi hI rfl _ (run_fieldAddr_op rfl f4 (at_el0 _ _)) rfl
            · intro a W hI hun haft hi
              have f5 : a.eval (.tmp 32) = .pointer (some ⟨w.heap.size, 19, none⟩) := haft ⟨5, .data⟩ (by simp) rfl _ _ rfl rfl
              exact b_same hi hI rfl _ (run_loadint_op rfl f5 Tryz.underlying3 ((Blk.cell (EB.keep K2.out hI) 19).trans rfl)) rfl
            · intro a W hI hun haft hi
              have f3 : Sl bv W (a.eval (.tmp 30)) (b4 e) := haft ⟨3, .data⟩ (by simp) rfl _ _ rfl rfl
              have f6 : a.eval (.tmp 33) = .int .i64 e.ek := haft ⟨6, .data⟩ (by simp) rfl _ _ rfl rfl
              refine b_call hi hI rfl _ _ (run_call_op (args := #[a.eval (.tmp 30), a.eval (.tmp 33)]) rfl (by simp) (by kernel_rfl)) ?_
              rw [f6]
              exact (refput_any _ _ (e.ek) W f3 (L4.out)).mono fun e' w' H => by
                obtain ⟨v', he, ho, hb⟩ := H
                exact ⟨v', he, ho, hb⟩
            · intro a W hI hun haft hi
              have f7 : Sl bv W (a.eval (.tmp 34)) (b5 e) := haft ⟨7, .data⟩ (by simp) rfl _ _ rfl rfl
              exact b_same hi hI rfl _ (run_assign_op rfl rfl) f7
          · intro vals W hI hp
            have hl : Sl bv W (vals 8) (b5 e) := hp 8 (by decide)
            have HL := Lib.hid hl
            have HI := Lib.hid hI
            clear hp hl hI
            simp only [layN, List.size_toArray, List.length_cons, List.length_nil, List.range, List.range.loop, if_true, List.getElem?_toArray, List.getElem?_cons_zero, List.getElem?_cons_succ, Act.put, List.setIfInBounds_toArray, List.set_cons_zero, List.set_cons_succ, Nat.zero_add, Nat.reduceAdd]
            go_wp2_with fail
            go_meet
            exact ⟨HL.out, HI.out⟩
        case rest =>
          obtain ⟨hs5, hb5⟩ := hcut
          have K5 := Lib.hid (EB.keep K2.out hb5)
          have Y5 := Lib.hid (Y2.out.trans (hb5.mono Y2.out.size))
          have S5 := Lib.hid hs5
          obtain ⟨A5, c5, rfl⟩ := S5.out.form
          clear hs5 hb5 K2 Y2 S2
          have h20 := (show _ = some (.string e.a) from (Blk.cell K5.out 20).trans rfl)
          have h21 := (show _ = some (.string e.b) from (Blk.cell K5.out 21).trans rfl)
          have h22 := (show _ = some (.string e.cc) from (Blk.cell K5.out 22).trans rfl)
          have h23 := (show _ = some (.string e.d) from (Blk.cell K5.out 23).trans rfl)
          go_wp2_with fail
          clear h20 h21 h22 h23
          have hG : Blk (wc.alloc (.cells #[.string e.a, .string e.b, .string e.cc, .string e.d] 9)) wc.heap.size 9 #[.string e.a, .string e.b, .string e.cc, .string e.d] := Blk.new _ _ _
          have hbn : Below wc.heap.size wc (wc.alloc (.cells #[.string e.a, .string e.b, .string e.cc, .string e.d] 9)) := (Below.refl _ _).alloc (Nat.le_refl _) _
          have G6 := Lib.hid hG
          have K6 := Lib.hid (EB.keep K5.out hbn)
          have Y6 := Lib.hid (Y5.out.trans (hbn.mono Y5.out.size))
          have S6 := Lib.hid (Sl.below S5.out hbn)
          clear hG hbn K5 Y5 S5
          go_loopw [0, 8, 49] (fun l _ i W => ∃ k : Nat, k ≤ 4 ∧ i = .int .i64 k ∧ Sl bv W l (bT e k) ∧ EB W w.heap.size e ∧ Blk W wc.heap.size 9 #[.string e.a, .string e.b, .string e.cc, .string e.d] ∧ Below w.heap.size w W) (fun _ _ i _ => 4 - (intOf i).toNat)
          case atStart => exact ⟨0, by omega, rfl, S6.out, K6.out, G6.out, Y6.out⟩
          case round =>
            clear S6 K6 G6 Y6
            obtain ⟨k, hk, hi, hs, k2, g2, y2⟩ := hrel
            have K7 := Lib.hid k2
            have Y7 := Lib.hid y2
            have G7 := Lib.hid g2
            clear k2 y2 g2
            have hk5 : k = 0 ∨ k = 1 ∨ k = 2 ∨ k = 3 ∨ k = 4 := by omega
            clear hk
            rcases hk5 with rfl | rfl | rfl | rfl | rfl
            · have hi' : _ = Value.int .i64 0 := hi
              subst hi'
              clear hi
              have hs' : Sl bv _ _ (b5 e) := hs
              clear hs
              obtain ⟨A7, c7, rfl⟩ := hs'.form
              have S7 := Lib.hid hs'
              clear hs'
              have hc := (show _ = some (.string e.a) from (Blk.cell G7.out 0).trans rfl)
              go_wp2_with fail
              clear hc
              refine (reftext_any _ (b5 e) e.a _ S7.out L5.out).mono ?_
              rintro e' w8 ⟨v8, rfl, ho8, hb8⟩
              have O8 : Hid (Sl bv w8 v8 (b6 e)) := Lib.hid ho8
              have K8 := Lib.hid (EB.keep K7.out hb8)
              have G8 := Lib.hid (Blk.below G7.out hb8 (Blk.lt G7.out))
              have Y8 := Lib.hid (Y7.out.trans (hb8.mono Y7.out.size))
              clear ho8 hb8
              go_wp2
              go_roundw
              case rel => exact ⟨1, by omega, rfl, O8.out, K8.out, G8.out, Y8.out⟩
              case measure => simp [intOf]
            · have hi' : _ = Value.int .i64 1 := hi
              subst hi'
              clear hi
              have hs' : Sl bv _ _ (b6 e) := hs
              clear hs
              obtain ⟨A7, c7, rfl⟩ := hs'.form
              have S7 := Lib.hid hs'
              clear hs'
              have hc := (show _ = some (.string e.b) from (Blk.cell G7.out 1).trans rfl)
              go_wp2_with fail
              clear hc
              refine (reftext_any _ (b6 e) e.b _ S7.out L6.out).mono ?_
              rintro e' w8 ⟨v8, rfl, ho8, hb8⟩
              have O8 : Hid (Sl bv w8 v8 (b7 e)) := Lib.hid ho8
              have K8 := Lib.hid (EB.keep K7.out hb8)
              have G8 := Lib.hid (Blk.below G7.out hb8 (Blk.lt G7.out))
              have Y8 := Lib.hid (Y7.out.trans (hb8.mono Y7.out.size))
              clear ho8 hb8
              go_wp2
              go_roundw
              case rel => exact ⟨2, by omega, rfl, O8.out, K8.out, G8.out, Y8.out⟩
              case measure => simp [intOf]
            · have hi' : _ = Value.int .i64 2 := hi
              subst hi'
              clear hi
              have hs' : Sl bv _ _ (b7 e) := hs
              clear hs
              obtain ⟨A7, c7, rfl⟩ := hs'.form
              have S7 := Lib.hid hs'
              clear hs'
              have hc := (show _ = some (.string e.cc) from (Blk.cell G7.out 2).trans rfl)
              go_wp2_with fail
              clear hc
              refine (reftext_any _ (b7 e) e.cc _ S7.out L7.out).mono ?_
              rintro e' w8 ⟨v8, rfl, ho8, hb8⟩
              have O8 : Hid (Sl bv w8 v8 (b8 e)) := Lib.hid ho8
              have K8 := Lib.hid (EB.keep K7.out hb8)
              have G8 := Lib.hid (Blk.below G7.out hb8 (Blk.lt G7.out))
              have Y8 := Lib.hid (Y7.out.trans (hb8.mono Y7.out.size))
              clear ho8 hb8
              go_wp2
              go_roundw
              case rel => exact ⟨3, by omega, rfl, O8.out, K8.out, G8.out, Y8.out⟩
              case measure => simp [intOf]
            · have hi' : _ = Value.int .i64 3 := hi
              subst hi'
              clear hi
              have hs' : Sl bv _ _ (b8 e) := hs
              clear hs
              obtain ⟨A7, c7, rfl⟩ := hs'.form
              have S7 := Lib.hid hs'
              clear hs'
              have hc := (show _ = some (.string e.d) from (Blk.cell G7.out 3).trans rfl)
              go_wp2_with fail
              clear hc
              refine (reftext_any _ (b8 e) e.d _ S7.out L8.out).mono ?_
              rintro e' w8 ⟨v8, rfl, ho8, hb8⟩
              have O8 : Hid (Sl bv w8 v8 (b9 e)) := Lib.hid ho8
              have K8 := Lib.hid (EB.keep K7.out hb8)
              have G8 := Lib.hid (Blk.below G7.out hb8 (Blk.lt G7.out))
              have Y8 := Lib.hid (Y7.out.trans (hb8.mono Y7.out.size))
              clear ho8 hb8
              go_wp2
              go_roundw
              case rel => exact ⟨4, by omega, rfl, O8.out, K8.out, G8.out, Y8.out⟩
              case measure => simp [intOf]
            · have hi' : _ = Value.int .i64 4 := hi
              subst hi'
              clear hi
              have hs' : Sl bv _ _ (b9 e) := hs
              clear hs
              obtain ⟨A7, c7, rfl⟩ := hs'.form
              have S7 := Lib.hid hs'
              clear hs' G7
              go_upto_region 13 with fail
              go_cut [4] (fun x W => Sl bv W x (bytesE e) ∧ Below wr.heap.size wr W)
              case first =>
                refine wp_region_any (by kernel_rfl) ?_
                refine Lt.wpAny_late (fun i => pOf6 (([(some (.slice A7 (b9 e).length c7), none), (some (.pointer (some ⟨w.heap.size, 24, none⟩)), none), (some (.pointer (some ⟨w.heap.size, 24, none⟩)), none), (some (.int .i64 e.vk), none), (none, some (b10 e)), (some (.pointer (some ⟨w.heap.size, 24, none⟩)), none), (some (.pointer (some ⟨w.heap.size, 25, none⟩)), none), (some (.int .i64 e.vn), none), (none, some (b11 e)), (some (.pointer (some ⟨w.heap.size, 24, none⟩)), none), (some (.pointer (some ⟨w.heap.size, 26, none⟩)), none), (some (.string e.t), none), (none, some (bytesE e)), (none, some (bytesE e))] : List (Option Value × Option (List UInt8))).getD i (none, none))) _ wr (by kernel_rfl) (by kernel_rfl) (by kernel_rfl) (fun i v w w' => pOf6_stable _ i v w w') ?_ ?_
                · refine ⟨?_, ?_, ?_, ?_, ?_, ?_, ?_, ?_, ?_, ?_, ?_, ?_, ?_, ?_, trivial⟩
                  · intro a W hI hun haft hi
                    have e0 : a.eval (.tmp 0) = .slice A7 (b9 e).length c7 := hun 0 (by kernel_rfl)
                    exact b_same hi hI rfl _ (run_move_op rfl e0) rfl
                  · intro a W hI hun haft hi
                    have e3 : a.eval (.tmp 3) = .pointer (some ⟨w.heap.size, 0, none⟩) := hun 3 (by kernel_rfl)
                    exact b_same hi hI rfl _ (run_fieldAddr_op rfl e3 (at_ev4 _ _)) rfl
                  · intro a W hI hun haft hi
                    have f1 : a.eval (.tmp 58) = .pointer (some ⟨w.heap.size, 24, none⟩) := haft ⟨1, .data⟩ (by simp) rfl _ _ rfl rfl
                    exact b_same hi hI rfl _ (run_fieldAddr_op rfl f1 (at_val0 _ _)) rfl
                  · intro a W hI hun haft hi
                    have f2 : a.eval (.tmp 59) = .pointer (some ⟨w.heap.size, 24, none⟩) := haft ⟨2, .data⟩ (by simp) rfl _ _ rfl rfl
                    exact b_same hi hI rfl _ (run_loadint_op rfl f2 Tryz.underlying3 ((Blk.cell (EB.keep K7.out hI) 24).trans rfl)) rfl
                  · intro a W hI hun haft hi
                    have f0 : a.eval (.tmp 57) = .slice A7 (b9 e).length c7 := haft ⟨0, .data⟩ (by simp) rfl _ _ rfl rfl
                    have f3 : a.eval (.tmp 60) = .int .i64 e.vk := haft ⟨3, .data⟩ (by simp) rfl _ _ rfl rfl
                    refine b_call hi hI rfl _ _ (run_call_op (args := #[a.eval (.tmp 57), a.eval (.tmp 60)]) rfl (by simp) (by kernel_rfl)) ?_
                    rw [f0, f3]
                    exact (refput_any _ _ (e.vk) W (Sl.below (S7.out) hI) (L9.out)).mono fun e' w' H => by
                      obtain ⟨v', he, ho, hb⟩ := H
                      exact ⟨v', he, ho, hb⟩
                  · intro a W hI hun haft hi
                    have e3 : a.eval (.tmp 3) = .pointer (some ⟨w.heap.size, 0, none⟩) := hun 3 (by kernel_rfl)
                    exact b_same hi hI rfl _ (run_fieldAddr_op rfl e3 (at_ev4 _ _)) rfl
                  · intro a W hI hun haft hi
                    have f5 : a.eval (.tmp 62) = .pointer (some ⟨w.heap.size, 24, none⟩) := haft ⟨5, .data⟩ (by simp) rfl _ _ rfl rfl
                    exact b_same hi hI rfl _ (run_fieldAddr_op rfl f5 (at_val1 _ _)) rfl
                  · intro a W hI hun haft hi
                    have f6 : a.eval (.tmp 63) = .pointer (some ⟨w.heap.size, 25, none⟩) := haft ⟨6, .data⟩ (by simp) rfl _ _ rfl rfl
                    exact b_same hi hI rfl _ (run_loadint_op rfl f6 Tryz.underlying3 ((Blk.cell (EB.keep K7.out hI) 25).trans rfl)) rfl
                  · intro a W hI hun haft hi
                    have f4 : Sl bv W (a.eval (.tmp 61)) (b10 e) := haft ⟨4, .data⟩ (by simp) rfl _ _ rfl rfl
                    have f7 : a.eval (.tmp 64) = .int .i64 e.vn := haft ⟨7, .data⟩ (by simp) rfl _ _ rfl rfl
                    refine b_call hi hI rfl _ _ (run_call_op (args := #[a.eval (.tmp 61), a.eval (.tmp 64)]) rfl (by simp) (by kernel_rfl)) ?_
                    rw [f7]
                    exact (refsig_any _ _ (e.vn) W f4 (L10.out)).mono fun e' w' H => by
                      obtain ⟨v', he, ho, hb⟩ := H
                      exact ⟨v', he, ho, hb⟩
                  · intro a W hI hun haft hi
                    have e3 : a.eval (.tmp 3) = .pointer (some ⟨w.heap.size, 0, none⟩) := hun 3 (by kernel_rfl)
                    exact b_same hi hI rfl _ (run_fieldAddr_op rfl e3 (at_ev4 _ _)) rfl
                  · intro a W hI hun haft hi
                    have f9 : a.eval (.tmp 66) = .pointer (some ⟨w.heap.size, 24, none⟩) := haft ⟨9, .data⟩ (by simp) rfl _ _ rfl rfl
                    exact b_same hi hI rfl _ (run_fieldAddr_op rfl f9 (at_val2 _ _)) rfl
                  · intro a W hI hun haft hi
                    have f10 : a.eval (.tmp 67) = .pointer (some ⟨w.heap.size, 26, none⟩) := haft ⟨10, .data⟩ (by simp) rfl _ _ rfl rfl
                    exact b_same hi hI rfl _ (run_loadstr_op rfl f10 Tryz.underlying9 ((Blk.cell (EB.keep K7.out hI) 26).trans rfl)) rfl
                  · intro a W hI hun haft hi
                    have f8 : Sl bv W (a.eval (.tmp 65)) (b11 e) := haft ⟨8, .data⟩ (by simp) rfl _ _ rfl rfl
                    have f11 : a.eval (.tmp 68) = .string e.t := haft ⟨11, .data⟩ (by simp) rfl _ _ rfl rfl
                    refine b_call hi hI rfl _ _ (run_call_op (args := #[a.eval (.tmp 65), a.eval (.tmp 68)]) rfl (by simp) (by kernel_rfl)) ?_
                    rw [f11]
                    exact (reftext_any _ _ (e.t) W f8 (L11.out)).mono fun e' w' H => by
                      obtain ⟨v', he, ho, hb⟩ := H
                      exact ⟨v', he, ho, hb⟩
                  · intro a W hI hun haft hi
                    have f12 : Sl bv W (a.eval (.tmp 69)) (bytesE e) := haft ⟨12, .data⟩ (by simp) rfl _ _ rfl rfl
                    exact b_same hi hI rfl _ (run_assign_op rfl rfl) f12
                · intro vals W hI hp
                  have hl : Sl bv W (vals 13) (bytesE e) := hp 13 (by decide)
                  have HL := Lib.hid hl
                  have HI := Lib.hid hI
                  clear hp hl hI
                  simp only [layN, List.size_toArray, List.length_cons, List.length_nil, List.range, List.range.loop, if_true, List.getElem?_toArray, List.getElem?_cons_zero, List.getElem?_cons_succ, Act.put, List.setIfInBounds_toArray, List.set_cons_zero, List.set_cons_succ, Nat.zero_add, Nat.reduceAdd]
                  go_wp2_with fail
                  go_meet
                  exact ⟨HL.out, HI.out⟩
              case rest =>
                obtain ⟨hsE, hbE⟩ := hcut
                have YE := Lib.hid (Y7.out.trans (hbE.mono Y7.out.size))
                have SE := Lib.hid hsE
                clear hsE hbE
                go_wp2
                go_ret
                exact ⟨_, rfl, SE.out, YE.out⟩

end Go.Proofs.YtejljikikhecnaaGreat
