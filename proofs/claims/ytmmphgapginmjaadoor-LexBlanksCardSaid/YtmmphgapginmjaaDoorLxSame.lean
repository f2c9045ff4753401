/-
  hedgerowlaw18.same of like tokens: the contract, by a walk (written by genlx.py). Conditions: lengths.
-/
import Derived.Test.YtmmphgapginmjaaDoorLxFix
namespace Go.Proofs.YtmmphgapginmjaaDoor
open Go.RowKit

theorem run_loadmidT_op {P : Program} {o : Oper} {ρ : Operand → Value} {w : World} {ty : TypeId} {x : Operand} {b q : Nat} {cs : List Value} {d : TypeDesc} (ho : o.op = .load ty x) (hx : ρ x = .pointer (some ⟨b, q, none⟩)) (hc : w.rangeAt b q cs)
    (hu : P.underlying ty = some d) (hd : d.isRow = true) (hi : (P.info? ty).map (·.size) = some cs.length) : (execOp ρ o).run P w = .ok (.value (.agg cs.toArray)) w := by
  unfold execOp
  simp only [ho, hx, Instr.loadAt, Instr.sureAddr, Sem.run_bind, Sem.run_pure, Result.andThen_ok, run_loadVar_mid w b q ty cs d hc hu hd hi]
theorem run_neq_tk (t : Lx.Tk) (w : World) : (binOp .neq 30 (.agg (encT t).toArray) (.agg (encT t).toArray)).run Tryd.prog w = .ok (.bool false) w := by
  obtain ⟨a, b, c⟩ := t
  unfold encT
  dsimp only
  go_simp
  try simp
theorem gd_nq (x y : Operand) (u t : Lx.Tk) (w : World) : (eqGuard .neq 30 x y (.agg (encT u).toArray) (.agg (encT t).toArray)).run Tryd.prog w = .ok () w := by
  unfold encT; kernel_rfl
theorem range_keepT {w W : World} {g o : Nat} {cs : List Value} (h : w.rangeAt g o cs) (hg : g < w.heap.size) (hb : Below w.heap.size w W) : W.rangeAt g o cs := fun k v hk => (World.cell?_of_block (hb.block g hg)).trans (h k v hk)

set_option maxRecDepth 100000 in
set_option maxHeartbeats 2000000 in
theorem same_any (L : List Lx.Tk) (A A2 : Option Addr) (N c c2 : Nat) (w : World) (hs : SlK encT 3 w (.slice A N c) L) (hs2 : SlK encT 3 w (.slice A2 N c2) L) (hN : L.length = N) (hN2 : N ≤ 1000000) :
    Calls Tryd.prog 8 #[.slice A N c, .slice A2 N c2] w (Gives w (.bool true)) := by
  have HS := Lib.hid hs
  have HS2 := Lib.hid hs2
  have HN := Lib.hid (And.intro hN hN2)
  have hnn : ((N : Int) != (N : Int)) = false := by simp
  clear hs hs2 hN hN2
  go_enter Tryd.func8, Tryd.ntmps8
  go_wp2_with fail
  clear hnn
  go_loopw [13] (fun v13 wr => ∃ k : Nat, v13 = .int .i64 (k : Nat) ∧ k ≤ N ∧ Below w.heap.size w wr) (fun v13 _ => N - (intOf v13).toNat)
  case atStart => exact ⟨0, rfl, Nat.zero_le _, Below.refl _ _⟩
  case round =>
    obtain ⟨k, rfl, hk, hbr⟩ := hrel
    obtain ⟨wk, rfl⟩ : ∃ wk, wk = wr := ⟨_, rfl⟩
    have HBr := Lib.hid hbr
    clear hbr
    by_cases hlt : k < N
    · have hkl : k < L.length := by rw [HN.out.1]; exact hlt
      obtain ⟨t, ht⟩ : ∃ t, L[k]? = some t := ⟨L[k]'hkl, List.getElem?_eq_getElem hkl⟩
      obtain ⟨g, o, hA, hgl, hc⟩ := (HS.out.below HBr.out).tk ht
      obtain ⟨g2, o2, hA2, hgl2, hc2⟩ := (HS2.out.below HBr.out).tk ht
      have HAt := Lib.hid (show ∀ W, (Instr.indexAt 24 (.slice A N c) (.int .i64 ((k : Nat) : Int))).run Tryd.prog W = .ok (.pointer (some ⟨g, o + k * 3, none⟩)) W from fun W => by rw [hA]; exact at_Tk g o c N k hlt W)
      have HAt2 := Lib.hid (show ∀ W, (Instr.indexAt 24 (.slice A2 N c2) (.int .i64 ((k : Nat) : Int))).run Tryd.prog W = .ok (.pointer (some ⟨g2, o2 + k * 3, none⟩)) W from fun W => by rw [hA2]; exact at_Tk g2 o2 c2 N k hlt W)
      have HC1 := Lib.hid (show ∀ W, Below wk.heap.size wk W → W.rangeAt g (o + k * 3) (encT t) from fun W hW => range_keepT hc hgl hW)
      have HC2 := Lib.hid (show ∀ W, Below wk.heap.size wk W → W.rangeAt g2 (o2 + k * 3) (encT t) from fun W hW => range_keepT hc2 hgl2 hW)
      obtain ⟨k1, hk1⟩ : ∃ k1, k + 1 = k1 := ⟨_, rfl⟩
      have HK := Lib.hid (And.intro hk1 hlt)
      have hw1 : wrap64 ((k : Int) + 1) = (k1 : Int) := by have := HN.out; rw [IntWalk.wrap64_in _ ⟨by omega, by omega⟩]; omega
      have hkN : (k : Int) < (N : Int) := by omega
      clear ht hA hA2 hc hc2 hkl hk1 hk hgl hgl2
      go_upto_region 6 with fail
      clear hkN hlt
      refine wp_region_any (by kernel_rfl) ?_
      refine wpAny_below (fun iq uq _ => uq = ([(.slice A N c : Value), .int .i64 ((k : Nat) : Int), .pointer (some ⟨g, o + k * 3, none⟩), .agg (encT t).toArray, .slice A2 N c2, .int .i64 ((k : Nat) : Int), .pointer (some ⟨g2, o2 + k * 3, none⟩), .agg (encT t).toArray, .bool false] : List Value).getD iq undef) _ wk (by kernel_rfl) (by kernel_rfl) (by kernel_rfl) (fun i v w w' _ h => h) ?_ ?_
      · refine ⟨?_, ?_, ?_, ?_, ?_, ?_, ?_, ?_, ?_, trivial⟩
        · intro ac W hI hun haft hi
          have e0 : ac.eval (.tmp 0) = .slice A N c := hun 0 (by kernel_rfl)
          exact b_same hi hI rfl _ (run_move_op rfl e0) rfl
        · intro ac W hI hun haft hi
          have e5 : ac.eval (.tmp 5) = .int .i64 ((k : Nat) : Int) := hun 5 (by kernel_rfl)
          exact b_same hi hI rfl _ (run_move_op rfl e5) rfl
        · intro ac W hI hun haft hi
          have f0 : ac.eval (.tmp 16) = .slice A N c := haft ⟨0, .data⟩ (by simp) rfl _ _ rfl rfl
          have f1 : ac.eval (.tmp 17) = .int .i64 ((k : Nat) : Int) := haft ⟨1, .data⟩ (by simp) rfl _ _ rfl rfl
          exact b_same hi hI rfl _ (run_indexAddr_op rfl f0 f1 (HAt.out W)) rfl
        · intro ac W hI hun haft hi
          have f2 : ac.eval (.tmp 18) = .pointer (some ⟨g, o + k * 3, none⟩) := haft ⟨2, .data⟩ (by simp) rfl _ _ rfl rfl
          exact b_same hi hI rfl _ (run_loadmidT_op rfl f2 (HC1.out W hI) Tryd.underlying30 rfl infoTk) rfl
        · intro ac W hI hun haft hi
          have e1 : ac.eval (.tmp 1) = .slice A2 N c2 := hun 1 (by kernel_rfl)
          exact b_same hi hI rfl _ (run_move_op rfl e1) rfl
        · intro ac W hI hun haft hi
          have e5 : ac.eval (.tmp 5) = .int .i64 ((k : Nat) : Int) := hun 5 (by kernel_rfl)
          exact b_same hi hI rfl _ (run_move_op rfl e5) rfl
        · intro ac W hI hun haft hi
          have f4 : ac.eval (.tmp 20) = .slice A2 N c2 := haft ⟨4, .data⟩ (by simp) rfl _ _ rfl rfl
          have f5 : ac.eval (.tmp 21) = .int .i64 ((k : Nat) : Int) := haft ⟨5, .data⟩ (by simp) rfl _ _ rfl rfl
          exact b_same hi hI rfl _ (run_indexAddr_op rfl f4 f5 (HAt2.out W)) rfl
        · intro ac W hI hun haft hi
          have f6 : ac.eval (.tmp 22) = .pointer (some ⟨g2, o2 + k * 3, none⟩) := haft ⟨6, .data⟩ (by simp) rfl _ _ rfl rfl
          exact b_same hi hI rfl _ (run_loadmidT_op rfl f6 (HC2.out W hI) Tryd.underlying30 rfl infoTk) rfl
        · intro ac W hI hun haft hi
          have f3 : ac.eval (.tmp 19) = .agg (encT t).toArray := haft ⟨3, .data⟩ (by simp) rfl _ _ rfl rfl
          have f7 : ac.eval (.tmp 23) = .agg (encT t).toArray := haft ⟨7, .data⟩ (by simp) rfl _ _ rfl rfl
          exact b_same hi hI rfl _ (run_bin_op rfl f3 f7 (gd_nq _ _ t t W) (run_neq_tk t W)) rfl
      intro vals W hI hp
      have h8 : vals 8 = .bool false := hp 8 (by decide)
      have HB2 := Lib.hid (HBr.out.trans (hI.mono HBr.out.size))
      clear hp hI
      simp only [layN, List.size_toArray, List.length_cons, List.length_nil, List.range, List.range.loop, if_true, List.getElem?_toArray, List.getElem?_cons_zero, List.getElem?_cons_succ, Act.put, List.setIfInBounds_toArray, List.set_cons_zero, List.set_cons_succ, Nat.zero_add, Nat.reduceAdd, h8]
      clear h8
      go_wp2_with fail
      go_roundw
      case rel => exact ⟨k1, by first | rfl | rw [hw1], by have := HK.out; omega, HB2.out⟩
      case measure =>
        have := HK.out
        (try rw [hw1])
        show N - (intOf (.int .i64 _)).toNat < N - (intOf (.int .i64 _)).toNat
        simp only [intOf, Int.toNat_natCast]
        omega
    · have hkk : ¬ (k : Int) < (N : Int) := by omega
      go_wp2_with fail
      go_ret
      exact ⟨rfl, HBr.out⟩

end Go.Proofs.YtmmphgapginmjaaDoor
