/-
  hedgerowref18.One: the contracts, by walks, a kind each (written by genlxe.py). Conditions: lengths.
-/
import Derived.Test.YtdabanocofimmaaGreatDoorLxRefD
namespace Go.Proofs.YtdabanocofimmaaGreatDoor
open Go.RowKit

theorem at_tk1 (g : Nat) (w : World) : (Instr.fieldAt 43 (.pointer (some ⟨g, 0, none⟩)) 1).run Tryz.prog w = .ok (.pointer (some ⟨g, 1, none⟩)) w := by go_simp
theorem at_tk2 (g : Nat) (w : World) : (Instr.fieldAt 43 (.pointer (some ⟨g, 0, none⟩)) 2).run Tryz.prog w = .ok (.pointer (some ⟨g, 2, none⟩)) w := by go_simp
theorem eq_isT (a b : Int) (q : Bool) (h : (a == b) = q) (w : World) : (binOp .eql 3 (.int .i64 a) (.int .i64 b)).run Tryz.prog w = .ok (.bool q) w := by
  subst h; go_simp
theorem ge_isT (a b : Int) (q : Bool) (h : decide (b ≤ a) = q) (w : World) : (binOp .geq 3 (.int .i64 a) (.int .i64 b)).run Tryz.prog w = .ok (.bool q) w := by
  subst h
  by_cases h : b ≤ a
  · rw [decide_eq_true h]; go_simp
  · rw [decide_eq_false h]; go_simp
theorem le_isT (a b : Int) (q : Bool) (h : decide (a ≤ b) = q) (w : World) : (binOp .leq 3 (.int .i64 a) (.int .i64 b)).run Tryz.prog w = .ok (.bool q) w := by
  subst h
  by_cases h : a ≤ b
  · rw [decide_eq_true h]; go_simp
  · rw [decide_eq_false h]; go_simp
theorem eq_emp (w : World) : (binOp .eql 9 (.string ⟨#[]⟩) (.string ⟨#[]⟩)).run Tryz.prog w = .ok (.bool true) w := by kernel_rfl
theorem gd_strT (o : BinOp) (t : TypeId) (x y : Operand) (a b : ByteArray) (w : World) : (eqGuard o t x y (.string a) (.string b)).run Tryz.prog w = .ok () w := by
  unfold eqGuard
  cases o <;> rfl
theorem infoVl : (Tryz.prog.info? 47).map (·.size) = some 3 := by kernel_rfl

set_option maxRecDepth 100000 in
set_option maxHeartbeats 4000000 in
theorem rone1_any (x : List UInt8) (w : World) (hx : x.length ≤ 1000000) : Calls Tryz.prog 43 #[tkV (1, 0, x)] w (Gives w (.tuple #[.string ⟨x.toArray⟩, .bool (nameB x && !Lx.words.contains x)])) := by
  obtain ⟨nm, hnm⟩ : ∃ q, nameB x = q := ⟨_, rfl⟩
  obtain ⟨qw, hqw⟩ : ∃ q, Lx.words.contains x = q := ⟨_, rfl⟩
  rw [hnm, hqw]
  have HNm := Lib.hid (fun W => refname_any ⟨x.toArray⟩ W (by rw [size_mk]; omega))
  rw [show (ByteArray.mk x.toArray).data.toList = x by simp, hnm] at HNm
  have HIn := Lib.hid (show ∀ b W, Blk W b 9 (strA Lx.words) → Calls Tryz.prog 67 #[.slice (some ⟨b, 0, none⟩) 26 26, .string ⟨x.toArray⟩] W (SameV W (.bool qw)) from fun b W hB => by
    have := rin_any Lx.words x b 26 W rfl (by omega) hB
    rwa [hqw] at this)
  clear hx hnm hqw
  unfold tkV
  dsimp only
  obtain ⟨X, hX⟩ : ∃ X : ByteArray, ⟨x.toArray⟩ = X := ⟨_, rfl⟩
  rw [hX] at HNm HIn ⊢
  clear hX
  go_enter Tryz.func43, Tryz.ntmps43
  go_upto_region 3 with fail
  have HB0 := Lib.hid (alloc_below w (.cells #[.int .i64 1, .int .i64 0, .string X] 43))
  have HB := Lib.hid (show Blk (w.alloc (.cells #[.int .i64 1, .int .i64 0, .string X] 43)) w.heap.size 43 #[.int .i64 1, .int .i64 0, .string X] from Blk.new _ _ _)
  obtain ⟨W0, hW0⟩ : ∃ W0, w.alloc (.cells #[.int .i64 1, .int .i64 0, .string X] 43) = W0 := ⟨_, rfl⟩
  rw [hW0] at HB HB0 ⊢
  obtain ⟨b, hb⟩ : ∃ b, w.heap.size = b := ⟨_, rfl⟩
  rw [hb] at HB ⊢
  have HBs := Lib.hid hb
  clear hW0 hb
  refine wp_region_any (by kernel_rfl) ?_
  refine wpAny_below (Ot.pN [some (.pointer (some ⟨b, 2, none⟩)), some (.string X), some (.pointer (some ⟨b, 1, none⟩)), some (.int .i64 0), some (.bool true), some (.bool true), some (.pointer (some ⟨b, 2, none⟩)), some (.string X), some (.bool nm), some (.bool nm), some (.bool nm), none, some (vB (nm) (.pointer (some ⟨b, 2, none⟩))), some (vB (nm) (.string X)), some (vB (nm) (.bool qw)), some (vB (nm) (.bool (!qw))), some (.bool (nm && !qw)), some (.string X), some (.bool (nm && !qw))] (fun iq v W => match iq with | 11 => nm = true → ∃ b, v = .slice (some ⟨b, 0, none⟩) 26 26 ∧ Blk W b 9 (strA Lx.words) | _ => True)) _ W0 (by kernel_rfl) (by kernel_rfl) (by kernel_rfl) (fun i v w w' hb h => Ot.pN_keep (fun i v w w' hb h => by
    try dsimp only at h ⊢
    split at h
    · exact fun e => ⟨(h e).choose, (h e).choose_spec.1, Blk.below (h e).choose_spec.2 hb (Blk.lt (h e).choose_spec.2)⟩
    · trivial) i v w w' hb h) ?_ ?_
  · refine ⟨?_, ?_, ?_, ?_, ?_, ?_, ?_, ?_, ?_, ?_, ?_, ?_, ?_, ?_, ?_, ?_, ?_, ?_, ?_, trivial⟩
    · intro ac W hI hun haft hi
      have e1 : ac.eval (.tmp 1) = .pointer (some ⟨b, 0, none⟩) := hun 1 (by kernel_rfl)
      exact b_same hi hI rfl _ (run_fieldAddr_any rfl e1 (at_tk2 b W)) rfl
    · intro ac W hI hun haft hi
      have f0 : ac.eval (.tmp 9) = .pointer (some ⟨b, 2, none⟩) := haft ⟨0, .data⟩ (by simp) rfl _ _ rfl rfl
      exact b_same hi hI rfl _ (run_loadstr_op rfl f0 Tryz.underlying9 ((Blk.cell (Blk.below HB.out hI (Blk.lt HB.out)) 2).trans rfl)) rfl
    · intro ac W hI hun haft hi
      have e1 : ac.eval (.tmp 1) = .pointer (some ⟨b, 0, none⟩) := hun 1 (by kernel_rfl)
      exact b_same hi hI rfl _ (run_fieldAddr_any rfl e1 (at_tk1 b W)) rfl
    · intro ac W hI hun haft hi
      have f2 : ac.eval (.tmp 11) = .pointer (some ⟨b, 1, none⟩) := haft ⟨2, .data⟩ (by simp) rfl _ _ rfl rfl
      exact b_same hi hI rfl _ (run_loadint_op rfl f2 Tryz.underlying3 ((Blk.cell (Blk.below HB.out hI (Blk.lt HB.out)) 1).trans rfl)) rfl
    · intro ac W hI hun haft hi
      have f3 : ac.eval (.tmp 12) = .int .i64 0 := haft ⟨3, .data⟩ (by simp) rfl _ _ rfl rfl
      exact b_same hi hI rfl _ (run_bin_op rfl f3 rfl (guardIT _ _ _ _ _ _ _ _ _) (eq_isT 0 0 true rfl W)) rfl
    · intro ac W hI hun haft hi
      have f4 : ac.eval (.tmp 13) = .bool true := haft ⟨4, .data⟩ (by simp) rfl _ _ rfl rfl
      exact b_same hi hI rfl _ (run_move_op rfl f4) rfl
    · intro ac W hI hun haft hi
      have fg : ac.eval (.tmp 14) = .bool true := haft ⟨5, .guard⟩ (by simp) rfl _ _ rfl rfl
      have e1 : ac.eval (.tmp 1) = .pointer (some ⟨b, 0, none⟩) := hun 1 (by kernel_rfl)
      exact b_same hi hI (guard_ok rfl rfl rfl fg) _ (run_fieldAddr_any rfl e1 (at_tk2 b W)) rfl
    · intro ac W hI hun haft hi
      have fg : ac.eval (.tmp 14) = .bool true := haft ⟨5, .guard⟩ (by simp) rfl _ _ rfl rfl
      have f6 : ac.eval (.tmp 15) = .pointer (some ⟨b, 2, none⟩) := haft ⟨6, .data⟩ (by simp) rfl _ _ rfl rfl
      exact b_same hi hI (guard_ok rfl rfl rfl fg) _ (run_loadstr_op rfl f6 Tryz.underlying9 ((Blk.cell (Blk.below HB.out hI (Blk.lt HB.out)) 2).trans rfl)) rfl
    · intro ac W hI hun haft hi
      have fg : ac.eval (.tmp 14) = .bool true := haft ⟨5, .guard⟩ (by simp) rfl _ _ rfl rfl
      have f7 : ac.eval (.tmp 16) = .string X := haft ⟨7, .data⟩ (by simp) rfl _ _ rfl rfl
      refine b_call hi hI (guard_ok rfl rfl rfl fg) _ _ (run_call_op (args := #[.string X]) rfl (by simp [f7]) (by kernel_rfl)) ?_
      exact (HNm.out W).mono fun e w' H => ⟨_, H.1, rfl, by rw [← H.2]; exact Below.refl _ _⟩
    · intro ac W hI hun haft hi
      have f5 : ac.eval (.tmp 14) = .bool true := haft ⟨5, .data⟩ (by simp) rfl _ _ rfl rfl
      have f8 : ac.eval (.tmp 17) = .bool nm := haft ⟨8, .data⟩ (by simp) rfl _ _ rfl rfl
      exact b_same hi hI rfl _ (run_pick_op (b := true) rfl f5 f8 rfl) rfl
    · intro ac W hI hun haft hi
      have f9 : ac.eval (.tmp 18) = .bool nm := haft ⟨9, .data⟩ (by simp) rfl _ _ rfl rfl
      exact b_same hi hI rfl _ (run_move_op rfl f9) rfl
    · intro ac W hI hun haft hi
      have fg : ac.eval (.tmp 19) = .bool nm := haft ⟨10, .guard⟩ (by simp) rfl _ _ rfl rfl
      cases nm
      case false => exact b_skip hi hI (guard_no rfl rfl rfl (.inl fg)) (fun h => by cases h)
      case true =>
        refine b_call hi hI (guard_ok rfl rfl rfl fg) _ _ (run_call_op (args := #[]) rfl (by simp) (by kernel_rfl)) ?_
        exact (rwords_any W).mono fun e w' H => ⟨_, H.1, fun _ => ⟨_, rfl, by rw [H.2]; exact Blk.new _ _ _⟩, by rw [H.2]; exact alloc_below _ _⟩
    · intro ac W hI hun haft hi
      have fg : ac.eval (.tmp 19) = .bool nm := haft ⟨10, .guard⟩ (by simp) rfl _ _ rfl rfl
      have e1 : ac.eval (.tmp 1) = .pointer (some ⟨b, 0, none⟩) := hun 1 (by kernel_rfl)
      cases nm
      case false => exact b_skip hi hI (guard_no rfl rfl rfl (.inl fg)) rfl
      case true =>
        exact b_same hi hI (guard_ok rfl rfl rfl fg) _ (run_fieldAddr_any rfl e1 (at_tk2 b W)) rfl
    · intro ac W hI hun haft hi
      have fg : ac.eval (.tmp 19) = .bool nm := haft ⟨10, .guard⟩ (by simp) rfl _ _ rfl rfl
      have f12 : ac.eval (.tmp 21) = vB (nm) (.pointer (some ⟨b, 2, none⟩)) := haft ⟨12, .data⟩ (by simp) rfl _ _ rfl rfl
      cases nm
      case false => exact b_skip hi hI (guard_no rfl rfl rfl (.inl fg)) rfl
      case true =>
        exact b_same hi hI (guard_ok rfl rfl rfl fg) _ (run_loadstr_op rfl f12 Tryz.underlying9 ((Blk.cell (Blk.below HB.out hI (Blk.lt HB.out)) 2).trans rfl)) rfl
    · intro ac W hI hun haft hi
      have fg : ac.eval (.tmp 19) = .bool nm := haft ⟨10, .guard⟩ (by simp) rfl _ _ rfl rfl
      have f11 : nm = true → ∃ b, (ac.eval (.tmp 20)) = .slice (some ⟨b, 0, none⟩) 26 26 ∧ Blk W b 9 (strA Lx.words) := haft ⟨11, .data⟩ (by simp) rfl _ _ rfl rfl
      have f13 : ac.eval (.tmp 22) = vB (nm) (.string X) := haft ⟨13, .data⟩ (by simp) rfl _ _ rfl rfl
      cases nm
      case false => exact b_skip hi hI (guard_no rfl rfl rfl (.inl fg)) rfl
      case true =>
        obtain ⟨b, hb, hB⟩ := f11 rfl
        refine b_call hi hI (guard_ok rfl rfl rfl fg) _ _ (run_call_op (args := #[.slice (some ⟨b, 0, none⟩) 26 26, .string X]) rfl (by simp [hb, f13, vB]) (by kernel_rfl)) ?_
        exact (HIn.out b W hB).mono fun e w' H => ⟨_, H.1, rfl, by rw [← H.2]; exact Below.refl _ _⟩
    · intro ac W hI hun haft hi
      have fg : ac.eval (.tmp 19) = .bool nm := haft ⟨10, .guard⟩ (by simp) rfl _ _ rfl rfl
      have f14 : ac.eval (.tmp 23) = vB (nm) (.bool qw) := haft ⟨14, .data⟩ (by simp) rfl _ _ rfl rfl
      cases nm
      case false => exact b_skip hi hI (guard_no rfl rfl rfl (.inl fg)) rfl
      case true =>
        exact b_same hi hI (guard_ok rfl rfl rfl fg) _ (run_not_op rfl f14) rfl
    · intro ac W hI hun haft hi
      have f10 : ac.eval (.tmp 19) = .bool nm := haft ⟨10, .data⟩ (by simp) rfl _ _ rfl rfl
      have f15 : ac.eval (.tmp 24) = vB (nm) (.bool (!qw)) := haft ⟨15, .data⟩ (by simp) rfl _ _ rfl rfl
      cases nm
      case true => exact b_same hi hI rfl _ (run_pick_op (b := true) rfl f10 f15 rfl) rfl
      case false => exact b_same hi hI rfl _ (run_pick_op (b := false) rfl f10 f15 rfl) rfl
    · intro ac W hI hun haft hi
      have f1 : ac.eval (.tmp 10) = .string X := haft ⟨1, .data⟩ (by simp) rfl _ _ rfl rfl
      exact b_same hi hI rfl _ (run_assign_op rfl f1) rfl
    · intro ac W hI hun haft hi
      have f16 : ac.eval (.tmp 25) = .bool (nm && !qw) := haft ⟨16, .data⟩ (by simp) rfl _ _ rfl rfl
      exact b_same hi hI rfl _ (run_assign_op rfl f16) rfl
  intro vals W hI hp
  have h1 : vals 17 = .string X := hp 17 (by decide)
  have h2 : vals 18 = .bool (nm && !qw) := hp 18 (by decide)
  have HBe := Lib.hid (HB0.out.trans (hI.mono HB0.out.size))
  clear hp hI
  simp only [layN, List.size_toArray, List.length_cons, List.length_nil, List.range, List.range.loop, if_true, List.getElem?_toArray, List.getElem?_cons_zero, List.getElem?_cons_succ, Act.put, List.setIfInBounds_toArray, List.set_cons_zero, List.set_cons_succ, Nat.zero_add, Nat.reduceAdd, h1, h2]
  clear h1 h2
  go_wp2_with fail
  go_ret2
  exact ⟨rfl, by first | exact HBe.out | (rw [HBs.out] at *; exact HBe.out) | (rw [← HBs.out]; exact HBe.out)⟩

set_option maxRecDepth 100000 in
set_option maxHeartbeats 4000000 in
theorem rone2_any (x : List UInt8) (w : World) : Calls Tryz.prog 43 #[tkV (2, 0, x)] w (Gives w (.tuple #[.string ⟨x.toArray⟩, .bool (Lx.words.contains x)])) := by
  obtain ⟨qw, hqw⟩ : ∃ q, Lx.words.contains x = q := ⟨_, rfl⟩
  rw [hqw]
  have HIn := Lib.hid (show ∀ b W, Blk W b 9 (strA Lx.words) → Calls Tryz.prog 67 #[.slice (some ⟨b, 0, none⟩) 26 26, .string ⟨x.toArray⟩] W (SameV W (.bool qw)) from fun b W hB => by
    have := rin_any Lx.words x b 26 W rfl (by omega) hB
    rwa [hqw] at this)
  clear hqw
  unfold tkV
  dsimp only
  obtain ⟨X, hX⟩ : ∃ X : ByteArray, ⟨x.toArray⟩ = X := ⟨_, rfl⟩
  rw [hX] at HIn ⊢
  clear hX
  go_enter Tryz.func43, Tryz.ntmps43
  go_upto_region 5 with fail
  have HB0 := Lib.hid (alloc_below w (.cells #[.int .i64 2, .int .i64 0, .string X] 43))
  have HB := Lib.hid (show Blk (w.alloc (.cells #[.int .i64 2, .int .i64 0, .string X] 43)) w.heap.size 43 #[.int .i64 2, .int .i64 0, .string X] from Blk.new _ _ _)
  obtain ⟨W0, hW0⟩ : ∃ W0, w.alloc (.cells #[.int .i64 2, .int .i64 0, .string X] 43) = W0 := ⟨_, rfl⟩
  rw [hW0] at HB HB0 ⊢
  obtain ⟨b, hb⟩ : ∃ b, w.heap.size = b := ⟨_, rfl⟩
  rw [hb] at HB ⊢
  have HBs := Lib.hid hb
  clear hW0 hb
  refine wp_region_any (by kernel_rfl) ?_
  refine wpAny_below (Ot.pN [some (.pointer (some ⟨b, 2, none⟩)), some (.string X), some (.pointer (some ⟨b, 1, none⟩)), some (.int .i64 0), some (.bool true), some (.bool true), none, some (.pointer (some ⟨b, 2, none⟩)), some (.string X), some (.bool qw), some (.bool qw), some (.string X), some (.bool qw)] (fun iq v W => match iq with | 6 => true = true → ∃ b, v = .slice (some ⟨b, 0, none⟩) 26 26 ∧ Blk W b 9 (strA Lx.words) | _ => True)) _ W0 (by kernel_rfl) (by kernel_rfl) (by kernel_rfl) (fun i v w w' hb h => Ot.pN_keep (fun i v w w' hb h => by
    try dsimp only at h ⊢
    split at h
    · exact fun e => ⟨(h e).choose, (h e).choose_spec.1, Blk.below (h e).choose_spec.2 hb (Blk.lt (h e).choose_spec.2)⟩
    · trivial) i v w w' hb h) ?_ ?_
  · refine ⟨?_, ?_, ?_, ?_, ?_, ?_, ?_, ?_, ?_, ?_, ?_, ?_, ?_, trivial⟩
    · intro ac W hI hun haft hi
      have e1 : ac.eval (.tmp 1) = .pointer (some ⟨b, 0, none⟩) := hun 1 (by kernel_rfl)
      exact b_same hi hI rfl _ (run_fieldAddr_any rfl e1 (at_tk2 b W)) rfl
    · intro ac W hI hun haft hi
      have f0 : ac.eval (.tmp 28) = .pointer (some ⟨b, 2, none⟩) := haft ⟨0, .data⟩ (by simp) rfl _ _ rfl rfl
      exact b_same hi hI rfl _ (run_loadstr_op rfl f0 Tryz.underlying9 ((Blk.cell (Blk.below HB.out hI (Blk.lt HB.out)) 2).trans rfl)) rfl
    · intro ac W hI hun haft hi
      have e1 : ac.eval (.tmp 1) = .pointer (some ⟨b, 0, none⟩) := hun 1 (by kernel_rfl)
      exact b_same hi hI rfl _ (run_fieldAddr_any rfl e1 (at_tk1 b W)) rfl
    · intro ac W hI hun haft hi
      have f2 : ac.eval (.tmp 30) = .pointer (some ⟨b, 1, none⟩) := haft ⟨2, .data⟩ (by simp) rfl _ _ rfl rfl
      exact b_same hi hI rfl _ (run_loadint_op rfl f2 Tryz.underlying3 ((Blk.cell (Blk.below HB.out hI (Blk.lt HB.out)) 1).trans rfl)) rfl
    · intro ac W hI hun haft hi
      have f3 : ac.eval (.tmp 31) = .int .i64 0 := haft ⟨3, .data⟩ (by simp) rfl _ _ rfl rfl
      exact b_same hi hI rfl _ (run_bin_op rfl f3 rfl (guardIT _ _ _ _ _ _ _ _ _) (eq_isT 0 0 true rfl W)) rfl
    · intro ac W hI hun haft hi
      have f4 : ac.eval (.tmp 32) = .bool true := haft ⟨4, .data⟩ (by simp) rfl _ _ rfl rfl
      exact b_same hi hI rfl _ (run_move_op rfl f4) rfl
    · intro ac W hI hun haft hi
      have fg : ac.eval (.tmp 33) = .bool true := haft ⟨5, .guard⟩ (by simp) rfl _ _ rfl rfl
      refine b_call hi hI (guard_ok rfl rfl rfl fg) _ _ (run_call_op (args := #[]) rfl (by simp) (by kernel_rfl)) ?_
      exact (rwords_any W).mono fun e w' H => ⟨_, H.1, fun _ => ⟨_, rfl, by rw [H.2]; exact Blk.new _ _ _⟩, by rw [H.2]; exact alloc_below _ _⟩
    · intro ac W hI hun haft hi
      have fg : ac.eval (.tmp 33) = .bool true := haft ⟨5, .guard⟩ (by simp) rfl _ _ rfl rfl
      have e1 : ac.eval (.tmp 1) = .pointer (some ⟨b, 0, none⟩) := hun 1 (by kernel_rfl)
      exact b_same hi hI (guard_ok rfl rfl rfl fg) _ (run_fieldAddr_any rfl e1 (at_tk2 b W)) rfl
    · intro ac W hI hun haft hi
      have fg : ac.eval (.tmp 33) = .bool true := haft ⟨5, .guard⟩ (by simp) rfl _ _ rfl rfl
      have f7 : ac.eval (.tmp 35) = .pointer (some ⟨b, 2, none⟩) := haft ⟨7, .data⟩ (by simp) rfl _ _ rfl rfl
      exact b_same hi hI (guard_ok rfl rfl rfl fg) _ (run_loadstr_op rfl f7 Tryz.underlying9 ((Blk.cell (Blk.below HB.out hI (Blk.lt HB.out)) 2).trans rfl)) rfl
    · intro ac W hI hun haft hi
      have fg : ac.eval (.tmp 33) = .bool true := haft ⟨5, .guard⟩ (by simp) rfl _ _ rfl rfl
      have f6 : true = true → ∃ b, (ac.eval (.tmp 34)) = .slice (some ⟨b, 0, none⟩) 26 26 ∧ Blk W b 9 (strA Lx.words) := haft ⟨6, .data⟩ (by simp) rfl _ _ rfl rfl
      have f8 : ac.eval (.tmp 36) = .string X := haft ⟨8, .data⟩ (by simp) rfl _ _ rfl rfl
      obtain ⟨b, hb, hB⟩ := f6 rfl
      refine b_call hi hI (guard_ok rfl rfl rfl fg) _ _ (run_call_op (args := #[.slice (some ⟨b, 0, none⟩) 26 26, .string X]) rfl (by simp [hb, f8]) (by kernel_rfl)) ?_
      exact (HIn.out b W hB).mono fun e w' H => ⟨_, H.1, rfl, by rw [← H.2]; exact Below.refl _ _⟩
    · intro ac W hI hun haft hi
      have f5 : ac.eval (.tmp 33) = .bool true := haft ⟨5, .data⟩ (by simp) rfl _ _ rfl rfl
      have f9 : ac.eval (.tmp 37) = .bool qw := haft ⟨9, .data⟩ (by simp) rfl _ _ rfl rfl
      exact b_same hi hI rfl _ (run_pick_op (b := true) rfl f5 f9 rfl) rfl
    · intro ac W hI hun haft hi
      have f1 : ac.eval (.tmp 29) = .string X := haft ⟨1, .data⟩ (by simp) rfl _ _ rfl rfl
      exact b_same hi hI rfl _ (run_assign_op rfl f1) rfl
    · intro ac W hI hun haft hi
      have f10 : ac.eval (.tmp 38) = .bool qw := haft ⟨10, .data⟩ (by simp) rfl _ _ rfl rfl
      exact b_same hi hI rfl _ (run_assign_op rfl f10) rfl
  intro vals W hI hp
  have h1 : vals 11 = .string X := hp 11 (by decide)
  have h2 : vals 12 = .bool (qw) := hp 12 (by decide)
  have HBe := Lib.hid (HB0.out.trans (hI.mono HB0.out.size))
  clear hp hI
  simp only [layN, List.size_toArray, List.length_cons, List.length_nil, List.range, List.range.loop, if_true, List.getElem?_toArray, List.getElem?_cons_zero, List.getElem?_cons_succ, Act.put, List.setIfInBounds_toArray, List.set_cons_zero, List.set_cons_succ, Nat.zero_add, Nat.reduceAdd, h1, h2]
  clear h1 h2
  go_wp2_with fail
  go_ret2
  exact ⟨rfl, by first | exact HBe.out | (rw [HBs.out] at *; exact HBe.out) | (rw [← HBs.out]; exact HBe.out)⟩

set_option maxRecDepth 100000 in
set_option maxHeartbeats 4000000 in
theorem rone5_any (x : List UInt8) (w : World) : Calls Tryz.prog 43 #[tkV (5, 0, x)] w (Gives w (.tuple #[.string ⟨x.toArray⟩, .bool (Lx.signs.contains x)])) := by
  obtain ⟨qw, hqw⟩ : ∃ q, Lx.signs.contains x = q := ⟨_, rfl⟩
  rw [hqw]
  have HIn := Lib.hid (show ∀ b W, Blk W b 9 (strA Lx.signs) → Calls Tryz.prog 67 #[.slice (some ⟨b, 0, none⟩) 20 20, .string ⟨x.toArray⟩] W (SameV W (.bool qw)) from fun b W hB => by
    have := rin_any Lx.signs x b 20 W rfl (by omega) hB
    rwa [hqw] at this)
  clear hqw
  unfold tkV
  dsimp only
  obtain ⟨X, hX⟩ : ∃ X : ByteArray, ⟨x.toArray⟩ = X := ⟨_, rfl⟩
  rw [hX] at HIn ⊢
  clear hX
  go_enter Tryz.func43, Tryz.ntmps43
  go_upto_region 12 with fail
  have HB0 := Lib.hid (alloc_below w (.cells #[.int .i64 5, .int .i64 0, .string X] 43))
  have HB := Lib.hid (show Blk (w.alloc (.cells #[.int .i64 5, .int .i64 0, .string X] 43)) w.heap.size 43 #[.int .i64 5, .int .i64 0, .string X] from Blk.new _ _ _)
  obtain ⟨W0, hW0⟩ : ∃ W0, w.alloc (.cells #[.int .i64 5, .int .i64 0, .string X] 43) = W0 := ⟨_, rfl⟩
  rw [hW0] at HB HB0 ⊢
  obtain ⟨b, hb⟩ : ∃ b, w.heap.size = b := ⟨_, rfl⟩
  rw [hb] at HB ⊢
  have HBs := Lib.hid hb
  clear hW0 hb
  refine wp_region_any (by kernel_rfl) ?_
  refine wpAny_below (Ot.pN [some (.pointer (some ⟨b, 2, none⟩)), some (.string X), some (.pointer (some ⟨b, 1, none⟩)), some (.int .i64 0), some (.bool true), some (.bool true), none, some (.pointer (some ⟨b, 2, none⟩)), some (.string X), some (.bool qw), some (.bool qw), some (.string X), some (.bool qw)] (fun iq v W => match iq with | 6 => true = true → ∃ b, v = .slice (some ⟨b, 0, none⟩) 20 20 ∧ Blk W b 9 (strA Lx.signs) | _ => True)) _ W0 (by kernel_rfl) (by kernel_rfl) (by kernel_rfl) (fun i v w w' hb h => Ot.pN_keep (fun i v w w' hb h => by
    try dsimp only at h ⊢
    split at h
    · exact fun e => ⟨(h e).choose, (h e).choose_spec.1, Blk.below (h e).choose_spec.2 hb (Blk.lt (h e).choose_spec.2)⟩
    · trivial) i v w w' hb h) ?_ ?_
  · refine ⟨?_, ?_, ?_, ?_, ?_, ?_, ?_, ?_, ?_, ?_, ?_, ?_, ?_, trivial⟩
    · intro ac W hI hun haft hi
      have e1 : ac.eval (.tmp 1) = .pointer (some ⟨b, 0, none⟩) := hun 1 (by kernel_rfl)
      exact b_same hi hI rfl _ (run_fieldAddr_any rfl e1 (at_tk2 b W)) rfl
    · intro ac W hI hun haft hi
      have f0 : ac.eval (.tmp 73) = .pointer (some ⟨b, 2, none⟩) := haft ⟨0, .data⟩ (by simp) rfl _ _ rfl rfl
      exact b_same hi hI rfl _ (run_loadstr_op rfl f0 Tryz.underlying9 ((Blk.cell (Blk.below HB.out hI (Blk.lt HB.out)) 2).trans rfl)) rfl
    · intro ac W hI hun haft hi
      have e1 : ac.eval (.tmp 1) = .pointer (some ⟨b, 0, none⟩) := hun 1 (by kernel_rfl)
      exact b_same hi hI rfl _ (run_fieldAddr_any rfl e1 (at_tk1 b W)) rfl
    · intro ac W hI hun haft hi
      have f2 : ac.eval (.tmp 75) = .pointer (some ⟨b, 1, none⟩) := haft ⟨2, .data⟩ (by simp) rfl _ _ rfl rfl
      exact b_same hi hI rfl _ (run_loadint_op rfl f2 Tryz.underlying3 ((Blk.cell (Blk.below HB.out hI (Blk.lt HB.out)) 1).trans rfl)) rfl
    · intro ac W hI hun haft hi
      have f3 : ac.eval (.tmp 76) = .int .i64 0 := haft ⟨3, .data⟩ (by simp) rfl _ _ rfl rfl
      exact b_same hi hI rfl _ (run_bin_op rfl f3 rfl (guardIT _ _ _ _ _ _ _ _ _) (eq_isT 0 0 true rfl W)) rfl
    · intro ac W hI hun haft hi
      have f4 : ac.eval (.tmp 77) = .bool true := haft ⟨4, .data⟩ (by simp) rfl _ _ rfl rfl
      exact b_same hi hI rfl _ (run_move_op rfl f4) rfl
    · intro ac W hI hun haft hi
      have fg : ac.eval (.tmp 78) = .bool true := haft ⟨5, .guard⟩ (by simp) rfl _ _ rfl rfl
      refine b_call hi hI (guard_ok rfl rfl rfl fg) _ _ (run_call_op (args := #[]) rfl (by simp) (by kernel_rfl)) ?_
      exact (rsigns_any W).mono fun e w' H => ⟨_, H.1, fun _ => ⟨_, rfl, by rw [H.2]; exact Blk.new _ _ _⟩, by rw [H.2]; exact alloc_below _ _⟩
    · intro ac W hI hun haft hi
      have fg : ac.eval (.tmp 78) = .bool true := haft ⟨5, .guard⟩ (by simp) rfl _ _ rfl rfl
      have e1 : ac.eval (.tmp 1) = .pointer (some ⟨b, 0, none⟩) := hun 1 (by kernel_rfl)
      exact b_same hi hI (guard_ok rfl rfl rfl fg) _ (run_fieldAddr_any rfl e1 (at_tk2 b W)) rfl
    · intro ac W hI hun haft hi
      have fg : ac.eval (.tmp 78) = .bool true := haft ⟨5, .guard⟩ (by simp) rfl _ _ rfl rfl
      have f7 : ac.eval (.tmp 80) = .pointer (some ⟨b, 2, none⟩) := haft ⟨7, .data⟩ (by simp) rfl _ _ rfl rfl
      exact b_same hi hI (guard_ok rfl rfl rfl fg) _ (run_loadstr_op rfl f7 Tryz.underlying9 ((Blk.cell (Blk.below HB.out hI (Blk.lt HB.out)) 2).trans rfl)) rfl
    · intro ac W hI hun haft hi
      have fg : ac.eval (.tmp 78) = .bool true := haft ⟨5, .guard⟩ (by simp) rfl _ _ rfl rfl
      have f6 : true = true → ∃ b, (ac.eval (.tmp 79)) = .slice (some ⟨b, 0, none⟩) 20 20 ∧ Blk W b 9 (strA Lx.signs) := haft ⟨6, .data⟩ (by simp) rfl _ _ rfl rfl
      have f8 : ac.eval (.tmp 81) = .string X := haft ⟨8, .data⟩ (by simp) rfl _ _ rfl rfl
      obtain ⟨b, hb, hB⟩ := f6 rfl
      refine b_call hi hI (guard_ok rfl rfl rfl fg) _ _ (run_call_op (args := #[.slice (some ⟨b, 0, none⟩) 20 20, .string X]) rfl (by simp [hb, f8]) (by kernel_rfl)) ?_
      exact (HIn.out b W hB).mono fun e w' H => ⟨_, H.1, rfl, by rw [← H.2]; exact Below.refl _ _⟩
    · intro ac W hI hun haft hi
      have f5 : ac.eval (.tmp 78) = .bool true := haft ⟨5, .data⟩ (by simp) rfl _ _ rfl rfl
      have f9 : ac.eval (.tmp 82) = .bool qw := haft ⟨9, .data⟩ (by simp) rfl _ _ rfl rfl
      exact b_same hi hI rfl _ (run_pick_op (b := true) rfl f5 f9 rfl) rfl
    · intro ac W hI hun haft hi
      have f1 : ac.eval (.tmp 74) = .string X := haft ⟨1, .data⟩ (by simp) rfl _ _ rfl rfl
      exact b_same hi hI rfl _ (run_assign_op rfl f1) rfl
    · intro ac W hI hun haft hi
      have f10 : ac.eval (.tmp 83) = .bool qw := haft ⟨10, .data⟩ (by simp) rfl _ _ rfl rfl
      exact b_same hi hI rfl _ (run_assign_op rfl f10) rfl
  intro vals W hI hp
  have h1 : vals 11 = .string X := hp 11 (by decide)
  have h2 : vals 12 = .bool (qw) := hp 12 (by decide)
  have HBe := Lib.hid (HB0.out.trans (hI.mono HB0.out.size))
  clear hp hI
  simp only [layN, List.size_toArray, List.length_cons, List.length_nil, List.range, List.range.loop, if_true, List.getElem?_toArray, List.getElem?_cons_zero, List.getElem?_cons_succ, Act.put, List.setIfInBounds_toArray, List.set_cons_zero, List.set_cons_succ, Nat.zero_add, Nat.reduceAdd, h1, h2]
  clear h1 h2
  go_wp2_with fail
  go_ret2
  exact ⟨rfl, by first | exact HBe.out | (rw [HBs.out] at *; exact HBe.out) | (rw [← HBs.out]; exact HBe.out)⟩

set_option maxRecDepth 100000 in
set_option maxHeartbeats 4000000 in
theorem rone3_any (n : Int) (w : World) (h1 : -100000000000000000 ≤ n) (h2 : n ≤ 100000000000000000) : Calls Tryz.prog 43 #[tkV (3, n, [])] w (Gives w (.tuple #[.string ⟨(Lib.itoa n).toArray⟩, .bool (decide (0 ≤ n) && decide (n ≤ 1099511627776))])) := by
  obtain ⟨c1, hc1⟩ : ∃ q, decide ((0 : Int) ≤ n) = q := ⟨_, rfl⟩
  obtain ⟨c2, hc2⟩ : ∃ q, decide (n ≤ (1099511627776 : Int)) = q := ⟨_, rfl⟩
  rw [hc1, hc2]
  have HC1 := Lib.hid hc1
  have HC2 := Lib.hid hc2
  have HDg := Lib.hid (fun W => digits_wide 17 n W (by omega) (by omega))
  unfold sv at HDg
  clear hc1 hc2 h1 h2
  unfold tkV
  dsimp only
  obtain ⟨Dg, hDg⟩ : ∃ D : ByteArray, ⟨(Lib.itoa n).toArray⟩ = D := ⟨_, rfl⟩
  rw [hDg] at HDg ⊢
  clear hDg
  go_enter Tryz.func43, Tryz.ntmps43
  go_upto_region 7 with fail
  have HB0 := Lib.hid (alloc_below w (.cells #[.int .i64 3, .int .i64 n, .string ⟨#[]⟩] 43))
  have HB := Lib.hid (show Blk (w.alloc (.cells #[.int .i64 3, .int .i64 n, .string ⟨#[]⟩] 43)) w.heap.size 43 #[.int .i64 3, .int .i64 n, .string ⟨#[]⟩] from Blk.new _ _ _)
  obtain ⟨W0, hW0⟩ : ∃ W0, w.alloc (.cells #[.int .i64 3, .int .i64 n, .string ⟨#[]⟩] 43) = W0 := ⟨_, rfl⟩
  rw [hW0] at HB HB0 ⊢
  obtain ⟨b, hb⟩ : ∃ b, w.heap.size = b := ⟨_, rfl⟩
  rw [hb] at HB ⊢
  have HBs := Lib.hid hb
  clear hW0 hb
  refine wp_region_any (by kernel_rfl) ?_
  refine wpAny_below (fun iq uq _ => uq = ([(.pointer (some ⟨b, 1, none⟩) : Value), .int .i64 n, .string Dg, .pointer (some ⟨b, 2, none⟩), .string ⟨#[]⟩, .bool true, .bool true, .pointer (some ⟨b, 1, none⟩), .int .i64 n, .bool c1, .bool c1, .bool c1, vB (c1) (.pointer (some ⟨b, 1, none⟩)), vB (c1) (.int .i64 n), vB (c1) (.bool c2), .bool (c1 && c2), .string Dg, .bool (c1 && c2)] : List Value).getD iq undef) _ W0 (by kernel_rfl) (by kernel_rfl) (by kernel_rfl) (fun i v w w' _ h => h) ?_ ?_
  · refine ⟨?_, ?_, ?_, ?_, ?_, ?_, ?_, ?_, ?_, ?_, ?_, ?_, ?_, ?_, ?_, ?_, ?_, ?_, trivial⟩
    · intro ac W hI hun haft hi
      have e1 : ac.eval (.tmp 1) = .pointer (some ⟨b, 0, none⟩) := hun 1 (by kernel_rfl)
      exact b_same hi hI rfl _ (run_fieldAddr_any rfl e1 (at_tk1 b W)) rfl
    · intro ac W hI hun haft hi
      have f0 : ac.eval (.tmp 41) = .pointer (some ⟨b, 1, none⟩) := haft ⟨0, .data⟩ (by simp) rfl _ _ rfl rfl
      exact b_same hi hI rfl _ (run_loadint_op rfl f0 Tryz.underlying3 ((Blk.cell (Blk.below HB.out hI (Blk.lt HB.out)) 1).trans rfl)) rfl
    · intro ac W hI hun haft hi
      have f1 : ac.eval (.tmp 42) = .int .i64 n := haft ⟨1, .data⟩ (by simp) rfl _ _ rfl rfl
      refine b_call hi hI rfl _ _ (run_call_op (args := #[.int .i64 n]) rfl (by simp [f1]) (by kernel_rfl)) ?_
      exact (HDg.out W).mono fun e w' H => ⟨_, H.1, rfl, H.2⟩
    · intro ac W hI hun haft hi
      have e1 : ac.eval (.tmp 1) = .pointer (some ⟨b, 0, none⟩) := hun 1 (by kernel_rfl)
      exact b_same hi hI rfl _ (run_fieldAddr_any rfl e1 (at_tk2 b W)) rfl
    · intro ac W hI hun haft hi
      have f3 : ac.eval (.tmp 44) = .pointer (some ⟨b, 2, none⟩) := haft ⟨3, .data⟩ (by simp) rfl _ _ rfl rfl
      exact b_same hi hI rfl _ (run_loadstr_op rfl f3 Tryz.underlying9 ((Blk.cell (Blk.below HB.out hI (Blk.lt HB.out)) 2).trans rfl)) rfl
    · intro ac W hI hun haft hi
      have f4 : ac.eval (.tmp 45) = .string ⟨#[]⟩ := haft ⟨4, .data⟩ (by simp) rfl _ _ rfl rfl
      exact b_same hi hI rfl _ (run_bin_op rfl f4 rfl (gd_strT _ _ _ _ _ _ _) (eq_emp W)) rfl
    · intro ac W hI hun haft hi
      have f5 : ac.eval (.tmp 46) = .bool true := haft ⟨5, .data⟩ (by simp) rfl _ _ rfl rfl
      exact b_same hi hI rfl _ (run_move_op rfl f5) rfl
    · intro ac W hI hun haft hi
      have fg : ac.eval (.tmp 47) = .bool true := haft ⟨6, .guard⟩ (by simp) rfl _ _ rfl rfl
      have e1 : ac.eval (.tmp 1) = .pointer (some ⟨b, 0, none⟩) := hun 1 (by kernel_rfl)
      exact b_same hi hI (guard_ok rfl rfl rfl fg) _ (run_fieldAddr_any rfl e1 (at_tk1 b W)) rfl
    · intro ac W hI hun haft hi
      have fg : ac.eval (.tmp 47) = .bool true := haft ⟨6, .guard⟩ (by simp) rfl _ _ rfl rfl
      have f7 : ac.eval (.tmp 48) = .pointer (some ⟨b, 1, none⟩) := haft ⟨7, .data⟩ (by simp) rfl _ _ rfl rfl
      exact b_same hi hI (guard_ok rfl rfl rfl fg) _ (run_loadint_op rfl f7 Tryz.underlying3 ((Blk.cell (Blk.below HB.out hI (Blk.lt HB.out)) 1).trans rfl)) rfl
    · intro ac W hI hun haft hi
      have fg : ac.eval (.tmp 47) = .bool true := haft ⟨6, .guard⟩ (by simp) rfl _ _ rfl rfl
      have f8 : ac.eval (.tmp 49) = .int .i64 n := haft ⟨8, .data⟩ (by simp) rfl _ _ rfl rfl
      exact b_same hi hI (guard_ok rfl rfl rfl fg) _ (run_bin_op rfl f8 rfl (guardIT _ _ _ _ _ _ _ _ _) (ge_isT n 0 _ HC1.out W)) rfl
    · intro ac W hI hun haft hi
      have f6 : ac.eval (.tmp 47) = .bool true := haft ⟨6, .data⟩ (by simp) rfl _ _ rfl rfl
      have f9 : ac.eval (.tmp 50) = .bool c1 := haft ⟨9, .data⟩ (by simp) rfl _ _ rfl rfl
      exact b_same hi hI rfl _ (run_pick_op (b := true) rfl f6 f9 rfl) rfl
    · intro ac W hI hun haft hi
      have f10 : ac.eval (.tmp 51) = .bool c1 := haft ⟨10, .data⟩ (by simp) rfl _ _ rfl rfl
      exact b_same hi hI rfl _ (run_move_op rfl f10) rfl
    · intro ac W hI hun haft hi
      have fg : ac.eval (.tmp 52) = .bool c1 := haft ⟨11, .guard⟩ (by simp) rfl _ _ rfl rfl
      have e1 : ac.eval (.tmp 1) = .pointer (some ⟨b, 0, none⟩) := hun 1 (by kernel_rfl)
      cases c1
      case false => exact b_skip hi hI (guard_no rfl rfl rfl (.inl fg)) rfl
      case true =>
        exact b_same hi hI (guard_ok rfl rfl rfl fg) _ (run_fieldAddr_any rfl e1 (at_tk1 b W)) rfl
    · intro ac W hI hun haft hi
      have fg : ac.eval (.tmp 52) = .bool c1 := haft ⟨11, .guard⟩ (by simp) rfl _ _ rfl rfl
      have f12 : ac.eval (.tmp 53) = vB (c1) (.pointer (some ⟨b, 1, none⟩)) := haft ⟨12, .data⟩ (by simp) rfl _ _ rfl rfl
      cases c1
      case false => exact b_skip hi hI (guard_no rfl rfl rfl (.inl fg)) rfl
      case true =>
        exact b_same hi hI (guard_ok rfl rfl rfl fg) _ (run_loadint_op rfl f12 Tryz.underlying3 ((Blk.cell (Blk.below HB.out hI (Blk.lt HB.out)) 1).trans rfl)) rfl
    · intro ac W hI hun haft hi
      have fg : ac.eval (.tmp 52) = .bool c1 := haft ⟨11, .guard⟩ (by simp) rfl _ _ rfl rfl
      have f13 : ac.eval (.tmp 54) = vB (c1) (.int .i64 n) := haft ⟨13, .data⟩ (by simp) rfl _ _ rfl rfl
      cases c1
      case false => exact b_skip hi hI (guard_no rfl rfl rfl (.inl fg)) rfl
      case true =>
        exact b_same hi hI (guard_ok rfl rfl rfl fg) _ (run_bin_op rfl f13 rfl (guardIT _ _ _ _ _ _ _ _ _) (le_isT n 1099511627776 _ HC2.out W)) rfl
    · intro ac W hI hun haft hi
      have f11 : ac.eval (.tmp 52) = .bool c1 := haft ⟨11, .data⟩ (by simp) rfl _ _ rfl rfl
      have f14 : ac.eval (.tmp 55) = vB (c1) (.bool c2) := haft ⟨14, .data⟩ (by simp) rfl _ _ rfl rfl
      cases c1
      case true => exact b_same hi hI rfl _ (run_pick_op (b := true) rfl f11 f14 rfl) rfl
      case false => exact b_same hi hI rfl _ (run_pick_op (b := false) rfl f11 f14 rfl) rfl
    · intro ac W hI hun haft hi
      have f2 : ac.eval (.tmp 43) = .string Dg := haft ⟨2, .data⟩ (by simp) rfl _ _ rfl rfl
      exact b_same hi hI rfl _ (run_assign_op rfl f2) rfl
    · intro ac W hI hun haft hi
      have f15 : ac.eval (.tmp 56) = .bool (c1 && c2) := haft ⟨15, .data⟩ (by simp) rfl _ _ rfl rfl
      exact b_same hi hI rfl _ (run_assign_op rfl f15) rfl
  intro vals W hI hp
  have h1 : vals 16 = .string Dg := hp 16 (by decide)
  have h2 : vals 17 = .bool (c1 && c2) := hp 17 (by decide)
  have HBe := Lib.hid (HB0.out.trans (hI.mono HB0.out.size))
  clear hp hI
  simp only [layN, List.size_toArray, List.length_cons, List.length_nil, List.range, List.range.loop, if_true, List.getElem?_toArray, List.getElem?_cons_zero, List.getElem?_cons_succ, Act.put, List.setIfInBounds_toArray, List.set_cons_zero, List.set_cons_succ, Nat.zero_add, Nat.reduceAdd, h1, h2]
  clear h1 h2
  go_wp2_with fail
  go_ret2
  exact ⟨rfl, by first | exact HBe.out | (rw [HBs.out] at *; exact HBe.out) | (rw [← HBs.out]; exact HBe.out)⟩

set_option maxRecDepth 100000 in
set_option maxHeartbeats 4000000 in
theorem rone4_any (x : List UInt8) (w : World) (hx : x.length ≤ 1000000) : Calls Tryz.prog 43 #[tkV (4, 0, x)] w (Gives w (.tuple #[.string ⟨(textB 3 0 x).toArray⟩, .bool (rightB 3 0 x)])) := by
  obtain ⟨rr, hrr⟩ : ∃ q, rightB 3 0 x = q := ⟨_, rfl⟩
  rw [hrr]
  have HTx := Lib.hid (fun W => reftext_any 3 0 ⟨x.toArray⟩ W (by rw [size_mk]; omega))
  have HRt := Lib.hid (fun W => refright_any 3 0 ⟨x.toArray⟩ W (by rw [size_mk]; omega))
  rw [show (ByteArray.mk x.toArray).data.toList = x by simp] at HTx HRt
  rw [hrr] at HRt
  unfold valV at HTx HRt
  unfold sv at HTx
  clear hx hrr
  obtain ⟨Dg, hDg⟩ : ∃ D : ByteArray, ⟨(textB 3 0 x).toArray⟩ = D := ⟨_, rfl⟩
  rw [hDg] at HTx ⊢
  clear hDg
  unfold tkV
  dsimp only
  obtain ⟨X, hX⟩ : ∃ X : ByteArray, ⟨x.toArray⟩ = X := ⟨_, rfl⟩
  rw [hX] at HTx HRt ⊢
  clear hX
  go_enter Tryz.func43, Tryz.ntmps43
  go_upto_region 9 with fail
  have HB0 := Lib.hid (alloc_below w (.cells #[.int .i64 4, .int .i64 0, .string X] 43))
  have HB := Lib.hid (show Blk (w.alloc (.cells #[.int .i64 4, .int .i64 0, .string X] 43)) w.heap.size 43 #[.int .i64 4, .int .i64 0, .string X] from Blk.new _ _ _)
  obtain ⟨W0, hW0⟩ : ∃ W0, w.alloc (.cells #[.int .i64 4, .int .i64 0, .string X] 43) = W0 := ⟨_, rfl⟩
  rw [hW0] at HB HB0 ⊢
  obtain ⟨b, hb⟩ : ∃ b, w.heap.size = b := ⟨_, rfl⟩
  rw [hb] at HB ⊢
  have HBs := Lib.hid hb
  clear hW0 hb
  have HBk := HB.out
  obtain ⟨c0, c1, c2, f0, f1, f2, hltw⟩ := HBk.three
  go_upto_region 10 with fail
  clear c0 c1 c2 f0 f1 f2 hltw
  have HA4 := Lib.hid (HB0.out.trans ((alloc_below W0 (.cells #[.int .i64 3, .int .i64 0, .string X] 47)).mono HB0.out.size))
  have HB4 := Lib.hid (show Blk (W0.alloc (.cells #[.int .i64 3, .int .i64 0, .string X] 47)) W0.heap.size 47 #[.int .i64 3, .int .i64 0, .string X] from Blk.new _ _ _)
  have HB := Lib.hid (Blk.below HB.out (alloc_below W0 (.cells #[.int .i64 3, .int .i64 0, .string X] 47)) (Blk.lt HB.out))
  obtain ⟨W4, hW4⟩ : ∃ W4, W0.alloc (.cells #[.int .i64 3, .int .i64 0, .string X] 47) = W4 := ⟨_, rfl⟩
  rw [hW4] at HB HB4 HA4 ⊢
  obtain ⟨b4, hb4⟩ : ∃ b, W0.heap.size = b := ⟨_, rfl⟩
  rw [hb4] at HB4 ⊢
  clear hW4 hb4
  refine wp_region_any (by kernel_rfl) ?_
  refine wpAny_below (fun iq uq _ => uq = ([(.agg #[.int .i64 3, .int .i64 0, .string X] : Value), .string Dg, .pointer (some ⟨b, 1, none⟩), .int .i64 0, .bool true, .bool true, .agg #[.int .i64 3, .int .i64 0, .string X], .bool rr, .bool rr, .string Dg, .bool rr] : List Value).getD iq undef) _ W4 (by kernel_rfl) (by kernel_rfl) (by kernel_rfl) (fun i v w w' _ h => h) ?_ ?_
  · refine ⟨?_, ?_, ?_, ?_, ?_, ?_, ?_, ?_, ?_, ?_, ?_, trivial⟩
    · intro ac W hI hun haft hi
      have e4 : ac.eval (.tmp 4) = .pointer (some ⟨b4, 0, none⟩) := hun 4 (by kernel_rfl)
      exact b_same hi hI rfl _ (run_load_op rfl e4 (Blk.below HB4.out hI (Blk.lt HB4.out)) Tryz.underlying47 rfl infoVl) rfl
    · intro ac W hI hun haft hi
      have f0 : ac.eval (.tmp 62) = .agg #[.int .i64 3, .int .i64 0, .string X] := haft ⟨0, .data⟩ (by simp) rfl _ _ rfl rfl
      refine b_call hi hI rfl _ _ (run_call_op (args := #[.agg #[.int .i64 3, .int .i64 0, .string X]]) rfl (by simp [f0]) (by kernel_rfl)) ?_
      exact (HTx.out W).mono fun e w' H => ⟨_, H.1, rfl, H.2⟩
    · intro ac W hI hun haft hi
      have e1 : ac.eval (.tmp 1) = .pointer (some ⟨b, 0, none⟩) := hun 1 (by kernel_rfl)
      exact b_same hi hI rfl _ (run_fieldAddr_any rfl e1 (at_tk1 b W)) rfl
    · intro ac W hI hun haft hi
      have f2 : ac.eval (.tmp 64) = .pointer (some ⟨b, 1, none⟩) := haft ⟨2, .data⟩ (by simp) rfl _ _ rfl rfl
      exact b_same hi hI rfl _ (run_loadint_op rfl f2 Tryz.underlying3 ((Blk.cell (Blk.below HB.out hI (Blk.lt HB.out)) 1).trans rfl)) rfl
    · intro ac W hI hun haft hi
      have f3 : ac.eval (.tmp 65) = .int .i64 0 := haft ⟨3, .data⟩ (by simp) rfl _ _ rfl rfl
      exact b_same hi hI rfl _ (run_bin_op rfl f3 rfl (guardIT _ _ _ _ _ _ _ _ _) (eq_isT 0 0 true rfl W)) rfl
    · intro ac W hI hun haft hi
      have f4 : ac.eval (.tmp 66) = .bool true := haft ⟨4, .data⟩ (by simp) rfl _ _ rfl rfl
      exact b_same hi hI rfl _ (run_move_op rfl f4) rfl
    · intro ac W hI hun haft hi
      have fg : ac.eval (.tmp 67) = .bool true := haft ⟨5, .guard⟩ (by simp) rfl _ _ rfl rfl
      have e4 : ac.eval (.tmp 4) = .pointer (some ⟨b4, 0, none⟩) := hun 4 (by kernel_rfl)
      exact b_same hi hI (guard_ok rfl rfl rfl fg) _ (run_load_op rfl e4 (Blk.below HB4.out hI (Blk.lt HB4.out)) Tryz.underlying47 rfl infoVl) rfl
    · intro ac W hI hun haft hi
      have fg : ac.eval (.tmp 67) = .bool true := haft ⟨5, .guard⟩ (by simp) rfl _ _ rfl rfl
      have f6 : ac.eval (.tmp 68) = .agg #[.int .i64 3, .int .i64 0, .string X] := haft ⟨6, .data⟩ (by simp) rfl _ _ rfl rfl
      refine b_call hi hI (guard_ok rfl rfl rfl fg) _ _ (run_call_op (args := #[.agg #[.int .i64 3, .int .i64 0, .string X]]) rfl (by simp [f6]) (by kernel_rfl)) ?_
      exact (HRt.out W).mono fun e w' H => ⟨_, H.1, rfl, H.2⟩
    · intro ac W hI hun haft hi
      have f5 : ac.eval (.tmp 67) = .bool true := haft ⟨5, .data⟩ (by simp) rfl _ _ rfl rfl
      have f7 : ac.eval (.tmp 69) = .bool rr := haft ⟨7, .data⟩ (by simp) rfl _ _ rfl rfl
      exact b_same hi hI rfl _ (run_pick_op (b := true) rfl f5 f7 rfl) rfl
    · intro ac W hI hun haft hi
      have f1 : ac.eval (.tmp 63) = .string Dg := haft ⟨1, .data⟩ (by simp) rfl _ _ rfl rfl
      exact b_same hi hI rfl _ (run_assign_op rfl f1) rfl
    · intro ac W hI hun haft hi
      have f8 : ac.eval (.tmp 70) = .bool rr := haft ⟨8, .data⟩ (by simp) rfl _ _ rfl rfl
      exact b_same hi hI rfl _ (run_assign_op rfl f8) rfl
  intro vals W hI hp
  have h1 : vals 9 = .string Dg := hp 9 (by decide)
  have h2 : vals 10 = .bool (rr) := hp 10 (by decide)
  have HBe := Lib.hid (HA4.out.trans (hI.mono HA4.out.size))
  clear hp hI
  simp only [layN, List.size_toArray, List.length_cons, List.length_nil, List.range, List.range.loop, if_true, List.getElem?_toArray, List.getElem?_cons_zero, List.getElem?_cons_succ, Act.put, List.setIfInBounds_toArray, List.set_cons_zero, List.set_cons_succ, Nat.zero_add, Nat.reduceAdd, h1, h2]
  clear h1 h2
  go_wp2_with fail
  go_ret2
  exact ⟨rfl, by first | exact HBe.out | (rw [HBs.out] at *; exact HBe.out) | (rw [← HBs.out]; exact HBe.out)⟩

end Go.Proofs.YtdabanocofimmaaGreatDoor
