/-
  hedgerowlaw02.NumPuts: the walk: for all bytes, numbers and texts the call returns true, and nothing that was there has turned. Conditions: none.
-/
import Derived.Test.YtibipkbnncadlaaNumFixed
import Derived.Test.YtibipkbnncadlaaNumRef
import Derived.Test.YtibipkbnncadlaaOrder
import Derived.Deep.DeepCutAuto
namespace Go.Proofs.Ytibipkbnncadlaa
open Go.RowKit

/-- append onto an empty slice without room: nothing that was there turns. -/
theorem run_append_none {P : Program} {α : Type} {f : α → Value} (w : World) (t ty e : TypeId) (i : TypeInfo) (z : Value) (bytes : Nat) (ht : P.underlying t = some (.slice e)) (hi : P.info? e = some i) (hz : i.zero = some z)
    (hsize : i.size = 1) (hby : i.bytes = bytes) (g : Nat) (v2 : Value) (l : List α) (hl : Sl f w v2 l)
    (hbytes : l.length * bytes ≤ 140737488355328) (hnm : l.length ≤ 140737488355328) :
    ∃ v' w', (Builtin.append_ #[t, t] ty #[.slice (some ⟨g, 0, none⟩) 0 0, v2]).run P w = .ok v' w' ∧ Sl f w' v' l ∧ Below w.heap.size w w' := by
  obtain ⟨A, c, rfl, hlc, hx⟩ := hl
  by_cases hn : l = []
  · subst hn
    refine ⟨.slice (some ⟨g, 0, none⟩) 0 0, w, ?_, ⟨_, 0, rfl, Nat.le_refl _, fun h => absurd rfl h⟩, Below.refl _ _⟩
    rcases A with _ | ad
    · simp [Builtin.append_, run_underlying ht, sizeOf, typeInfo, hi, Builtin.lenOf, Builtin.firstCells, storeCells]
    · simp [Builtin.append_, run_underlying ht, sizeOf, typeInfo, hi, Builtin.lenOf, Builtin.firstCells, loadCells, loadCellsFrom, storeCells]
  · obtain ⟨b, o, rfl, hb, hcell⟩ := hx hn
    have hl0 : 0 < l.length := List.length_pos_iff.2 hn
    have hr := run_append_grow (P := P) w t ty e i z ht hi hz ⟨g, 0, none⟩ 0 0 [] (by simp) (by simp) ⟨b, o, none⟩ l.length c (l.map f) (by simp [hsize])
      (fun j u hu => by
        obtain ⟨x, hx1, rfl⟩ : ∃ x, l[j]? = some x ∧ f x = u := by simpa using hu
        rw [Addr.add_lit]; exact hcell j x hx1) (by omega) (by omega) (growslice_fits (by omega) (by rw [hby, Nat.zero_add]; exact hbytes))
    refine ⟨_, _, hr, ?_, (Below.refl _ _).drew.alloc (by simp) _⟩
    have hge := grownCap_ge w (0 + l.length) 0 e
    refine ⟨_, _, by rw [Nat.zero_add], by rw [Nat.zero_add] at hge; exact hge, fun _ => ⟨w.heap.size, 0, rfl, by simp, fun j u hu => ?_⟩⟩
    have hB := Blk.new w.drew e (([] : List Value).toArray ++ (l.map f).toArray ++ Builtin.zeroCells z.cells (grownCap w (0 + l.length) 0 e - (0 + l.length)))
    have hc := hB.cell (0 + j)
    have hjl : j < l.length := (List.getElem?_eq_some_iff.1 hu).1
    refine hc.trans ?_
    rw [Nat.zero_add, Array.getElem?_append_left (by simp; exact hjl)]
    simp [hu]

/-- What a slot holds: just this; a slice that reads so; an empty slice without room. -/
def pOf (k : Option Value × Option (List UInt8)) (v : Value) (w : World) : Prop :=
  match k with
  | (some x, _) => v = x
  | (none, some l) => Sl bv w v l
  | (none, none) => ∃ g, v = .slice (some ⟨g, 0, none⟩) 0 0
theorem pOf_stable (T : List (Option Value × Option (List UInt8))) (i : Nat) (v : Value) (w w' : World) (hb : Below w.heap.size w w') (h : pOf (T.getD i (none, none)) v w) : pOf (T.getD i (none, none)) v w' := by
  generalize T.getD i (none, none) = k at *
  obtain ⟨x, y⟩ := k
  cases x with
  | some x => exact h
  | none =>
    cases y with
    | some l => exact Sl.below h hb
    | none => exact h

-- enterAll: calls of functions with a body
theorem enterPut (args : Array Value) (w : World) : (callFunc 8 args).run Try.prog w = .ok (.enter 8 args) w := by kernel_rfl
theorem enterSig (args : Array Value) (w : World) : (callFunc 10 args).run Try.prog w = .ok (.enter 10 args) w := by kernel_rfl
theorem enterText (args : Array Value) (w : World) : (callFunc 12 args).run Try.prog w = .ok (.enter 12 args) w := by kernel_rfl
theorem enterRPut (args : Array Value) (w : World) : (callFunc 9 args).run Try.prog w = .ok (.enter 9 args) w := by kernel_rfl
theorem enterRSig (args : Array Value) (w : World) : (callFunc 11 args).run Try.prog w = .ok (.enter 11 args) w := by kernel_rfl
theorem enterRText (args : Array Value) (w : World) : (callFunc 13 args).run Try.prog w = .ok (.enter 13 args) w := by kernel_rfl
def strV (l : List UInt8) : Value := .string ⟨l.toArray⟩

theorem neq_strV (t : TypeId) (l : List UInt8) (w : World) : (binOp .neq t (strV l) (strV l)).run Try.prog w = .ok (.bool false) w := by
  unfold strV
  rw [binOp_string_neq]
  simp [Sem.run_pure]

theorem same_str {X Y : ByteArray} (h : X.data.toList = Y.data.toList) : X = Y := by
  obtain ⟨⟨k⟩⟩ := X
  obtain ⟨⟨m⟩⟩ := Y
  simp at h
  subst h
  rfl
theorem z_rng (n : Int) : -1152921504606846976 ≤ n.tmod 1152921504606846976 ∧ n.tmod 1152921504606846976 ≤ 1152921504606846976 := by
  rcases Int.lt_or_le n 0 with h | h
  · have := Int.neg_tmod (-n) 1152921504606846976
    rw [Int.neg_neg] at this
    rw [this, Int.tmod_eq_emod_of_nonneg (by omega)]
    omega
  · rw [Int.tmod_eq_emod_of_nonneg h]; omega
theorem puts1 (K Z : Int) (x : List UInt8) (h0 : 0 ≤ K) (h1 : K ≤ 4611686018427387903) : rNum ([] ++ putB K ++ sigB Z ++ (putB x.length ++ x), false) 4611686018427387903 = (K, (sigB Z ++ (putB x.length ++ (x ++ [])), false)) := by
  have e : ([] ++ putB K ++ sigB Z ++ (putB x.length ++ x) : List UInt8) = putB K ++ (sigB Z ++ (putB x.length ++ (x ++ []))) := by simp
  rw [e]; exact rNum_put K _ _ h0 (by omega) h1

set_option maxHeartbeats 4000000 in
set_option maxRecDepth 100000 in
theorem puts_walk (v : Value) (l : List UInt8) (n : Int) (s : ByteArray) (w : World) (h : Sl bv w v l) :
    Calls Try.prog 3 #[v, .int .i64 n, .string s] w (Law w) := by
  have hfx := fixed_any w
  have HFX := Lib.hid hfx; clear hfx
  obtain ⟨i0, hi, hz0, hz1, hz2⟩ := info_parts infoB
  have hf0 := h.form
  obtain ⟨A, c, rfl⟩ := hf0
  by_cases h1 : 100 < l.length
  · go_enter Try.func3, Try.ntmps3
    go_wp2_with fail
    refine HFX.out.mono ?_
    rintro e w1 ⟨rfl, hb1⟩
    go_wp2
    go_ret
    exact ⟨rfl, hb1⟩
  by_cases h2 : 200 < s.size
  · go_enter Try.func3, Try.ntmps3
    go_wp2_with fail
    refine HFX.out.mono ?_
    rintro e w1 ⟨rfl, hb1⟩
    go_wp2
    go_ret
    exact ⟨rfl, hb1⟩
  go_enter Try.func3, Try.ntmps3
  go_wp2_with fail
  refine HFX.out.mono ?_
  rintro e w1 ⟨rfl, hb1⟩
  have hl1 := h.below hb1
  go_upto_region 5 with fail
  go_cut [56] (fun x wx => x = .bool false ∧ Below w1.heap.size w1 wx)
  case first =>
    refine wp_region_any (by kernel_rfl) ?_
    refine wpAny_below (fun i => pOf (([(none, none), (some (.slice A l.length c), none), (none, some l), (some (.int .i64 n), none), (none, some (l ++ putB n)), (some (strV (l ++ putB n)), none), (some (.slice A l.length c), none), (some (.int .i64 n), none), (none, some (l ++ putB n)), (some (strV (l ++ putB n)), none), (some (.bool false), none), (some (.bool false), none),
      (none, none), (some (.slice A l.length c), none), (none, some l), (some (.int .i64 n), none), (none, some (l ++ sigB n)), (some (strV (l ++ sigB n)), none), (some (.slice A l.length c), none), (some (.int .i64 n), none), (none, some (l ++ sigB n)), (some (strV (l ++ sigB n)), none), (some (.bool false), none), (some (.bool false), none), (some (.bool false), none),
      (none, none), (some (.slice A l.length c), none), (none, some l), (some (.string s), none), (none, some (l ++ (putB s.size ++ s.data.toList))), (some (strV (l ++ (putB s.size ++ s.data.toList))), none), (some (.slice A l.length c), none), (some (.string s), none), (none, some (l ++ (putB s.size ++ s.data.toList))), (some (strV (l ++ (putB s.size ++ s.data.toList))), none), (some (.bool false), none), (some (.bool false), none)] : List (Option Value × Option (List UInt8))).getD i (none, none))) _ w1 (by kernel_rfl) (by kernel_rfl) (by kernel_rfl) (fun i v w w' => pOf_stable _ i v w w') ?_ ?_
    · refine ⟨?_, ?_, ?_, ?_, ?_, ?_, ?_, ?_, ?_, ?_, ?_, ?_, ?_, ?_, ?_, ?_, ?_, ?_, ?_, ?_, ?_, ?_, ?_, ?_, ?_, ?_, ?_, ?_, ?_, ?_, ?_, ?_, ?_, ?_, ?_, ?_, ?_, trivial⟩
      · intro a W hI hun haft hi
        exact b_val hi hI rfl (.slice (some ⟨W.heap.size, 0, none⟩) 0 0) (W.alloc (.cells #[] 5)) (by simp [execOp, go_sem]) ((Below.refl _ _).alloc (Nat.le_refl _) _) ⟨_, rfl⟩
      · intro a W hI hun haft hi
        exact b_same hi hI rfl _ (run_move_op rfl rfl) (hun 0 (by kernel_rfl))
      · intro a W hI hun haft hi
        have f0 := haft ⟨0, .data⟩ (by simp) rfl _ _ rfl rfl
        have f1 := haft ⟨1, .data⟩ (by simp) rfl _ _ rfl rfl
        obtain ⟨g, f0⟩ := f0
        obtain ⟨v', w', hr, hs, hb⟩ := run_append_none (P := Try.prog) W 22 22 5 i0 (.int .u8 0) 1 Try.underlying22 (by assumption) hz0 hz1 hz2 g _ l (hl1.below hI) (by omega) (by omega)
        exact b_val hi hI rfl v' w' (run_append_op rfl f0 f1 hr) hb hs
      · intro a W hI hun haft hi
        exact b_same hi hI rfl _ (run_move_op rfl rfl) (hun 1 (by kernel_rfl))
      · intro a W hI hun haft hi
        have f2 := haft ⟨2, .data⟩ (by simp) rfl _ _ rfl rfl
        have f3 := haft ⟨3, .data⟩ (by simp) rfl _ _ rfl rfl
        refine b_call hi hI rfl _ _ (run_call_op (args := #[a.eval (.tmp 22), a.eval (.tmp 23)]) rfl (by simp) (enterPut _ _)) ?_
        have e3 : a.eval (.tmp 23) = .int .i64 n := f3
        rw [e3]
        exact (put_any _ l n W f2 (by omega)).mono fun e w' H => by
          obtain ⟨v', he, ho, hb⟩ := H
          exact ⟨v', he, Sl.of_own ho, hb⟩
      · intro a W hI hun haft hi
        have f4 := haft ⟨4, .data⟩ (by simp) rfl _ _ rfl rfl
        exact b_same hi hI rfl _ (run_convert_op rfl rfl (run_string_sl (P := Try.prog) W 22 9 5 Try.underlying22 Try.underlying5 Try.underlying9 _ _ f4)) rfl
      · intro a W hI hun haft hi
        exact b_same hi hI rfl _ (run_move_op rfl rfl) (hun 0 (by kernel_rfl))
      · intro a W hI hun haft hi
        exact b_same hi hI rfl _ (run_move_op rfl rfl) (hun 1 (by kernel_rfl))
      · intro a W hI hun haft hi
        have f6 := haft ⟨6, .data⟩ (by simp) rfl _ _ rfl rfl
        have f7 := haft ⟨7, .data⟩ (by simp) rfl _ _ rfl rfl
        refine b_call hi hI rfl _ _ (run_call_op (args := #[a.eval (.tmp 26), a.eval (.tmp 27)]) rfl (by simp) (enterRPut _ _)) ?_
        have e2 : a.eval (.tmp 26) = .slice A l.length c := f6
        have e3 : a.eval (.tmp 27) = .int .i64 n := f7
        rw [e2, e3]
        exact (refput_any _ l n W (hl1.below hI) (by omega)).mono fun e w' H => by
          obtain ⟨v', he, ho, hb⟩ := H
          exact ⟨v', he, ho, hb⟩
      · intro a W hI hun haft hi
        have f8 := haft ⟨8, .data⟩ (by simp) rfl _ _ rfl rfl
        exact b_same hi hI rfl _ (run_convert_op rfl rfl (run_string_sl (P := Try.prog) W 22 9 5 Try.underlying22 Try.underlying5 Try.underlying9 _ _ f8)) rfl
      · intro a W hI hun haft hi
        have f5 := haft ⟨5, .data⟩ (by simp) rfl _ _ rfl rfl
        have f9 := haft ⟨9, .data⟩ (by simp) rfl _ _ rfl rfl
        exact b_same hi hI rfl _ (run_bin_op rfl f5 f9 (by simp [eqGuard, strV]) (neq_strV _ _ _)) rfl
      · intro a W hI hun haft hi
        have f10 := haft ⟨10, .data⟩ (by simp) rfl _ _ rfl rfl
        exact b_same hi hI rfl _ (run_move_op rfl rfl) f10
      · intro a W hI hun haft hi
        have fg : a.eval (.tmp 31) = .bool false := haft ⟨11, .guard⟩ (by simp) rfl _ _ rfl rfl
        exact b_val hi hI (guard_ok rfl rfl rfl fg) (.slice (some ⟨W.heap.size, 0, none⟩) 0 0) (W.alloc (.cells #[] 5)) (by simp [execOp, go_sem]) ((Below.refl _ _).alloc (Nat.le_refl _) _) ⟨_, rfl⟩
      · intro a W hI hun haft hi
        have fg : a.eval (.tmp 31) = .bool false := haft ⟨11, .guard⟩ (by simp) rfl _ _ rfl rfl
        exact b_same hi hI (guard_ok rfl rfl rfl fg) _ (run_move_op rfl rfl) (hun 0 (by kernel_rfl))
      · intro a W hI hun haft hi
        have fg : a.eval (.tmp 31) = .bool false := haft ⟨11, .guard⟩ (by simp) rfl _ _ rfl rfl
        have f12 := haft ⟨12, .data⟩ (by simp) rfl _ _ rfl rfl
        have f13 := haft ⟨13, .data⟩ (by simp) rfl _ _ rfl rfl
        obtain ⟨g, f12⟩ := f12
        obtain ⟨v', w', hr, hs, hb⟩ := run_append_none (P := Try.prog) W 22 22 5 i0 (.int .u8 0) 1 Try.underlying22 (by assumption) hz0 hz1 hz2 g _ l (hl1.below hI) (by omega) (by omega)
        exact b_val hi hI (guard_ok rfl rfl rfl fg) v' w' (run_append_op rfl f12 f13 hr) hb hs
      · intro a W hI hun haft hi
        have fg : a.eval (.tmp 31) = .bool false := haft ⟨11, .guard⟩ (by simp) rfl _ _ rfl rfl
        exact b_same hi hI (guard_ok rfl rfl rfl fg) _ (run_move_op rfl rfl) (hun 1 (by kernel_rfl))
      · intro a W hI hun haft hi
        have fg : a.eval (.tmp 31) = .bool false := haft ⟨11, .guard⟩ (by simp) rfl _ _ rfl rfl
        have f14 := haft ⟨14, .data⟩ (by simp) rfl _ _ rfl rfl
        have f15 := haft ⟨15, .data⟩ (by simp) rfl _ _ rfl rfl
        refine b_call hi hI (guard_ok rfl rfl rfl fg) _ _ (run_call_op (args := #[a.eval (.tmp 34), a.eval (.tmp 35)]) rfl (by simp) (enterSig _ _)) ?_
        have e3 : a.eval (.tmp 35) = .int .i64 n := f15
        rw [e3]
        exact (signed_any _ l n W f14 (by omega)).mono fun e w' H => by
          obtain ⟨v', he, ho, hb⟩ := H
          exact ⟨v', he, Sl.of_own ho, hb⟩
      · intro a W hI hun haft hi
        have fg : a.eval (.tmp 31) = .bool false := haft ⟨11, .guard⟩ (by simp) rfl _ _ rfl rfl
        have f16 := haft ⟨16, .data⟩ (by simp) rfl _ _ rfl rfl
        exact b_same hi hI (guard_ok rfl rfl rfl fg) _ (run_convert_op rfl rfl (run_string_sl (P := Try.prog) W 22 9 5 Try.underlying22 Try.underlying5 Try.underlying9 _ _ f16)) rfl
      · intro a W hI hun haft hi
        have fg : a.eval (.tmp 31) = .bool false := haft ⟨11, .guard⟩ (by simp) rfl _ _ rfl rfl
        exact b_same hi hI (guard_ok rfl rfl rfl fg) _ (run_move_op rfl rfl) (hun 0 (by kernel_rfl))
      · intro a W hI hun haft hi
        have fg : a.eval (.tmp 31) = .bool false := haft ⟨11, .guard⟩ (by simp) rfl _ _ rfl rfl
        exact b_same hi hI (guard_ok rfl rfl rfl fg) _ (run_move_op rfl rfl) (hun 1 (by kernel_rfl))
      · intro a W hI hun haft hi
        have fg : a.eval (.tmp 31) = .bool false := haft ⟨11, .guard⟩ (by simp) rfl _ _ rfl rfl
        have f18 := haft ⟨18, .data⟩ (by simp) rfl _ _ rfl rfl
        have f19 := haft ⟨19, .data⟩ (by simp) rfl _ _ rfl rfl
        refine b_call hi hI (guard_ok rfl rfl rfl fg) _ _ (run_call_op (args := #[a.eval (.tmp 38), a.eval (.tmp 39)]) rfl (by simp) (enterRSig _ _)) ?_
        have e2 : a.eval (.tmp 38) = .slice A l.length c := f18
        have e3 : a.eval (.tmp 39) = .int .i64 n := f19
        rw [e2, e3]
        exact (refsig_any _ l n W (hl1.below hI) (by omega)).mono fun e w' H => by
          obtain ⟨v', he, ho, hb⟩ := H
          exact ⟨v', he, ho, hb⟩
      · intro a W hI hun haft hi
        have fg : a.eval (.tmp 31) = .bool false := haft ⟨11, .guard⟩ (by simp) rfl _ _ rfl rfl
        have f20 := haft ⟨20, .data⟩ (by simp) rfl _ _ rfl rfl
        exact b_same hi hI (guard_ok rfl rfl rfl fg) _ (run_convert_op rfl rfl (run_string_sl (P := Try.prog) W 22 9 5 Try.underlying22 Try.underlying5 Try.underlying9 _ _ f20)) rfl
      · intro a W hI hun haft hi
        have fg : a.eval (.tmp 31) = .bool false := haft ⟨11, .guard⟩ (by simp) rfl _ _ rfl rfl
        have f17 := haft ⟨17, .data⟩ (by simp) rfl _ _ rfl rfl
        have f21 := haft ⟨21, .data⟩ (by simp) rfl _ _ rfl rfl
        exact b_same hi hI (guard_ok rfl rfl rfl fg) _ (run_bin_op rfl f17 f21 (by simp [eqGuard, strV]) (neq_strV _ _ _)) rfl
      · intro a W hI hun haft hi
        have f11 := haft ⟨11, .data⟩ (by simp) rfl _ _ rfl rfl
        have f22 := haft ⟨22, .data⟩ (by simp) rfl _ _ rfl rfl
        exact b_same hi hI rfl _ (run_pick_op (b := false) rfl f11 rfl f22) rfl
      · intro a W hI hun haft hi
        have f23 := haft ⟨23, .data⟩ (by simp) rfl _ _ rfl rfl
        exact b_same hi hI rfl _ (run_move_op rfl rfl) f23
      · intro a W hI hun haft hi
        have fg : a.eval (.tmp 44) = .bool false := haft ⟨24, .guard⟩ (by simp) rfl _ _ rfl rfl
        exact b_val hi hI (guard_ok rfl rfl rfl fg) (.slice (some ⟨W.heap.size, 0, none⟩) 0 0) (W.alloc (.cells #[] 5)) (by simp [execOp, go_sem]) ((Below.refl _ _).alloc (Nat.le_refl _) _) ⟨_, rfl⟩
      · intro a W hI hun haft hi
        have fg : a.eval (.tmp 44) = .bool false := haft ⟨24, .guard⟩ (by simp) rfl _ _ rfl rfl
        exact b_same hi hI (guard_ok rfl rfl rfl fg) _ (run_move_op rfl rfl) (hun 0 (by kernel_rfl))
      · intro a W hI hun haft hi
        have fg : a.eval (.tmp 44) = .bool false := haft ⟨24, .guard⟩ (by simp) rfl _ _ rfl rfl
        have f25 := haft ⟨25, .data⟩ (by simp) rfl _ _ rfl rfl
        have f26 := haft ⟨26, .data⟩ (by simp) rfl _ _ rfl rfl
        obtain ⟨g, f25⟩ := f25
        obtain ⟨v', w', hr, hs, hb⟩ := run_append_none (P := Try.prog) W 22 22 5 i0 (.int .u8 0) 1 Try.underlying22 (by assumption) hz0 hz1 hz2 g _ l (hl1.below hI) (by omega) (by omega)
        exact b_val hi hI (guard_ok rfl rfl rfl fg) v' w' (run_append_op rfl f25 f26 hr) hb hs
      · intro a W hI hun haft hi
        have fg : a.eval (.tmp 44) = .bool false := haft ⟨24, .guard⟩ (by simp) rfl _ _ rfl rfl
        exact b_same hi hI (guard_ok rfl rfl rfl fg) _ (run_move_op rfl rfl) (hun 2 (by kernel_rfl))
      · intro a W hI hun haft hi
        have fg : a.eval (.tmp 44) = .bool false := haft ⟨24, .guard⟩ (by simp) rfl _ _ rfl rfl
        have f27 := haft ⟨27, .data⟩ (by simp) rfl _ _ rfl rfl
        have f28 := haft ⟨28, .data⟩ (by simp) rfl _ _ rfl rfl
        refine b_call hi hI (guard_ok rfl rfl rfl fg) _ _ (run_call_op (args := #[a.eval (.tmp 47), a.eval (.tmp 48)]) rfl (by simp) (enterText _ _)) ?_
        have e3 : a.eval (.tmp 48) = .string s := f28
        rw [e3]
        exact (text_any _ l s W f27 (by omega)).mono fun e w' H => by
          obtain ⟨v', he, ho, hb⟩ := H
          exact ⟨v', he, Sl.of_own ho, hb⟩
      · intro a W hI hun haft hi
        have fg : a.eval (.tmp 44) = .bool false := haft ⟨24, .guard⟩ (by simp) rfl _ _ rfl rfl
        have f29 := haft ⟨29, .data⟩ (by simp) rfl _ _ rfl rfl
        exact b_same hi hI (guard_ok rfl rfl rfl fg) _ (run_convert_op rfl rfl (run_string_sl (P := Try.prog) W 22 9 5 Try.underlying22 Try.underlying5 Try.underlying9 _ _ f29)) rfl
      · intro a W hI hun haft hi
        have fg : a.eval (.tmp 44) = .bool false := haft ⟨24, .guard⟩ (by simp) rfl _ _ rfl rfl
        exact b_same hi hI (guard_ok rfl rfl rfl fg) _ (run_move_op rfl rfl) (hun 0 (by kernel_rfl))
      · intro a W hI hun haft hi
        have fg : a.eval (.tmp 44) = .bool false := haft ⟨24, .guard⟩ (by simp) rfl _ _ rfl rfl
        exact b_same hi hI (guard_ok rfl rfl rfl fg) _ (run_move_op rfl rfl) (hun 2 (by kernel_rfl))
      · intro a W hI hun haft hi
        have fg : a.eval (.tmp 44) = .bool false := haft ⟨24, .guard⟩ (by simp) rfl _ _ rfl rfl
        have f31 := haft ⟨31, .data⟩ (by simp) rfl _ _ rfl rfl
        have f32 := haft ⟨32, .data⟩ (by simp) rfl _ _ rfl rfl
        refine b_call hi hI (guard_ok rfl rfl rfl fg) _ _ (run_call_op (args := #[a.eval (.tmp 51), a.eval (.tmp 52)]) rfl (by simp) (enterRText _ _)) ?_
        have e2 : a.eval (.tmp 51) = .slice A l.length c := f31
        have e3 : a.eval (.tmp 52) = .string s := f32
        rw [e2, e3]
        exact (reftext_any _ l s W (hl1.below hI) (by omega)).mono fun e w' H => by
          obtain ⟨v', he, ho, hb⟩ := H
          exact ⟨v', he, ho, hb⟩
      · intro a W hI hun haft hi
        have fg : a.eval (.tmp 44) = .bool false := haft ⟨24, .guard⟩ (by simp) rfl _ _ rfl rfl
        have f33 := haft ⟨33, .data⟩ (by simp) rfl _ _ rfl rfl
        exact b_same hi hI (guard_ok rfl rfl rfl fg) _ (run_convert_op rfl rfl (run_string_sl (P := Try.prog) W 22 9 5 Try.underlying22 Try.underlying5 Try.underlying9 _ _ f33)) rfl
      · intro a W hI hun haft hi
        have fg : a.eval (.tmp 44) = .bool false := haft ⟨24, .guard⟩ (by simp) rfl _ _ rfl rfl
        have f30 := haft ⟨30, .data⟩ (by simp) rfl _ _ rfl rfl
        have f34 := haft ⟨34, .data⟩ (by simp) rfl _ _ rfl rfl
        exact b_same hi hI (guard_ok rfl rfl rfl fg) _ (run_bin_op rfl f30 f34 (by simp [eqGuard, strV]) (neq_strV _ _ _)) rfl
      · intro a W hI hun haft hi
        have f24 := haft ⟨24, .data⟩ (by simp) rfl _ _ rfl rfl
        have f35 := haft ⟨35, .data⟩ (by simp) rfl _ _ rfl rfl
        exact b_same hi hI rfl _ (run_pick_op (b := false) rfl f24 rfl f35) rfl
    · intro vals W hI hp
      have hl : vals 36 = .bool false := hp 36 (by decide)
      have HL := Lib.hid hl
      clear hp hl
      simp only [layN, List.size_toArray, List.length_cons, List.length_nil, List.range, List.range.loop, if_true, List.getElem?_toArray, List.getElem?_cons_zero, List.getElem?_cons_succ, Act.put, List.setIfInBounds_toArray, List.set_cons_zero, List.set_cons_succ, Nat.zero_add, Nat.reduceAdd]
      go_wp2_with fail
      go_meet
      exact ⟨HL.out, hI⟩
  case rest =>
    obtain ⟨rfl, hbc⟩ := hcut
    have hb := hb1.trans (hbc.mono hb1.size)
    clear hbc hb1 hl1 h
    obtain ⟨z1, z2⟩ := z_rng n
    by_cases hn : n < 0
    · go_wp2_with fail
      have k1 : (0 : Int) ≤ 0 := Int.le_refl 0
      have k2 : (0 : Int) ≤ 4611686018427387903 := by omega
      generalize n.tmod 1152921504606846976 = Z at *
      refine (put_any _ [] 0 wc (Sl.nil_ bv wc) (by simp)).mono ?_
      rintro e w2 ⟨v2, rfl, ho2, hb2⟩
      have s2 := Sl.of_own ho2
      have hb' := hb.trans (hb2.mono hb.size)
      clear ho2 hb hb2
      go_wp2_with fail
      refine (signed_any _ _ Z w2 s2 (by have := putB_len 0; rw [List.nil_append]; omega)).mono ?_
      rintro e w3 ⟨v3, rfl, ho3, hb3⟩
      have s3 := Sl.of_own ho3
      have hb := hb'.trans (hb3.mono hb'.size)
      clear ho3 hb' hb3 s2
      go_wp2_with fail
      have hl3 : ([] ++ putB 0 ++ sigB Z).length ≤ 18 := by have := putB_len 0; have := sigB_len Z; rw [List.nil_append, List.length_append]; omega
      have HL3 := Lib.hid hl3
      clear hl3
      refine (text_any _ _ s w3 s3 (by have := HL3.out; omega)).mono ?_
      rintro e w4 ⟨v4, rfl, ho4, hb4⟩
      have s4 := Sl.of_own ho4
      have hb' := hb.trans (hb4.mono hb.size)
      clear ho4 hb hb4 s3
      go_wp2_with fail
      refine (read_any _ _ w4 s4 (by have h9 := putB_len s.size; have h8 := HL3.out; have h7 : (putB s.size ++ s.data.toList).length = (putB s.size).length + s.size := (by rw [List.length_append, str_len]); rw [List.length_append]; omega)).mono ?_
      rintro e w5 ⟨rfl, r5, hb5⟩
      have hb := hb'.trans (hb5.mono hb'.size)
      have hg : w.heap.size ≤ w4.heap.size := hb'.size
      rw [← str_len s] at r5
      clear s4 hb' hb5
      generalize w4.heap.size = g at *
      go_wp2_with fail
      refine (num_any g _ _ w5 r5).mono ?_
      intro e w6 H
      rw [puts1 0 Z s.data.toList k1 k2] at H
      obtain ⟨rfl, r6, hb6⟩ := H
      have hb' := hb.trans (hb6.below hg hb.size)
      clear hb hb6 r5
      go_wp2_with fail
      refine (sig_any g _ w6 r6).mono ?_
      intro e w7 H
      rw [rSig_put Z _ z1 z2] at H
      obtain ⟨rfl, r7, hb7⟩ := H
      have hb := hb'.trans (hb7.below hg hb'.size)
      clear hb' hb7 r6
      go_wp2_with fail
      refine (rtext_any g _ 200 w7 r7).mono ?_
      intro e w8 H
      rw [rText_put s.data.toList [] 200 (by rw [str_len]; omega) (by rw [str_len]; omega)] at H
      obtain ⟨b8, e8, rfl, r8, hb8⟩ := H
      obtain rfl := same_str e8
      have hb' := hb.trans (hb8.below hg hb.size)
      clear hb hb8 r7 e8
      go_wp2_with fail
      refine (done_any g ([], false) w8 r8).mono ?_
      intro e w' H
      obtain ⟨rfl, rfl⟩ := (H : Same w8 (.bool true) e w')
      go_wp2
      go_ret
      exact ⟨rfl, hb'⟩
    · rw [Int.tmod_eq_emod_of_nonneg (show (0 : Int) ≤ n by omega)] at z1 z2
      have hk : 0 ≤ n % 4611686018427387904 ∧ n % 4611686018427387904 ≤ 4611686018427387903 := by omega
      obtain ⟨k1, k2⟩ := hk
      go_wp2_with fail
      generalize n % 1152921504606846976 = Z at *
      generalize n % 4611686018427387904 = K at *
      refine (put_any _ [] K wc (Sl.nil_ bv wc) (by simp)).mono ?_
      rintro e w2 ⟨v2, rfl, ho2, hb2⟩
      have s2 := Sl.of_own ho2
      have hb' := hb.trans (hb2.mono hb.size)
      clear ho2 hb hb2
      go_wp2_with fail
      refine (signed_any _ _ Z w2 s2 (by have := putB_len K; rw [List.nil_append]; omega)).mono ?_
      rintro e w3 ⟨v3, rfl, ho3, hb3⟩
      have s3 := Sl.of_own ho3
      have hb := hb'.trans (hb3.mono hb'.size)
      clear ho3 hb' hb3 s2
      go_wp2_with fail
      have hl3 : ([] ++ putB K ++ sigB Z).length ≤ 18 := by have := putB_len K; have := sigB_len Z; rw [List.nil_append, List.length_append]; omega
      have HL3 := Lib.hid hl3
      clear hl3
      refine (text_any _ _ s w3 s3 (by have := HL3.out; omega)).mono ?_
      rintro e w4 ⟨v4, rfl, ho4, hb4⟩
      have s4 := Sl.of_own ho4
      have hb' := hb.trans (hb4.mono hb.size)
      clear ho4 hb hb4 s3
      go_wp2_with fail
      refine (read_any _ _ w4 s4 (by have h9 := putB_len s.size; have h8 := HL3.out; have h7 : (putB s.size ++ s.data.toList).length = (putB s.size).length + s.size := (by rw [List.length_append, str_len]); rw [List.length_append]; omega)).mono ?_
      rintro e w5 ⟨rfl, r5, hb5⟩
      have hb := hb'.trans (hb5.mono hb'.size)
      have hg : w.heap.size ≤ w4.heap.size := hb'.size
      rw [← str_len s] at r5
      clear s4 hb' hb5
      generalize w4.heap.size = g at *
      go_wp2_with fail
      refine (num_any g _ _ w5 r5).mono ?_
      intro e w6 H
      rw [puts1 K Z s.data.toList k1 k2] at H
      obtain ⟨rfl, r6, hb6⟩ := H
      have hb' := hb.trans (hb6.below hg hb.size)
      clear hb hb6 r5
      go_wp2_with fail
      refine (sig_any g _ w6 r6).mono ?_
      intro e w7 H
      rw [rSig_put Z _ z1 z2] at H
      obtain ⟨rfl, r7, hb7⟩ := H
      have hb := hb'.trans (hb7.below hg hb'.size)
      clear hb' hb7 r6
      go_wp2_with fail
      refine (rtext_any g _ 200 w7 r7).mono ?_
      intro e w8 H
      rw [rText_put s.data.toList [] 200 (by rw [str_len]; omega) (by rw [str_len]; omega)] at H
      obtain ⟨b8, e8, rfl, r8, hb8⟩ := H
      obtain rfl := same_str e8
      have hb' := hb.trans (hb8.below hg hb.size)
      clear hb hb8 r7 e8
      go_wp2_with fail
      refine (done_any g ([], false) w8 r8).mono ?_
      intro e w' H
      obtain ⟨rfl, rfl⟩ := (H : Same w8 (.bool true) e w')
      go_wp2
      go_ret
      exact ⟨rfl, hb'⟩

end Go.Proofs.Ytibipkbnncadlaa
