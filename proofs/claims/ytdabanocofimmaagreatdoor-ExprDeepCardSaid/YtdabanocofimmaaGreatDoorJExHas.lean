/-
  expr.Right, has: the contracts, by walks. expr.reckon, Depth: the contracts, by walks. Conditions: lengths.
-/
import Derived.Test.YtdabanocofimmaaGreatDoorExRight
namespace Go.Proofs.YtdabanocofimmaaGreatDoor
open Go.RowKit

/-- May a row be, with so many ahead of it? -/
def rowB : Nat → List Ex.X → Bool
  | _, [] => true
  | n, e :: r => rightX n e && rowB (n + 1) r
theorem rowB_iff : ∀ (l : List Ex.X) (n : Nat), rowB n l = true ↔ ∀ j e, l[j]? = some e → rightX (n + j) e = true
  | [], n => ⟨fun _ j e h => (by cases h), fun _ => rfl⟩
  | x :: r, n => by
    show (rightX n x && rowB (n + 1) r) = true ↔ _
    rw [Bool.and_eq_true, rowB_iff r (n + 1)]
    constructor
    · rintro ⟨h1, h2⟩ j e h
      cases j with
      | zero => cases h; exact h1
      | succ j =>
        have := h2 j e h
        rwa [show n + 1 + j = n + (j + 1) by omega] at this
    · intro h
      refine ⟨h 0 x rfl, fun j e he => ?_⟩
      have := h (j + 1) e he
      rwa [show n + (j + 1) = n + 1 + j by omega] at this
theorem SlK.x_at {w : World} {A : Option Addr} {n c : Nat} {l : List Ex.X} (h : SlK encX 8 w (.slice A n c) l) {j : Nat} {e : Ex.X} (hj : l[j]? = some e) : ∃ g o, A = some ⟨g, o, none⟩ ∧ g < w.heap.size ∧ w.rangeAt g (o + j * 8) (encX e) := by
  obtain ⟨A', c', hv, _, hx⟩ := h
  injection hv with h1 h2 h3
  subst h1 h3 h2
  obtain ⟨b, o, hA, hb, hc⟩ := hx (by rintro rfl; cases hj)
  exact ⟨b, o, hA, hb, hc j e hj⟩
theorem at_X (A : Option Addr) (g o c n k : Nat) (hA : A = some ⟨g, o, none⟩) (h : k < n) (w : World) : (Instr.indexAt 22 (.slice A n c) (.int .i64 k)).run Tryz.prog w = .ok (.pointer (some ⟨g, o + k * 8, none⟩)) w := by
  subst hA
  have h2 : (k : Int) < n := by omega
  go_simp

set_option maxRecDepth 100000 in
set_option maxHeartbeats 4000000 in
theorem xRight_any (row : List Ex.X) (v : Value) (w : World) (hw : WOk w) (hs : SlK encX 8 w v row) (hsm : ∀ e ∈ row, XSm e) (hn : row.length ≤ 1000000) : Calls Tryz.prog 11 #[v] w (Gives w (.int .i64 (if rowB 0 row = true then 0 else 1))) := by
  obtain ⟨A, c, rfl, _, _⟩ := id hs
  obtain ⟨n, hnn⟩ : ∃ n, row.length = n := ⟨_, rfl⟩
  have HN := Lib.hid hnn
  have HNb := Lib.hid (show n ≤ 1000000 by omega)
  rw [hnn] at hs ⊢
  have HS := Lib.hid hs
  have HRt := Lib.hid (fun (i : Nat) (e : Ex.X) (h : row[i]? = some e) W (hb : Below w.heap.size w W) => xright_any e i W (hw.below hb) (hsm e (List.mem_of_getElem? h)))
  have HT := Lib.hid (show (∀ j e, row[j]? = some e → rightX j e = true) → (if rowB 0 row = true then (0 : Int) else 1) = 0 from fun h => if_pos ((rowB_iff row 0).2 fun j e he => by rw [Nat.zero_add]; exact h j e he))
  have HF := Lib.hid (show ∀ j e, row[j]? = some e → rightX j e = false → (if rowB 0 row = true then (0 : Int) else 1) = 1 from fun j e he h => if_neg fun hr => by
    have := (rowB_iff row 0).1 hr j e he
    rw [Nat.zero_add, h] at this
    cases this)
  obtain ⟨z, hz⟩ : ∃ z : Int, (if rowB 0 row = true then (0 : Int) else 1) = z := ⟨_, rfl⟩
  rw [hz] at HT HF ⊢
  clear hs hnn hw hsm hn hz
  go_enter Tryz.func11, Tryz.ntmps11
  go_wp2_with fail
  go_loopw [7] (fun v7 wr => ∃ i : Nat, v7 = .int .i64 i ∧ i ≤ n ∧ Below w.heap.size w wr ∧ (∀ j e, j < i → row[j]? = some e → rightX j e = true)) (fun v7 _ => n - (intOf v7).toNat)
  case atStart => exact ⟨0, rfl, Nat.zero_le _, Below.refl _ _, fun j e h => absurd h (Nat.not_lt_zero _)⟩
  case round =>
    obtain ⟨i, rfl, hi, hb, hall⟩ := hrel
    have HB := Lib.hid hb
    have HAll := Lib.hid hall
    clear hb hall
    by_cases hlt : i < n
    · have hlt2 : (i : Int) < n := by omega
      obtain ⟨e, he⟩ : ∃ e, row[i]? = some e := ⟨_, List.getElem?_eq_getElem (by rw [HN.out]; exact hlt)⟩
      obtain ⟨g, o, hA, hg, hc⟩ := (HS.out.below HB.out).x_at he
      have HAt := Lib.hid (at_X A g o c n i hA hlt wr)
      have HC := Lib.hid hc
      obtain ⟨p, hp⟩ : ∃ p, wr.heap.size = p := ⟨_, rfl⟩
      obtain ⟨X, hX⟩ : ∃ X, X = wr.alloc (.cells (exC e) 49) := ⟨_, rfl⟩
      have hbX : Below wr.heap.size wr X := by rw [hX]; exact (Below.refl _ _).alloc (Nat.le_refl _) _
      have HE := Lib.hid (show Blk X p 49 (exC e) by rw [hX, ← hp]; exact Blk.new wr _ _)
      have HBX := Lib.hid (HB.out.trans (hbX.mono HB.out.size))
      have HR := Lib.hid (HRt.out i e he X HBX.out)
      have HF1 := Lib.hid (HF.out i e he)
      have HNx := Lib.hid (show rightX i e = true → ∀ j e, j < i + 1 → row[j]? = some e → rightX j e = true from fun h j e' hj he' => by
        by_cases hji : j = i
        · subst hji
          rw [he] at he'
          cases he'
          exact h
        · exact HAll.out j e' (by omega) he')
      have HX := Lib.hid hX
      have HP := Lib.hid hp
      obtain ⟨q, hq⟩ : ∃ q, rightX i e = q := ⟨_, rfl⟩
      rw [hq] at HR HF1 HNx
      obtain ⟨k, vk, vn, vt, vv, pp, l, r⟩ := e
      unfold exC at HX HE
      unfold exV exC at HR
      dsimp only at HX HE HR
      clear he hA hg hc hp hX hbX hq
      go_upto_region 4 with (first
        | (refine wpList_val (o := ⟨some 10, _, _, _, _, _⟩) rfl (.pointer (some ⟨g, o + i * 8, none⟩)) wr (run_indexAddr_op rfl rfl rfl HAt.out) ?_)
        | (refine wpList_val (o := ⟨some 11, _, _, _, _, _⟩) rfl (.agg #[.int .i64 k, .int .i64 vk, .int .i64 vn, .string ⟨vt.toArray⟩, .string ⟨vv.toArray⟩, .string ⟨pp.toArray⟩, .int .i64 l, .int .i64 r]) wr (run_loadmidT_op rfl rfl HC.out Tryz.underlying49 rfl (by kernel_rfl)) ?_)
        | fail)
      rw [← HX.out, HP.out]
      go_wp2_with (first
        | (refine wpList_load_row (o := ⟨some 12, _, _, _, _, _⟩) rfl 49 (.tmp 4) rfl p rfl _ #[.int .i64 k, .int .i64 vk, .int .i64 vn, .string ⟨vt.toArray⟩, .string ⟨vv.toArray⟩, .string ⟨pp.toArray⟩, .int .i64 l, .int .i64 r] _ _ HE.out Tryz.underlying49 rfl (by kernel_rfl) ?_)
        | fail)
      refine HR.out.mono ?_
      rintro _ w1 ⟨rfl, hb1⟩
      have HB1 := Lib.hid (HBX.out.trans (hb1.mono HBX.out.size))
      clear hb1
      have hnb := HNb.out
      cases q
      · have HZ1 := Lib.hid (HF1.out rfl)
        clear HF1 HNx
        go_wp2_with fail
        go_ret
        exact ⟨by rw [HZ1.out]; rfl, HB1.out⟩
      · have HN1 := Lib.hid (HNx.out rfl)
        clear HF1 HNx
        go_wp2_with fail
        go_roundw
        case rel => exact ⟨i + 1, by go_num, by omega, HB1.out, HN1.out⟩
        case measure => simp [intOf] <;> omega
    · have hin : i = n := by omega
      have HZ0 := Lib.hid (HT.out fun j e he => HAll.out j e (by
        have := (List.getElem?_eq_some_iff.1 he).1
        rw [HN.out] at this
        omega) he)
      clear hin
      go_wp2_with fail
      go_ret
      exact ⟨by rw [HZ0.out]; rfl, HB.out⟩

/-- A place of a row that may be. -/
def hasB (row : List Ex.X) (i : Int) : Bool := decide (0 ≤ i) && decide (i < row.length) && rowB 0 row
set_option maxRecDepth 100000 in
set_option maxHeartbeats 4000000 in
theorem xhas_any (row : List Ex.X) (i : Int) (v : Value) (w : World) (hw : WOk w) (hs : SlK encX 8 w v row) (hsm : ∀ e ∈ row, XSm e) (hn : row.length ≤ 1000000) : Calls Tryz.prog 22 #[v, .int .i64 i] w (Gives w (.bool (hasB row i))) := by
  obtain ⟨A, c, rfl, _, _⟩ := id hs
  have HR := Lib.hid (xRight_any row _ w hw hs hsm hn)
  obtain ⟨q, hq⟩ : ∃ q, rowB 0 row = q := ⟨_, rfl⟩
  rw [hq] at HR
  have HH := Lib.hid (show hasB row i = (decide (0 ≤ i) && decide (i < row.length) && q) by unfold hasB; rw [hq])
  obtain ⟨z, hz⟩ : ∃ z, hasB row i = z := ⟨_, rfl⟩
  obtain ⟨n, hnn⟩ : ∃ n, row.length = n := ⟨_, rfl⟩
  rw [hz] at HH ⊢
  rw [hnn] at HR HH ⊢
  clear hw hs hsm hn hq hz hnn
  by_cases h0 : 0 ≤ i
  · have h0' : ¬ i < 0 := by omega
    by_cases h1 : i < (n : Int)
    · cases q
      all_goals
        simp only [if_true, if_false, Bool.false_eq_true] at HR
        have hz := HH.out
        rw [decide_eq_true h0, decide_eq_true h1] at hz
        have HZ := Lib.hid hz
        clear hz
        go_enter Tryz.func22, Tryz.ntmps22
        go_wp2_with fail
        refine HR.out.mono ?_
        rintro _ w1 ⟨rfl, hb1⟩
        have HB1 := Lib.hid hb1
        clear hb1
        go_wp2_with fail
        go_ret
        exact ⟨by rw [HZ.out]; rfl, HB1.out⟩
    · have hz := HH.out
      rw [decide_eq_true h0, decide_eq_false h1] at hz
      have HZ := Lib.hid hz
      clear hz
      go_enter Tryz.func22, Tryz.ntmps22
      go_wp2_with fail
      go_ret
      exact ⟨by rw [HZ.out]; rfl, Below.refl _ _⟩
  · have h0' : i < 0 := by omega
    have hz := HH.out
    rw [decide_eq_false h0] at hz
    have HZ := Lib.hid hz
    clear hz
    go_enter Tryz.func22, Tryz.ntmps22
    go_wp2_with fail
    go_ret
    exact ⟨by rw [HZ.out]; rfl, Below.refl _ _⟩

end Go.Proofs.YtdabanocofimmaaGreatDoor

namespace Go.Proofs.YtdabanocofimmaaGreatDoor
open Go.RowKit

/-- A function that is entered as it is. -/
def EntF (f : FuncId) (n : Nat) : Prop := ∀ (args : Array Value) (W : World), args.size = n → (callFunc f args).run Tryz.prog W = .ok (.enter f args) W
theorem run_callv_op {P : Program} {o : Oper} {a : Act} {w : World} {f : FuncId} {x : Operand} {xs : Array Operand} {ts : Array TypeId} {args cp all : Array Value} (ho : o.op = .call { callee := .value x, args := xs, argTypes := ts }) (hx : a.eval x = .func (.func f) #[] cp) (hargs : xs.map a.eval = args) (hall : args ++ cp = all)
    (hf : (callFunc f all).run P w = .ok (.enter f all) w) : (execOp a.eval o).run P w = .ok (.enter f all) w := by
  have h1 : resolve a.eval { callee := .value x, args := xs, argTypes := ts } o.type = pure { target := .fn (.func f) cp, args := #[] ++ xs.map a.eval } := by
    show Deferred.ofValue (a.eval x) _ = _
    rw [hx]
    rfl
  unfold execOp
  simp only [ho, h1, Sem.run_bind, Sem.run_pure, Result.andThen_ok, invoke, Array.empty_append, hargs, hall]
  exact hf
theorem run_min_op {P : Program} {o : Oper} {ρ : Operand → Value} {w : World} {x y : Operand} {ts : Array TypeId} {a b : Int} (ho : o.op = .call { callee := .builtin .min, args := #[x, y], argTypes := ts }) (hx : ρ x = .int .i64 a) (hy : ρ y = .int .i64 b) : (execOp ρ o).run P w = .ok (.value (.int .i64 (min a b))) w := by
  unfold execOp
  simp [ho, hx, hy, resolve, invoke, builtin, Builtin.min_, Builtin.min2, go_sem]
  rw [Int.min_def]
  split <;> split <;> omega
theorem infoZA : (Tryz.prog.info? 3).map (fun i => (i.zero, i.size, i.bytes)) = some (some (.int .i64 0), 1, 8) := by kernel_rfl
theorem encZ_len (z : Int) : (encZ z).length = 1 := rfl
theorem append_z (R : Nat) (w : World) (v : Value) (xs : List Int) (hown : OwnK encZ R 3 1 w v xs) (v2 : Value) (l : List Int) (hl : SlK encZ 1 w v2 l) (hn : xs.length + l.length ≤ 1000000) (hR : R ≤ w.heap.size) :
    ∃ v' w', (Builtin.append_ #[57, 57] 57 #[v, v2]).run Tryz.prog w = .ok v' w' ∧ OwnK encZ R 3 1 w' v' (xs ++ l) ∧ w.grownBy w' v.ownBlock ∧ (v'.ownBlock = v.ownBlock ∨ (Below w.heap.size w w' ∧ ∀ g, v'.ownBlock = some g → w.heap.size ≤ g)) := by
  obtain ⟨i, hi, hz0, hz1, hz2⟩ := info_parts infoZA
  exact run_append_at (P := Tryz.prog) encZ_len (by decide) R w 57 57 3 i _ 8 Tryz.underlying57 hi hz0 hz1 hz2 rfl v xs hown v2 l hl (fun e u hu => by simp [encZ] at hu; rw [hu]; rfl) (by omega) (by omega) hR
theorem make_z (w : World) (n : Nat) (hn : n ≤ 1000000) : ∃ w', (Instr.makeSlice 57 (.int .i64 0) (.int .i64 (n : Int))).run Tryz.prog w = .ok (.slice (some ⟨w.heap.size, 0, none⟩) 0 n) w' ∧ OwnK encZ w.heap.size 3 1 w' (.slice (some ⟨w.heap.size, 0, none⟩) 0 n) [] ∧ Below w.heap.size w w' := by
  obtain ⟨i, hi, hz0, hz1, hz2⟩ := info_parts infoZA
  obtain ⟨w', hr, ho, hg⟩ := run_make_own (P := Tryz.prog) w w.heap.size 57 3 i _ 1 Tryz.underlying57 hi hz0 hz1 .i64 .i64 n (by rw [hz2]; omega) (by unfold maxLen; omega) (Nat.le_refl _)
  exact ⟨w', hr, ho, ⟨hg.os, hg.tape, hg.output, hg.size, fun k hk => hg.block k hk (by simp)⟩⟩
theorem run_makeZ_op {P : Program} {o : Oper} {ρ : Operand → Value} {w w' : World} {t : TypeId} {x y : Operand} {vx vy v : Value} (ho : o.op = .makeSlice t x y) (hx : ρ x = vx) (hy : ρ y = vy) (hr : (Instr.makeSlice t vx vy).run P w = .ok v w') : (execOp ρ o).run P w = .ok (.value v) w' := by
  unfold execOp
  simp only [ho, hx, hy, Sem.run_bind, hr, Result.andThen_ok, Sem.run_pure]
/-- Numbers that are told of those ahead. -/
def reckL (one : Ex.X → List Int → Int) (M : Int) (l : List Ex.X) : List Int := l.foldl (fun a e => a ++ [min (one e a) M]) []
theorem reckL_snoc (one : Ex.X → List Int → Int) (M : Int) (l : List Ex.X) (e : Ex.X) : reckL one M (l ++ [e]) = reckL one M l ++ [min (one e (reckL one M l)) M] := by
  unfold reckL
  rw [List.foldl_append]
  rfl
theorem reckL_len (one : Ex.X → List Int → Int) (M : Int) (l : List Ex.X) : (reckL one M l).length = l.length := by
  obtain ⟨n, hn⟩ : ∃ n, l.length = n := ⟨_, rfl⟩
  induction n generalizing l with
  | zero => rw [List.length_eq_zero_iff.1 hn]; rfl
  | succ n ih =>
    have hne : l ≠ [] := by rintro rfl; cases hn
    rw [← List.dropLast_concat_getLast hne, reckL_snoc, List.length_append, List.length_append, ih _ (by rw [List.length_dropLast, hn]; rfl)]
    rfl
/-- What a number's function is to be. -/
def OneC (w0 : World) (f : FuncId) (cp : Array Value) (one : Ex.X → List Int → Int) (row : List Ex.X) (M : Int) : Prop :=
  ∀ (j : Nat) (e : Ex.X) (v : Value) (W : World), row[j]? = some e → SlK encZ 1 W v (reckL one M (row.take j)) → Below w0.heap.size w0 W → Calls Tryz.prog f (#[exV e, v] ++ cp) W (Gives W (.int .i64 (one e (reckL one M (row.take j)))))

set_option maxRecDepth 100000 in
set_option maxHeartbeats 1000000 in
theorem reckon_any (f : FuncId) (cp : Array Value) (one : Ex.X → List Int → Int) (M : Int) (row : List Ex.X) (i : Nat) (v : Value) (w : World) (hf : EntF f (2 + cp.size)) (h1 : OneC w f cp one row M) (hs : SlK encX 8 w v row) (hi : i < row.length) (hn : row.length ≤ 100000) :
    Calls Tryz.prog 34 #[v, .int .i64 i, .int .i64 M, .func (.func f) #[] cp] w (Gives w (.int .i64 ((reckL one M (row.take (i + 1))).getD i 0))) := by
  obtain ⟨A, c, rfl, hlc, _⟩ := id hs
  obtain ⟨n, hnn⟩ : ∃ n, row.length = n := ⟨_, rfl⟩
  rw [hnn] at hs hi hn hlc ⊢
  have HNn := Lib.hid hnn
  obtain ⟨m, hm⟩ : ∃ m, i + 1 = m := ⟨_, rfl⟩
  have HN := Lib.hid (show i < n ∧ n ≤ 100000 ∧ i + 1 = m from ⟨hi, hn, hm⟩)
  have hs2 := hs.hi m (by omega)
  have HS := Lib.hid hs2
  have HEnt := Lib.hid hf
  obtain ⟨Z, hZ⟩ : ∃ z, (reckL one M (row.take (i + 1))).getD i 0 = z := ⟨_, rfl⟩
  rw [hm] at hZ
  have HZ := Lib.hid hZ
  rw [hm, hZ]
  obtain ⟨w1, hmk, ho, hb⟩ := make_z w m (by omega)
  have HM := Lib.hid hmk
  have HO := Lib.hid ho
  have HB := Lib.hid hb
  have HOne := Lib.hid (fun (j : Nat) (e : Ex.X) (v : Value) (W : World) (hj : row[j]? = some e) (hv : SlK encZ 1 W v (reckL one M (row.take j))) (hW : Below w.heap.size w W) => h1 j e v W hj hv hW)
  have HAdd := Lib.hid (fun W => show (binOp .add 3 (.int .i64 (i : Int)) (.int .i64 1)).run Tryz.prog W = .ok (.int .i64 (m : Int)) W by
    have hs : IntKind.i64.wrap ((i : Int) + 1) = (m : Int) := by rw [IntKind.wrap_i64]; omega
    go_simp)
  have HSl := Lib.hid (fun W => show (Instr.sliceAt 22 (.slice A n c) none (some (.int .i64 (m : Int))) none).run Tryz.prog W = .ok (.slice (slK A c 0 8) m c) W from
    run_sliceK_hi W 22 49 Tryz.underlying22 (by kernel_rfl) A n c m (by omega))
  clear hs hs2 hi hn hlc hmk ho hb h1 hf hnn hZ hm
  go_enter Tryz.func34, Tryz.ntmps34
  go_wp2_with (first
    | (refine wpList_val (o := ⟨some 13, _, _, _, _, _⟩) rfl (.int .i64 (m : Int)) w (run_bin_op rfl rfl rfl (by kernel_rfl) (HAdd.out w)) ?_)
    | (refine wpList_val (o := ⟨some 14, _, _, _, _, _⟩) rfl (.slice (some ⟨w.heap.size, 0, none⟩) 0 m) w1 (run_makeZ_op rfl rfl rfl HM.out) ?_)
    | (refine wpList_val (o := ⟨some 17, _, _, _, _, _⟩) rfl (.int .i64 (m : Int)) w1 (run_bin_op rfl rfl rfl (by kernel_rfl) (HAdd.out w1)) ?_)
    | (refine wpList_val (o := ⟨some 18, _, _, _, _, _⟩) rfl (.slice (slK A c 0 8) m c) w1 (run_slhi_op rfl rfl rfl (HSl.out w1)) ?_)
    | fail)
  go_loopw [9, 20] (fun v9 v20 wr => ∃ j : Nat, v20 = .int .i64 j ∧ j ≤ m ∧ OwnK encZ w.heap.size 3 1 wr v9 (reckL one M (row.take j)) ∧ Below w.heap.size w wr) (fun _ v20 _ => m - (intOf v20).toNat)
  case atStart => exact ⟨0, rfl, Nat.zero_le _, HO.out, HB.out⟩
  case round =>
    obtain ⟨j, rfl, hj, ho, hb⟩ := hrel
    have HB1 := Lib.hid hb
    have HO1 := Lib.hid ho
    obtain ⟨A9, c9, rfl, hc9, _⟩ := ho.read encZ_len
    obtain ⟨n9, hn9⟩ : ∃ n, (reckL one M (row.take j)).length = n := ⟨_, rfl⟩
    have HN9 := Lib.hid (show n9 = j by
      rw [← hn9, reckL_len, List.length_take, HNn.out]
      have := HN.out
      omega)
    rw [hn9] at HO1 ⊢
    clear ho hb hc9 hn9
    by_cases hlt : j < m
    · have hlt2 : (j : Int) < m := by omega
      obtain ⟨e, he⟩ : ∃ e, row[j]? = some e := ⟨_, List.getElem?_eq_getElem (by rw [HNn.out]; have := HN.out; omega)⟩
      have het : (row.take m)[j]? = some e := by rw [List.getElem?_take, if_pos hlt]; exact he
      obtain ⟨g, o, hA, hg, hc⟩ := (HS.out.below HB1.out).x_at het
      have HAt := Lib.hid (at_X (slK A c 0 8) g o c m j hA hlt wr)
      have HC := Lib.hid hc
      obtain ⟨p, hp⟩ : ∃ p, wr.heap.size = p := ⟨_, rfl⟩
      obtain ⟨X, hX⟩ : ∃ X, X = wr.alloc (.cells (exC e) 49) := ⟨_, rfl⟩
      have hbX : Below wr.heap.size wr X := by rw [hX]; exact (Below.refl _ _).alloc (Nat.le_refl _) _
      have HE := Lib.hid (show Blk X p 49 (exC e) by rw [hX, ← hp]; exact Blk.new wr _ _)
      have HBX := Lib.hid (HB1.out.trans (hbX.mono HB1.out.size))
      have HOX := Lib.hid (HO1.out.keep hbX)
      have HCall := Lib.hid (HOne.out j e _ X he (HOX.out.read encZ_len) HBX.out)
      obtain ⟨z, hz⟩ : ∃ z, one e (reckL one M (row.take j)) = z := ⟨_, rfl⟩
      have HNx := Lib.hid (show reckL one M (row.take (j + 1)) = reckL one M (row.take j) ++ [min z M] by
        rw [List.take_add_one, he, ← hz]
        exact reckL_snoc one M _ e)
      rw [hz] at HCall
      have HX := Lib.hid hX
      have HP := Lib.hid hp
      have HOp := Lib.hid (show (callFunc f (#[exV e, .slice A9 n9 c9] ++ cp)).run Tryz.prog X = .ok (.enter f (#[exV e, .slice A9 n9 c9] ++ cp)) X from HEnt.out _ X (by simp))
      obtain ⟨k, vk, vn, vt, vv, pp, l, r⟩ := e
      unfold exC at HX HE
      unfold exV exC at HCall HOp
      dsimp only at HX HE HCall HOp
      clear he het hA hg hc hp hX hbX hz
      go_upto_region 5 with (first
        | (refine wpList_val (o := ⟨some 22, _, _, _, _, _⟩) rfl (.pointer (some ⟨g, o + j * 8, none⟩)) wr (run_indexAddr_op rfl rfl rfl HAt.out) ?_)
        | (refine wpList_val (o := ⟨some 23, _, _, _, _, _⟩) rfl (.agg #[.int .i64 k, .int .i64 vk, .int .i64 vn, .string ⟨vt.toArray⟩, .string ⟨vv.toArray⟩, .string ⟨pp.toArray⟩, .int .i64 l, .int .i64 r]) wr (run_loadmidT_op rfl rfl HC.out Tryz.underlying49 rfl (by kernel_rfl)) ?_)
        | fail)
      rw [← HX.out, HP.out]
      go_wp2_with (first
        | (refine wpList_load_row (o := ⟨some 26, _, _, _, _, _⟩) rfl 49 (.tmp 11) rfl p rfl _ #[.int .i64 k, .int .i64 vk, .int .i64 vn, .string ⟨vt.toArray⟩, .string ⟨vv.toArray⟩, .string ⟨pp.toArray⟩, .int .i64 l, .int .i64 r] _ _ HE.out Tryz.underlying49 rfl (by kernel_rfl) ?_)
        | fail)
      rw [HOp.out, Oper.upon_enter]
      refine HCall.out.mono ?_
      rintro _ w2 ⟨rfl, hb2⟩
      have HB2 := Lib.hid (HBX.out.trans (hb2.mono HBX.out.size))
      have hbY : Below w2.heap.size w2 (w2.alloc (.cells #[.int .i64 (min z M)] 3)) := (Below.refl _ _).alloc (Nat.le_refl _) _
      obtain ⟨v3, w3, hr3, ho3, hg3, hl3⟩ := append_z w.heap.size (w2.alloc (.cells #[.int .i64 (min z M)] 3)) _ _ ((HOX.out.keep hb2).keep hbY) _ [min z M] (sl_z (l := [min z M]) (fun j z hz => by
        match j with
        | 0 => cases hz; rfl) w2) (by
          have h1 := HN9.out
          have h2 := HN.out
          rw [reckL_len, List.length_take, List.length_singleton]
          omega) (Nat.le_trans HB2.out.size hbY.size)
      have HA := Lib.hid hr3
      have HO3 := Lib.hid ho3
      have HB3 := Lib.hid (show Below w.heap.size w w3 from (HB2.out.trans (hbY.mono HB2.out.size)).trans ((Below.refl _ _).grown hg3 (Nat.le_trans HB2.out.size hbY.size) fun k hk => (HO1.out.lt k hk).1))
      clear hb2 hbY hr3 ho3 hg3 hl3
      have hnb := HN.out
      go_wp2_with (first
        | (refine wpList_val (o := ⟨some 30, _, _, _, _, _⟩) rfl (.int .i64 (min z M)) w2 (run_min_op rfl rfl rfl) ?_)
        | (at_builtin; refine Lib.wpList_append_run (o := ⟨some 32, _, _, _, _, _⟩) _ rfl _ _ _ _ rfl _ _ rfl rfl _ _ HA.out ?_)
        | fail)
      go_roundw
      case rel => exact ⟨j + 1, by go_num, by omega, by rw [HNx.out]; exact HO3.out, HB3.out⟩
      case measure => simp [intOf] <;> omega
    · have hjm : j = m := by omega
      have hjn := HN9.out
      subst hjn
      subst hjm
      have him : i < n9 := by have := HN.out; omega
      obtain ⟨z, hz⟩ : ∃ z, (reckL one M (row.take n9))[i]? = some z := ⟨_, List.getElem?_eq_getElem (by rw [reckL_len, List.length_take, HNn.out]; have := HN.out; omega)⟩
      have hzz : z = Z := by
        have := HZ.out
        rw [List.getD_eq_getElem?_getD, hz] at this
        exact this
      subst hzz
      have hsl := HO1.out.read encZ_len
      obtain ⟨g, o, hA, hg, hc⟩ := hsl.int_at hz
      have HAt := Lib.hid (at_Z A9 g o c9 n9 i hA him wr)
      clear hz hsl hA hg hlt hj
      go_wp2_with (first
        | (refine wpList_val (o := ⟨some 36, _, _, _, _, _⟩) rfl (.pointer (some ⟨g, o + i, none⟩)) wr (run_indexAddr_op rfl rfl rfl HAt.out) ?_)
        | fail)
      go_ret
      exact ⟨rfl, HB1.out⟩

end Go.Proofs.YtdabanocofimmaaGreatDoor
