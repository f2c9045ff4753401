/-
  (*tokens.Reader).Name: the contract, by a walk. Rows of expressions: cells, append of one. hedgerowlaw18.fixed answers true: by a walk. hedgerowlaw18.same of like tokens: the contract, by a walk (written by genlx.py). Operations of regions that draw their order: what each does. A REGION THAT DRAWS ITS ORDER, ITS OPERATIONS WRITING TO MEMORY: an invariant of what is done, what it yielded, and the world. Conditions: lengths.
-/
import Derived.Test.YtdabanocofimmaaGreatDoorJTkSt
import Derived.Test.YtdabanocofimmaaGreatDoorJLxSpelt
import Derived.Test.YtdabanocofimmaaGreatDoorOrder
import Derived.Deep.MidRow
import Derived.WalkSpells
namespace Go.Proofs.YtdabanocofimmaaGreatDoor
open Go.RowKit

theorem run_field_op {P : Program} {o : Oper} {ρ : Operand → Value} {w : World} {ty : TypeId} {x : Operand} {k : Nat} {vx v : Value} (ho : o.op = .field ty x k) (hx : ρ x = vx) (hr : (Instr.field ty vx k).run P w = .ok v w) : (execOp ρ o).run P w = .ok (.value v) w := by
  unfold execOp
  simp only [ho, hx, Sem.run_bind, hr, Result.andThen_ok, Sem.run_pure]
theorem tk_f2 (x : Lx.Tk) (w : World) : (Instr.field 43 (.agg #[.int .i64 x.1, .int .i64 x.2.1, .string ⟨x.2.2.toArray⟩]) 2).run Tryz.prog w = .ok (.string ⟨x.2.2.toArray⟩) w := by kernel_rfl

set_option maxRecDepth 100000 in
set_option maxHeartbeats 1500000 in
theorem rname_any {w0 w : World} {b : Nat} {t : TypeId} {rest : List Value} {L : List Lx.Tk} {er : Int} (h : Rst w0 b t rest w L er) (hw : WOk w0) (hL : TkSm L) :
    Calls Tryz.prog 157 #[.pointer (some ⟨b, 0, none⟩)] w fun e w' => e = .returned (.string ⟨(oneT er L [1]).2.2.toArray⟩) ∧ RdTo w0 b t rest w (oneS er L [1]) (oneE er L [1]) w' := by
  obtain ⟨p, hp⟩ : ∃ p, w.heap.size = p := ⟨_, rfl⟩
  obtain ⟨Z, hZ⟩ : ∃ Z, Z = w.alloc (.cells #[.int .i64 1] 3) := ⟨_, rfl⟩
  have hbZ : Below w.heap.size w Z := by rw [hZ]; exact (Below.refl _ _).alloc (Nat.le_refl _) _
  have hE : Blk Z p 3 #[.int .i64 1] := by rw [hZ, ← hp]; exact Blk.new w _ _
  have hk := h.keep hbZ
  have HO := Lib.hid (one_any [1] p 0 1 1 hk.1 hw hL rfl (by omega) hE.lt (fun j hj => by
    have : j = 0 := by have : j < 1 := hj; omega
    subst this
    exact (Blk.cell hE 0).trans rfl))
  have HK := Lib.hid hk
  have HZ := Lib.hid hZ
  have HP := Lib.hid hp
  obtain ⟨x, hx⟩ : ∃ x, oneT er L [1] = x := ⟨_, rfl⟩
  obtain ⟨S, hS⟩ : ∃ x, oneS er L [1] = x := ⟨_, rfl⟩
  obtain ⟨E, hE2⟩ : ∃ x, oneE er L [1] = x := ⟨_, rfl⟩
  rw [hx, hS, hE2] at HO ⊢
  clear hp hZ hbZ hE hk h hw hL hx hS hE2
  go_enter Tryz.func157, Tryz.ntmps157
  go_wp2_with fail
  rw [← HZ.out, HP.out]
  refine HO.out.mono ?_
  rintro e w1 ⟨rfl, hb1⟩
  have HB1 := Lib.hid (HK.out.trans hb1)
  clear hb1
  have HF := Lib.hid (tk_f2 x w1)
  unfold tkV
  go_wp2_with (first
    | (refine wpList_val (o := ⟨some 6, _, _, _, _, _⟩) rfl (.string ⟨x.2.2.toArray⟩) w1 (run_field_op rfl rfl HF.out) ?_)
    | fail)
  go_ret
  exact ⟨rfl, HB1.out⟩

end Go.Proofs.YtdabanocofimmaaGreatDoor

namespace Go.Proofs.YtdabanocofimmaaGreatDoor
open Go.RowKit

/-- append onto a slice of the call's own: where it lies then. -/
theorem run_append_at {P : Program} {α : Type} {enc : α → List Value} {k : Nat} (hk : ∀ x, (enc x).length = k) (hk0 : 0 < k) (R : Nat) (w : World) (t ty e : TypeId) (i : TypeInfo) (z : Value) (bytes : Nat) (ht : P.underlying t = some (.slice e)) (hi : P.info? e = some i) (hz0 : i.zero = some z)
    (hz1 : i.size = k) (hz2 : i.bytes = bytes) (hzs : z.cells.size = k) (v : Value) (xs : List α) (hown : OwnK enc R e k w v xs)
    (v2 : Value) (l : List α) (hl : SlK enc k w v2 l) (h1 : ∀ a, ∀ u ∈ enc a, u.oneCell' = true)
    (hbytes : (xs.length + l.length) * bytes ≤ 140737488355328) (hnm : xs.length + l.length ≤ 140737488355328) (hR : R ≤ w.heap.size) :
    ∃ v' w', (Builtin.append_ #[t, t] ty #[v, v2]).run P w = .ok v' w' ∧ OwnK enc R e k w' v' (xs ++ l) ∧ w.grownBy w' v.ownBlock ∧ (v'.ownBlock = v.ownBlock ∨ (Below w.heap.size w w' ∧ ∀ g, v'.ownBlock = some g → w.heap.size ≤ g)) := by
  obtain ⟨v', w', hr, ho, hg⟩ := run_append_K (P := P) hk hk0 w R t ty e i z bytes ht hi hz0 hz1 hz2 hzs v xs hown v2 l hl h1 hbytes hnm hR
  refine ⟨v', w', hr, ho, hg, ?_⟩
  rcases hown.2 with ⟨hv, h0⟩ | ⟨g, cap, cur, hv, _, hgb, hnc, _, hcs, _⟩
  · obtain ⟨v2', w2', hr2, ho2, hg2⟩ := run_append_K (P := P) hk hk0 w w.heap.size t ty e i z bytes ht hi hz0 hz1 hz2 hzs v xs ⟨hown.1, .inl ⟨hv, h0⟩⟩ v2 l hl h1 hbytes hnm (Nat.le_refl _)
    obtain ⟨e1, e2⟩ := Result.ok.inj (hr.symm.trans hr2)
    subst e1 e2
    rw [hv] at hg2
    exact .inr ⟨⟨hg2.os, hg2.tape, hg2.output, hg2.size, fun k hk => hg2.block k hk (by simp [Value.ownBlock])⟩, fun g h => (ho2.lt g h).1⟩
  · obtain ⟨A, c, rfl, hlc, hx⟩ := hl
    by_cases hroom : xs.length + l.length ≤ cap
    · left
      by_cases hn0 : l = []
      · subst hn0
        rw [hv] at hr
        rcases A with _ | ad
        · simp [Builtin.append_, run_underlying ht, sizeOf, typeInfo, hi, Builtin.lenOf, Builtin.firstCells, hnc, storeCells] at hr
          rw [← hr.1, hv]
        · have := run_append_room (P := P) w t ty e i ht hi g xs.length cap cur hgb ad 0 c [] (by simp) (by simp) (by simp) (by simpa using hroom) (by rw [hcs, hz1]; simp; exact Nat.mul_le_mul_right _ hnc)
          have e1 := (Result.ok.inj (hr.symm.trans this)).1
          rw [e1, hv]
          rfl
      · obtain ⟨b, o, rfl, hb, hcell⟩ := hx hn0
        rw [hv] at hr
        have := run_append_room (P := P) w t ty e i ht hi g xs.length cap cur hgb ⟨b, o, none⟩ l.length c (l.flatMap enc) (by rw [hz1]; exact flat_length hk l) (flat_cells hk hk0 hcell) (fun u hu => by obtain ⟨x, _, hu⟩ := List.mem_flatMap.1 hu; exact h1 x u hu) hroom (by rw [flat_length hk, hcs, hz1, ← Nat.add_mul]; exact Nat.mul_le_mul_right _ hroom)
        have e1 := (Result.ok.inj (hr.symm.trans this)).1
        rw [e1, hv]
        rfl
    · right
      have hn0 : l ≠ [] := by
        rintro rfl
        simp only [List.length_nil, Nat.add_zero] at hroom
        omega
      obtain ⟨b, o, rfl, hb, hcell⟩ := hx hn0
      rw [hv] at hr
      obtain ⟨v2', w2', hr2, ho2, hg2⟩ := run_append_arg_grows (P := P) w t ty e i z k bytes ht hi hz0 hz1 hz2 hzs hk0 ⟨g, 0, none⟩ xs.length cap (xs.flatMap enc) (flat_length hk xs)
        (fun j u hu => hown.cells (by rw [hv]; rfl) j u hu) ⟨b, o, none⟩ l.length c (l.flatMap enc) (flat_length hk l) (flat_cells hk hk0 hcell) (by omega) (by unfold maxLen; omega) hbytes
      obtain ⟨e1, e2⟩ := Result.ok.inj (hr.symm.trans hr2)
      subst e1 e2
      exact ⟨⟨hg2.os, hg2.tape, hg2.output, hg2.size, fun k hk => hg2.block k hk (by simp)⟩, fun g h => (ho2.lt g h).1⟩
def encX (e : Ex.X) : List Value := [.int .i64 e.k, .int .i64 e.vk, .int .i64 e.vn, .string ⟨e.vt.toArray⟩, .string ⟨e.v.toArray⟩, .string ⟨e.p.toArray⟩, .int .i64 e.l, .int .i64 e.r]
def exC (e : Ex.X) : Array Value := #[.int .i64 e.k, .int .i64 e.vk, .int .i64 e.vn, .string ⟨e.vt.toArray⟩, .string ⟨e.v.toArray⟩, .string ⟨e.p.toArray⟩, .int .i64 e.l, .int .i64 e.r]
def exV (e : Ex.X) : Value := .agg (exC e)
def zEx : Ex.X := ⟨0, 0, 0, [], [], [], 0, 0⟩
theorem encX_len (e : Ex.X) : (encX e).length = 8 := rfl
theorem encX_one : ∀ e, ∀ v ∈ encX e, v.oneCell' = true := by
  intro e v hv
  simp only [encX, List.mem_cons, List.not_mem_nil, or_false] at hv
  rcases hv with rfl | rfl | rfl | rfl | rfl | rfl | rfl | rfl <;> rfl
theorem sizeX (e : Ex.X) : (Tryz.prog.info? 49).map (·.size) = some (exC e).size := by kernel_rfl
theorem infoExA : (Tryz.prog.info? 49).map (fun i => (i.zero, i.size, i.bytes)) = some (some (exV zEx), 8, 88) := by kernel_rfl
theorem infoExK : ∃ i, Tryz.prog.info? 49 = some i ∧ i.zero = some (exV zEx) ∧ i.size = 8 ∧ i.bytes = 88 := info_parts infoExA
theorem append_x (R : Nat) (w : World) (v : Value) (xs : List Ex.X) (hown : OwnK encX R 49 8 w v xs) (v2 : Value) (l : List Ex.X) (hl : SlK encX 8 w v2 l) (hn : xs.length + l.length ≤ 1000000) (hR : R ≤ w.heap.size) :
    ∃ v' w', (Builtin.append_ #[22, 22] 22 #[v, v2]).run Tryz.prog w = .ok v' w' ∧ OwnK encX R 49 8 w' v' (xs ++ l) ∧ w.grownBy w' v.ownBlock ∧ (v'.ownBlock = v.ownBlock ∨ (Below w.heap.size w w' ∧ ∀ g, v'.ownBlock = some g → w.heap.size ≤ g)) := by
  obtain ⟨i, hi, hz0, hz1, hz2⟩ := infoExK
  exact run_append_at (P := Tryz.prog) encX_len (by decide) R w 22 22 49 i _ 88 Tryz.underlying22 hi hz0 hz1 hz2 rfl v xs hown v2 l hl (fun e => encX_one e) (by omega) (by omega) hR
theorem sl_oneX (e : Ex.X) (w : World) : SlK encX 8 (w.alloc (.cells (exC e) 49)) (.slice (some ⟨w.heap.size, 0, none⟩) 1 1) [e] := ⟨_, _, rfl, Nat.le_refl _, fun _ => ⟨w.heap.size, 0, rfl, by simp, fun q y hq => by
  have hq0 : q = 0 := by have := (List.getElem?_eq_some_iff.1 hq).1; simp at this; exact this
  subst hq0
  have hy : y = e := by simpa using hq.symm
  subst hy
  intro i u hu
  rw [Blk.cell (Blk.new w _ _)]
  simpa [encX, exC] using hu⟩⟩
/-- What a call of a reader of expressions may change: its block, and the row's own one; the row's own block is what it was, or new. -/
structure Fr (b : Nat) (v v' : Value) (w w' : World) : Prop where
  size : w.heap.size ≤ w'.heap.size
  block : ∀ i, i < w.heap.size → i ≠ b → some i ≠ v.ownBlock → w'.heap[i]? = w.heap[i]?
  own : v'.ownBlock = v.ownBlock ∨ ∀ i, v'.ownBlock = some i → w.heap.size ≤ i
theorem Fr.trans {b : Nat} {v v1 v2 : Value} {w w1 w2 : World} (h : Fr b v v1 w w1) (k : Fr b v1 v2 w1 w2) : Fr b v v2 w w2 := by
  refine ⟨Nat.le_trans h.size k.size, fun i hi hb hv => ?_, ?_⟩
  · refine (k.block i (Nat.lt_of_lt_of_le hi h.size) hb (fun e => ?_)).trans (h.block i hi hb hv)
    rcases h.own with ho | ho
    · exact hv (e.trans ho)
    · have := ho i e.symm; omega
  · rcases k.own with ko | ko
    · rcases h.own with ho | ho
      · exact .inl (ko.trans ho)
      · exact .inr fun i hi => ho i (ko ▸ hi)
    · exact .inr fun i hi => Nat.le_trans h.size (ko i hi)
theorem Fr.of_but {b : Nat} {v : Value} {w w' : World} (h : But b w w') : Fr b v v w w' := ⟨h.size, fun i hi hb _ => h.block i hi (fun e => hb (by injection e)), .inl rfl⟩
/-- The reader of expressions, between its calls: what is left, the fault, the row, how deep it is. -/
structure Est (w0 : World) (b : Nat) (w : World) (v : Value) (L : List Lx.Tk) (er : Int) (row : List Ex.X) (d : Nat) : Prop where
  rd : Rst w0 b 69 [v, .int .i64 d] w L er
  own : OwnK encX w0.heap.size 49 8 w v row
  apart : v.ownBlock ≠ some b
/-- A call came to a state. -/
def EstTo (w0 : World) (b : Nat) (w : World) (v : Value) (L : List Lx.Tk) (er : Int) (row : List Ex.X) (d : Nat) (w' : World) : Prop := ∃ v', Est w0 b w' v' L er row d ∧ Fr b v v' w w'
theorem Est.to {w0 w w' : World} {b : Nat} {v : Value} {L L2 : List Lx.Tk} {er er2 : Int} {row : List Ex.X} {d : Nat} (h : Est w0 b w v L er row d) (k : RdTo w0 b 69 [v, .int .i64 d] w L2 er2 w') : EstTo w0 b w v L2 er2 row d w' :=
  ⟨v, ⟨k.1, h.own.same fun g hg => k.2.block g (h.own.lt g hg).2 (fun e => h.apart (by injection e with e; rw [hg, e])), h.apart⟩, .of_but k.2⟩
theorem EstTo.trans {w0 w w1 w2 : World} {b : Nat} {v v1 : Value} {L2 : List Lx.Tk} {er2 : Int} {row2 : List Ex.X} {d2 : Nat} (h : Fr b v v1 w w1) (k : EstTo w0 b w1 v1 L2 er2 row2 d2 w2) : EstTo w0 b w v L2 er2 row2 d2 w2 := by
  obtain ⟨v2, k1, k2⟩ := k
  exact ⟨v2, k1, h.trans k2⟩

end Go.Proofs.YtdabanocofimmaaGreatDoor

namespace Go.Proofs.YtdabanocofimmaaGreatDoor
open Go.RowKit

end Go.Proofs.YtdabanocofimmaaGreatDoor

namespace Go.Proofs.YtdabanocofimmaaGreatDoor
open Go.RowKit

theorem run_loadmidT_op {P : Program} {o : Oper} {ρ : Operand → Value} {w : World} {ty : TypeId} {x : Operand} {b q : Nat} {cs : List Value} {d : TypeDesc} (ho : o.op = .load ty x) (hx : ρ x = .pointer (some ⟨b, q, none⟩)) (hc : w.rangeAt b q cs)
    (hu : P.underlying ty = some d) (hd : d.isRow = true) (hi : (P.info? ty).map (·.size) = some cs.length) : (execOp ρ o).run P w = .ok (.value (.agg cs.toArray)) w := by
  unfold execOp
  simp only [ho, hx, Instr.loadAt, Instr.sureAddr, Sem.run_bind, Sem.run_pure, Result.andThen_ok, run_loadVar_mid w b q ty cs d hc hu hd hi]
theorem range_keepT {w W : World} {g o : Nat} {cs : List Value} (h : w.rangeAt g o cs) (hg : g < w.heap.size) (hb : Below w.heap.size w W) : W.rangeAt g o cs := fun k v hk => (World.cell?_of_block (hb.block g hg)).trans (h k v hk)

end Go.Proofs.YtdabanocofimmaaGreatDoor

namespace Go.Proofs.YtdabanocofimmaaGreatDoor
open Go.RowKit

section
variable {P : Program}
/-- A whole array's or struct's load, out of a block that is known whole. -/
theorem run_load_op {o : Oper} {ρ : Operand → Value} {w : World} {ty : TypeId} {x : Operand} {g : Nat} {t : TypeId} {cs : Array Value} {d : TypeDesc} (ho : o.op = .load ty x) (hx : ρ x = .pointer (some ⟨g, 0, none⟩)) (hb : Blk w g t cs)
    (hu : P.underlying ty = some d) (hd : (match d with | .struct _ | .array _ _ => true | _ => false) = true) (hi : (P.info? ty).map (·.size) = some cs.size) : (execOp ρ o).run P w = .ok (.value (.agg cs)) w := by
  unfold execOp
  simp only [ho, hx, Instr.loadAt, Instr.sureAddr, Sem.run_bind, Sem.run_pure, Result.andThen_ok, run_loadVar_row w g t ty cs (0, 0) d hb hu hd hi]
theorem run_not_op {o : Oper} {ρ : Operand → Value} {w : World} {t : TypeId} {x : Operand} {b : Bool} (ho : o.op = .unOp .not t x) (hx : ρ x = .bool b) : (execOp ρ o).run P w = .ok (.value (.bool !b)) w := by
  unfold execOp
  simp [ho, hx, go_sem]
theorem run_assign_op {o : Oper} {ρ : Operand → Value} {w : World} {x : Operand} {v : Value} (ho : o.op = .assign x) (hx : ρ x = v) : (execOp ρ o).run P w = .ok (.value v) w := by
  unfold execOp
  simp [ho, hx]
/-- One number out of memory. -/
theorem run_loadint_op {o : Oper} {ρ : Operand → Value} {w : World} {ty : TypeId} {x : Operand} {ad : Addr} {n : Int} (ho : o.op = .load ty x) (hx : ρ x = .pointer (some ad)) (hu : P.underlying ty = some (.int .i64)) (hc : w.cell? ad = some (.int .i64 n)) :
    (execOp ρ o).run P w = .ok (.value (.int .i64 n)) w := by
  unfold execOp
  have ha : (isAgg ty).run P w = .ok false w := by unfold isAgg; rw [Sem.run_bind, run_underlying hu w]; simp
  simp [ho, hx, Instr.loadAt, Instr.sureAddr, loadVar, ha, hc, go_sem]
variable {ops : Array Oper} {Q : Exit → Act → World → Prop}
/-- A guard that lets its operation not run. -/
theorem guard_no {o : Oper} {a : Act} {k : Nat} {want : Bool} {oj : Oper} {d : Tmp} (hg : o.guard = some (k, want)) (hj : ops[k]? = some oj) (hd : oj.dst = some d) (hv : a.eval (.tmp d) = .bool (!want) ∨ a.eval (.tmp d) = undef) : Region.wanted o (yielded ops a.tmps) = false := by
  simp only [Region.wanted, hg, yielded, hj, Option.bind_some, hd]
  simp only [Act.eval, Array.getD_eq_getD_getElem?] at hv
  cases ht : a.tmps[d]? with
  | none => cases want <;> simp
  | some u =>
    rw [ht] at hv
    simp only [Option.getD_some] at hv
    rcases hv with rfl | rfl <;> cases want <;> simp [undef]
/-- An operation that its guard skips. -/
theorem b_skip {i : Nat} {o : Oper} {a : Act} {w w1 : World} {p : Nat → Value → World → Prop} (hi : ops[i]? = some o) (hI : Below w1.heap.size w1 w) (hw : Region.wanted o (yielded ops a.tmps) = false) (hp : p i undef w) : wpOp P ops Q i (Step1 w1 p i a o w) a w := by
  unfold wpOp
  simp only [hi, hw, Bool.false_eq_true, if_false]
  exact ⟨⟨undef, rfl, hp⟩, Below.refl _ _, hI⟩
end
theorem run_loadstr_op {P : Program} {o : Oper} {ρ : Operand → Value} {w : World} {ty : TypeId} {x : Operand} {ad : Addr} {n : ByteArray} (ho : o.op = .load ty x) (hx : ρ x = .pointer (some ad)) (hu : P.underlying ty = some .string) (hc : w.cell? ad = some (.string n)) :
    (execOp ρ o).run P w = .ok (.value (.string n)) w := by
  unfold execOp
  have ha : (isAgg ty).run P w = .ok false w := by unfold isAgg; rw [Sem.run_bind, run_underlying hu w]; simp
  simp [ho, hx, Instr.loadAt, Instr.sureAddr, loadVar, ha, hc, go_sem]
theorem run_fieldAddr_any {P : Program} {o : Oper} {ρ : Operand → Value} {w : World} {ty : TypeId} {x : Operand} {ad : Addr} {k : Nat} {v : Value} (ho : o.op = .fieldAddr ty x k) (hx : ρ x = .pointer (some ad))
    (hr : (Instr.fieldAt ty (.pointer (some ad)) k).run P w = .ok v w) : (execOp ρ o).run P w = .ok (.value v) w := by
  unfold execOp
  simp [ho, hx, hr]
theorem guardIT (o : BinOp) (t : TypeId) (x y : Operand) (k k' : IntKind) (a b : Int) (w : World) : (eqGuard o t x y (.int k a) (.int k' b)).run Tryz.prog w = .ok () w := by
  unfold eqGuard
  cases o <;> rfl

end Go.Proofs.YtdabanocofimmaaGreatDoor

namespace Go.Proofs.YtdabanocofimmaaGreatDoor
open Go.RowKit

section
variable {P : Program} {ops : Array Oper} {Q : Exit → Act → World → Prop} {md : Region.Mode}

/-- What an operation finds. -/
structure Finds (md : Region.Mode) (ops : Array Oper) (a0 : Act) (i : Nat) (o : Oper) (L : Nat → Bool) (vals : Nat → Value) (a : Act) : Prop where
  it : ops[i]? = some o
  open_ : L i = false
  ahead : ∀ e ∈ o.after, Region.binds md e = true → L e.on = true
  closed : ∀ (j : Nat) (oj : Oper), ops[j]? = some oj → L j = true → ∀ e ∈ oj.after, Region.binds md e = true → L e.on = true
  slot : ∀ (j : Nat) (oj : Oper) (d : Tmp), ops[j]? = some oj → oj.dst = some d → L j = true → a.eval (.tmp d) = vals j
  old : ∀ d : Tmp, (ops.all fun o => o.dst != some d) = true → a.eval (.tmp d) = a0.eval (.tmp d)
/-- What an operation leaves. -/
def Leaves (Inv : (Nat → Bool) → (Nat → Value) → World → Prop) (i : Nat) (o : Oper) (L : Nat → Bool) (vals : Nat → Value) (a a' : Act) (w' : World) : Prop :=
  ∃ v, a' = a.put o.dst v ∧ ∀ L' : Nat → Bool, (∀ j, j ≠ i → L' j = L j) → L' i = true → Inv L' (fun j => if j = i then v else vals j) w'

theorem wpAny_inv (Inv : (Nat → Bool) → (Nat → Value) → World → Prop) (a0 : Act) (w0 : World)
    (hap : apartB ops = true) (hah : aheadB md ops = true) (hin : (List.range ops.size).all (fun i => match ops[i]? with | some o => (match o.dst with | some d => decide (d < a0.tmps.size) | none => true) | none => true) = true)
    (h0 : ∀ L : Nat → Bool, (∀ i, L i = false) → Inv L (fun _ => undef) w0)
    (hop : AllIdx (fun i o => ∀ (L : Nat → Bool) (vals : Nat → Value) (a : Act) (w : World), Finds md ops a0 i o L vals a → Inv L vals w → wpOp P ops Q i (Leaves Inv i o L vals a) a w) 0 ops.toList)
    (hend : ∀ L vals w, (∀ i, i < ops.size → L i = true) → Inv L vals w → Q .normal (layN ops (fun _ => true) vals (List.range ops.size) a0) w) :
    wpAny P md ops Q ops.size (Array.replicate ops.size false) a0 w0 := by
  have hap' := apartB_spec hap
  have hin' : ∀ (i : Nat) (o : Oper) (d : Tmp), ops[i]? = some o → o.dst = some d → d < a0.tmps.size := by
    intro i o d hi hd
    have hil : i < ops.size := (Array.getElem?_eq_some_iff.1 hi).1
    simp only [List.all_eq_true, List.mem_range] at hin
    have := hin i hil
    simpa [hi, hd] using this
  have hah' : ∀ (i : Nat) (o : Oper), ops[i]? = some o → ∀ e ∈ o.after, Region.binds md e = true → e.on < i := by
    intro i o hi e he hb
    have hil : i < ops.size := (Array.getElem?_eq_some_iff.1 hi).1
    simp only [aheadB, List.all_eq_true, List.mem_range] at hah
    have := hah i hil
    simp only [hi, Array.all_eq_true'] at this
    have := this e he
    simpa [hb] using this
  have fin : ∀ (listed : Array Bool) (vals : Nat → Value) (w : World), Inv (fun i => listed.getD i false) vals w → (∀ i, i < ops.size → listed.getD i false = true) →
      Q .normal (layN ops (fun i => listed.getD i false) vals (List.range ops.size) a0) w := by
    intro listed vals w hI hall
    have e : layN ops (fun i => listed.getD i false) vals (List.range ops.size) a0 = layN ops (fun _ => true) vals (List.range ops.size) a0 := by
      have : ∀ (is : List Nat) (a : Act), (∀ i ∈ is, i < ops.size) → layN ops (fun i => listed.getD i false) vals is a = layN ops (fun _ => true) vals is a := by
        intro is
        induction is with
        | nil => intro a _; rfl
        | cons i is ih =>
          intro a hm
          simp only [layN, hall i (hm i (by simp)), if_true]
          exact ih _ (fun j hj => hm j (List.mem_cons_of_mem _ hj))
      exact this _ _ (fun i hi => List.mem_range.1 hi)
    rw [e]
    exact hend _ vals w hall hI
  have none_ready : ∀ (listed : Array Bool), listed.size = ops.size → Region.ready md ops listed = [] → ∀ i, i < ops.size → listed.getD i false = true := by
    intro listed hls hr i
    induction i using Nat.strongRecOn with
    | ind i ih =>
      intro hi
      cases hl : listed.getD i false with
      | true => rfl
      | false =>
        exfalso
        have hm : i ∈ Region.ready md ops listed := by
          refine mem_ready.2 ⟨?_, ops[i], Array.getElem?_eq_getElem hi, fun e he hb => ?_⟩
          · have : i < listed.size := by omega
            simp only [Array.getD, this] at hl ⊢
            simpa using hl
          · have hlt := hah' i ops[i] (Array.getElem?_eq_getElem hi) e he hb
            exact ih e.on hlt (by omega)
        rw [hr] at hm
        cases hm
  have main : ∀ (fuel : Nat) (listed : Array Bool) (vals : Nat → Value) (w : World), listed.size = ops.size → Inv (fun i => listed.getD i false) vals w →
      (∀ (j : Nat) (oj : Oper), ops[j]? = some oj → listed.getD j false = true → ∀ e ∈ oj.after, Region.binds md e = true → listed.getD e.on false = true) →
      ((List.range ops.size).filter fun i => !listed.getD i false).length ≤ fuel → wpAny P md ops Q fuel listed (layN ops (fun i => listed.getD i false) vals (List.range ops.size) a0) w := by
    intro fuel
    induction fuel with
    | zero =>
      intro listed vals w hls hI hcl hc
      have hall : ∀ i, i < ops.size → listed.getD i false = true := by
        intro i hi
        cases hl : listed.getD i false with
        | true => rfl
        | false =>
          have : i ∈ (List.range ops.size).filter fun i => !listed.getD i false := List.mem_filter.2 ⟨List.mem_range.2 hi, by rw [hl]; rfl⟩
          have hpos := List.length_pos_of_mem this
          omega
      refine ⟨?_, fin listed vals w hI hall⟩
      cases hr : Region.ready md ops listed with
      | nil => rfl
      | cons j js =>
        exfalso
        have hj : j ∈ Region.ready md ops listed := by rw [hr]; simp
        obtain ⟨h1, o, ho, _⟩ := mem_ready.1 hj
        have hjl : j < ops.size := (Array.getElem?_eq_some_iff.1 ho).1
        have := hall j hjl
        have hjs : j < listed.size := by omega
        simp only [Array.getD, hjs] at h1 this
        simp_all
    | succ fuel ih =>
      intro listed vals w hls hI hcl hc
      refine ⟨fun hr => fin listed vals w hI (none_ready listed hls hr), fun i hi => ?_⟩
      obtain ⟨hun, o, ho, haft⟩ := mem_ready.1 hi
      have hil : i < ops.size := (Array.getElem?_eq_some_iff.1 ho).1
      have hil' : i < listed.size := by omega
      have hun' : listed.getD i false = false := by
        simp only [Array.getD, hil'] at hun ⊢
        simpa using hun
      have h1 := allIdx_get ops.toList 0 i o hop (by simpa using ho)
      rw [Nat.zero_add] at h1
      have hF : Finds md ops a0 i o (fun i => listed.getD i false) vals (layN ops (fun i => listed.getD i false) vals (List.range ops.size) a0) := by
        refine ⟨ho, hun', haft, hcl, ?_, ?_⟩
        · intro j oj d hj hd hl
          have hjl : j < ops.size := (Array.getElem?_eq_some_iff.1 hj).1
          exact layN_at hap' hj hd hl (List.range ops.size) a0 (List.mem_range.2 hjl) List.nodup_range (hin' j oj d hj hd)
        · intro d hd
          refine layN_other _ _ (fun j _ oj hoj _ => ?_)
          have hjl := (Array.getElem?_eq_some_iff.1 hoj)
          obtain ⟨hjl, rfl⟩ := hjl
          rw [Array.all_eq_true] at hd
          simpa using hd j hjl
      refine wpOp_mono ?_ (h1 _ vals _ w hF hI)
      rintro a' w' ⟨v, rfl, hI'⟩
      have e := lay_step (ops := ops) hap' (L := fun i => listed.getD i false) (L' := fun j => (listed.setIfInBounds i true).getD j false) (vals := vals) (vals' := fun j => if j = i then v else vals j) ho
        (fun j hj => by simp [Ne.symm hj]) (fun j hj => by simp [hj]) hun' (by simp [hil']) (List.range ops.size) a0 (List.mem_range.2 hil) List.nodup_range
      simp only [if_true] at e
      rw [e]
      refine ih (listed.setIfInBounds i true) (fun j => if j = i then v else vals j) w' (by simpa using hls) (hI' _ (fun j hj => by simp [Ne.symm hj]) (by simp [hil'])) ?_ ?_
      · intro j oj hj hl e' he hb
        have step : ∀ k, listed.getD k false = true → (listed.setIfInBounds i true).getD k false = true := by
          intro k hk
          by_cases hki : k = i
          · subst hki; simp [hil']
          · simpa [Array.getElem?_setIfInBounds, Ne.symm hki] using hk
        by_cases hji : j = i
        · subst hji
          have : oj = o := by rw [hj] at ho; exact Option.some.inj ho
          subst this
          exact step _ (haft e' he hb)
        · refine step _ (hcl j oj hj ?_ e' he hb)
          simpa [Array.getElem?_setIfInBounds, Ne.symm hji] using hl
      · have hsub : ((List.range ops.size).filter fun j => !(listed.setIfInBounds i true).getD j false).length < ((List.range ops.size).filter fun j => !listed.getD j false).length := by
          have h1 : ∀ (is : List Nat), is.Nodup → (is.filter fun j => !(listed.setIfInBounds i true).getD j false).length ≤ (is.filter fun j => !listed.getD j false).length ∧
              (i ∈ is → (is.filter fun j => !(listed.setIfInBounds i true).getD j false).length < (is.filter fun j => !listed.getD j false).length) := by
            intro is
            induction is with
            | nil => intro _; exact ⟨Nat.le_refl _, fun h => by simp at h⟩
            | cons j js ihs =>
              intro hnd
              rw [List.nodup_cons] at hnd
              obtain ⟨hle, hlt⟩ := ihs hnd.2
              by_cases hji : j = i
              · subst hji
                have e1 : (!(listed.setIfInBounds j true).getD j false) = false := by simp [hil']
                have e2 : (!listed.getD j false) = true := by rw [hun']; rfl
                rw [List.filter_cons, List.filter_cons, if_neg (by rw [e1]; simp), if_pos e2]
                simp only [List.length_cons]
                exact ⟨by omega, fun _ => by omega⟩
              · have e1 : (listed.setIfInBounds i true).getD j false = listed.getD j false := by simp [Ne.symm hji]
                rw [List.filter_cons, List.filter_cons, e1]
                split
                · simp only [List.length_cons]
                  refine ⟨by omega, fun hm => ?_⟩
                  have : i ∈ js := by
                    rcases List.mem_cons.1 hm with e | e
                    · exact absurd e.symm hji
                    · exact e
                  have := hlt this
                  omega
                · refine ⟨hle, fun hm => ?_⟩
                  rcases List.mem_cons.1 hm with e | e
                  · exact absurd e.symm hji
                  · exact hlt e
          exact (h1 _ List.nodup_range).2 (List.mem_range.2 hil)
        omega
  have := main ops.size (Array.replicate ops.size false) (fun _ => undef) w0 (by simp) (h0 _ (fun i => by by_cases hi : i < ops.size <;> simp [Array.getD, hi])) (fun j oj _ hl => by
      exfalso
      by_cases hi : j < ops.size <;> simp [Array.getD, hi] at hl) (Nat.le_trans (List.length_filter_le _ _) (by simp))
  rw [layN_none _ (fun i => by
    by_cases hi : i < ops.size <;> simp [Array.getD, hi])] at this
  exact this

end

end Go.Proofs.YtdabanocofimmaaGreatDoor
