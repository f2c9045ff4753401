/-
  Expressions of tokens: the grammar's rules as functions of lists; trees, and their tokens; what is printed is parsed, or is nested too deeply. lex.Is, tokens.may, tokens.Name, tokens.IsName: the contracts, by walks. Parts of slices of structs: where a part begins, and what it reads. Conditions: lengths.
-/
import Derived.Test.YtdabanocofimmaaGreatDoorLxMath
import Derived.Test.YtdabanocofimmaaGreatDoorJLxSpelt
import Derived.Test.YtdabanocofimmaaGreatDoorOrder
namespace Go.Proofs.YtdabanocofimmaaGreatDoor
set_option linter.unusedVariables false
namespace Ex
abbrev Tk := Lx.Tk
/-- An expression of a row. -/
structure X where
  k : Int
  vk : Int
  vn : Int
  vt : List UInt8
  v : List UInt8
  p : List UInt8
  l : Int
  r : Int
abbrev Res := Except Int (Nat × List Tk × List X)
abbrev P := Nat → List Tk → List X → Res
def kOR : List UInt8 := [79, 82]
def kAND : List UInt8 := [65, 78, 68]
def kNOT : List UInt8 := [78, 79, 84]
def kIS : List UInt8 := [73, 83]
def kNULL : List UInt8 := [78, 85, 76, 76]
def kMANY : List UInt8 := [77, 65, 78, 89]
def kTRUE : List UInt8 := [84, 82, 85, 69]
def kFALSE : List UInt8 := [70, 65, 76, 83, 69]
/-- What stands between two sides. -/
def betw (k : Int) : List UInt8 :=
  if k = 8 then kOR else if k = 9 then kAND else if k = 10 then [61] else if k = 11 then [60, 62] else if k = 12 then [60] else if k = 13 then [60, 61]
  else if k = 14 then [62] else if k = 15 then [62, 61] else if k = 16 then [43] else if k = 17 then [45] else if k = 18 then [42] else []
def takesL (s : List UInt8) (l : List Tk) : Option (List Tk) :=
  match l with
  | [] => none
  | t :: r => if ((t.1 = 2 ∨ t.1 = 5) ∧ t.2.2 = s) ∧ Lx.rightT t = true then some r else none
def oneL (ks : List Int) (l : List Tk) : Option (Tk × List Tk) :=
  match l with
  | [] => none
  | t :: r => if ks.contains t.1 = true ∧ Lx.rightT t = true then some (t, r) else none
def pickL : List Int → List Tk → Option (Int × List Tk)
  | [], _ => none
  | k :: ks, l => match takesL (betw k) l with | some l1 => some (k, l1) | none => pickL ks l
def putE (e : X) (l : List Tk) (row : List X) : Res := .ok (row.length, l, row ++ [e])
def valE (vk vn : Int) (vt : List UInt8) : X := ⟨1, vk, vn, vt, [], [], 0, 0⟩
def unE (k : Int) (a : Nat) : X := ⟨k, 0, 0, [], [], [], a, 0⟩
def biE (k : Int) (a b : Nat) : X := ⟨k, 0, 0, [], [], [], a, b⟩
def withinF (rule : P) : P := fun d l row => if d = 64 then .error 13 else rule (d + 1) l row
/-- Behind a rule's answer. -/
def nextR (x : Res) (f : Nat → List Tk → List X → Res) : Res := match x with | .error e => .error e | .ok (p, l, row) => f p l row
def needR (s : List UInt8) (l : List Tk) (f : List Tk → Res) : Res := match takesL s l with | some l1 => f l1 | none => .error 10
def nameR (l : List Tk) (f : List UInt8 → List Tk → Res) : Res := match oneL [1] l with | some (t, l1) => f t.2.2 l1 | none => .error 10
def plainF : P := fun _ l row => match oneL [3, 4, 1] l with
  | none => .error 10
  | some (t, l1) => if t.1 = 3 then putE (valE 2 t.2.1 []) l1 row else if t.1 = 4 then putE (valE 3 0 t.2.2) l1 row else
    match takesL [46] l1 with
    | some l2 => nameR l2 fun u l3 => putE ⟨3, 0, 0, [], t.2.2, u, 0, 0⟩ l3 row
    | none => putE ⟨2, 0, 0, [], t.2.2, [], 0, 0⟩ l1 row
def manyF : P := fun _ l row => needR [40] l fun l1 => nameR l1 fun v l2 => needR [46] l2 fun l3 => nameR l3 fun p l4 => needR [41] l4 fun l5 => putE ⟨4, 0, 0, [], v, p, 0, 0⟩ l5 row
def belowF : P := fun _ l row => match oneL [3] l with | none => .error 10 | some (t, l1) => if t.2.1 = 0 then .error 10 else putE (valE 2 (-t.2.1) []) l1 row
def primF (orr : P) : P := fun d l row =>
  match takesL [40] l with
  | some l1 => nextR (withinF orr d l1 row) fun p l2 row2 => needR [41] l2 fun l3 => .ok (p, l3, row2)
  | none => match takesL kMANY l with
    | some l1 => manyF d l1 row
    | none => match takesL [45] l with
      | some l1 => belowF d l1 row
      | none => match takesL [64] l with
        | some l1 => nameR l1 fun u l2 => putE (valE 4 0 u) l2 row
        | none => match takesL kTRUE l with
          | some l1 => putE (valE 1 1 []) l1 row
          | none => match takesL kFALSE l with
            | some l1 => putE (valE 1 0 []) l1 row
            | none => match takesL kNULL l with
              | some l1 => putE (valE 0 0 []) l1 row
              | none => plainF d l row
def loopF (side : P) (ks : List Int) : Nat → Nat → Nat → List Tk → List X → Res
  | 0, _, p, l, row => .ok (p, l, row)
  | n + 1, d, p, l, row => match pickL ks l with
    | none => .ok (p, l, row)
    | some (k, l1) => nextR (side d l1 row) fun q l2 row2 => loopF side ks n d row2.length l2 (row2 ++ [biE k p q])
def pairsF (side : P) (ks : List Int) : P := fun d l row => nextR (side d l row) fun p l1 row1 => loopF side ks l1.length d p l1 row1
def isF (p : Nat) (l : List Tk) (row : List X) : Res :=
  match takesL kNOT l with
  | some l1 => needR kNULL l1 fun l2 => putE (unE 7 p) l2 row
  | none => needR kNULL l fun l2 => putE (unE 6 p) l2 row
def ksCmp : List Int := [10, 11, 12, 13, 14, 15]
def cmpF (add : P) : P := fun d l row => nextR (add d l row) fun p l1 row1 =>
  match takesL kIS l1 with
  | some l2 => isF p l2 row1
  | none => match pickL ksCmp l1 with
    | none => .ok (p, l1, row1)
    | some (k, l2) => nextR (add d l2 row1) fun q l3 row3 => putE (biE k p q) l3 row3
def notF (nott cmp : P) : P := fun d l row => match takesL kNOT l with
  | some l1 => nextR (withinF nott d l1 row) fun p l2 row2 => putE (unE 5 p) l2 row2
  | none => cmp d l row
def primO (q : P × P) : P := primF q.1
def mulO (q : P × P) : P := pairsF (primO q) [18]
def addO (q : P × P) : P := pairsF (mulO q) [16, 17]
def cmpO (q : P × P) : P := cmpF (addO q)
def notO (q : P × P) : P := notF q.2 (cmpO q)
def andO (q : P × P) : P := pairsF (notO q) [9]
def orO (q : P × P) : P := pairsF (andO q) [8]
def toF : Nat → P × P
  | 0 => (fun _ _ _ => .error 99, fun _ _ _ => .error 99)
  | n + 1 => (orO (toF n), notO (toF n))
/-- What is parsed. -/
def parseF (l : List Tk) (row : List X) : Res := orO (toF l.length) 0 l row

/-! ### Trees -/
inductive Tr where
  | lf (e : X)
  | un (k : Int) (a : Tr)
  | bi (k : Int) (a b : Tr)
def lvK (k : Int) : Nat := if k = 8 then 1 else if k = 9 then 2 else if k = 5 then 3 else if k = 6 ∨ k = 7 ∨ (10 ≤ k ∧ k ≤ 15) then 4 else if k = 16 ∨ k = 17 then 5 else if k = 18 then 6 else 7
def lvT : Tr → Nat
  | .lf _ => 7
  | .un k _ => lvK k
  | .bi k _ _ => lvK k
def wT (s : List UInt8) : Tk := (2, 0, s)
def sT (s : List UInt8) : Tk := (5, 0, s)
def iT (s : List UInt8) : Tk := (1, 0, s)
def nT (n : Int) : Tk := (3, n, [])
def midT (k : Int) : Tk := if k = 8 ∨ k = 9 then wT (betw k) else sT (betw k)
def valT (vk vn : Int) (vt : List UInt8) : List Tk :=
  if vk = 0 then [wT kNULL] else if vk = 1 then (if vn = 1 then [wT kTRUE] else [wT kFALSE]) else if vk = 2 then (if vn < 0 then [sT [45], nT (-vn)] else [nT vn]) else if vk = 3 then [(4, 0, vt)] else [sT [64], iT vt]
def leafT (e : X) : List Tk :=
  if e.k = 1 then valT e.vk e.vn e.vt else if e.k = 2 then [iT e.v] else if e.k = 3 then [iT e.v, sT [46], iT e.p] else [wT kMANY, sT [40], iT e.v, sT [46], iT e.p, sT [41]]
def brT (m : Nat) (t : Tr) (s : List Tk) : List Tk := if lvT t < m then sT [40] :: (s ++ [sT [41]]) else s
def plainT : Tr → List Tk
  | .lf e => leafT e
  | .un k a => if k = 5 then wT kNOT :: brT 3 a (plainT a) else if k = 6 then brT 5 a (plainT a) ++ [wT kIS, wT kNULL] else brT 5 a (plainT a) ++ [wT kIS, wT kNOT, wT kNULL]
  | .bi k a b => brT (if lvK k = 4 then 5 else lvK k) a (plainT a) ++ midT k :: brT (lvK k + 1) b (plainT b)
def atT (m : Nat) (t : Tr) : List Tk := brT m t (plainT t)
def sizeT : Tr → Nat
  | .lf _ => 1
  | .un _ a => sizeT a + 1
  | .bi _ a b => sizeT a + sizeT b + 1
/-- Words and signs of the grammar are tokens that may be. -/
structure WordsOk : Prop where
  w : ∀ s ∈ [kOR, kAND, kNOT, kIS, kNULL, kMANY, kTRUE, kFALSE], Lx.rightT (wT s) = true
  s : ∀ s ∈ ([[40], [41], [45], [64], [46], [61], [60, 62], [60], [60, 61], [62], [62, 61], [43], [42]] : List (List UInt8)), Lx.rightT (sT s) = true

/-! ### Tokens that are taken, and that aren't -/
/-- Where an expression of a level ends. -/
structure Stop (m : Nat) (l : List Tk) : Prop where
  dot : takesL [46] l = none
  mul : m ≤ 6 → pickL [18] l = none
  add : m ≤ 5 → pickL [16, 17] l = none
  cmp : m ≤ 4 → takesL kIS l = none ∧ pickL ksCmp l = none
  and : m ≤ 2 → pickL [9] l = none
  or : m ≤ 1 → pickL [8] l = none
/-! ### Rules -/
/-! ### What tokens begin with -/
theorem lvK_pos (k : Int) : 1 ≤ lvK k := by unfold lvK; split <;> (try split) <;> (try split) <;> (try split) <;> (try split) <;> (try split) <;> omega
theorem lvT_pos (t : Tr) : 1 ≤ lvT t := by
  cases t with
  | lf e => show 1 ≤ 7; omega
  | un k a => exact lvK_pos k
  | bi k a b => exact lvK_pos k
/-! ### What is printed is parsed -/
section
variable (W : WordsOk)
include W
end
end Ex
end Go.Proofs.YtdabanocofimmaaGreatDoor

namespace Go.Proofs.YtdabanocofimmaaGreatDoor
open Go.RowKit

def isT (t : Lx.Tk) (s : List UInt8) : Bool := (decide (t.1 = 2) || decide (t.1 = 5)) && (decide (t.2.2 = s) && Lx.rightT t)
theorem takes_is (s : List UInt8) (t : Lx.Tk) (r : List Lx.Tk) : Ex.takesL s (t :: r) = if isT t s = true then some r else none := by
  unfold Ex.takesL isT
  simp only [Bool.and_eq_true, Bool.or_eq_true, decide_eq_true_eq, and_assoc]
set_option maxRecDepth 100000 in
set_option maxHeartbeats 1000000 in
theorem lis_any (t : Lx.Tk) (s : ByteArray) (w : World) (hw : WOk w) (ht : t.2.2.length < 4294967281) : Calls Tryz.prog 114 #[tkV t, .string s] w (Gives w (.bool (isT t s.data.toList))) := by
  obtain ⟨k, n, x⟩ := t
  obtain ⟨b, hbx⟩ : ∃ b : ByteArray, (⟨x.toArray⟩ : ByteArray) = b := ⟨_, rfl⟩
  have hxb : x = b.data.toList := by rw [← hbx]
  obtain ⟨p, hp⟩ : ∃ p, w.heap.size = p := ⟨_, rfl⟩
  obtain ⟨X, hX⟩ : ∃ X, X = w.alloc (.cells #[.int .i64 k, .int .i64 n, .string b] 43) := ⟨_, rfl⟩
  have hb : Below w.heap.size w X := by rw [hX]; exact (Below.refl _ _).alloc (Nat.le_refl _) _
  have hE : Blk X p 43 #[.int .i64 k, .int .i64 n, .string b] := by rw [hX, ← hp]; exact Blk.new w _ _
  have c0 : X.cell? ⟨p, 0, none⟩ = some (.int .i64 k) := (Blk.cell hE 0).trans rfl
  have c1 : X.cell? ⟨p, 1, none⟩ = some (.int .i64 n) := (Blk.cell hE 1).trans rfl
  have c2 : X.cell? ⟨p, 2, none⟩ = some (.string b) := (Blk.cell hE 2).trans rfl
  have HR := Lib.hid (show Calls Tryz.prog 109 #[.agg #[.int .i64 k, .int .i64 n, .string b]] X (Gives X (.bool (Lx.rightT (k, n, x)))) from by
    have := lright_any (k, n, x) X (hw.below hb) ht
    unfold tkV at this
    dsimp only at this
    rw [hbx] at this
    exact this)
  have HB := Lib.hid hb
  have HX := Lib.hid hX
  have HP := Lib.hid hp
  have HXb := Lib.hid hxb
  obtain ⟨q, hq⟩ : ∃ q, Lx.rightT (k, n, x) = q := ⟨_, rfl⟩
  have HI := Lib.hid (show isT (k, n, x) s.data.toList = ((decide (k = 2) || decide (k = 5)) && (decide (b.data.toList = s.data.toList) && q)) by unfold isT; dsimp only; rw [hq, hxb])
  rw [hq] at HR
  unfold tkV
  dsimp only
  rw [hbx]
  clear hb hE hX hp hq hbx hxb hw ht
  by_cases hk : k = 2 ∨ k = 5
  · cases hs : (b.toList == s.toList)
    · have HV := Lib.hid (show isT (k, n, x) s.data.toList = false by
        rw [HI.out, decide_eq_false (show ¬ b.data.toList = s.data.toList from fun e => by rw [← Lib.toList_data, ← Lib.toList_data] at e; rw [e] at hs; simp at hs)]; simp)
      go_enter Tryz.func114, Tryz.ntmps114
      go_upto_region 1 with fail
      rw [← HX.out, HP.out]
      rcases hk with rfl | rfl <;>
      · go_wp2_with fail
        go_ret
        exact ⟨congrArg (fun z => Ending.returned (Value.bool z)) HV.out.symm, HB.out⟩
    · have HV := Lib.hid (show isT (k, n, x) s.data.toList = q by
        rw [HI.out, decide_eq_true (show b.data.toList = s.data.toList from by rw [← Lib.toList_data, ← Lib.toList_data]; exact eq_of_beq hs)]
        rcases hk with rfl | rfl <;> simp)
      go_enter Tryz.func114, Tryz.ntmps114
      go_upto_region 1 with fail
      rw [← HX.out, HP.out]
      rcases hk with rfl | rfl <;>
      · go_wp2_with fail
        refine HR.out.mono ?_
        rintro e w1 ⟨rfl, hb1⟩
        have HB1 := Lib.hid (HB.out.trans (hb1.mono HB.out.size))
        clear hb1
        go_wp2_with fail
        go_ret
        exact ⟨congrArg (fun z => Ending.returned (Value.bool z)) HV.out.symm, HB1.out⟩
  · have HV := Lib.hid (show isT (k, n, x) s.data.toList = false by rw [HI.out, decide_eq_false (fun e => hk (.inl e)), decide_eq_false (fun e => hk (.inr e))]; rfl)
    have h2 : (k == 2) = false := by rw [beq_eq_false_iff_ne]; exact fun e => hk (.inl e)
    have h5 : (k == 5) = false := by rw [beq_eq_false_iff_ne]; exact fun e => hk (.inr e)
    have h2' : (k != 2) = true := by simp only [bne, h2]; rfl
    have h5' : (k != 5) = true := by simp only [bne, h5]; rfl
    go_enter Tryz.func114, Tryz.ntmps114
    go_upto_region 1 with fail
    rw [← HX.out, HP.out]
    go_wp2_with fail
    go_ret
    exact ⟨congrArg (fun z => Ending.returned (Value.bool z)) HV.out.symm, HB.out⟩

set_option maxRecDepth 100000 in
set_option maxHeartbeats 1000000 in
theorem may_any (t : Lx.Tk) (w : World) (hw : WOk w) (ht : t.2.2.length ≤ 1000000) : Calls Tryz.prog 79 #[tkV t] w (Gives w (.bool (Lx.rightT t))) := by
  obtain ⟨p, hp⟩ : ∃ p, w.heap.size = p := ⟨_, rfl⟩
  obtain ⟨X, hX⟩ : ∃ X, X = w.alloc (.cells (tkC t) 43) := ⟨_, rfl⟩
  have hb : Below w.heap.size w X := by rw [hX]; exact (Below.refl _ _).alloc (Nat.le_refl _) _
  have hE : Blk X p 43 (tkC t) := by rw [hX, ← hp]; exact Blk.new w _ _
  obtain ⟨Y, hY⟩ : ∃ Y, Y = X.alloc (.cells (tkC t) 43) := ⟨_, rfl⟩
  have hbY : Below X.heap.size X Y := by rw [hY]; exact (Below.refl _ _).alloc (Nat.le_refl _) _
  obtain ⟨q, hq⟩ : ∃ q, X.heap.size = q := ⟨_, rfl⟩
  have hsl : SlK encT 3 Y (.slice (some ⟨q, 0, none⟩) 1 1) [t] := by rw [hY, ← hq]; exact sl_oneT t X
  have hbw : Below w.heap.size w Y := hb.trans (hbY.mono hb.size)
  have HT := Lib.hid (lalltext_any [t] (some ⟨q, 0, none⟩) 1 1 Y hsl rfl (by omega) (fun u hu => by rw [List.mem_singleton.1 hu]; exact ht) (hw.below hbw))
  have HE := Lib.hid hE
  have HB := Lib.hid hbw
  have HX := Lib.hid hX
  have HP := Lib.hid hp
  have HY := Lib.hid hY
  have HQ := Lib.hid hq
  have HQ2 := Lib.hid (show p + 1 = q by rw [← hq, hX, ← hp]; simp)
  clear hb hE hX hp hq hY hbY hsl hbw hw ht
  unfold tkV
  obtain ⟨k, n, x⟩ := t
  obtain ⟨b, hbx⟩ : ∃ b : ByteArray, (⟨x.toArray⟩ : ByteArray) = b := ⟨_, rfl⟩
  unfold tkC at *
  dsimp only at *
  rw [hbx] at HX HY HE ⊢
  have c0 : X.cell? ⟨p, 0, none⟩ = some (.int .i64 k) := (Blk.cell HE.out 0).trans rfl
  have c1 : X.cell? ⟨p, 1, none⟩ = some (.int .i64 n) := (Blk.cell HE.out 1).trans rfl
  have c2 : X.cell? ⟨p, 2, none⟩ = some (.string b) := (Blk.cell HE.out 2).trans rfl
  obtain ⟨r, hr⟩ : ∃ r, Lx.rightT (k, n, x) = r := ⟨_, rfl⟩
  rw [hr]
  have HTv := Lib.hid (show ∃ u : Value, textV [(k, n, x)] = .tuple #[u, .bool r] by
    unfold textV
    cases r <;> simp [hr])
  clear hbx hr
  go_enter Tryz.func79, Tryz.ntmps79
  go_upto_region 1 with fail
  rw [← HX.out, HP.out]
  go_wp2_with fail
  rw [← HY.out, HQ.out]
  refine HT.out.mono ?_
  rintro e w1 ⟨rfl, hb1⟩
  obtain ⟨u, hu⟩ := HTv.out
  rw [hu]
  have HB1 := Lib.hid (HB.out.trans (hb1.mono HB.out.size))
  clear hb1 c0 c1 c2 hu
  go_wp2_with fail
  go_ret
  exact ⟨rfl, HB1.out⟩

end Go.Proofs.YtdabanocofimmaaGreatDoor

namespace Go.Proofs.YtdabanocofimmaaGreatDoor
open Go.RowKit

section
variable {P : Program} {α : Type} {enc : α → List Value} {k : Nat}
theorem bound_ok (w : World) (k y : Nat) (code : BoundsCode) (h : k ≤ y) : (Instr.sliceBound (.int .i64 k) y code).run P w = .ok k w := by
  unfold Instr.sliceBound
  have : (k : Int) ≤ (y : Int) := by omega
  simp [asIntOf, this]
/-- Where a part begins. -/
def slK (A : Option Addr) (c lo k : Nat) : Option Addr := if c = lo then A else A.map (·.add (lo * k))
theorem run_sliceK_lo (w : World) (t e : TypeId) (ht : P.underlying t = some (.slice e)) (hi : (P.info? e).map (·.size) = some k) (A : Option Addr) (n c m : Nat) (hm : m ≤ n) :
    (Instr.sliceAt t (.slice A n c) (some (.int .i64 m)) none none).run P w = .ok (.slice (slK A c m k) (n - m) (c - m)) w := by
  cases hq : P.info? e with
  | none => simp [hq] at hi
  | some i =>
    have hs : i.size = k := by simpa [hq] using hi
    simp [Instr.sliceAt, Instr.slice, Instr.sliceBounds, run_underlying ht, bound_ok w m n _ hm, sizeOf, typeInfo, hq, hs, slK]
theorem run_sliceK_hi (w : World) (t e : TypeId) (ht : P.underlying t = some (.slice e)) (hi : (P.info? e).map (·.size) = some k) (A : Option Addr) (n c m : Nat) (hm : m ≤ c) :
    (Instr.sliceAt t (.slice A n c) none (some (.int .i64 m)) none).run P w = .ok (.slice (slK A c 0 k) m c) w := by
  cases hq : P.info? e with
  | none => simp [hq] at hi
  | some i =>
    simp [Instr.sliceAt, Instr.slice, Instr.sliceBounds, run_underlying ht, bound_ok w m c _ hm, sizeOf, typeInfo, hq, slK]
theorem run_slhi_op {o : Oper} {ρ : Operand → Value} {w : World} {t : TypeId} {x y : Operand} {vx vy v : Value} (ho : o.op = .slice t x none (some y) none) (hx : ρ x = vx) (hy : ρ y = vy) (hr : (Instr.sliceAt t vx none (some vy) none).run P w = .ok v w) : (execOp ρ o).run P w = .ok (.value v) w := by
  unfold execOp
  simp only [ho, hx, hy, Option.map_some, Option.map_none, Sem.run_bind, hr, Result.andThen_ok, Sem.run_pure]
theorem run_sllo_op {o : Oper} {ρ : Operand → Value} {w : World} {t : TypeId} {x y : Operand} {vx vy v : Value} (ho : o.op = .slice t x (some y) none none) (hx : ρ x = vx) (hy : ρ y = vy) (hr : (Instr.sliceAt t vx (some vy) none none).run P w = .ok v w) : (execOp ρ o).run P w = .ok (.value v) w := by
  unfold execOp
  simp only [ho, hx, hy, Option.map_some, Option.map_none, Sem.run_bind, hr, Result.andThen_ok, Sem.run_pure]
/-- What a part reads. -/
theorem SlK.part {w : World} {A : Option Addr} {n c : Nat} {l : List α} (h : SlK enc k w (.slice A n c) l) (lo hi : Nat) (hlo : lo ≤ hi) (hhi : hi ≤ n) : SlK enc k w (.slice (slK A c lo k) (hi - lo) (c - lo)) ((l.take hi).drop lo) := by
  obtain ⟨A', c', hv, hlc, hx⟩ := h
  injection hv with h1 h2 h3
  subst h1 h3 h2
  have hl : ((l.take hi).drop lo).length = hi - lo := by rw [List.length_drop, List.length_take]; omega
  refine ⟨slK A c lo k, c - lo, by rw [hl], by rw [hl]; omega, fun hn => ?_⟩
  have hpos : 0 < hi - lo := by rw [← hl]; exact List.length_pos_iff.2 hn
  obtain ⟨b, o, hA, hb, hcell⟩ := hx (by rintro rfl; simp at hn)
  refine ⟨b, o + lo * k, by rw [slK, if_neg (by omega), hA]; simp [Addr.add_lit], hb, fun j u hu => ?_⟩
  rw [List.getElem?_drop, List.getElem?_take] at hu
  split at hu
  · have := hcell (lo + j) u hu
    rwa [Nat.add_mul, ← Nat.add_assoc] at this
  · cases hu
theorem SlK.lo {w : World} {A : Option Addr} {n c : Nat} {l : List α} (h : SlK enc k w (.slice A n c) l) (m : Nat) (hm : m ≤ n) : SlK enc k w (.slice (slK A c m k) (n - m) (c - m)) (l.drop m) := by
  have hl : n = l.length := by obtain ⟨A', c', hv, _⟩ := h; injection hv
  have := h.part m n hm (Nat.le_refl _)
  rwa [hl, List.take_length, ← hl] at this
theorem SlK.hi {w : World} {A : Option Addr} {n c : Nat} {l : List α} (h : SlK enc k w (.slice A n c) l) (m : Nat) (hm : m ≤ n) : SlK enc k w (.slice (slK A c 0 k) m c) (l.take m) := by
  have := h.part 0 m (Nat.zero_le _) hm
  rwa [List.drop_zero, Nat.sub_zero, Nat.sub_zero] at this
end
end Go.Proofs.YtdabanocofimmaaGreatDoor
