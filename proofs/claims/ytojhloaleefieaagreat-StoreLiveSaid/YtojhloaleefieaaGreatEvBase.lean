/-
  Events, elements, values, changes as cells; which are the same. Conditions: none.
-/
import Derived.Test.YtojhloaleefieaaGreatEVRel
import Derived.Test.YtojhloaleefieaaGreatEvElem
import Derived.Test.YtojhloaleefieaaGreatValRefRight
namespace Go.Proofs.YtojhloaleefieaaGreat
open Go.RowKit

/-- An event. -/
structure Ev where
  r : Int
  c : Int
  p : Nat → Int
  op : Int
  ek : Int
  a : ByteArray
  b : ByteArray
  cc : ByteArray
  d : ByteArray
  vk : Int
  vn : Int
  t : ByteArray
/-- Its cells; its change's. -/
def evC (e : Ev) : Array Value := #[.int .i64 e.r, .int .i64 e.c, .int .i64 (e.p 0), .int .i64 (e.p 1), .int .i64 (e.p 2), .int .i64 (e.p 3), .int .i64 (e.p 4), .int .i64 (e.p 5), .int .i64 (e.p 6), .int .i64 (e.p 7), .int .i64 (e.p 8), .int .i64 (e.p 9), .int .i64 (e.p 10), .int .i64 (e.p 11), .int .i64 (e.p 12), .int .i64 (e.p 13), .int .i64 (e.p 14), .int .i64 (e.p 15), .int .i64 e.op, .int .i64 e.ek, .string e.a, .string e.b, .string e.cc, .string e.d, .int .i64 e.vk, .int .i64 e.vn, .string e.t]
def chC (e : Ev) : Array Value := #[.int .i64 e.op, .int .i64 e.ek, .string e.a, .string e.b, .string e.cc, .string e.d, .int .i64 e.vk, .int .i64 e.vn, .string e.t]
def evV (e : Ev) : Value := .agg (evC e)
def chV (e : Ev) : Value := .agg (chC e)
theorem evC_past (e : Ev) : (evC e).extract 2 18 = vA e.p := by rfl
theorem vA_lit (p : Nat → Int) : vA p = #[.int .i64 (p 0), .int .i64 (p 1), .int .i64 (p 2), .int .i64 (p 3), .int .i64 (p 4), .int .i64 (p 5), .int .i64 (p 6), .int .i64 (p 7), .int .i64 (p 8), .int .i64 (p 9), .int .i64 (p 10), .int .i64 (p 11), .int .i64 (p 12), .int .i64 (p 13), .int .i64 (p 14), .int .i64 (p 15)] := by rfl

/-- Is a value nothing? May a property have it? Does a change fit? -/
def noneB (k n : Int) (l : List UInt8) : Bool := k == 0 && n == 0 && l.isEmpty
def setB (k n : Int) (l : List UInt8) : Bool := decide (1 ≤ k ∧ k ≤ 3) && rightB k n l
def valdB (k : Int) : Bool := k == 4 || k == 5
def fitsB (op ek k n : Int) (l : List UInt8) : Bool :=
  if op = 1 ∨ op = 2 then !valdB ek && noneB k n l else if op = 3 then valdB ek && setB k n l else if op = 4 then valdB ek && noneB k n l else false
def changeB (e : Ev) : Bool := elemB e.ek e.a.data.toList e.b.data.toList e.cc.data.toList e.d.data.toList && fitsB e.op e.ek e.vk e.vn e.t.data.toList
/-- May an event be? -/
def okB (e : Ev) : Bool := nextB e.p e.r e.c && rightV e.p && changeB e
def codeI (b : Bool) : Int := if b then 0 else 1

theorem eq_none (k n : Int) (s : ByteArray) (w : World) : (binOp .eql 36 (valV k n s) (valV 0 0 ⟨#[]⟩)).run Tryz.prog w = .ok (.bool (noneB k n s.data.toList)) w := by
  unfold noneB
  rw [← Lib.toList_data s]
  unfold valV
  go_simp
  by_cases h1 : k = 0
  · by_cases h2 : n = 0
    · by_cases h3 : s.toList = []
      · simp [h1, h2, h3]
      · have h4 : s.toList.isEmpty = false := Bool.eq_false_iff.2 fun h => h3 (List.isEmpty_iff.1 h)
        simp [h1, h2, h3, h4]
    · simp [h1, h2]
  · simp [h1]
theorem eq_elem (k : Int) (a b c d : ByteArray) (w : World) : (binOp .eql 24 (elV k a b c d) (elV k a b c d)).run Tryz.prog w = .ok (.bool true) w := by
  unfold elV
  go_simp
theorem eq_change (e : Ev) (w : World) : (binOp .eql 81 (chV e) (chV e)).run Tryz.prog w = .ok (.bool true) w := by
  unfold chV chC
  go_simp
theorem eqV_self (f : Nat → Int) : eqV f f = true := (eqV_iff f f).2 fun _ _ => rfl
theorem eq_event (e : Ev) (w : World) : (binOp .eql 38 (evV e) (evV e)).run Tryz.prog w = .ok (.bool true) w := by
  have hq := run_equalIn_arr Tryz.prog w 9997 28 3 e.p e.p Tryz.underlying28 Tryz.underlying3 sizeI
  rw [vA_lit, eqV_self] at hq
  unfold evV evC
  go_simp
theorem guard_agg (t : TypeId) (h : Tryz.prog.eqGuardType Tryz.prog.depth t = false) (x y : Operand) (a b : Array Value) (w : World) : (eqGuard .eql t x y (.agg a) (.agg b)).run Tryz.prog w = .ok () w := run_eqGuard_agg _ _ _ _ _ _ _ h

end Go.Proofs.YtojhloaleefieaaGreat
