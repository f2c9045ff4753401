/-
  Vectors as functions of the replica, and their cells; two of them held against each other as arrays. Conditions: none.
-/
import Derived.Test.YtojhloaleefieaaGreatChecked
import Derived.Test.YtojhloaleefieaaGreatWords
import Derived.Deep.WholeRow
import Derived.Laws.StructEq
namespace Go.Proofs.YtojhloaleefieaaGreat
open Go.RowKit

/-- A number's cell. -/
def iv (n : Int) : Value := .int .i64 n
/-- A vector's cells. -/
def vA (f : Nat → Int) : Array Value := ((List.range 16).map fun i => iv (f i)).toArray
theorem vA_size (f : Nat → Int) : (vA f).size = 16 := by simp [vA]
theorem vA_at (f : Nat → Int) (i : Nat) (h : i < 16) : (vA f)[i]? = some (iv (f i)) := by
  simp [vA, h]
theorem vA_one (f : Nat → Int) : (vA f).all (·.oneCell') = true := by
  simp [vA, iv, Value.oneCell']
theorem vA_congr {f g : Nat → Int} (h : ∀ i, i < 16 → f i = g i) : vA f = vA g := by
  unfold vA
  congr 1
  apply List.map_congr_left
  intro i hi
  rw [h i (List.mem_range.1 hi)]
theorem vA_set (f : Nat → Int) (k : Nat) (x : Int) : (vA f).setIfInBounds k (iv x) = vA (fun i => if i = k then x else f i) := by
  apply Array.ext_getElem?
  intro i
  rw [Array.getElem?_setIfInBounds]
  by_cases hi : i < 16
  · rw [vA_at _ i hi, vA_at _ i hi, vA_size]
    by_cases e : k = i
    · subst e; rw [if_pos rfl, if_pos hi, if_pos rfl]
    · rw [if_neg e, if_neg (fun h => e h.symm)]
  · have h1 : (vA f)[i]? = none := by rw [Array.getElem?_eq_none]; rw [vA_size]; omega
    have h2 : (vA (fun i => if i = k then x else f i))[i]? = none := by rw [Array.getElem?_eq_none]; rw [vA_size]; omega
    rw [h1, h2, vA_size]
    by_cases e : k = i
    · subst e; rw [if_pos rfl, if_neg hi]
    · rw [if_neg e]
/-- The same numbers. -/
def eqV (f g : Nat → Int) : Bool := (List.range 16).all fun i => f i == g i
/-- No number above the other one's. -/
def leV (f g : Nat → Int) : Bool := (List.range 16).all fun i => decide (f i ≤ g i)
theorem eqV_iff (f g : Nat → Int) : eqV f g = true ↔ ∀ i, i < 16 → f i = g i := by simp [eqV]
theorem leV_iff (f g : Nat → Int) : leV f g = true ↔ ∀ i, i < 16 → f i ≤ g i := by simp [leV]
def joinV (f g : Nat → Int) (i : Nat) : Int := max (f i) (g i)
def meetV (f g : Nat → Int) (i : Nat) : Int := min (f i) (g i)
def clampV (f : Nat → Int) (i : Nat) : Int := min (max (f i) 0) 1048576
theorem leV_join (f g : Nat → Int) : eqV (joinV f g) g = leV f g := by
  rw [Bool.eq_iff_iff, eqV_iff, leV_iff]
  refine forall_congr' fun i => forall_congr' fun _ => ?_
  unfold joinV; omega

/-! Two arrays of 16 numbers, held against each other. -/
theorem equal_loop (P : Program) (w : World) (d : Nat) (e : TypeId) (f g : Nat → Int) (body : Nat → Option Bool × Unit → Sem (ForInStep (Option Bool × Unit)))
    (hb : ∀ i, i < 16 → (body i (none, ())).run P w = .ok (if f i == g i then .yield (none, ()) else .done (some false, ())) w) :
    ∀ (l : List Nat), (∀ i ∈ l, i < 16) → (forIn l (none, ()) body).run P w = .ok (if (l.all fun i => f i == g i) then (none, ()) else (some false, ())) w
  | [], _ => by simp
  | i :: l, h => by
    rw [List.forIn_cons, Sem.run_bind, hb i (h i (by simp))]
    have ih := equal_loop P w d e f g body hb l (fun j hj => h j (by simp [hj]))
    cases hfg : (f i == g i) with
    | true => simp [hfg, ih]
    | false => simp [hfg]
theorem run_equalIn_arr (P : Program) (w : World) (d : Nat) (t e : TypeId) (f g : Nat → Int) (hu : P.underlying t = some (.array 16 e)) (he : P.underlying e = some (.int .i64)) (hz : (P.info? e).map (·.size) = some 1) :
    (Op.equalIn (d + 2) t (.agg (vA f)) (.agg (vA g))).run P w = .ok (eqV f g) w := by
  have hs : (Go.sizeOf e).run P w = .ok 1 w := by
    cases hq : P.info? e with
    | none => simp [hq] at hz
    | some i => simp [hq] at hz; simp [sizeOf, typeInfo, hq, hz]
  have ha : (isAgg e).run P w = .ok false w := by
    unfold isAgg; rw [Sem.run_bind, run_underlying he w]; simp
  have hp : ∀ (h : Nat → Int) (i : Nat), i < 16 → (part e (vA h) (i * 1)).run P w = .ok (iv (h i)) w := by
    intro h i hi
    have := vA_at h i hi
    simp [part, Sem.run_bind, ha, this]
  have hi1 : ∀ (h : Nat → Int) (i : Nat) (hi : i < 16), (Op.equalIn (d + 1) e (iv (f i)) (iv (g i))).run P w = .ok (f i == g i) w := by
    intro h i hi
    exact run_equalIn_int w d e .i64 .i64 _ _ he
  unfold Op.equalIn
  simp only [Sem.run_bind, run_underlying hu w, Result.andThen_ok, hs, Std.Legacy.Range.forIn_eq_forIn_range']
  rw [equal_loop P w d e f g]
  · have e16 : List.range' 0 [:16].size = List.range 16 := by decide
    rw [e16]
    unfold eqV
    cases hq : ((List.range 16).all fun i => f i == g i) with
    | true => simp
    | false => simp
  · intro i hi
    simp only [Sem.run_bind, hp f i hi, hp g i hi, hi1 f i hi, Result.andThen_ok]
    cases hq : (f i == g i) with
    | true => simp
    | false => simp
  · intro i hi
    have e16 : List.range' 0 [:16].size = List.range 16 := by decide
    rw [e16] at hi
    exact List.mem_range.1 hi
theorem run_eql_arr (P : Program) (w : World) (t e : TypeId) (f g : Nat → Int) (hu : P.underlying t = some (.array 16 e)) (he : P.underlying e = some (.int .i64)) (hz : (P.info? e).map (·.size) = some 1) :
    (binOp .eql t (.agg (vA f)) (.agg (vA g))).run P w = .ok (.bool (eqV f g)) w := by
  rw [run_eql_struct, run_equalIn_arr P w 9998 t e f g hu he hz]; rfl

end Go.Proofs.YtojhloaleefieaaGreat
