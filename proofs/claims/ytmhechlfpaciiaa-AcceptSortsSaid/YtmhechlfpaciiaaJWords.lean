/-
  WORDS FOR MEMORY: a slice that reads as a list of cells, wherever it lies, nil and empty ones too; a block known whole. Vectors as functions of the replica, and their cells; two of them held against each other as arrays. Conditions: lengths.
-/
import Derived.WalkKit
import Derived.WalkSpells
import Derived.WalkLawsBesides
import Derived.Maps.AppendAt
import Derived.Deep.AppendLies
import Derived.Deep.Draws
import Derived.Lib.Hide
import Derived.Laws.BytesArg
import Derived.Lib.ConvBytes
import Derived.Lib.Strings
import Derived.Test.YtmhechlfpaciiaaChecked
import Derived.Deep.WholeRow
import Derived.Laws.StructEq
namespace Go.Proofs.Ytmhechlfpaciiaa
open Go.RowKit

/-- The cell of a byte; the cells of bytes. -/
def bv (x : UInt8) : Value := .int .u8 (x.toNat : Int)
def bs (l : List UInt8) : List Value := l.map bv
theorem bs_length (l : List UInt8) : (bs l).length = l.length := by simp [bs]
theorem bs_append (l m : List UInt8) : bs (l ++ m) = bs l ++ bs m := by simp [bs]
theorem bs_one (l : List UInt8) : ∀ u ∈ bs l, u.oneCell' = true := by
  intro u hu; obtain ⟨x, _, rfl⟩ := List.mem_map.1 hu; rfl

/-- v is a slice whose elements are l, each in the cell that f tells; they lie below the heap's end. -/
def Sl {α : Type} (f : α → Value) (w : World) (v : Value) (l : List α) : Prop :=
  ∃ A c, v = .slice A l.length c ∧ l.length ≤ c ∧ (l ≠ [] → ∃ b o, A = some ⟨b, o, none⟩ ∧ b < w.heap.size ∧ ∀ j u, l[j]? = some u → w.cell? ⟨b, o + j, none⟩ = some (f u))

section
variable {α : Type} {f : α → Value} {w w' : World} {v : Value} {l : List α}
theorem Sl.nil_ (f : α → Value) (w : World) : Sl f w (.slice none 0 0) [] := ⟨none, 0, rfl, Nat.le_refl _, fun h => absurd rfl h⟩
theorem Sl.kept (h : Sl f w v l) (hs : w.heap.size ≤ w'.heap.size) (hc : ∀ p : Addr, p.block < w.heap.size → w'.cell? p = w.cell? p) : Sl f w' v l := by
  obtain ⟨A, c, rfl, hlc, hx⟩ := h
  refine ⟨A, c, rfl, hlc, fun hn => ?_⟩
  obtain ⟨b, o, hA, hb, hcell⟩ := hx hn
  exact ⟨b, o, hA, by omega, fun j u hu => (hc ⟨b, o + j, none⟩ hb).trans (hcell j u hu)⟩
theorem Sl.below (h : Sl f w v l) (hb : Below w.heap.size w w') : Sl f w' v l := h.kept hb.size fun p hp => hb.cell (p := p) hp
theorem Sl.alloc (h : Sl f w v l) (o : Obj) : Sl f (w.alloc o) v l := h.below ((Below.refl _ _).alloc (Nat.le_refl _) o)
theorem Sl.drew (h : Sl f w v l) : Sl f w.drew v l := h
theorem Sl.drewN (h : Sl f w v l) (n : Nat) : Sl f (w.drewN n) v l := h
theorem Sl.of_own {base : Nat} {e : TypeId} {n : Nat} (h : w.ownsRow base e 1 v n (l.map f)) : Sl f w v l := by
  obtain ⟨hl, hc⟩ := h
  rcases hc with ⟨rfl, rfl⟩ | ⟨g, cap, cur, rfl, hb, hg, hn, hm, hs, ht⟩
  · have : l = [] := List.eq_nil_of_length_eq_zero (by simpa using hl)
    subst this; exact Sl.nil_ f w
  · have hl' : l.length = n := by simpa using hl
    refine ⟨some ⟨g, 0, none⟩, cap, by rw [hl'], by omega, fun _ => ⟨g, 0, rfl, (Array.getElem?_eq_some_iff.1 hg).1, fun j u hu => ?_⟩⟩
    rw [cell_of_row w g (0 + j) cur e (0, 0) hg]
    have hu' : (l.map f)[j]? = some (f u) := by simp [hu]
    rw [← ht, List.getElem?_take] at hu'
    split at hu'
    · simpa using hu'
    · cases hu'
theorem Sl.form (h : Sl f w v l) : ∃ A c, v = .slice A l.length c := by
  obtain ⟨A, c, rfl, _⟩ := h
  exact ⟨A, c, rfl⟩
theorem Sl.take_ {A : Option Addr} {n c k : Nat} (h : Sl f w (.slice A n c) l) (hk : k ≤ l.length) : Sl f w (.slice A k c) (l.take k) := by
  obtain ⟨A', c', hv, hlc, hx⟩ := h
  injection hv with h1 h2 h3
  subst h1 h3
  have hl : (l.take k).length = k := by rw [List.length_take]; omega
  refine ⟨A, c, by rw [hl], by omega, fun hn => ?_⟩
  obtain ⟨b, o, hA, hb, hcell⟩ := hx (by rintro rfl; simp at hn)
  refine ⟨b, o, hA, hb, fun j u hu => hcell j u ?_⟩
  rw [List.getElem?_take] at hu
  split at hu
  · exact hu
  · cases hu
/-- One element, where there is one. -/
theorem Sl.at_ (h : Sl f w v l) : ∃ A c, v = .slice A l.length c ∧ l.length ≤ c ∧ ∀ k, k < l.length → ∃ b o, A = some ⟨b, o, none⟩ ∧ b < w.heap.size ∧ ∀ j u, l[j]? = some u → w.cell? ⟨b, o + j, none⟩ = some (f u) := by
  obtain ⟨A, c, hv, hlc, hx⟩ := h
  exact ⟨A, c, hv, hlc, fun k hk => hx (by rintro rfl; simp at hk)⟩
end

/-- append onto a row of the call's own, whatever the source: its run, and what it leaves. -/
theorem run_append_sl {P : Program} {α : Type} {f : α → Value} (w : World) (base : Nat) (t ty e : TypeId) (i : TypeInfo) (z : Value) (bytes : Nat) (ht : P.underlying t = some (.slice e)) (hi : P.info? e = some i) (hz : i.zero = some z)
    (hsize : i.size = 1) (hby : i.bytes = bytes) (hzs : z.cells.size = 1) (v : Value) (n : Nat) (xs : List Value) (hown : w.ownsRow base e 1 v n xs)
    (v2 : Value) (l : List α) (hl : Sl f w v2 l) (h1 : ∀ a, (f a).oneCell' = true)
    (hbytes : (n + l.length) * bytes ≤ 140737488355328) (hnm : n + l.length ≤ 140737488355328) (hbase : base ≤ w.heap.size) :
    ∃ v' w', (Builtin.append_ #[t, t] ty #[v, v2]).run P w = .ok v' w' ∧ w'.ownsRow base e 1 v' (n + l.length) (xs ++ l.map f) ∧ w.grownBy w' v.ownBlock := by
  obtain ⟨A, c, rfl, hlc, hx⟩ := hl
  have h63 : n + l.length ≤ maxLen := by unfold maxLen; omega
  have one : ∀ u ∈ l.map f, u.oneCell' = true := by intro u hu; obtain ⟨x, _, rfl⟩ := List.mem_map.1 hu; exact h1 x
  by_cases hn : l = []
  · subst hn
    rcases A with _ | ad
    · refine ⟨v, w, ?_, by simpa using hown, World.grownBy.refl w _⟩
      rcases hown.2 with ⟨rfl, rfl⟩ | ⟨g, cap, cur, rfl, _, _, hnc, _⟩
      · simp [Builtin.append_, run_underlying ht, sizeOf, typeInfo, hi, Builtin.lenOf, Builtin.firstCells]
      · simp [Builtin.append_, run_underlying ht, sizeOf, typeInfo, hi, Builtin.lenOf, Builtin.firstCells, hnc, storeCells]
    · obtain ⟨v', w', hr, h2, h3, _⟩ := run_append_own (P := P) w base t ty e i z 1 bytes ht hi hz hsize hby hzs (by omega) v n xs hown ad 0 c [] rfl (by simp) (by simp) (by simpa using h63) (by simpa using hbytes) hbase
      exact ⟨v', w', hr, by simpa using h2, h3⟩
  · obtain ⟨b, o, rfl, hb, hcell⟩ := hx hn
    obtain ⟨v', w', hr, h2, h3, _⟩ := run_append_own (P := P) w base t ty e i z 1 bytes ht hi hz hsize hby hzs (by omega) v n xs hown ⟨b, o, none⟩ l.length c (l.map f) (by simp)
      (fun j u hu => by
        obtain ⟨x, hx1, rfl⟩ : ∃ x, l[j]? = some x ∧ f x = u := by simpa using hu
        rw [Addr.add_lit]; exact hcell j x hx1) one h63 hbytes hbase
    exact ⟨v', w', hr, h2, h3⟩

/-- A block that is known whole. -/
def Blk (w : World) (g : Nat) (t : TypeId) (cs : Array Value) : Prop := w.heap[g]? = some (.cells cs t (0, 0))

theorem Blk.lt {w : World} {g : Nat} {t : TypeId} {cs : Array Value} (h : Blk w g t cs) : g < w.heap.size := (Array.getElem?_eq_some_iff.1 h).1
theorem Blk.cell {w : World} {g : Nat} {t : TypeId} {cs : Array Value} (h : Blk w g t cs) (i : Nat) : w.cell? ⟨g, i, none⟩ = cs[i]? := cell_of_row w g i cs t (0, 0) h
theorem Blk.free {w : World} {g : Nat} {t : TypeId} {cs : Array Value} (h : Blk w g t cs) (i : Nat) : w.frozen? ⟨g, i, none⟩ = false := by
  unfold Blk at h; simp [World.frozen?, h]
theorem Blk.new (w : World) (t : TypeId) (cs : Array Value) : Blk (w.alloc (.cells cs t)) w.heap.size t cs := heap_alloc_new w _
theorem Blk.below {w w' : World} {g : Nat} {t : TypeId} {cs : Array Value} {B : Nat} (h : Blk w g t cs) (hb : Below B w w') (hg : g < B) : Blk w' g t cs := (hb.block g hg).trans h
theorem Blk.alloc {w : World} {g : Nat} {t : TypeId} {cs : Array Value} (h : Blk w g t cs) (o : Obj) : Blk (w.alloc o) g t cs :=
  h.below ((Below.refl _ _).alloc (Nat.le_refl _) o) h.lt
theorem Blk.set_ {w : World} {g : Nat} {t : TypeId} {cs : Array Value} (h : Blk w g t cs) (i : Nat) (u : Value) : Blk (w.setCell ⟨g, i, none⟩ u) g t (cs.setIfInBounds i u) := by
  unfold Blk at h ⊢
  simp [World.setCell, Array.getElem?_modify, h]
theorem Blk.far {w : World} {g : Nat} {t : TypeId} {cs : Array Value} (h : Blk w g t cs) {p : Addr} (hp : g ≠ p.block) (u : Value) : Blk (w.setCell p u) g t cs :=
  (Below.heap_setCell w p u g hp).trans h

/-- All but block g is as it was; what is new lies behind. -/
def But (g : Nat) (w w' : World) : Prop := w.grownBy w' (some g)

theorem But.refl (g : Nat) (w : World) : But g w w := World.grownBy.refl w _
theorem But.trans {g : Nat} {a b c : World} (h : But g a b) (k : But g b c) : But g a c :=
  ⟨k.os.trans h.os, k.tape.trans h.tape, k.output.trans h.output, Nat.le_trans h.size k.size, fun i hi hn => (k.block i (Nat.lt_of_lt_of_le hi h.size) hn).trans (h.block i hi hn)⟩
theorem But.of_below {g : Nat} {w w' : World} (h : Below w.heap.size w w') : But g w w' := ⟨h.os, h.tape, h.output, h.size, fun i hi _ => h.block i hi⟩
theorem But.setCell (w : World) (g i : Nat) (u : Value) : But g w (w.setCell ⟨g, i, none⟩ u) :=
  ⟨rfl, rfl, rfl, by simp [World.setCell], fun k _ hn => Below.heap_setCell w ⟨g, i, none⟩ u k (fun e => hn (by rw [e]))⟩
theorem But.blk {g h : Nat} {w w' : World} {t : TypeId} {cs : Array Value} (hb : But g w w') (hk : Blk w h t cs) (hne : h ≠ g) : Blk w' h t cs :=
  (hb.block h hk.lt (by simpa using hne)).trans hk
theorem But.below {g B : Nat} {w w' : World} (hb : But g w w') (hg : B ≤ g) (hB : B ≤ w.heap.size) : Below B w w' :=
  ⟨hb.os, hb.tape, hb.output, hb.size, fun k hk => hb.block k (by omega) (by simp; omega)⟩
/-- What was made behind B, and block g behind B: nothing below B has turned. -/
theorem below_chain {B : Nat} {a b c : World} (h : Below B a b) (k : Below b.heap.size b c) (hB : B ≤ b.heap.size) : Below B a c := h.trans (k.mono hB)

/-- What a law's call comes to: true; nothing that was there has turned. -/
def Law (w : World) (e : Ending) (w' : World) : Prop := e = .returned (.bool true) ∧ Below w.heap.size w w'

end Go.Proofs.Ytmhechlfpaciiaa

namespace Go.Proofs.Ytmhechlfpaciiaa
open Go.RowKit

/-- A number's cell. -/
def iv (n : Int) : Value := .int .i64 n
/-- A vector's cells. -/
def vA (f : Nat → Int) : Array Value := ((List.range 16).map fun i => iv (f i)).toArray
theorem vA_size (f : Nat → Int) : (vA f).size = 16 := by simp [vA]
theorem vA_at (f : Nat → Int) (i : Nat) (h : i < 16) : (vA f)[i]? = some (iv (f i)) := by
  simp [vA, h]
theorem vA_one (f : Nat → Int) : (vA f).all (·.oneCell') = true := by
  simp [vA, iv, Value.oneCell']
theorem vA_congr {f g : Nat → Int} (h : ∀ i, i < 16 → f i = g i) : vA f = vA g := by
  unfold vA
  congr 1
  apply List.map_congr_left
  intro i hi
  rw [h i (List.mem_range.1 hi)]
theorem vA_set (f : Nat → Int) (k : Nat) (x : Int) : (vA f).setIfInBounds k (iv x) = vA (fun i => if i = k then x else f i) := by
  apply Array.ext_getElem?
  intro i
  rw [Array.getElem?_setIfInBounds]
  by_cases hi : i < 16
  · rw [vA_at _ i hi, vA_at _ i hi, vA_size]
    by_cases e : k = i
    · subst e; rw [if_pos rfl, if_pos hi, if_pos rfl]
    · rw [if_neg e, if_neg (fun h => e h.symm)]
  · have h1 : (vA f)[i]? = none := by rw [Array.getElem?_eq_none]; rw [vA_size]; omega
    have h2 : (vA (fun i => if i = k then x else f i))[i]? = none := by rw [Array.getElem?_eq_none]; rw [vA_size]; omega
    rw [h1, h2, vA_size]
    by_cases e : k = i
    · subst e; rw [if_pos rfl, if_neg hi]
    · rw [if_neg e]
/-- The same numbers. -/
def eqV (f g : Nat → Int) : Bool := (List.range 16).all fun i => f i == g i
/-- No number above the other one's. -/
def leV (f g : Nat → Int) : Bool := (List.range 16).all fun i => decide (f i ≤ g i)
theorem eqV_iff (f g : Nat → Int) : eqV f g = true ↔ ∀ i, i < 16 → f i = g i := by simp [eqV]
theorem leV_iff (f g : Nat → Int) : leV f g = true ↔ ∀ i, i < 16 → f i ≤ g i := by simp [leV]
def joinV (f g : Nat → Int) (i : Nat) : Int := max (f i) (g i)
def meetV (f g : Nat → Int) (i : Nat) : Int := min (f i) (g i)
def clampV (f : Nat → Int) (i : Nat) : Int := min (max (f i) 0) 1048576
theorem leV_join (f g : Nat → Int) : eqV (joinV f g) g = leV f g := by
  rw [Bool.eq_iff_iff, eqV_iff, leV_iff]
  refine forall_congr' fun i => forall_congr' fun _ => ?_
  unfold joinV; omega

/-! Two arrays of 16 numbers, held against each other. -/
theorem equal_loop (P : Program) (w : World) (d : Nat) (e : TypeId) (f g : Nat → Int) (body : Nat → Option Bool × Unit → Sem (ForInStep (Option Bool × Unit)))
    (hb : ∀ i, i < 16 → (body i (none, ())).run P w = .ok (if f i == g i then .yield (none, ()) else .done (some false, ())) w) :
    ∀ (l : List Nat), (∀ i ∈ l, i < 16) → (forIn l (none, ()) body).run P w = .ok (if (l.all fun i => f i == g i) then (none, ()) else (some false, ())) w
  | [], _ => by simp
  | i :: l, h => by
    rw [List.forIn_cons, Sem.run_bind, hb i (h i (by simp))]
    have ih := equal_loop P w d e f g body hb l (fun j hj => h j (by simp [hj]))
    cases hfg : (f i == g i) with
    | true => simp [hfg, ih]
    | false => simp [hfg]
theorem run_equalIn_arr (P : Program) (w : World) (d : Nat) (t e : TypeId) (f g : Nat → Int) (hu : P.underlying t = some (.array 16 e)) (he : P.underlying e = some (.int .i64)) (hz : (P.info? e).map (·.size) = some 1) :
    (Op.equalIn (d + 2) t (.agg (vA f)) (.agg (vA g))).run P w = .ok (eqV f g) w := by
  have hs : (Go.sizeOf e).run P w = .ok 1 w := by
    cases hq : P.info? e with
    | none => simp [hq] at hz
    | some i => simp [hq] at hz; simp [sizeOf, typeInfo, hq, hz]
  have ha : (isAgg e).run P w = .ok false w := by
    unfold isAgg; rw [Sem.run_bind, run_underlying he w]; simp
  have hp : ∀ (h : Nat → Int) (i : Nat), i < 16 → (part e (vA h) (i * 1)).run P w = .ok (iv (h i)) w := by
    intro h i hi
    have := vA_at h i hi
    simp [part, Sem.run_bind, ha, this]
  have hi1 : ∀ (h : Nat → Int) (i : Nat) (hi : i < 16), (Op.equalIn (d + 1) e (iv (f i)) (iv (g i))).run P w = .ok (f i == g i) w := by
    intro h i hi
    exact run_equalIn_int w d e .i64 .i64 _ _ he
  unfold Op.equalIn
  simp only [Sem.run_bind, run_underlying hu w, Result.andThen_ok, hs, Std.Legacy.Range.forIn_eq_forIn_range']
  rw [equal_loop P w d e f g]
  · have e16 : List.range' 0 [:16].size = List.range 16 := by decide
    rw [e16]
    unfold eqV
    cases hq : ((List.range 16).all fun i => f i == g i) with
    | true => simp
    | false => simp
  · intro i hi
    simp only [Sem.run_bind, hp f i hi, hp g i hi, hi1 f i hi, Result.andThen_ok]
    cases hq : (f i == g i) with
    | true => simp
    | false => simp
  · intro i hi
    have e16 : List.range' 0 [:16].size = List.range 16 := by decide
    rw [e16] at hi
    exact List.mem_range.1 hi
theorem run_eql_arr (P : Program) (w : World) (t e : TypeId) (f g : Nat → Int) (hu : P.underlying t = some (.array 16 e)) (he : P.underlying e = some (.int .i64)) (hz : (P.info? e).map (·.size) = some 1) :
    (binOp .eql t (.agg (vA f)) (.agg (vA g))).run P w = .ok (.bool (eqV f g)) w := by
  rw [run_eql_struct, run_equalIn_arr P w 9998 t e f g hu he hz]; rfl

end Go.Proofs.Ytmhechlfpaciiaa
