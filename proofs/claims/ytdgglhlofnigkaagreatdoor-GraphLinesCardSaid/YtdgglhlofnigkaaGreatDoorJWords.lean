/-
  WORDS FOR MEMORY. Vectors as functions of the replica, and their cells. vector.Join's, Meet's and clamped's closures, and vector.of of each. vector.Dot, Join, Meet, clamped. Conditions: lengths.
-/import Derived.WalkKit
import Derived.WalkSpells
import Derived.WalkLawsBesides
import Derived.Maps.AppendAt
import Derived.Deep.AppendLies
import Derived.Deep.Draws
import Derived.Lib.Hide
import Derived.Laws.BytesArg
import Derived.Lib.ConvBytes
import Derived.Lib.Strings
import Derived.Test.YtdgglhlofnigkaaGreatDoorChecked
import Derived.Deep.WholeRow
import Derived.Laws.StructEq
import Derived.RegionTactic
import Derived.BigQuiet
import Derived.Deep.QuietTactic
import Derived.Deep.RegionHeld3
set_option maxHeartbeats 1000000
set_option maxRecDepth 100000
namespace Go.Proofs.YtdgglhlofnigkaaGreatDoor
open Go.RowKit
def bv (x : UInt8) : Value := .int .u8 (x.toNat : Int)
def bs (l : List UInt8) : List Value := l.map bv
def Sl {α : Type} (f : α → Value) (w : World) (v : Value) (l : List α) : Prop :=
 ∃ A c, v = .slice A l.length c ∧ l.length ≤ c ∧ (l ≠ [] → ∃ b o, A = some ⟨b, o, none⟩ ∧ b < w.heap.size ∧ ∀ j u, l[j]? = some u → w.cell? ⟨b, o + j, none⟩ = some (f u))
section
variable {α : Type} {f : α → Value} {w w' : World} {v : Value} {l : List α}
theorem Sl.kept (h : Sl f w v l) (hs : w.heap.size ≤ w'.heap.size) (hc : ∀ p : Addr, p.block < w.heap.size → w'.cell? p = w.cell? p) : Sl f w' v l := by
 obtain ⟨A, c, rfl, hlc, hx⟩ := h
 refine ⟨A, c, rfl, hlc, fun hn => ?_⟩
 obtain ⟨b, o, hA, hb, hcell⟩ := hx hn
 exact ⟨b, o, hA, by omega, fun j u hu => (hc ⟨b, o + j, none⟩ hb).trans (hcell j u hu)⟩
theorem Sl.below (h : Sl f w v l) (hb : Below w.heap.size w w') : Sl f w' v l := h.kept hb.size fun p hp => hb.cell (p := p) hp
theorem Sl.drew (h : Sl f w v l) : Sl f w.drew v l := h
end
theorem run_append_sl {P : Program} {α : Type} {f : α → Value} (w : World) (base : Nat) (t ty e : TypeId) (i : TypeInfo) (z : Value) (bytes : Nat) (ht : P.underlying t = some (.slice e)) (hi : P.info? e = some i) (hz : i.zero = some z)
  (hsize : i.size = 1) (hby : i.bytes = bytes) (hzs : z.cells.size = 1) (v : Value) (n : Nat) (xs : List Value) (hown : w.ownsRow base e 1 v n xs)
  (v2 : Value) (l : List α) (hl : Sl f w v2 l) (h1 : ∀ a, (f a).oneCell' = true)
  (hbytes : (n + l.length) * bytes ≤ 140737488355328) (hnm : n + l.length ≤ 140737488355328) (hbase : base ≤ w.heap.size) :
  ∃ v' w', (Builtin.append_ #[t, t] ty #[v, v2]).run P w = .ok v' w' ∧ w'.ownsRow base e 1 v' (n + l.length) (xs ++ l.map f) ∧ w.grownBy w' v.ownBlock := by
 obtain ⟨A, c, rfl, hlc, hx⟩ := hl
 have h63 : n + l.length ≤ maxLen := by unfold maxLen; omega
 have one : ∀ u ∈ l.map f, u.oneCell' = true := by intro u hu; obtain ⟨x, _, rfl⟩ := List.mem_map.1 hu; exact h1 x
 by_cases hn : l = []
 ·subst hn
  rcases A with _ | ad
  ·refine ⟨v, w, ?_, by simpa using hown, World.grownBy.refl w _⟩
   rcases hown.2 with ⟨rfl, rfl⟩ | ⟨g, cap, cur, rfl, _, _, hnc, _⟩
   ·simp [Builtin.append_, run_underlying ht, sizeOf, typeInfo, hi, Builtin.lenOf, Builtin.firstCells]
   ·simp [Builtin.append_, run_underlying ht, sizeOf, typeInfo, hi, Builtin.lenOf, Builtin.firstCells, hnc, storeCells]
  ·obtain ⟨v', w', hr, h2, h3, _⟩ := run_append_own (P := P) w base t ty e i z 1 bytes ht hi hz hsize hby hzs (by omega) v n xs hown ad 0 c [] rfl (by simp) (by simp) (by simpa using h63) (by simpa using hbytes) hbase
   exact ⟨v', w', hr, by simpa using h2, h3⟩
 ·obtain ⟨b, o, rfl, hb, hcell⟩ := hx hn
  obtain ⟨v', w', hr, h2, h3, _⟩ := run_append_own (P := P) w base t ty e i z 1 bytes ht hi hz hsize hby hzs (by omega) v n xs hown ⟨b, o, none⟩ l.length c (l.map f) (by simp)
   (fun j u hu => by
    obtain ⟨x, hx1, rfl⟩ : ∃ x, l[j]? = some x ∧ f x = u := by simpa using hu
    rw [Addr.add_lit]; exact hcell j x hx1) one h63 hbytes hbase
  exact ⟨v', w', hr, h2, h3⟩
def Blk (w : World) (g : Nat) (t : TypeId) (cs : Array Value) : Prop := w.heap[g]? = some (.cells cs t (0, 0))
theorem Blk.lt {w : World} {g : Nat} {t : TypeId} {cs : Array Value} (h : Blk w g t cs) : g < w.heap.size := (Array.getElem?_eq_some_iff.1 h).1
theorem Blk.cell {w : World} {g : Nat} {t : TypeId} {cs : Array Value} (h : Blk w g t cs) (i : Nat) : w.cell? ⟨g, i, none⟩ = cs[i]? := cell_of_row w g i cs t (0, 0) h
theorem Blk.free {w : World} {g : Nat} {t : TypeId} {cs : Array Value} (h : Blk w g t cs) (i : Nat) : w.frozen? ⟨g, i, none⟩ = false := by
 unfold Blk at h; simp [World.frozen?, h]
theorem Blk.new (w : World) (t : TypeId) (cs : Array Value) : Blk (w.alloc (.cells cs t)) w.heap.size t cs := heap_alloc_new w _
theorem Blk.below {w w' : World} {g : Nat} {t : TypeId} {cs : Array Value} {B : Nat} (h : Blk w g t cs) (hb : Below B w w') (hg : g < B) : Blk w' g t cs := (hb.block g hg).trans h
theorem Blk.alloc {w : World} {g : Nat} {t : TypeId} {cs : Array Value} (h : Blk w g t cs) (o : Obj) : Blk (w.alloc o) g t cs :=
 h.below ((Below.refl _ _).alloc (Nat.le_refl _) o) h.lt
theorem Blk.set_ {w : World} {g : Nat} {t : TypeId} {cs : Array Value} (h : Blk w g t cs) (i : Nat) (u : Value) : Blk (w.setCell ⟨g, i, none⟩ u) g t (cs.setIfInBounds i u) := by
 unfold Blk at h ⊢
 simp [World.setCell, Array.getElem?_modify, h]
theorem Blk.far {w : World} {g : Nat} {t : TypeId} {cs : Array Value} (h : Blk w g t cs) {p : Addr} (hp : g ≠ p.block) (u : Value) : Blk (w.setCell p u) g t cs :=
 (Below.heap_setCell w p u g hp).trans h
def But (g : Nat) (w w' : World) : Prop := w.grownBy w' (some g)
theorem But.trans {g : Nat} {a b c : World} (h : But g a b) (k : But g b c) : But g a c :=
 ⟨k.os.trans h.os, k.tape.trans h.tape, k.output.trans h.output, Nat.le_trans h.size k.size, fun i hi hn => (k.block i (Nat.lt_of_lt_of_le hi h.size) hn).trans (h.block i hi hn)⟩
theorem But.of_below {g : Nat} {w w' : World} (h : Below w.heap.size w w') : But g w w' := ⟨h.os, h.tape, h.output, h.size, fun i hi _ => h.block i hi⟩
theorem But.setCell (w : World) (g i : Nat) (u : Value) : But g w (w.setCell ⟨g, i, none⟩ u) :=
 ⟨rfl, rfl, rfl, by simp [World.setCell], fun k _ hn => Below.heap_setCell w ⟨g, i, none⟩ u k (fun e => hn (by rw [e]))⟩
theorem But.blk {g h : Nat} {w w' : World} {t : TypeId} {cs : Array Value} (hb : But g w w') (hk : Blk w h t cs) (hne : h ≠ g) : Blk w' h t cs :=
 (hb.block h hk.lt (by simpa using hne)).trans hk
def iv (n : Int) : Value := .int .i64 n
def vA (f : Nat → Int) : Array Value := ((List.range 16).map fun i => iv (f i)).toArray
theorem vA_size (f : Nat → Int) : (vA f).size = 16 := by simp [vA]
theorem vA_at (f : Nat → Int) (i : Nat) (h : i < 16) : (vA f)[i]? = some (iv (f i)) := by
 simp [vA, h]
theorem vA_one (f : Nat → Int) : (vA f).all (·.oneCell') = true := by
 simp [vA, iv, Value.oneCell']
theorem vA_congr {f g : Nat → Int} (h : ∀ i, i < 16 → f i = g i) : vA f = vA g := by
 unfold vA
 congr 1
 apply List.map_congr_left
 intro i hi
 rw [h i (List.mem_range.1 hi)]
theorem vA_set (f : Nat → Int) (k : Nat) (x : Int) : (vA f).setIfInBounds k (iv x) = vA (fun i => if i = k then x else f i) := by
 apply Array.ext_getElem?
 intro i
 rw [Array.getElem?_setIfInBounds]
 by_cases hi : i < 16
 ·rw [vA_at _ i hi, vA_at _ i hi, vA_size]
  by_cases e : k = i
  ·subst e; rw [if_pos rfl, if_pos hi, if_pos rfl]
  ·rw [if_neg e, if_neg (fun h => e h.symm)]
 ·have h1 : (vA f)[i]? = none := by rw [Array.getElem?_eq_none]; rw [vA_size]; omega
  have h2 : (vA (fun i => if i = k then x else f i))[i]? = none := by rw [Array.getElem?_eq_none]; rw [vA_size]; omega
  rw [h1, h2, vA_size]
  by_cases e : k = i
  ·subst e; rw [if_pos rfl, if_neg hi]
  ·rw [if_neg e]
def eqV (f g : Nat → Int) : Bool := (List.range 16).all fun i => f i == g i
theorem eqV_iff (f g : Nat → Int) : eqV f g = true ↔ ∀ i, i < 16 → f i = g i := by simp [eqV]
def clampV (f : Nat → Int) (i : Nat) : Int := min (max (f i) 0) 1048576
theorem equal_loop (P : Program) (w : World) (d : Nat) (e : TypeId) (f g : Nat → Int) (body : Nat → Option Bool × Unit → Sem (ForInStep (Option Bool × Unit)))
  (hb : ∀ i, i < 16 → (body i (none, ())).run P w = .ok (if f i == g i then .yield (none, ()) else .done (some false, ())) w) :
  ∀ (l : List Nat), (∀ i ∈ l, i < 16) → (forIn l (none, ()) body).run P w = .ok (if (l.all fun i => f i == g i) then (none, ()) else (some false, ())) w
 | [], _ => by simp
 | i :: l, h => by
  rw [List.forIn_cons, Sem.run_bind, hb i (h i (by simp))]
  have ih := equal_loop P w d e f g body hb l (fun j hj => h j (by simp [hj]))
  cases hfg : (f i == g i) with
  | true => simp [hfg, ih]
  | false => simp [hfg]
theorem run_equalIn_arr (P : Program) (w : World) (d : Nat) (t e : TypeId) (f g : Nat → Int) (hu : P.underlying t = some (.array 16 e)) (he : P.underlying e = some (.int .i64)) (hz : (P.info? e).map (·.size) = some 1) :
  (Op.equalIn (d + 2) t (.agg (vA f)) (.agg (vA g))).run P w = .ok (eqV f g) w := by
 have hs : (Go.sizeOf e).run P w = .ok 1 w := by
  cases hq : P.info? e with
  | none => simp [hq] at hz
  | some i => simp [hq] at hz; simp [sizeOf, typeInfo, hq, hz]
 have ha : (isAgg e).run P w = .ok false w := by
  unfold isAgg; rw [Sem.run_bind, run_underlying he w]; simp
 have hp : ∀ (h : Nat → Int) (i : Nat), i < 16 → (part e (vA h) (i * 1)).run P w = .ok (iv (h i)) w := by
  intro h i hi
  have := vA_at h i hi
  simp [part, Sem.run_bind, ha, this]
 have hi1 : ∀ (h : Nat → Int) (i : Nat) (hi : i < 16), (Op.equalIn (d + 1) e (iv (f i)) (iv (g i))).run P w = .ok (f i == g i) w := by
  intro h i hi
  exact run_equalIn_int w d e .i64 .i64 _ _ he
 unfold Op.equalIn
 simp only [Sem.run_bind, run_underlying hu w, Result.andThen_ok, hs, Std.Legacy.Range.forIn_eq_forIn_range']
 rw [equal_loop P w d e f g]
 ·have e16 : List.range' 0 [:16].size = List.range 16 := by decide
  rw [e16]
  unfold eqV
  cases hq : ((List.range 16).all fun i => f i == g i) with
  | true => simp
  | false => simp
 ·intro i hi
  simp only [Sem.run_bind, hp f i hi, hp g i hi, hi1 f i hi, Result.andThen_ok]
  cases hq : (f i == g i) with
  | true => simp
  | false => simp
 ·intro i hi
  have e16 : List.range' 0 [:16].size = List.range 16 := by decide
  rw [e16] at hi
  exact List.mem_range.1 hi
theorem run_eql_arr (P : Program) (w : World) (t e : TypeId) (f g : Nat → Int) (hu : P.underlying t = some (.array 16 e)) (he : P.underlying e = some (.int .i64)) (hz : (P.info? e).map (·.size) = some 1) :
  (binOp .eql t (.agg (vA f)) (.agg (vA g))).run P w = .ok (.bool (eqV f g)) w := by
 rw [run_eql_struct, run_equalIn_arr P w 9998 t e f g hu he hz]; rfl
open Lib (hid)
theorem zeroV : (Tryz.prog.info? 26).map (fun i => (i.zero, i.size)) = some (some (.agg (vA fun _ => 0)), 16) := by kernel_rfl
theorem sizeV (f : Nat → Int) : (Tryz.prog.info? 26).map (·.size) = some (vA f).size := by rw [vA_size]; exact (zero_of_info zeroV).2
theorem sizeI : (Tryz.prog.info? 3).map (·.size) = some 1 := by kernel_rfl
def pv (g : Nat) : Value := .pointer (some ⟨g, 0, none⟩)
def VB (w : World) (g : Nat) (f : Nat → Int) : Prop := Blk w g 26 (vA f)
theorem VB.cell_ {w : World} {g : Nat} {f : Nat → Int} (h : VB w g f) (i : Nat) (hi : i < 16) : w.cell? ⟨g, i, none⟩ = some (.int .i64 (f i)) := by
 have := Blk.cell h i
 rw [vA_at f i hi] at this
 exact this
theorem VB.keep {w w' : World} {g : Nat} {f : Nat → Int} (h : VB w g f) (hb : Below w.heap.size w w') : VB w' g f := Blk.below h hb (Blk.lt h)
theorem VB.alloc_ {w : World} {g : Nat} {f : Nat → Int} (h : VB w g f) (o : Obj) : VB (w.alloc o) g f := h.keep ((Below.refl _ _).alloc (Nat.le_refl _) o)
theorem VB.new_ {w : World} {g : Nat} (f : Nat → Int) (hg : g = w.heap.size) : VB (w.alloc (.cells (vA f) 26)) g f := by subst hg; exact Blk.new w _ _
theorem VB.of_eq {w : World} {g : Nat} {f f' : Nat → Int} (h : VB w g f) (e : ∀ i, i < 16 → f i = f' i) : VB w g f' := by
 unfold VB at h ⊢; rw [← vA_congr e]; exact h
theorem VB.put {w : World} {g : Nat} {f : Nat → Int} (h : VB w g f) (k : Nat) (x : Int) : VB (w.setCell ⟨g, k, none⟩ (.int .i64 x)) g (fun i => if i = k then x else f i) := by
 have := Blk.set_ h k (iv x)
 rw [vA_set] at this
 exact this
theorem run_eqV (w : World) (f g : Nat → Int) : (binOp .eql 26 (.agg (vA f)) (.agg (vA g))).run Tryz.prog w = .ok (.bool (eqV f g)) w :=
 run_eql_arr Tryz.prog w 26 3 f g Tryz.underlying26 Tryz.underlying3 sizeI
theorem ret_int {k : IntKind} {a b : Int} (h : a = b) : Ending.returned (.int k a) = .returned (.int k b) := by rw [h]
theorem clamp1 (w : World) (i a : Nat) (f : Nat → Int) (hi : i < 16) (ha : VB w a f) : Calls Tryz.prog 125 #[.int .i64 i, pv a] w fun e w' => e = .returned (.int .i64 (clampV f i)) ∧ Below w.heap.size w w' := by
 have c1 := ha.cell_ i hi
 unfold pv clampV
 generalize f i = x at *
 go_enter Tryz.func125, Tryz.ntmps125
 go_wp2
 all_goals go_ret
 all_goals exact ⟨ret_int (by omega), Below.refl _ _⟩
def partV (f : Nat → Int) (k i : Nat) : Int := if i < k then f i else 0
theorem partV_succ (f : Nat → Int) (k : Nat) (i : Nat) (_ : i < 16) : (if i = k then f k else partV f k i) = partV f (k + 1) i := by
 unfold partV
 by_cases e : i = k
 ·subst e; rw [if_pos rfl, if_pos (by omega)]
 ·rw [if_neg e]
  by_cases h : i < k
  ·rw [if_pos h, if_pos (by omega)]
  ·rw [if_neg h, if_neg (by omega)]
theorem partV_full (f : Nat → Int) (i : Nat) (h : i < 16) : partV f 16 i = f i := by unfold partV; rw [if_pos h]
theorem setRow_other (w : World) (g k : Nat) (c : Array Value) (h : k ≠ g) : (w.setRow g c).heap[k]? = w.heap[k]? := by
 simp only [World.setRow]
 rw [Array.getElem?_modify, if_neg (fun e => h e.symm)]
theorem setRow_VB (w : World) (g : Nat) (f f' : Nat → Int) (h : VB w g f) : VB (w.setRow g (vA f')) g f' := by
 unfold VB Blk at *
 simp only [World.setRow]
 rw [Array.getElem?_modify, if_pos rfl, h]; rfl
theorem setRow_below (w : World) (g B : Nat) (c : Array Value) (h : B ≤ g) : Below B w (w.setRow g c) :=
 ⟨rfl, rfl, rfl, by simp [World.setRow], fun k hk => setRow_other w g k c (by omega)⟩
theorem of_clamp (w : World) (a : Nat) (f : Nat → Int) (ha : VB w a f) : Calls Tryz.prog 124 #[.func (.func 125) #[] #[pv a]] w fun e w' => e = .returned (.agg (vA (clampV f))) ∧ Below w.heap.size w w' := by
 have hz := (zero_of_info zeroV).1
 obtain ⟨N, hN⟩ : ∃ N, N = clampV f := ⟨_, rfl⟩
 unfold pv
 go_enter Tryz.func124, Tryz.ntmps124
 go_wp2
 have HZ := hid hz; clear hz
 have HA := hid ha; clear ha
 have HN := hid hN; clear hN
 go_loopw [4, 5] (fun _ i wr => ∃ k : Nat, k ≤ 16 ∧ i = .int .i64 k ∧ VB wr (w.heap.size + 1) (partV N k) ∧ VB wr w.heap.size (fun _ => 0) ∧ Below w.heap.size w wr) (fun _ i _ => 16 - (intOf i).toNat)
 case atStart =>
  refine ⟨0, by omega, rfl, ?_, (Blk.new w _ _).alloc _, ((Below.refl _ _).alloc (Nat.le_refl _) _).alloc (by simp) _⟩
  have := Blk.new (w.alloc (.cells (vA fun _ => 0) 26)) 26 (vA fun _ => 0)
  have e : vA (partV N 0) = vA fun _ => 0 := vA_congr fun i _ => by simp [partV]
  unfold VB
  rw [e]
  simpa using this
 case round =>
  obtain ⟨k, hk, rfl, hb1, hb0, hbl⟩ := hrel
  by_cases hlt : k < 16
  ·have HB1 := hid hb1
   have HB0 := hid hb0
   have HBL := hid hbl
   clear hb1 hb0 hbl
   go_wp2_with fail
   refine (clamp1 wr k a f hlt (Blk.below HA.out HBL.out (Blk.lt HA.out))).mono ?_
   rintro e w1 ⟨rfl, hb2⟩
   have c1 := (HB1.out.keep hb2).cell_ k hlt
   have f1 := Blk.free (HB1.out.keep hb2) k
   have hset := ((HB1.out.keep hb2).put k (N k)).of_eq (partV_succ N k)
   have hb0' := Blk.far (HB0.out.keep hb2) (p := ⟨w.heap.size + 1, k, none⟩) (by simp) (.int .i64 (N k))
   have hbl' := (HBL.out.trans (hb2.mono HBL.out.size)).setCell (p := ⟨w.heap.size + 1, k, none⟩) (by simp) (.int .i64 (N k))
   rw [← HN.out]
   have HS := hid hset
   have HT := hid hb0'
   have HU := hid hbl'
   clear hset hb0' hbl' hb2
   generalize partV N k k = z at *
   go_wp2
   go_roundw
   case rel => exact ⟨k + 1, by omega, by go_num, HS.out, HT.out, HU.out⟩
   case measure => simp [intOf]; omega
  ·have hkk : k = 16 := by omega
   subst hkk
   have hb1' := hb1.of_eq (partV_full N)
   have hrow := setRow_VB wr w.heap.size _ N hb0
   have hbl' := hbl.trans (setRow_below wr w.heap.size w.heap.size (vA N) (Nat.le_refl _))
   have HB1 := hid hb1'
   have HB0 := hid hb0
   have HR := hid hrow
   have HL := hid hbl'
   clear hb1 hb1' hb0 hrow hbl' hbl hlt hk
   go_wp2_with (first
    | (refine wpList_load_row rfl 26 (.tmp 3) rfl (w.heap.size + 1) rfl _ _ _ _ HB1.out Tryz.underlying26 rfl (sizeV _) ?_)
    | (refine wpList_store_row rfl 26 (.tmp 2) (.tmp 14) rfl w.heap.size (vA N) rfl rfl _ _ HB0.out (sizeV _) (by rw [vA_size, vA_size]) (vA_one _) ?_))
   rw [← HN.out]
   exact bodyPost_ret (v := .agg (vA N)) (results_cell_row (P := Tryz.prog) Tryz.results124 _ _ w.heap.size _ (vA N) _ _ rfl HR.out Tryz.underlying26 rfl (sizeV _)) rfl ⟨rfl, HL.out⟩
def dv (r c : Int) : Value := .agg #[.int .i64 r, .int .i64 c]
def dotB (r c : Int) : Bool := decide (0 ≤ r ∧ r < 16 ∧ 1 ≤ c ∧ c ≤ 1048576)
theorem ret_bool {a b : Bool} (h : a = b) : Ending.returned (.bool a) = .returned (.bool b) := by rw [h]
theorem dot_any (r c : Int) (w : World) : Calls Tryz.prog 90 #[dv r c] w fun e w' => e = .returned (.bool (dotB r c)) ∧ Below w.heap.size w w' := by
 unfold dv
 by_cases h1 : 0 ≤ r
 ·by_cases h2 : r < 16
  ·by_cases h3 : 1 ≤ c
   ·have hd : decide (1 ≤ c) = true := by simpa using h3
    go_enter Tryz.func90, Tryz.ntmps90
    go_wp2
    go_ret
    exact ⟨ret_bool (decide_eq_decide.2 ⟨fun h => ⟨h1, h2, h3, h⟩, fun h => h.2.2.2⟩), (Below.refl _ _).alloc (Nat.le_refl _) _⟩
   ·have hd : decide (1 ≤ c) = false := by simpa using h3
    go_enter Tryz.func90, Tryz.ntmps90
    go_wp2
    go_ret
    exact ⟨ret_bool (decide_eq_false (by omega)).symm, (Below.refl _ _).alloc (Nat.le_refl _) _⟩
  ·have hd : decide (r < 16) = false := by simpa using h2
   go_enter Tryz.func90, Tryz.ntmps90
   go_wp2
   go_ret
   exact ⟨ret_bool (decide_eq_false (by omega)).symm, (Below.refl _ _).alloc (Nat.le_refl _) _⟩
 ·have hd : decide (0 ≤ r) = false := by simpa using h1
  go_enter Tryz.func90, Tryz.ntmps90
  go_wp2
  go_ret
  exact ⟨ret_bool (decide_eq_false (by omega)).symm, (Below.refl _ _).alloc (Nat.le_refl _) _⟩
theorem dotB_iff (r c : Int) : dotB r c = true ↔ ∃ n : Nat, r = n ∧ n < 16 ∧ 1 ≤ c ∧ c ≤ 1048576 := by
 unfold dotB
 rw [decide_eq_true_eq]
 exact ⟨fun ⟨h1, h2, h3, h4⟩ => ⟨r.toNat, by omega, by omega, h3, h4⟩, fun ⟨n, h1, h2, h3, h4⟩ => ⟨by omega, by omega, h3, h4⟩⟩
theorem clamp_any (f : Nat → Int) (w : World) : Calls Tryz.prog 91 #[.agg (vA f)] w fun e w' => e = .returned (.agg (vA (clampV f))) ∧ Below w.heap.size w w' := by
 have hz := (zero_of_info zeroV).1
 go_enter Tryz.func91, Tryz.ntmps91
 go_wp2_with fail
 have b1 : VB ((w.alloc (.cells (vA f) 26)).alloc (.cells (vA fun _ => 0) 26)) w.heap.size f := (VB.new_ f rfl).alloc_ _
 have b3 : VB ((w.alloc (.cells (vA f) 26)).alloc (.cells (vA fun _ => 0) 26)) (w.heap.size + 1) (fun _ => 0) := VB.new_ _ (by simp)
 have hb : Below w.heap.size w ((w.alloc (.cells (vA f) 26)).alloc (.cells (vA fun _ => 0) 26)) := ((Below.refl _ _).alloc (Nat.le_refl _) _).alloc (by simp) _
 refine (of_clamp _ _ f b1).mono ?_
 rintro e w1 ⟨rfl, hb1⟩
 have B3 := hid (b3.keep hb1)
 have hrow := setRow_VB w1 (w.heap.size + 1) _ (clampV f) B3.out
 have hb2 := (hb.trans (hb1.mono hb.size)).trans (setRow_below w1 (w.heap.size + 1) w.heap.size (vA (clampV f)) (by omega))
 have HR := hid hrow
 have HB2 := hid hb2
 have HZ := hid hz
 clear hrow hb2 hb hb1 b1 b3 hz
 go_wp2_with (first
  | (refine wpList_store_row rfl 26 (.tmp 2) (.tmp 4) rfl (w.heap.size + 1) (vA (clampV f)) rfl rfl _ _ B3.out (sizeV _) (by rw [vA_size, vA_size]) (vA_one _) ?_))
 exact bodyPost_ret (v := .agg (vA (clampV f))) (results_cell_row (P := Tryz.prog) Tryz.results91 _ _ (w.heap.size + 1) _ (vA (clampV f)) _ _ rfl HR.out Tryz.underlying26 rfl (sizeV _)) rfl ⟨rfl, HB2.out⟩
end Go.Proofs.YtdgglhlofnigkaaGreatDoor
