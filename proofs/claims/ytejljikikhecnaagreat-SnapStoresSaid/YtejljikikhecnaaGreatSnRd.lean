/-
  snap.readDot, readValue, readElem, readVector, readEntry, readEvent: what is read: the contracts, by walks. Conditions: none.
-/
import Derived.Test.YtejljikikhecnaaGreatSnBytes
import Derived.Test.YtejljikikhecnaaGreatNNb
namespace Go.Proofs.YtejljikikhecnaaGreat
open Go.RowKit Go.MapKept Go.Sort
def ba (l : List UInt8) : ByteArray := ⟨l.toArray⟩
def mx : Int := 9223372036854775807
def n1 (s : List UInt8 × Bool) := rNum s mx
def n2 (s : List UInt8 × Bool) := rNum (n1 s).2 mx
def pN (s : List UInt8 × Bool) : Nat → (Nat → Int) × (List UInt8 × Bool)
  | 0 => (fun _ => 0, (n2 s).2)
  | k + 1 => (fun i => if i = k then (rNum (pN s k).2 mx).1 else (pN s k).1 i, (rNum (pN s k).2 mx).2)
def n4 (s : List UInt8 × Bool) := rNum (pN s 16).2 mx
def n5 (s : List UInt8 × Bool) := rNum (n4 s).2 mx
def t6 (s : List UInt8 × Bool) := rText (n5 s).2 mx
def t7 (s : List UInt8 × Bool) := rText (t6 s).2 mx
def t8 (s : List UInt8 × Bool) := rText (t7 s).2 mx
def t9 (s : List UInt8 × Bool) := rText (t8 s).2 mx
def n10 (s : List UInt8 × Bool) := rNum (t9 s).2 mx
def n11 (s : List UInt8 × Bool) := rSig (n10 s).2
def t12 (s : List UInt8 × Bool) := rText (n11 s).2 mx
/-- The event that comes next; what is left then. -/
def nextE (s : List UInt8 × Bool) : Ev := ⟨(n1 s).1, (n2 s).1, (pN s 16).1, (n4 s).1, (n5 s).1, ba (t6 s).1, ba (t7 s).1, ba (t8 s).1, ba (t9 s).1, (n10 s).1, (n11 s).1, ba (t12 s).1⟩
def nextS (s : List UInt8 × Bool) : List UInt8 × Bool := (t12 s).2
theorem ba_of {b : ByteArray} {l : List UInt8} (h : b.data.toList = l) : b = ba l := by
  subst h; rfl

theorem But.far_set {g : Nat} {w W : World} (h : But g w W) {q : Nat} (hq : w.heap.size ≤ q) (i : Nat) (v : Value) : But g w (W.setCell ⟨q, i, none⟩ v) :=
  ⟨h.os, h.tape, h.output, by have := h.size; simpa [World.setCell] using this, fun k hk hn => (Below.heap_setCell W ⟨q, i, none⟩ v k (fun e => by have : k = q := e; omega)).trans (h.block k hk hn)⟩
theorem But.far_row {g : Nat} {w W : World} (h : But g w W) {q : Nat} (hq : w.heap.size ≤ q) (c : Array Value) : But g w (W.setRow q c) :=
  ⟨h.os, h.tape, h.output, by have := h.size; simpa [World.setRow] using this, fun k hk hn => (setRow_other W q k c (by omega)).trans (h.block k hk hn)⟩
theorem Rd.far {w : World} {g : Nat} {s : List UInt8 × Bool} (h : Rd w g s) {q : Nat} (hq : g ≠ q) (i : Nat) (v : Value) : Rd (w.setCell ⟨q, i, none⟩ v) g s := by
  obtain ⟨b, h1, h2, h3⟩ := h
  exact ⟨b, h1, h2, h3.far (p := ⟨q, i, none⟩) hq v⟩
theorem Rd.row {w : World} {g : Nat} {s : List UInt8 × Bool} (h : Rd w g s) {q : Nat} (hq : g ≠ q) (c : Array Value) : Rd (w.setRow q c) g s := by
  obtain ⟨b, h1, h2, h3⟩ := h
  exact ⟨b, h1, h2, (setRow_other w q g c hq).trans h3⟩
theorem EB.put {w : World} {q : Nat} {e e' : Ev} (h : EB w q e) (i : Nat) (v : Value) (hv : (evC e).setIfInBounds i v = evC e') : EB (w.setCell ⟨q, i, none⟩ v) q e' := by
  have := Blk.set_ h i v
  rw [hv] at this
  exact this
theorem EB.far {w : World} {q g : Nat} {e : Ev} (h : EB w g e) (hq : g ≠ q) (i : Nat) (v : Value) : EB (w.setCell ⟨q, i, none⟩ v) g e := Blk.far h (p := ⟨q, i, none⟩) hq v
theorem past_at (e : Ev) (k : Nat) (h : k < 16) : (evC e)[2 + k]? = some (.int .i64 (e.p k)) := by
  have : k = 0 ∨ k = 1 ∨ k = 2 ∨ k = 3 ∨ k = 4 ∨ k = 5 ∨ k = 6 ∨ k = 7 ∨ k = 8 ∨ k = 9 ∨ k = 10 ∨ k = 11 ∨ k = 12 ∨ k = 13 ∨ k = 14 ∨ k = 15 := by omega
  rcases this with rfl | rfl | rfl | rfl | rfl | rfl | rfl | rfl | rfl | rfl | rfl | rfl | rfl | rfl | rfl | rfl <;> rfl
theorem past_set (e : Ev) (k : Nat) (x : Int) (h : k < 16) : (evC e).setIfInBounds (2 + k) (.int .i64 x) = evC { e with p := fun i => if i = k then x else e.p i } := by
  have : k = 0 ∨ k = 1 ∨ k = 2 ∨ k = 3 ∨ k = 4 ∨ k = 5 ∨ k = 6 ∨ k = 7 ∨ k = 8 ∨ k = 9 ∨ k = 10 ∨ k = 11 ∨ k = 12 ∨ k = 13 ∨ k = 14 ∨ k = 15 := by omega
  rcases this with rfl | rfl | rfl | rfl | rfl | rfl | rfl | rfl | rfl | rfl | rfl | rfl | rfl | rfl | rfl | rfl <;> rfl


/-- Cells of which some are laid anew. -/
def putA (cs : Array Value) : Nat → List Value → Array Value
  | _, [] => cs
  | k, v :: vs => putA (cs.setIfInBounds k v) (k + 1) vs
theorem Blk.sets {g : Nat} {t : TypeId} : ∀ (vs : List Value) (k : Nat) (w : World) (cs : Array Value), Blk w g t cs → Blk (w.setCells g k vs) g t (putA cs k vs)
  | [], _, _, _, h => h
  | v :: vs, k, _, _, h => Blk.sets vs (k + 1) _ _ (Blk.set_ h k v)
theorem Blk.fars {g q : Nat} {t : TypeId} {cs : Array Value} (hq : g ≠ q) : ∀ (vs : List Value) (k : Nat) (w : World), Blk w g t cs → Blk (w.setCells q k vs) g t cs
  | [], _, _, h => h
  | v :: vs, k, _, h => Blk.fars hq vs (k + 1) _ (Blk.far h (p := ⟨q, k, none⟩) hq v)
theorem Rd.fars {g q : Nat} {s : List UInt8 × Bool} (hq : g ≠ q) : ∀ (vs : List Value) (k : Nat) (w : World), Rd w g s → Rd (w.setCells q k vs) g s
  | [], _, _, h => h
  | v :: vs, k, _, h => Rd.fars hq vs (k + 1) _ (Rd.far h hq k v)
theorem But.far_sets {g q : Nat} {w : World} (hq : w.heap.size ≤ q) : ∀ (vs : List Value) (k : Nat) (W : World), But g w W → But g w (W.setCells q k vs)
  | [], _, _, h => h
  | v :: vs, k, _, h => But.far_sets hq vs (k + 1) _ (h.far_set hq k v)
theorem Blk.there {w : World} {g : Nat} {t : TypeId} {cs : Array Value} (h : Blk w g t cs) (k n : Nat) (hn : k + n ≤ cs.size) : w.there g k n := fun j hj => ⟨by rw [h.cell, Array.getElem?_eq_getElem (by omega)]; rfl, h.free _⟩

def d1 (s : List UInt8 × Bool) := rNum s mx
def d2 (s : List UInt8 × Bool) := rNum (d1 s).2 mx
/-- A dot; what is left. -/
def rdD (s : List UInt8 × Bool) : Dt × (List UInt8 × Bool) := (⟨(d1 s).1, (d2 s).1⟩, (d2 s).2)
def a1 (s : List UInt8 × Bool) := rNum s mx
def a2 (s : List UInt8 × Bool) := rSig (a1 s).2
def a3 (s : List UInt8 × Bool) := rText (a2 s).2 mx
def rdA (s : List UInt8 × Bool) : Va × (List UInt8 × Bool) := (⟨(a1 s).1, (a2 s).1, ba (a3 s).1⟩, (a3 s).2)
def x1 (s : List UInt8 × Bool) := rNum s mx
def x2 (s : List UInt8 × Bool) := rText (x1 s).2 mx
def x3 (s : List UInt8 × Bool) := rText (x2 s).2 mx
def x4 (s : List UInt8 × Bool) := rText (x3 s).2 mx
def x5 (s : List UInt8 × Bool) := rText (x4 s).2 mx
def rdX (s : List UInt8 × Bool) : El × (List UInt8 × Bool) := (⟨(x1 s).1, ba (x2 s).1, ba (x3 s).1, ba (x4 s).1, ba (x5 s).1⟩, (x5 s).2)
def pV (s : List UInt8 × Bool) : Nat → (Nat → Int) × (List UInt8 × Bool)
  | 0 => (fun _ => 0, s)
  | k + 1 => (fun i => if i = k then (rNum (pV s k).2 mx).1 else (pV s k).1 i, (rNum (pV s k).2 mx).2)
def rdF (s : List UInt8 × Bool) : (Nat → Int) × (List UInt8 × Bool) := pV s 16
def rdN (s : List UInt8 × Bool) : (Dt × Va) × (List UInt8 × Bool) := (((rdD s).1, (rdA (rdD s).2).1), (rdA (rdD s).2).2)
def e3 (s : List UInt8 × Bool) := rNum (rdF (rdD s).2).2 mx
def rdEv (s : List UInt8 × Bool) : Ev × (List UInt8 × Bool) :=
  (⟨(rdD s).1.r, (rdD s).1.c, (rdF (rdD s).2).1, (e3 s).1, (rdX (e3 s).2).1.k, (rdX (e3 s).2).1.a, (rdX (e3 s).2).1.b, (rdX (e3 s).2).1.c, (rdX (e3 s).2).1.d, (rdA (rdX (e3 s).2).2).1.k, (rdA (rdX (e3 s).2).2).1.n, (rdA (rdX (e3 s).2).2).1.t⟩, (rdA (rdX (e3 s).2).2).2)
theorem zeroDt : (Tryz.prog.info? 43).map (fun i => (i.zero, i.size)) = some (some (.agg #[.int .i64 0, .int .i64 0]), 2) := by kernel_rfl
theorem zeroVa : (Tryz.prog.info? 47).map (fun i => (i.zero, i.size)) = some (some (.agg #[.int .i64 0, .int .i64 0, .string ⟨#[]⟩]), 3) := by kernel_rfl
theorem zeroEl : (Tryz.prog.info? 45).map (fun i => (i.zero, i.size)) = some (some (.agg #[.int .i64 0, .string ⟨#[]⟩, .string ⟨#[]⟩, .string ⟨#[]⟩, .string ⟨#[]⟩]), 5) := by kernel_rfl
theorem zeroEn : (Tryz.prog.info? 63).map (fun i => (i.zero, i.size)) = some (some (.agg #[.int .i64 0, .int .i64 0, .int .i64 0, .int .i64 0, .string ⟨#[]⟩]), 5) := by kernel_rfl
theorem zeroVc : (Tryz.prog.info? 23).map (fun i => (i.zero, i.size)) = some (some (.agg (vA fun _ => 0)), 16) := by kernel_rfl
set_option maxRecDepth 100000 in
set_option maxHeartbeats 4000000 in
theorem readDot_any (g : Nat) (s : List UInt8 × Bool) (w : World) (h : Rd w g s) : Calls Tryz.prog 74 #[.pointer (some ⟨g, 0, none⟩)] w fun e w' => e = .returned (eD (rdD s).1) ∧ Rd w' g (rdD s).2 ∧ But g w w' := by
  have hg := h.lt
  have hz := (zero_of_info zeroDt).1
  obtain ⟨X, hX⟩ : ∃ X, X = (w.alloc (.cells #[.int .i64 0, .int .i64 0] 43)).alloc (.cells #[.int .i64 0, .int .i64 0] 43) := ⟨_, rfl⟩
  have hbx : Below w.heap.size w X := by rw [hX]; exact ((Below.refl _ _).alloc (Nat.le_refl _) _).alloc (by simp) _
  have z0 : Blk X w.heap.size 43 #[.int .i64 0, .int .i64 0] := by rw [hX]; exact (Blk.new w _ _).alloc _
  have k0 : Blk X (w.heap.size + 1) 43 #[.int .i64 0, .int .i64 0] := by
    rw [hX]
    have := Blk.new (w.alloc (.cells #[.int .i64 0, .int .i64 0] 43)) 43 #[.int .i64 0, .int .i64 0]
    simpa using this
  have HX := Lib.hid hX
  have R0 := Lib.hid (h.below hbx)
  have K0 := Lib.hid k0
  have Z0 := Lib.hid z0
  have B0 := Lib.hid (But.of_below (g := g) hbx)
  have N1 := Lib.hid (show w.heap.size + 1 ≠ g by omega)
  have N2 := Lib.hid (show w.heap.size ≠ g by omega)
  clear hX hbx z0 k0 h hg
  go_enter Tryz.func74, Tryz.ntmps74
  go_upto_region 2 with fail
  have HZ := Lib.hid hz
  clear hz
  rw [← HX.out]
  go_wp2_with fail
  refine (num_any g s mx _ R0.out).mono ?_
  rintro e' w1 ⟨rfl, r1, b1⟩
  have kk : Blk w1 (w.heap.size + 1) 43 #[.int .i64 0, .int .i64 0] := b1.blk K0.out N1.out
  have zz : Blk w1 w.heap.size 43 #[.int .i64 0, .int .i64 0] := b1.blk Z0.out N2.out
  have cc : w1.cell? ⟨w.heap.size + 1, 0, none⟩ = some (.int .i64 0) := (Blk.cell kk 0).trans rfl
  have ff := Blk.free kk 0
  have K1 := Lib.hid (show Blk (w1.setCell ⟨w.heap.size + 1, 0, none⟩ (.int .i64 (d1 s).1)) (w.heap.size + 1) 43 #[.int .i64 (d1 s).1, .int .i64 0] from Blk.set_ kk 0 (.int .i64 (d1 s).1))
  have Z1 := Lib.hid (Blk.far zz (p := ⟨w.heap.size + 1, 0, none⟩) (by show w.heap.size ≠ w.heap.size + 1; omega) (.int .i64 (d1 s).1))
  have R1 := Lib.hid (Rd.far r1 (q := w.heap.size + 1) N1.out.symm 0 (.int .i64 (d1 s).1))
  have B1 := Lib.hid ((B0.out.trans b1).far_set (q := w.heap.size + 1) (by omega) 0 (.int .i64 (d1 s).1))
  clear kk zz r1 b1 K0 Z0 R0 B0
  go_wp2_with fail
  clear cc ff
  refine (num_any g (d1 s).2 mx _ R1.out).mono ?_
  rintro e' w2 ⟨rfl, r2, b2⟩
  have kk : Blk w2 (w.heap.size + 1) 43 #[.int .i64 (d1 s).1, .int .i64 0] := b2.blk K1.out N1.out
  have zz : Blk w2 w.heap.size 43 #[.int .i64 0, .int .i64 0] := b2.blk Z1.out N2.out
  have cc : w2.cell? ⟨w.heap.size + 1, 1, none⟩ = some (.int .i64 0) := (Blk.cell kk 1).trans rfl
  have ff := Blk.free kk 1
  have K2 := Lib.hid (show Blk (w2.setCell ⟨w.heap.size + 1, 1, none⟩ (.int .i64 (d2 s).1)) (w.heap.size + 1) 43 #[.int .i64 (d1 s).1, .int .i64 (d2 s).1] from Blk.set_ kk 1 (.int .i64 (d2 s).1))
  have Z2 := Lib.hid (Blk.far zz (p := ⟨w.heap.size + 1, 1, none⟩) (by show w.heap.size ≠ w.heap.size + 1; omega) (.int .i64 (d2 s).1))
  have R2 := Lib.hid (Rd.far r2 (q := w.heap.size + 1) N1.out.symm 1 (.int .i64 (d2 s).1))
  have B2 := Lib.hid ((B1.out.trans b2).far_set (q := w.heap.size + 1) (by omega) 1 (.int .i64 (d2 s).1))
  clear kk zz r2 b2 K1 Z1 R1 B1
  go_upto_region 4 with fail
  clear cc ff
  obtain ⟨Y, hY⟩ : ∃ Y, Y = (w2.setCell ⟨w.heap.size + 1, 1, none⟩ (.int .i64 (rNum (d1 s).2 mx).1)) := ⟨_, rfl⟩
  have Z13 : Hid (Blk Y w.heap.size 43 #[.int .i64 0, .int .i64 0]) := by rw [hY]; exact Z2
  have HR := Lib.hid (setRow_blk Y w.heap.size _ _ (#[.int .i64 (d1 s).1, .int .i64 (d2 s).1]) Z13.out)
  have K13 : Hid (Blk Y (w.heap.size + 1) 43 (#[.int .i64 (d1 s).1, .int .i64 (d2 s).1])) := by rw [hY]; exact K2
  have RR : Hid (Rd Y g (rdD s).2) := by rw [hY]; exact R2
  have BB : Hid (But g w Y) := by rw [hY]; exact B2
  have R13 := Lib.hid (Rd.row RR.out (q := w.heap.size) N2.out.symm (#[.int .i64 (d1 s).1, .int .i64 (d2 s).1]))
  have B13 := Lib.hid (BB.out.far_row (q := w.heap.size) (Nat.le_refl _) (#[.int .i64 (d1 s).1, .int .i64 (d2 s).1]))
  have hY2 : (w2.setCell ⟨w.heap.size + 1, 1, none⟩ (.int .i64 (rNum (d1 s).2 mx).1)) = Y := hY.symm
  rw [hY2]
  clear hY hY2 RR BB K2 R2 B2
  go_wp2_with (first
    | (refine wpList_load_if rfl 43 (.tmp 3) rfl (w.heap.size + 1) rfl _ _ _ _ K13.out Tryz.underlying43 rfl (by kernel_rfl) ?_)
    | (refine wpList_store_row rfl 43 (.tmp 2) (.tmp 10) rfl w.heap.size (#[.int .i64 (d1 s).1, .int .i64 (d2 s).1]) rfl rfl _ _ Z13.out (by kernel_rfl) rfl (by simp [Value.oneCell']) ?_))
  exact bodyPost_ret (v := .agg (#[.int .i64 (d1 s).1, .int .i64 (d2 s).1])) (results_cell_row (P := Tryz.prog) Tryz.results74 _ _ w.heap.size _ (#[.int .i64 (d1 s).1, .int .i64 (d2 s).1]) _ _ rfl HR.out Tryz.underlying43 rfl (by kernel_rfl)) rfl ⟨rfl, R13.out, B13.out⟩

set_option maxRecDepth 100000 in
set_option maxHeartbeats 4000000 in
theorem readValue_any (g : Nat) (s : List UInt8 × Bool) (w : World) (h : Rd w g s) : Calls Tryz.prog 75 #[.pointer (some ⟨g, 0, none⟩)] w fun e w' => e = .returned (eV (rdA s).1) ∧ Rd w' g (rdA s).2 ∧ But g w w' := by
  have hg := h.lt
  have hz := (zero_of_info zeroVa).1
  obtain ⟨X, hX⟩ : ∃ X, X = (w.alloc (.cells #[.int .i64 0, .int .i64 0, .string ⟨#[]⟩] 47)).alloc (.cells #[.int .i64 0, .int .i64 0, .string ⟨#[]⟩] 47) := ⟨_, rfl⟩
  have hbx : Below w.heap.size w X := by rw [hX]; exact ((Below.refl _ _).alloc (Nat.le_refl _) _).alloc (by simp) _
  have z0 : Blk X w.heap.size 47 #[.int .i64 0, .int .i64 0, .string ⟨#[]⟩] := by rw [hX]; exact (Blk.new w _ _).alloc _
  have k0 : Blk X (w.heap.size + 1) 47 #[.int .i64 0, .int .i64 0, .string ⟨#[]⟩] := by
    rw [hX]
    have := Blk.new (w.alloc (.cells #[.int .i64 0, .int .i64 0, .string ⟨#[]⟩] 47)) 47 #[.int .i64 0, .int .i64 0, .string ⟨#[]⟩]
    simpa using this
  have HX := Lib.hid hX
  have R0 := Lib.hid (h.below hbx)
  have K0 := Lib.hid k0
  have Z0 := Lib.hid z0
  have B0 := Lib.hid (But.of_below (g := g) hbx)
  have N1 := Lib.hid (show w.heap.size + 1 ≠ g by omega)
  have N2 := Lib.hid (show w.heap.size ≠ g by omega)
  clear hX hbx z0 k0 h hg
  go_enter Tryz.func75, Tryz.ntmps75
  go_upto_region 2 with fail
  have HZ := Lib.hid hz
  clear hz
  rw [← HX.out]
  go_wp2_with fail
  refine (num_any g s mx _ R0.out).mono ?_
  rintro e' w1 ⟨rfl, r1, b1⟩
  have kk : Blk w1 (w.heap.size + 1) 47 #[.int .i64 0, .int .i64 0, .string ⟨#[]⟩] := b1.blk K0.out N1.out
  have zz : Blk w1 w.heap.size 47 #[.int .i64 0, .int .i64 0, .string ⟨#[]⟩] := b1.blk Z0.out N2.out
  have cc : w1.cell? ⟨w.heap.size + 1, 0, none⟩ = some (.int .i64 0) := (Blk.cell kk 0).trans rfl
  have ff := Blk.free kk 0
  have K1 := Lib.hid (show Blk (w1.setCell ⟨w.heap.size + 1, 0, none⟩ (.int .i64 (a1 s).1)) (w.heap.size + 1) 47 #[.int .i64 (a1 s).1, .int .i64 0, .string ⟨#[]⟩] from Blk.set_ kk 0 (.int .i64 (a1 s).1))
  have Z1 := Lib.hid (Blk.far zz (p := ⟨w.heap.size + 1, 0, none⟩) (by show w.heap.size ≠ w.heap.size + 1; omega) (.int .i64 (a1 s).1))
  have R1 := Lib.hid (Rd.far r1 (q := w.heap.size + 1) N1.out.symm 0 (.int .i64 (a1 s).1))
  have B1 := Lib.hid ((B0.out.trans b1).far_set (q := w.heap.size + 1) (by omega) 0 (.int .i64 (a1 s).1))
  clear kk zz r1 b1 K0 Z0 R0 B0
  go_wp2_with fail
  clear cc ff
  refine (sig_any g (a1 s).2 _ R1.out).mono ?_
  rintro e' w2 ⟨rfl, r2, b2⟩
  have kk : Blk w2 (w.heap.size + 1) 47 #[.int .i64 (a1 s).1, .int .i64 0, .string ⟨#[]⟩] := b2.blk K1.out N1.out
  have zz : Blk w2 w.heap.size 47 #[.int .i64 0, .int .i64 0, .string ⟨#[]⟩] := b2.blk Z1.out N2.out
  have cc : w2.cell? ⟨w.heap.size + 1, 1, none⟩ = some (.int .i64 0) := (Blk.cell kk 1).trans rfl
  have ff := Blk.free kk 1
  have K2 := Lib.hid (show Blk (w2.setCell ⟨w.heap.size + 1, 1, none⟩ (.int .i64 (a2 s).1)) (w.heap.size + 1) 47 #[.int .i64 (a1 s).1, .int .i64 (a2 s).1, .string ⟨#[]⟩] from Blk.set_ kk 1 (.int .i64 (a2 s).1))
  have Z2 := Lib.hid (Blk.far zz (p := ⟨w.heap.size + 1, 1, none⟩) (by show w.heap.size ≠ w.heap.size + 1; omega) (.int .i64 (a2 s).1))
  have R2 := Lib.hid (Rd.far r2 (q := w.heap.size + 1) N1.out.symm 1 (.int .i64 (a2 s).1))
  have B2 := Lib.hid ((B1.out.trans b2).far_set (q := w.heap.size + 1) (by omega) 1 (.int .i64 (a2 s).1))
  clear kk zz r2 b2 K1 Z1 R1 B1
  go_wp2_with fail
  clear cc ff
  refine (rtext_any g (a2 s).2 mx _ R2.out).mono ?_
  rintro e' w3 ⟨q3, hq3, rfl, r3, b3⟩
  obtain rfl := ba_of hq3
  clear hq3
  have kk : Blk w3 (w.heap.size + 1) 47 #[.int .i64 (a1 s).1, .int .i64 (a2 s).1, .string ⟨#[]⟩] := b3.blk K2.out N1.out
  have zz : Blk w3 w.heap.size 47 #[.int .i64 0, .int .i64 0, .string ⟨#[]⟩] := b3.blk Z2.out N2.out
  have cc : w3.cell? ⟨w.heap.size + 1, 2, none⟩ = some (.string ⟨#[]⟩) := (Blk.cell kk 2).trans rfl
  have ff := Blk.free kk 2
  have K3 := Lib.hid (show Blk (w3.setCell ⟨w.heap.size + 1, 2, none⟩ (.string (ba (a3 s).1))) (w.heap.size + 1) 47 #[.int .i64 (a1 s).1, .int .i64 (a2 s).1, .string (ba (a3 s).1)] from Blk.set_ kk 2 (.string (ba (a3 s).1)))
  have Z3 := Lib.hid (Blk.far zz (p := ⟨w.heap.size + 1, 2, none⟩) (by show w.heap.size ≠ w.heap.size + 1; omega) (.string (ba (a3 s).1)))
  have R3 := Lib.hid (Rd.far r3 (q := w.heap.size + 1) N1.out.symm 2 (.string (ba (a3 s).1)))
  have B3 := Lib.hid ((B2.out.trans b3).far_set (q := w.heap.size + 1) (by omega) 2 (.string (ba (a3 s).1)))
  clear kk zz r3 b3 K2 Z2 R2 B2
  go_upto_region 5 with fail
  clear cc ff
  obtain ⟨Y, hY⟩ : ∃ Y, Y = (w3.setCell ⟨w.heap.size + 1, 2, none⟩ (.string (ba (rText (a2 s).2 mx).1))) := ⟨_, rfl⟩
  have Z13 : Hid (Blk Y w.heap.size 47 #[.int .i64 0, .int .i64 0, .string ⟨#[]⟩]) := by rw [hY]; exact Z3
  have HR := Lib.hid (setRow_blk Y w.heap.size _ _ (#[.int .i64 (a1 s).1, .int .i64 (a2 s).1, .string (ba (a3 s).1)]) Z13.out)
  have K13 : Hid (Blk Y (w.heap.size + 1) 47 (#[.int .i64 (a1 s).1, .int .i64 (a2 s).1, .string (ba (a3 s).1)])) := by rw [hY]; exact K3
  have RR : Hid (Rd Y g (rdA s).2) := by rw [hY]; exact R3
  have BB : Hid (But g w Y) := by rw [hY]; exact B3
  have R13 := Lib.hid (Rd.row RR.out (q := w.heap.size) N2.out.symm (#[.int .i64 (a1 s).1, .int .i64 (a2 s).1, .string (ba (a3 s).1)]))
  have B13 := Lib.hid (BB.out.far_row (q := w.heap.size) (Nat.le_refl _) (#[.int .i64 (a1 s).1, .int .i64 (a2 s).1, .string (ba (a3 s).1)]))
  have hY2 : (w3.setCell ⟨w.heap.size + 1, 2, none⟩ (.string (ba (rText (a2 s).2 mx).1))) = Y := hY.symm
  rw [hY2]
  clear hY hY2 RR BB K3 R3 B3
  go_wp2_with (first
    | (refine wpList_load_if rfl 47 (.tmp 3) rfl (w.heap.size + 1) rfl _ _ _ _ K13.out Tryz.underlying47 rfl (by kernel_rfl) ?_)
    | (refine wpList_store_row rfl 47 (.tmp 2) (.tmp 13) rfl w.heap.size (#[.int .i64 (a1 s).1, .int .i64 (a2 s).1, .string (ba (a3 s).1)]) rfl rfl _ _ Z13.out (by kernel_rfl) rfl (by simp [Value.oneCell']) ?_))
  exact bodyPost_ret (v := .agg (#[.int .i64 (a1 s).1, .int .i64 (a2 s).1, .string (ba (a3 s).1)])) (results_cell_row (P := Tryz.prog) Tryz.results75 _ _ w.heap.size _ (#[.int .i64 (a1 s).1, .int .i64 (a2 s).1, .string (ba (a3 s).1)]) _ _ rfl HR.out Tryz.underlying47 rfl (by kernel_rfl)) rfl ⟨rfl, R13.out, B13.out⟩

set_option maxRecDepth 100000 in
set_option maxHeartbeats 4000000 in
theorem readElem_any (g : Nat) (s : List UInt8 × Bool) (w : World) (h : Rd w g s) : Calls Tryz.prog 71 #[.pointer (some ⟨g, 0, none⟩)] w fun e w' => e = .returned (eE (rdX s).1) ∧ Rd w' g (rdX s).2 ∧ But g w w' := by
  have hg := h.lt
  have hz := (zero_of_info zeroEl).1
  obtain ⟨X, hX⟩ : ∃ X, X = (w.alloc (.cells #[.int .i64 0, .string ⟨#[]⟩, .string ⟨#[]⟩, .string ⟨#[]⟩, .string ⟨#[]⟩] 45)).alloc (.cells #[.int .i64 0, .string ⟨#[]⟩, .string ⟨#[]⟩, .string ⟨#[]⟩, .string ⟨#[]⟩] 45) := ⟨_, rfl⟩
  have hbx : Below w.heap.size w X := by rw [hX]; exact ((Below.refl _ _).alloc (Nat.le_refl _) _).alloc (by simp) _
  have z0 : Blk X w.heap.size 45 #[.int .i64 0, .string ⟨#[]⟩, .string ⟨#[]⟩, .string ⟨#[]⟩, .string ⟨#[]⟩] := by rw [hX]; exact (Blk.new w _ _).alloc _
  have k0 : Blk X (w.heap.size + 1) 45 #[.int .i64 0, .string ⟨#[]⟩, .string ⟨#[]⟩, .string ⟨#[]⟩, .string ⟨#[]⟩] := by
    rw [hX]
    have := Blk.new (w.alloc (.cells #[.int .i64 0, .string ⟨#[]⟩, .string ⟨#[]⟩, .string ⟨#[]⟩, .string ⟨#[]⟩] 45)) 45 #[.int .i64 0, .string ⟨#[]⟩, .string ⟨#[]⟩, .string ⟨#[]⟩, .string ⟨#[]⟩]
    simpa using this
  have HX := Lib.hid hX
  have R0 := Lib.hid (h.below hbx)
  have K0 := Lib.hid k0
  have Z0 := Lib.hid z0
  have B0 := Lib.hid (But.of_below (g := g) hbx)
  have N1 := Lib.hid (show w.heap.size + 1 ≠ g by omega)
  have N2 := Lib.hid (show w.heap.size ≠ g by omega)
  clear hX hbx z0 k0 h hg
  go_enter Tryz.func71, Tryz.ntmps71
  go_upto_region 2 with fail
  have HZ := Lib.hid hz
  clear hz
  rw [← HX.out]
  go_wp2_with fail
  refine (num_any g s mx _ R0.out).mono ?_
  rintro e' w1 ⟨rfl, r1, b1⟩
  have kk : Blk w1 (w.heap.size + 1) 45 #[.int .i64 0, .string ⟨#[]⟩, .string ⟨#[]⟩, .string ⟨#[]⟩, .string ⟨#[]⟩] := b1.blk K0.out N1.out
  have zz : Blk w1 w.heap.size 45 #[.int .i64 0, .string ⟨#[]⟩, .string ⟨#[]⟩, .string ⟨#[]⟩, .string ⟨#[]⟩] := b1.blk Z0.out N2.out
  have cc : w1.cell? ⟨w.heap.size + 1, 0, none⟩ = some (.int .i64 0) := (Blk.cell kk 0).trans rfl
  have ff := Blk.free kk 0
  have K1 := Lib.hid (show Blk (w1.setCell ⟨w.heap.size + 1, 0, none⟩ (.int .i64 (x1 s).1)) (w.heap.size + 1) 45 #[.int .i64 (x1 s).1, .string ⟨#[]⟩, .string ⟨#[]⟩, .string ⟨#[]⟩, .string ⟨#[]⟩] from Blk.set_ kk 0 (.int .i64 (x1 s).1))
  have Z1 := Lib.hid (Blk.far zz (p := ⟨w.heap.size + 1, 0, none⟩) (by show w.heap.size ≠ w.heap.size + 1; omega) (.int .i64 (x1 s).1))
  have R1 := Lib.hid (Rd.far r1 (q := w.heap.size + 1) N1.out.symm 0 (.int .i64 (x1 s).1))
  have B1 := Lib.hid ((B0.out.trans b1).far_set (q := w.heap.size + 1) (by omega) 0 (.int .i64 (x1 s).1))
  clear kk zz r1 b1 K0 Z0 R0 B0
  go_wp2_with fail
  clear cc ff
  refine (rtext_any g (x1 s).2 mx _ R1.out).mono ?_
  rintro e' w2 ⟨q2, hq2, rfl, r2, b2⟩
  obtain rfl := ba_of hq2
  clear hq2
  have kk : Blk w2 (w.heap.size + 1) 45 #[.int .i64 (x1 s).1, .string ⟨#[]⟩, .string ⟨#[]⟩, .string ⟨#[]⟩, .string ⟨#[]⟩] := b2.blk K1.out N1.out
  have zz : Blk w2 w.heap.size 45 #[.int .i64 0, .string ⟨#[]⟩, .string ⟨#[]⟩, .string ⟨#[]⟩, .string ⟨#[]⟩] := b2.blk Z1.out N2.out
  have cc : w2.cell? ⟨w.heap.size + 1, 1, none⟩ = some (.string ⟨#[]⟩) := (Blk.cell kk 1).trans rfl
  have ff := Blk.free kk 1
  have K2 := Lib.hid (show Blk (w2.setCell ⟨w.heap.size + 1, 1, none⟩ (.string (ba (x2 s).1))) (w.heap.size + 1) 45 #[.int .i64 (x1 s).1, .string (ba (x2 s).1), .string ⟨#[]⟩, .string ⟨#[]⟩, .string ⟨#[]⟩] from Blk.set_ kk 1 (.string (ba (x2 s).1)))
  have Z2 := Lib.hid (Blk.far zz (p := ⟨w.heap.size + 1, 1, none⟩) (by show w.heap.size ≠ w.heap.size + 1; omega) (.string (ba (x2 s).1)))
  have R2 := Lib.hid (Rd.far r2 (q := w.heap.size + 1) N1.out.symm 1 (.string (ba (x2 s).1)))
  have B2 := Lib.hid ((B1.out.trans b2).far_set (q := w.heap.size + 1) (by omega) 1 (.string (ba (x2 s).1)))
  clear kk zz r2 b2 K1 Z1 R1 B1
  go_wp2_with fail
  clear cc ff
  refine (rtext_any g (x2 s).2 mx _ R2.out).mono ?_
  rintro e' w3 ⟨q3, hq3, rfl, r3, b3⟩
  obtain rfl := ba_of hq3
  clear hq3
  have kk : Blk w3 (w.heap.size + 1) 45 #[.int .i64 (x1 s).1, .string (ba (x2 s).1), .string ⟨#[]⟩, .string ⟨#[]⟩, .string ⟨#[]⟩] := b3.blk K2.out N1.out
  have zz : Blk w3 w.heap.size 45 #[.int .i64 0, .string ⟨#[]⟩, .string ⟨#[]⟩, .string ⟨#[]⟩, .string ⟨#[]⟩] := b3.blk Z2.out N2.out
  have cc : w3.cell? ⟨w.heap.size + 1, 2, none⟩ = some (.string ⟨#[]⟩) := (Blk.cell kk 2).trans rfl
  have ff := Blk.free kk 2
  have K3 := Lib.hid (show Blk (w3.setCell ⟨w.heap.size + 1, 2, none⟩ (.string (ba (x3 s).1))) (w.heap.size + 1) 45 #[.int .i64 (x1 s).1, .string (ba (x2 s).1), .string (ba (x3 s).1), .string ⟨#[]⟩, .string ⟨#[]⟩] from Blk.set_ kk 2 (.string (ba (x3 s).1)))
  have Z3 := Lib.hid (Blk.far zz (p := ⟨w.heap.size + 1, 2, none⟩) (by show w.heap.size ≠ w.heap.size + 1; omega) (.string (ba (x3 s).1)))
  have R3 := Lib.hid (Rd.far r3 (q := w.heap.size + 1) N1.out.symm 2 (.string (ba (x3 s).1)))
  have B3 := Lib.hid ((B2.out.trans b3).far_set (q := w.heap.size + 1) (by omega) 2 (.string (ba (x3 s).1)))
  clear kk zz r3 b3 K2 Z2 R2 B2
  go_wp2_with fail
  clear cc ff
  refine (rtext_any g (x3 s).2 mx _ R3.out).mono ?_
  rintro e' w4 ⟨q4, hq4, rfl, r4, b4⟩
  obtain rfl := ba_of hq4
  clear hq4
  have kk : Blk w4 (w.heap.size + 1) 45 #[.int .i64 (x1 s).1, .string (ba (x2 s).1), .string (ba (x3 s).1), .string ⟨#[]⟩, .string ⟨#[]⟩] := b4.blk K3.out N1.out
  have zz : Blk w4 w.heap.size 45 #[.int .i64 0, .string ⟨#[]⟩, .string ⟨#[]⟩, .string ⟨#[]⟩, .string ⟨#[]⟩] := b4.blk Z3.out N2.out
  have cc : w4.cell? ⟨w.heap.size + 1, 3, none⟩ = some (.string ⟨#[]⟩) := (Blk.cell kk 3).trans rfl
  have ff := Blk.free kk 3
  have K4 := Lib.hid (show Blk (w4.setCell ⟨w.heap.size + 1, 3, none⟩ (.string (ba (x4 s).1))) (w.heap.size + 1) 45 #[.int .i64 (x1 s).1, .string (ba (x2 s).1), .string (ba (x3 s).1), .string (ba (x4 s).1), .string ⟨#[]⟩] from Blk.set_ kk 3 (.string (ba (x4 s).1)))
  have Z4 := Lib.hid (Blk.far zz (p := ⟨w.heap.size + 1, 3, none⟩) (by show w.heap.size ≠ w.heap.size + 1; omega) (.string (ba (x4 s).1)))
  have R4 := Lib.hid (Rd.far r4 (q := w.heap.size + 1) N1.out.symm 3 (.string (ba (x4 s).1)))
  have B4 := Lib.hid ((B3.out.trans b4).far_set (q := w.heap.size + 1) (by omega) 3 (.string (ba (x4 s).1)))
  clear kk zz r4 b4 K3 Z3 R3 B3
  go_wp2_with fail
  clear cc ff
  refine (rtext_any g (x4 s).2 mx _ R4.out).mono ?_
  rintro e' w5 ⟨q5, hq5, rfl, r5, b5⟩
  obtain rfl := ba_of hq5
  clear hq5
  have kk : Blk w5 (w.heap.size + 1) 45 #[.int .i64 (x1 s).1, .string (ba (x2 s).1), .string (ba (x3 s).1), .string (ba (x4 s).1), .string ⟨#[]⟩] := b5.blk K4.out N1.out
  have zz : Blk w5 w.heap.size 45 #[.int .i64 0, .string ⟨#[]⟩, .string ⟨#[]⟩, .string ⟨#[]⟩, .string ⟨#[]⟩] := b5.blk Z4.out N2.out
  have cc : w5.cell? ⟨w.heap.size + 1, 4, none⟩ = some (.string ⟨#[]⟩) := (Blk.cell kk 4).trans rfl
  have ff := Blk.free kk 4
  have K5 := Lib.hid (show Blk (w5.setCell ⟨w.heap.size + 1, 4, none⟩ (.string (ba (x5 s).1))) (w.heap.size + 1) 45 #[.int .i64 (x1 s).1, .string (ba (x2 s).1), .string (ba (x3 s).1), .string (ba (x4 s).1), .string (ba (x5 s).1)] from Blk.set_ kk 4 (.string (ba (x5 s).1)))
  have Z5 := Lib.hid (Blk.far zz (p := ⟨w.heap.size + 1, 4, none⟩) (by show w.heap.size ≠ w.heap.size + 1; omega) (.string (ba (x5 s).1)))
  have R5 := Lib.hid (Rd.far r5 (q := w.heap.size + 1) N1.out.symm 4 (.string (ba (x5 s).1)))
  have B5 := Lib.hid ((B4.out.trans b5).far_set (q := w.heap.size + 1) (by omega) 4 (.string (ba (x5 s).1)))
  clear kk zz r5 b5 K4 Z4 R4 B4
  go_upto_region 7 with fail
  clear cc ff
  obtain ⟨Y, hY⟩ : ∃ Y, Y = (w5.setCell ⟨w.heap.size + 1, 4, none⟩ (.string (ba (rText (x4 s).2 mx).1))) := ⟨_, rfl⟩
  have Z13 : Hid (Blk Y w.heap.size 45 #[.int .i64 0, .string ⟨#[]⟩, .string ⟨#[]⟩, .string ⟨#[]⟩, .string ⟨#[]⟩]) := by rw [hY]; exact Z5
  have HR := Lib.hid (setRow_blk Y w.heap.size _ _ (#[.int .i64 (x1 s).1, .string (ba (x2 s).1), .string (ba (x3 s).1), .string (ba (x4 s).1), .string (ba (x5 s).1)]) Z13.out)
  have K13 : Hid (Blk Y (w.heap.size + 1) 45 (#[.int .i64 (x1 s).1, .string (ba (x2 s).1), .string (ba (x3 s).1), .string (ba (x4 s).1), .string (ba (x5 s).1)])) := by rw [hY]; exact K5
  have RR : Hid (Rd Y g (rdX s).2) := by rw [hY]; exact R5
  have BB : Hid (But g w Y) := by rw [hY]; exact B5
  have R13 := Lib.hid (Rd.row RR.out (q := w.heap.size) N2.out.symm (#[.int .i64 (x1 s).1, .string (ba (x2 s).1), .string (ba (x3 s).1), .string (ba (x4 s).1), .string (ba (x5 s).1)]))
  have B13 := Lib.hid (BB.out.far_row (q := w.heap.size) (Nat.le_refl _) (#[.int .i64 (x1 s).1, .string (ba (x2 s).1), .string (ba (x3 s).1), .string (ba (x4 s).1), .string (ba (x5 s).1)]))
  have hY2 : (w5.setCell ⟨w.heap.size + 1, 4, none⟩ (.string (ba (rText (x4 s).2 mx).1))) = Y := hY.symm
  rw [hY2]
  clear hY hY2 RR BB K5 R5 B5
  go_wp2_with (first
    | (refine wpList_load_if rfl 45 (.tmp 3) rfl (w.heap.size + 1) rfl _ _ _ _ K13.out Tryz.underlying45 rfl (by kernel_rfl) ?_)
    | (refine wpList_store_row rfl 45 (.tmp 2) (.tmp 19) rfl w.heap.size (#[.int .i64 (x1 s).1, .string (ba (x2 s).1), .string (ba (x3 s).1), .string (ba (x4 s).1), .string (ba (x5 s).1)]) rfl rfl _ _ Z13.out (by kernel_rfl) rfl (by simp [Value.oneCell']) ?_))
  exact bodyPost_ret (v := .agg (#[.int .i64 (x1 s).1, .string (ba (x2 s).1), .string (ba (x3 s).1), .string (ba (x4 s).1), .string (ba (x5 s).1)])) (results_cell_row (P := Tryz.prog) Tryz.results71 _ _ w.heap.size _ (#[.int .i64 (x1 s).1, .string (ba (x2 s).1), .string (ba (x3 s).1), .string (ba (x4 s).1), .string (ba (x5 s).1)]) _ _ rfl HR.out Tryz.underlying45 rfl (by kernel_rfl)) rfl ⟨rfl, R13.out, B13.out⟩

set_option maxRecDepth 100000 in
set_option maxHeartbeats 4000000 in
theorem readEntry_any (g : Nat) (s : List UInt8 × Bool) (w : World) (h : Rd w g s) : Calls Tryz.prog 73 #[.pointer (some ⟨g, 0, none⟩)] w fun e w' => e = .returned (.agg (cN (rdN s).1)) ∧ Rd w' g (rdN s).2 ∧ But g w w' := by
  have hg := h.lt
  have hz := (zero_of_info zeroEn).1
  obtain ⟨X, hX⟩ : ∃ X, X = (w.alloc (.cells #[.int .i64 0, .int .i64 0, .int .i64 0, .int .i64 0, .string ⟨#[]⟩] 63)).alloc (.cells #[.int .i64 0, .int .i64 0, .int .i64 0, .int .i64 0, .string ⟨#[]⟩] 63) := ⟨_, rfl⟩
  have hbx : Below w.heap.size w X := by rw [hX]; exact ((Below.refl _ _).alloc (Nat.le_refl _) _).alloc (by simp) _
  have z0 : Blk X w.heap.size 63 #[.int .i64 0, .int .i64 0, .int .i64 0, .int .i64 0, .string ⟨#[]⟩] := by rw [hX]; exact (Blk.new w _ _).alloc _
  have k0 : Blk X (w.heap.size + 1) 63 #[.int .i64 0, .int .i64 0, .int .i64 0, .int .i64 0, .string ⟨#[]⟩] := by
    rw [hX]
    have := Blk.new (w.alloc (.cells #[.int .i64 0, .int .i64 0, .int .i64 0, .int .i64 0, .string ⟨#[]⟩] 63)) 63 #[.int .i64 0, .int .i64 0, .int .i64 0, .int .i64 0, .string ⟨#[]⟩]
    simpa using this
  have HX := Lib.hid hX
  have R0 := Lib.hid (h.below hbx)
  have K0 := Lib.hid k0
  have Z0 := Lib.hid z0
  have B0 := Lib.hid (But.of_below (g := g) hbx)
  have N1 := Lib.hid (show w.heap.size + 1 ≠ g by omega)
  have N2 := Lib.hid (show w.heap.size ≠ g by omega)
  clear hX hbx z0 k0 h hg
  go_enter Tryz.func73, Tryz.ntmps73
  go_upto_region 2 with fail
  have HZ := Lib.hid hz
  clear hz
  rw [← HX.out]
  go_wp2_with fail
  refine (readDot_any g s _ R0.out).mono ?_
  rintro e' w1 ⟨rfl, r1, b1⟩
  have kk : Blk w1 (w.heap.size + 1) 63 #[.int .i64 0, .int .i64 0, .int .i64 0, .int .i64 0, .string ⟨#[]⟩] := b1.blk K0.out N1.out
  have zz : Blk w1 w.heap.size 63 #[.int .i64 0, .int .i64 0, .int .i64 0, .int .i64 0, .string ⟨#[]⟩] := b1.blk Z0.out N2.out
  have HT := Lib.hid (Blk.there kk 0 2 (by simp))
  have hput : putA #[.int .i64 0, .int .i64 0, .int .i64 0, .int .i64 0, .string ⟨#[]⟩] 0 (#[.int .i64 (rdD s).1.r, .int .i64 (rdD s).1.c]).toList = #[.int .i64 (rdD s).1.r, .int .i64 (rdD s).1.c, .int .i64 0, .int .i64 0, .string ⟨#[]⟩] := by kernel_rfl
  have ks := Blk.sets (#[.int .i64 (rdD s).1.r, .int .i64 (rdD s).1.c]).toList 0 _ _ kk
  rw [hput] at ks
  have K1 := Lib.hid ks
  clear hput ks
  have Z1 := Lib.hid (Blk.fars (q := w.heap.size + 1) (by omega) (#[.int .i64 (rdD s).1.r, .int .i64 (rdD s).1.c]).toList 0 _ zz)
  have R1 := Lib.hid (Rd.fars (q := w.heap.size + 1) N1.out.symm (#[.int .i64 (rdD s).1.r, .int .i64 (rdD s).1.c]).toList 0 _ r1)
  have B1 := Lib.hid (But.far_sets (q := w.heap.size + 1) (by omega) (#[.int .i64 (rdD s).1.r, .int .i64 (rdD s).1.c]).toList 0 _ (B0.out.trans b1))
  clear kk zz r1 b1 K0 Z0 R0 B0
  go_wp2_with (refine wpList_store_mid (op := ⟨none, _, _, _, _, _⟩) rfl 43 (.tmp 6) (.tmp 5) rfl (w.heap.size + 1) 0 (#[.int .i64 (rdD s).1.r, .int .i64 (rdD s).1.c]) rfl rfl HT.out (by kernel_rfl) (by first | exact vA_cells _ | simp [Value.oneCell']) ?_)
  clear HT
  refine (readValue_any g (rdD s).2 _ R1.out).mono ?_
  rintro e' w2 ⟨rfl, r2, b2⟩
  have kk : Blk w2 (w.heap.size + 1) 63 #[.int .i64 (rdD s).1.r, .int .i64 (rdD s).1.c, .int .i64 0, .int .i64 0, .string ⟨#[]⟩] := b2.blk K1.out N1.out
  have zz : Blk w2 w.heap.size 63 #[.int .i64 0, .int .i64 0, .int .i64 0, .int .i64 0, .string ⟨#[]⟩] := b2.blk Z1.out N2.out
  have HT := Lib.hid (Blk.there kk 2 3 (by simp))
  have hput : putA #[.int .i64 (rdD s).1.r, .int .i64 (rdD s).1.c, .int .i64 0, .int .i64 0, .string ⟨#[]⟩] 2 (#[.int .i64 (rdA (rdD s).2).1.k, .int .i64 (rdA (rdD s).2).1.n, .string (rdA (rdD s).2).1.t]).toList = #[.int .i64 (rdD s).1.r, .int .i64 (rdD s).1.c, .int .i64 (rdA (rdD s).2).1.k, .int .i64 (rdA (rdD s).2).1.n, .string (rdA (rdD s).2).1.t] := by kernel_rfl
  have ks := Blk.sets (#[.int .i64 (rdA (rdD s).2).1.k, .int .i64 (rdA (rdD s).2).1.n, .string (rdA (rdD s).2).1.t]).toList 2 _ _ kk
  rw [hput] at ks
  have K2 := Lib.hid ks
  clear hput ks
  have Z2 := Lib.hid (Blk.fars (q := w.heap.size + 1) (by omega) (#[.int .i64 (rdA (rdD s).2).1.k, .int .i64 (rdA (rdD s).2).1.n, .string (rdA (rdD s).2).1.t]).toList 2 _ zz)
  have R2 := Lib.hid (Rd.fars (q := w.heap.size + 1) N1.out.symm (#[.int .i64 (rdA (rdD s).2).1.k, .int .i64 (rdA (rdD s).2).1.n, .string (rdA (rdD s).2).1.t]).toList 2 _ r2)
  have B2 := Lib.hid (But.far_sets (q := w.heap.size + 1) (by omega) (#[.int .i64 (rdA (rdD s).2).1.k, .int .i64 (rdA (rdD s).2).1.n, .string (rdA (rdD s).2).1.t]).toList 2 _ (B1.out.trans b2))
  clear kk zz r2 b2 K1 Z1 R1 B1
  go_upto_region 4 with (refine wpList_store_mid (op := ⟨none, _, _, _, _, _⟩) rfl 47 (.tmp 9) (.tmp 8) rfl (w.heap.size + 1) 2 (#[.int .i64 (rdA (rdD s).2).1.k, .int .i64 (rdA (rdD s).2).1.n, .string (rdA (rdD s).2).1.t]) rfl rfl HT.out (by kernel_rfl) (by first | exact vA_cells _ | simp [Value.oneCell']) ?_)
  clear HT
  obtain ⟨Y, hY⟩ : ∃ Y, Y = (w2.setCells (w.heap.size + 1) 2 (#[.int .i64 (rdA (rdD s).2).1.k, .int .i64 (rdA (rdD s).2).1.n, .string (rdA (rdD s).2).1.t]).toList) := ⟨_, rfl⟩
  have Z13 : Hid (Blk Y w.heap.size 63 #[.int .i64 0, .int .i64 0, .int .i64 0, .int .i64 0, .string ⟨#[]⟩]) := by rw [hY]; exact Z2
  have HR := Lib.hid (setRow_blk Y w.heap.size _ _ (#[.int .i64 (rdD s).1.r, .int .i64 (rdD s).1.c, .int .i64 (rdA (rdD s).2).1.k, .int .i64 (rdA (rdD s).2).1.n, .string (rdA (rdD s).2).1.t]) Z13.out)
  have K13 : Hid (Blk Y (w.heap.size + 1) 63 (#[.int .i64 (rdD s).1.r, .int .i64 (rdD s).1.c, .int .i64 (rdA (rdD s).2).1.k, .int .i64 (rdA (rdD s).2).1.n, .string (rdA (rdD s).2).1.t])) := by rw [hY]; exact K2
  have RR : Hid (Rd Y g (rdN s).2) := by rw [hY]; exact R2
  have BB : Hid (But g w Y) := by rw [hY]; exact B2
  have R13 := Lib.hid (Rd.row RR.out (q := w.heap.size) N2.out.symm (#[.int .i64 (rdD s).1.r, .int .i64 (rdD s).1.c, .int .i64 (rdA (rdD s).2).1.k, .int .i64 (rdA (rdD s).2).1.n, .string (rdA (rdD s).2).1.t]))
  have B13 := Lib.hid (BB.out.far_row (q := w.heap.size) (Nat.le_refl _) (#[.int .i64 (rdD s).1.r, .int .i64 (rdD s).1.c, .int .i64 (rdA (rdD s).2).1.k, .int .i64 (rdA (rdD s).2).1.n, .string (rdA (rdD s).2).1.t]))
  have hY2 : (w2.setCells (w.heap.size + 1) 2 (#[.int .i64 (rdA (rdD s).2).1.k, .int .i64 (rdA (rdD s).2).1.n, .string (rdA (rdD s).2).1.t]).toList) = Y := hY.symm
  rw [hY2]
  clear hY hY2 RR BB K2 R2 B2
  go_wp2_with (first
    | (refine wpList_load_if rfl 63 (.tmp 3) rfl (w.heap.size + 1) rfl _ _ _ _ K13.out Tryz.underlying63 rfl (by kernel_rfl) ?_)
    | (refine wpList_store_row rfl 63 (.tmp 2) (.tmp 10) rfl w.heap.size (#[.int .i64 (rdD s).1.r, .int .i64 (rdD s).1.c, .int .i64 (rdA (rdD s).2).1.k, .int .i64 (rdA (rdD s).2).1.n, .string (rdA (rdD s).2).1.t]) rfl rfl _ _ Z13.out (by kernel_rfl) rfl (by simp [Value.oneCell']) ?_))
  exact bodyPost_ret (v := .agg (#[.int .i64 (rdD s).1.r, .int .i64 (rdD s).1.c, .int .i64 (rdA (rdD s).2).1.k, .int .i64 (rdA (rdD s).2).1.n, .string (rdA (rdD s).2).1.t])) (results_cell_row (P := Tryz.prog) Tryz.results73 _ _ w.heap.size _ (#[.int .i64 (rdD s).1.r, .int .i64 (rdD s).1.c, .int .i64 (rdA (rdD s).2).1.k, .int .i64 (rdA (rdD s).2).1.n, .string (rdA (rdD s).2).1.t]) _ _ rfl HR.out Tryz.underlying63 rfl (by kernel_rfl)) rfl ⟨rfl, R13.out, B13.out⟩

theorem vA_cells (f : Nat → Int) : (vA f).all (·.oneCell') = true := by rw [vA_lit]; simp [Value.oneCell']
theorem at_Vec (b k : Nat) (h : k < 16) (w : World) : (Instr.indexAt 23 (.pointer (some ⟨b, 0, none⟩)) (.int .i64 k)).run Tryz.prog w = .ok (.pointer (some ⟨b, k, none⟩)) w := by
  have h2 : (k : Int) < 16 := by omega
  go_simp

set_option maxRecDepth 100000 in
set_option maxHeartbeats 4000000 in
theorem readVector_any (g : Nat) (s : List UInt8 × Bool) (w : World) (h : Rd w g s) : Calls Tryz.prog 35 #[.pointer (some ⟨g, 0, none⟩)] w fun e w' => e = .returned (.agg (vA (rdF s).1)) ∧ Rd w' g (rdF s).2 ∧ But g w w' := by
  have hg := h.lt
  have hz := (zero_of_info zeroVc).1
  obtain ⟨X, hX⟩ : ∃ X, X = (w.alloc (.cells (vA fun _ => 0) 23)).alloc (.cells (vA fun _ => 0) 23) := ⟨_, rfl⟩
  have hbx : Below w.heap.size w X := by rw [hX]; exact ((Below.refl _ _).alloc (Nat.le_refl _) _).alloc (by simp) _
  have z0 : Blk X w.heap.size 23 (vA fun _ => 0) := by rw [hX]; exact (Blk.new w _ _).alloc _
  have k0 : Blk X (w.heap.size + 1) 23 (vA fun _ => 0) := by
    rw [hX]
    have := Blk.new (w.alloc (.cells (vA fun _ => 0) 23)) 23 (vA fun _ => 0)
    simpa using this
  have HX := Lib.hid hX
  have R0 := Lib.hid (h.below hbx)
  have K0 := Lib.hid k0
  have Z0 := Lib.hid z0
  have B0 := Lib.hid (But.of_below (g := g) hbx)
  have N1 := Lib.hid (show w.heap.size + 1 ≠ g by omega)
  have N2 := Lib.hid (show w.heap.size ≠ g by omega)
  clear hX hbx z0 k0 h hg
  go_enter Tryz.func35, Tryz.ntmps35
  go_upto_region 2 with fail
  have HZ := Lib.hid hz
  clear hz
  rw [← HX.out]
  go_wp2_with fail
  go_loopw [4, 5] (fun _ v5 wr => ∃ k : Nat, k ≤ 16 ∧ v5 = .int .i64 k ∧ Rd wr g (pV s k).2 ∧ Blk wr (w.heap.size + 1) 23 (vA (pV s k).1) ∧ Blk wr w.heap.size 23 (vA fun _ => 0) ∧ But g w wr) (fun _ v5 _ => 16 - (intOf v5).toNat)
  case atStart => exact ⟨0, by omega, rfl, R0.out, K0.out, Z0.out, B0.out⟩
  case round =>
    obtain ⟨k, hk, rfl, hr, hkb, hzb, hbb⟩ := hrel
    have R2 := Lib.hid hr
    have K2 := Lib.hid hkb
    have Z2 := Lib.hid hzb
    have B2 := Lib.hid hbb
    clear hr hkb hzb hbb R0 K0 Z0 B0
    by_cases hlt : k < 16
    · go_wp2_with fail
      refine (num_any g (pV s k).2 mx _ R2.out).mono ?_
      rintro e' w3 ⟨rfl, r3, b3⟩
      have kk : Blk w3 (w.heap.size + 1) 23 (vA (pV s k).1) := b3.blk K2.out N1.out
      have zz : Blk w3 w.heap.size 23 (vA fun _ => 0) := b3.blk Z2.out N2.out
      have cc : w3.cell? ⟨w.heap.size + 1, k, none⟩ = some (.int .i64 ((pV s k).1 k)) := (Blk.cell kk k).trans (vA_at _ k hlt)
      have ff := Blk.free kk k
      have HAt := Lib.hid (at_Vec (w.heap.size + 1) k hlt w3)
      have K3 := Lib.hid (show Blk (w3.setCell ⟨w.heap.size + 1, k, none⟩ (.int .i64 (rNum (pV s k).2 mx).1)) (w.heap.size + 1) 23 (vA (pV s (k + 1)).1) by
        have := Blk.set_ kk k (.int .i64 (rNum (pV s k).2 mx).1)
        have e := vA_set (pV s k).1 k (rNum (pV s k).2 mx).1
        unfold iv at e
        rw [e] at this
        exact this)
      have Z3 := Lib.hid (Blk.far zz (p := ⟨w.heap.size + 1, k, none⟩) (by show w.heap.size ≠ w.heap.size + 1; omega) (.int .i64 (rNum (pV s k).2 mx).1))
      have R3 := Lib.hid (Rd.far r3 (q := w.heap.size + 1) N1.out.symm k (.int .i64 (rNum (pV s k).2 mx).1))
      have B3 := Lib.hid ((B2.out.trans b3).far_set (q := w.heap.size + 1) (by omega) k (.int .i64 (rNum (pV s k).2 mx).1))
      clear kk zz r3 b3 K2 Z2 R2 B2
      generalize hx : (rNum (pV s k).2 mx).1 = x at *
      generalize (pV s k).1 k = y at *
      have hw := IntWalk.i64_in ((k : Int) + 1) (by omega)
      have hjm : ¬ 9223372036854775807 < k + 1 := by omega
      go_wp2_with (refine wpList_val (o := ⟨some 11, _, _, _, _, _⟩) rfl (.pointer (some ⟨w.heap.size + 1, k, none⟩)) w3 (run_indexAddr_op rfl rfl rfl HAt.out) ?_)
      go_roundw
      case rel =>
        exact ⟨k + 1, by omega, by go_num, R3.out, K3.out, Z3.out, B3.out⟩
      case measure => simp [intOf]; omega
    · have hkk : k = 16 := by omega
      subst hkk
      have HR := Lib.hid (setRow_blk wr w.heap.size _ _ (vA (rdF s).1) Z2.out)
      have R13 := Lib.hid (Rd.row R2.out (q := w.heap.size) N2.out.symm (vA (rdF s).1))
      have B13 := Lib.hid (B2.out.far_row (q := w.heap.size) (Nat.le_refl _) (vA (rdF s).1))
      go_wp2_with (first
        | (refine wpList_load_if rfl 23 (.tmp 3) rfl (w.heap.size + 1) rfl _ _ _ _ K2.out Tryz.underlying23 rfl (by kernel_rfl) ?_)
        | (refine wpList_store_row rfl 23 (.tmp 2) (.tmp 13) rfl w.heap.size (vA (rdF s).1) rfl rfl _ _ Z2.out (by kernel_rfl) rfl (vA_cells _) ?_))
      exact bodyPost_ret (v := .agg (vA (rdF s).1)) (results_cell_row (P := Tryz.prog) Tryz.results35 _ _ w.heap.size _ (vA (rdF s).1) _ _ rfl HR.out Tryz.underlying23 rfl (by kernel_rfl)) rfl ⟨rfl, R13.out, B13.out⟩

end Go.Proofs.YtejljikikhecnaaGreat
