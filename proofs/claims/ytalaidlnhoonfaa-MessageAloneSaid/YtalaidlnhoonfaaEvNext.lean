/-
  event.next: the event whose bytes come next: the contract, by a walk. Conditions: none.
-/
import Derived.Test.YtalaidlnhoonfaaEvLaid
import Derived.Test.YtalaidlnhoonfaaQNb
namespace Go.Proofs.Ytalaidlnhoonfaa
open Go.RowKit

def ba (l : List UInt8) : ByteArray := ⟨l.toArray⟩
def mx : Int := 9223372036854775807
def n1 (s : List UInt8 × Bool) := rNum s mx
def n2 (s : List UInt8 × Bool) := rNum (n1 s).2 mx
def pN (s : List UInt8 × Bool) : Nat → (Nat → Int) × (List UInt8 × Bool)
  | 0 => (fun _ => 0, (n2 s).2)
  | k + 1 => (fun i => if i = k then (rNum (pN s k).2 mx).1 else (pN s k).1 i, (rNum (pN s k).2 mx).2)
def n4 (s : List UInt8 × Bool) := rNum (pN s 16).2 mx
def n5 (s : List UInt8 × Bool) := rNum (n4 s).2 mx
def t6 (s : List UInt8 × Bool) := rText (n5 s).2 mx
def t7 (s : List UInt8 × Bool) := rText (t6 s).2 mx
def t8 (s : List UInt8 × Bool) := rText (t7 s).2 mx
def t9 (s : List UInt8 × Bool) := rText (t8 s).2 mx
def n10 (s : List UInt8 × Bool) := rNum (t9 s).2 mx
def n11 (s : List UInt8 × Bool) := rSig (n10 s).2
def t12 (s : List UInt8 × Bool) := rText (n11 s).2 mx
/-- The event that comes next; what is left then. -/
def nextE (s : List UInt8 × Bool) : Ev := ⟨(n1 s).1, (n2 s).1, (pN s 16).1, (n4 s).1, (n5 s).1, ba (t6 s).1, ba (t7 s).1, ba (t8 s).1, ba (t9 s).1, (n10 s).1, (n11 s).1, ba (t12 s).1⟩
def nextS (s : List UInt8 × Bool) : List UInt8 × Bool := (t12 s).2
theorem ba_of {b : ByteArray} {l : List UInt8} (h : b.data.toList = l) : b = ba l := by
  subst h; rfl

theorem But.far_set {g : Nat} {w W : World} (h : But g w W) {q : Nat} (hq : w.heap.size ≤ q) (i : Nat) (v : Value) : But g w (W.setCell ⟨q, i, none⟩ v) :=
  ⟨h.os, h.tape, h.output, by have := h.size; simpa [World.setCell] using this, fun k hk hn => (Below.heap_setCell W ⟨q, i, none⟩ v k (fun e => by have : k = q := e; omega)).trans (h.block k hk hn)⟩
theorem But.far_row {g : Nat} {w W : World} (h : But g w W) {q : Nat} (hq : w.heap.size ≤ q) (c : Array Value) : But g w (W.setRow q c) :=
  ⟨h.os, h.tape, h.output, by have := h.size; simpa [World.setRow] using this, fun k hk hn => (setRow_other W q k c (by omega)).trans (h.block k hk hn)⟩
theorem Rd.far {w : World} {g : Nat} {s : List UInt8 × Bool} (h : Rd w g s) {q : Nat} (hq : g ≠ q) (i : Nat) (v : Value) : Rd (w.setCell ⟨q, i, none⟩ v) g s := by
  obtain ⟨b, h1, h2, h3⟩ := h
  exact ⟨b, h1, h2, h3.far (p := ⟨q, i, none⟩) hq v⟩
theorem Rd.row {w : World} {g : Nat} {s : List UInt8 × Bool} (h : Rd w g s) {q : Nat} (hq : g ≠ q) (c : Array Value) : Rd (w.setRow q c) g s := by
  obtain ⟨b, h1, h2, h3⟩ := h
  exact ⟨b, h1, h2, (setRow_other w q g c hq).trans h3⟩
theorem EB.put {w : World} {q : Nat} {e e' : Ev} (h : EB w q e) (i : Nat) (v : Value) (hv : (evC e).setIfInBounds i v = evC e') : EB (w.setCell ⟨q, i, none⟩ v) q e' := by
  have := Blk.set_ h i v
  rw [hv] at this
  exact this
theorem EB.far {w : World} {q g : Nat} {e : Ev} (h : EB w g e) (hq : g ≠ q) (i : Nat) (v : Value) : EB (w.setCell ⟨q, i, none⟩ v) g e := Blk.far h (p := ⟨q, i, none⟩) hq v
theorem past_at (e : Ev) (k : Nat) (h : k < 16) : (evC e)[2 + k]? = some (.int .i64 (e.p k)) := by
  have : k = 0 ∨ k = 1 ∨ k = 2 ∨ k = 3 ∨ k = 4 ∨ k = 5 ∨ k = 6 ∨ k = 7 ∨ k = 8 ∨ k = 9 ∨ k = 10 ∨ k = 11 ∨ k = 12 ∨ k = 13 ∨ k = 14 ∨ k = 15 := by omega
  rcases this with rfl | rfl | rfl | rfl | rfl | rfl | rfl | rfl | rfl | rfl | rfl | rfl | rfl | rfl | rfl | rfl <;> rfl
theorem past_set (e : Ev) (k : Nat) (x : Int) (h : k < 16) : (evC e).setIfInBounds (2 + k) (.int .i64 x) = evC { e with p := fun i => if i = k then x else e.p i } := by
  have : k = 0 ∨ k = 1 ∨ k = 2 ∨ k = 3 ∨ k = 4 ∨ k = 5 ∨ k = 6 ∨ k = 7 ∨ k = 8 ∨ k = 9 ∨ k = 10 ∨ k = 11 ∨ k = 12 ∨ k = 13 ∨ k = 14 ∨ k = 15 := by omega
  rcases this with rfl | rfl | rfl | rfl | rfl | rfl | rfl | rfl | rfl | rfl | rfl | rfl | rfl | rfl | rfl | rfl <;> rfl

set_option maxRecDepth 100000 in
set_option maxHeartbeats 3000000 in
theorem enext_any (g : Nat) (s : List UInt8 × Bool) (w : World) (h : Rd w g s) : Calls Try.prog 78 #[.pointer (some ⟨g, 0, none⟩)] w fun e w' => e = .returned (evV (nextE s)) ∧ Rd w' g (nextS s) ∧ But g w w' := by
  have hg := h.lt
  have hz := (zero_of_info zeroE).1
  obtain ⟨X, hX⟩ : ∃ X, X = (w.alloc (.cells (evC ev0) 48)).alloc (.cells (evC ev0) 48) := ⟨_, rfl⟩
  have hbx : Below w.heap.size w X := by rw [hX]; exact ((Below.refl _ _).alloc (Nat.le_refl _) _).alloc (by simp) _
  have z0 : EB X w.heap.size ev0 := by rw [hX]; exact (EB.new_ w ev0).keep ((Below.refl _ _).alloc (Nat.le_refl _) _)
  have k0 : EB X (w.heap.size + 1) ev0 := by
    rw [hX]
    have := EB.new_ (w.alloc (.cells (evC ev0) 48)) ev0
    simpa using this
  have HX := Lib.hid hX
  have R0 := Lib.hid (h.below hbx)
  have K0 := Lib.hid k0
  have Z0 := Lib.hid z0
  have B0 := Lib.hid (But.of_below (g := g) hbx)
  have N1 := Lib.hid (show w.heap.size + 1 ≠ g by omega)
  have N2 := Lib.hid (show w.heap.size ≠ g by omega)
  clear hX hbx z0 k0 h hg
  unfold evV
  go_enter Try.func78, Try.ntmps78
  go_upto_region 2 with fail
  have HZ := Lib.hid hz
  clear hz
  rw [← HX.out]
  go_wp2_with fail
  refine (num_any g s mx _ R0.out).mono ?_
  rintro e' w1 ⟨rfl, r1, b1⟩
  have kk : EB w1 (w.heap.size + 1) (ev0) := b1.blk K0.out N1.out
  have zz : EB w1 w.heap.size ev0 := b1.blk Z0.out N2.out
  have cc : w1.cell? ⟨w.heap.size + 1, 0, none⟩ = some (.int .i64 0) := (Blk.cell kk 0).trans rfl
  have ff := Blk.free kk 0
  have K1 := Lib.hid (EB.put (e' := ⟨(n1 s).1, 0, fun _ => 0, 0, 0, ⟨#[]⟩, ⟨#[]⟩, ⟨#[]⟩, ⟨#[]⟩, 0, 0, ⟨#[]⟩⟩) kk 0 (.int .i64 (n1 s).1) rfl)
  have Z1 := Lib.hid (EB.far zz (q := w.heap.size + 1) (by omega) 0 (.int .i64 (n1 s).1))
  have R1 := Lib.hid (Rd.far r1 (q := w.heap.size + 1) N1.out.symm 0 (.int .i64 (n1 s).1))
  have B1 := Lib.hid ((B0.out.trans b1).far_set (q := w.heap.size + 1) (by omega) 0 (.int .i64 (n1 s).1))
  clear kk zz r1 b1 K0 Z0 R0 B0
  go_wp2_with fail
  clear cc ff
  refine (num_any g (n1 s).2 mx _ R1.out).mono ?_
  rintro e' w2 ⟨rfl, r2, b2⟩
  have kk : EB w2 (w.heap.size + 1) (⟨(n1 s).1, 0, fun _ => 0, 0, 0, ⟨#[]⟩, ⟨#[]⟩, ⟨#[]⟩, ⟨#[]⟩, 0, 0, ⟨#[]⟩⟩) := b2.blk K1.out N1.out
  have zz : EB w2 w.heap.size ev0 := b2.blk Z1.out N2.out
  have cc : w2.cell? ⟨w.heap.size + 1, 1, none⟩ = some (.int .i64 0) := (Blk.cell kk 1).trans rfl
  have ff := Blk.free kk 1
  have K2 := Lib.hid (EB.put (e' := ⟨(n1 s).1, (n2 s).1, fun _ => 0, 0, 0, ⟨#[]⟩, ⟨#[]⟩, ⟨#[]⟩, ⟨#[]⟩, 0, 0, ⟨#[]⟩⟩) kk 1 (.int .i64 (n2 s).1) rfl)
  have Z2 := Lib.hid (EB.far zz (q := w.heap.size + 1) (by omega) 1 (.int .i64 (n2 s).1))
  have R2 := Lib.hid (Rd.far r2 (q := w.heap.size + 1) N1.out.symm 1 (.int .i64 (n2 s).1))
  have B2 := Lib.hid ((B1.out.trans b2).far_set (q := w.heap.size + 1) (by omega) 1 (.int .i64 (n2 s).1))
  clear kk zz r2 b2 K1 Z1 R1 B1
  go_wp2_with fail
  clear cc ff
  go_loopw [4, 13] (fun _ i W => ∃ k : Nat, k ≤ 16 ∧ i = .int .i64 k ∧ Rd W g (pN s k).2 ∧ EB W (w.heap.size + 1) (⟨(n1 s).1, (n2 s).1, (pN s k).1, 0, 0, ⟨#[]⟩, ⟨#[]⟩, ⟨#[]⟩, ⟨#[]⟩, 0, 0, ⟨#[]⟩⟩) ∧ EB W w.heap.size ev0 ∧ But g w W) (fun _ i _ => 16 - (intOf i).toNat)
  case atStart => exact ⟨0, by omega, rfl, R2.out, K2.out, Z2.out, B2.out⟩
  case round =>
    clear R2 K2 Z2 B2
    obtain ⟨k, hk, rfl, r2, k2, z2, b2⟩ := hrel
    have R2 := Lib.hid r2
    have K2 := Lib.hid k2
    have Z2 := Lib.hid z2
    have B2 := Lib.hid b2
    clear r2 k2 z2 b2
    by_cases hlt : k < 16
    · go_wp2_with fail
      refine (num_any g (pN s k).2 mx _ R2.out).mono ?_
      rintro e' w3 ⟨rfl, r3, b3⟩
      have kk : EB w3 (w.heap.size + 1) (⟨(n1 s).1, (n2 s).1, (pN s k).1, 0, 0, ⟨#[]⟩, ⟨#[]⟩, ⟨#[]⟩, ⟨#[]⟩, 0, 0, ⟨#[]⟩⟩) := b3.blk K2.out N1.out
      have zz : EB w3 w.heap.size ev0 := b3.blk Z2.out N2.out
      have cc := (Blk.cell kk (2 + k)).trans (past_at _ k hlt)
      have ff := Blk.free kk (2 + k)
      have K3 := Lib.hid (EB.put kk (2 + k) (.int .i64 (rNum (pN s k).2 mx).1) (past_set _ k _ hlt))
      have Z3 := Lib.hid (EB.far zz (q := w.heap.size + 1) (by omega) (2 + k) (.int .i64 (rNum (pN s k).2 mx).1))
      have R3 := Lib.hid (Rd.far r3 (q := w.heap.size + 1) N1.out.symm (2 + k) (.int .i64 (rNum (pN s k).2 mx).1))
      have B3 := Lib.hid ((B2.out.trans b3).far_set (q := w.heap.size + 1) (by omega) (2 + k) (.int .i64 (rNum (pN s k).2 mx).1))
      clear kk zz r3 b3 K2 Z2 R2 B2
      generalize hx : (rNum (pN s k).2 mx).1 = x at *
      generalize (pN s k).1 k = y at *
      have HXX := Lib.hid hx
      clear hx
      go_wp2
      go_roundw
      case rel =>
        have hx := HXX.out
        subst hx
        exact ⟨k + 1, by omega, by go_num, R3.out, K3.out, Z3.out, B3.out⟩
      case measure => simp [intOf]; omega
    · have hkk : k = 16 := by omega
      subst hkk
      go_wp2_with fail
      refine (num_any g (pN s 16).2 mx _ R2.out).mono ?_
      rintro e' w4 ⟨rfl, r4, b4⟩
      have kk : EB w4 (w.heap.size + 1) (⟨(n1 s).1, (n2 s).1, (pN s 16).1, 0, 0, ⟨#[]⟩, ⟨#[]⟩, ⟨#[]⟩, ⟨#[]⟩, 0, 0, ⟨#[]⟩⟩) := b4.blk K2.out N1.out
      have zz : EB w4 w.heap.size ev0 := b4.blk Z2.out N2.out
      have cc : w4.cell? ⟨w.heap.size + 1, 18, none⟩ = some (.int .i64 0) := (Blk.cell kk 18).trans rfl
      have ff := Blk.free kk 18
      have K4 := Lib.hid (EB.put (e' := ⟨(n1 s).1, (n2 s).1, (pN s 16).1, (n4 s).1, 0, ⟨#[]⟩, ⟨#[]⟩, ⟨#[]⟩, ⟨#[]⟩, 0, 0, ⟨#[]⟩⟩) kk 18 (.int .i64 (n4 s).1) rfl)
      have Z4 := Lib.hid (EB.far zz (q := w.heap.size + 1) (by omega) 18 (.int .i64 (n4 s).1))
      have R4 := Lib.hid (Rd.far r4 (q := w.heap.size + 1) N1.out.symm 18 (.int .i64 (n4 s).1))
      have B4 := Lib.hid ((B2.out.trans b4).far_set (q := w.heap.size + 1) (by omega) 18 (.int .i64 (n4 s).1))
      clear kk zz r4 b4 K2 Z2 R2 B2
      go_wp2_with fail
      clear cc ff
      refine (num_any g (n4 s).2 mx _ R4.out).mono ?_
      rintro e' w5 ⟨rfl, r5, b5⟩
      have kk : EB w5 (w.heap.size + 1) (⟨(n1 s).1, (n2 s).1, (pN s 16).1, (n4 s).1, 0, ⟨#[]⟩, ⟨#[]⟩, ⟨#[]⟩, ⟨#[]⟩, 0, 0, ⟨#[]⟩⟩) := b5.blk K4.out N1.out
      have zz : EB w5 w.heap.size ev0 := b5.blk Z4.out N2.out
      have cc : w5.cell? ⟨w.heap.size + 1, 19, none⟩ = some (.int .i64 0) := (Blk.cell kk 19).trans rfl
      have ff := Blk.free kk 19
      have K5 := Lib.hid (EB.put (e' := ⟨(n1 s).1, (n2 s).1, (pN s 16).1, (n4 s).1, (n5 s).1, ⟨#[]⟩, ⟨#[]⟩, ⟨#[]⟩, ⟨#[]⟩, 0, 0, ⟨#[]⟩⟩) kk 19 (.int .i64 (n5 s).1) rfl)
      have Z5 := Lib.hid (EB.far zz (q := w.heap.size + 1) (by omega) 19 (.int .i64 (n5 s).1))
      have R5 := Lib.hid (Rd.far r5 (q := w.heap.size + 1) N1.out.symm 19 (.int .i64 (n5 s).1))
      have B5 := Lib.hid ((B4.out.trans b5).far_set (q := w.heap.size + 1) (by omega) 19 (.int .i64 (n5 s).1))
      clear kk zz r5 b5 K4 Z4 R4 B4
      go_wp2_with fail
      clear cc ff
      refine (rtext_any g (n5 s).2 mx _ R5.out).mono ?_
      rintro e' w6 ⟨q6, hq6, rfl, r6, b6⟩
      obtain rfl := ba_of hq6
      clear hq6
      have kk : EB w6 (w.heap.size + 1) (⟨(n1 s).1, (n2 s).1, (pN s 16).1, (n4 s).1, (n5 s).1, ⟨#[]⟩, ⟨#[]⟩, ⟨#[]⟩, ⟨#[]⟩, 0, 0, ⟨#[]⟩⟩) := b6.blk K5.out N1.out
      have zz : EB w6 w.heap.size ev0 := b6.blk Z5.out N2.out
      have cc : w6.cell? ⟨w.heap.size + 1, 20, none⟩ = some (.string ⟨#[]⟩) := (Blk.cell kk 20).trans rfl
      have ff := Blk.free kk 20
      have K6 := Lib.hid (EB.put (e' := ⟨(n1 s).1, (n2 s).1, (pN s 16).1, (n4 s).1, (n5 s).1, ba (t6 s).1, ⟨#[]⟩, ⟨#[]⟩, ⟨#[]⟩, 0, 0, ⟨#[]⟩⟩) kk 20 (.string (ba (t6 s).1)) rfl)
      have Z6 := Lib.hid (EB.far zz (q := w.heap.size + 1) (by omega) 20 (.string (ba (t6 s).1)))
      have R6 := Lib.hid (Rd.far r6 (q := w.heap.size + 1) N1.out.symm 20 (.string (ba (t6 s).1)))
      have B6 := Lib.hid ((B5.out.trans b6).far_set (q := w.heap.size + 1) (by omega) 20 (.string (ba (t6 s).1)))
      clear kk zz r6 b6 K5 Z5 R5 B5
      go_wp2_with fail
      clear cc ff
      refine (rtext_any g (t6 s).2 mx _ R6.out).mono ?_
      rintro e' w7 ⟨q7, hq7, rfl, r7, b7⟩
      obtain rfl := ba_of hq7
      clear hq7
      have kk : EB w7 (w.heap.size + 1) (⟨(n1 s).1, (n2 s).1, (pN s 16).1, (n4 s).1, (n5 s).1, ba (t6 s).1, ⟨#[]⟩, ⟨#[]⟩, ⟨#[]⟩, 0, 0, ⟨#[]⟩⟩) := b7.blk K6.out N1.out
      have zz : EB w7 w.heap.size ev0 := b7.blk Z6.out N2.out
      have cc : w7.cell? ⟨w.heap.size + 1, 21, none⟩ = some (.string ⟨#[]⟩) := (Blk.cell kk 21).trans rfl
      have ff := Blk.free kk 21
      have K7 := Lib.hid (EB.put (e' := ⟨(n1 s).1, (n2 s).1, (pN s 16).1, (n4 s).1, (n5 s).1, ba (t6 s).1, ba (t7 s).1, ⟨#[]⟩, ⟨#[]⟩, 0, 0, ⟨#[]⟩⟩) kk 21 (.string (ba (t7 s).1)) rfl)
      have Z7 := Lib.hid (EB.far zz (q := w.heap.size + 1) (by omega) 21 (.string (ba (t7 s).1)))
      have R7 := Lib.hid (Rd.far r7 (q := w.heap.size + 1) N1.out.symm 21 (.string (ba (t7 s).1)))
      have B7 := Lib.hid ((B6.out.trans b7).far_set (q := w.heap.size + 1) (by omega) 21 (.string (ba (t7 s).1)))
      clear kk zz r7 b7 K6 Z6 R6 B6
      go_wp2_with fail
      clear cc ff
      refine (rtext_any g (t7 s).2 mx _ R7.out).mono ?_
      rintro e' w8 ⟨q8, hq8, rfl, r8, b8⟩
      obtain rfl := ba_of hq8
      clear hq8
      have kk : EB w8 (w.heap.size + 1) (⟨(n1 s).1, (n2 s).1, (pN s 16).1, (n4 s).1, (n5 s).1, ba (t6 s).1, ba (t7 s).1, ⟨#[]⟩, ⟨#[]⟩, 0, 0, ⟨#[]⟩⟩) := b8.blk K7.out N1.out
      have zz : EB w8 w.heap.size ev0 := b8.blk Z7.out N2.out
      have cc : w8.cell? ⟨w.heap.size + 1, 22, none⟩ = some (.string ⟨#[]⟩) := (Blk.cell kk 22).trans rfl
      have ff := Blk.free kk 22
      have K8 := Lib.hid (EB.put (e' := ⟨(n1 s).1, (n2 s).1, (pN s 16).1, (n4 s).1, (n5 s).1, ba (t6 s).1, ba (t7 s).1, ba (t8 s).1, ⟨#[]⟩, 0, 0, ⟨#[]⟩⟩) kk 22 (.string (ba (t8 s).1)) rfl)
      have Z8 := Lib.hid (EB.far zz (q := w.heap.size + 1) (by omega) 22 (.string (ba (t8 s).1)))
      have R8 := Lib.hid (Rd.far r8 (q := w.heap.size + 1) N1.out.symm 22 (.string (ba (t8 s).1)))
      have B8 := Lib.hid ((B7.out.trans b8).far_set (q := w.heap.size + 1) (by omega) 22 (.string (ba (t8 s).1)))
      clear kk zz r8 b8 K7 Z7 R7 B7
      go_wp2_with fail
      clear cc ff
      refine (rtext_any g (t8 s).2 mx _ R8.out).mono ?_
      rintro e' w9 ⟨q9, hq9, rfl, r9, b9⟩
      obtain rfl := ba_of hq9
      clear hq9
      have kk : EB w9 (w.heap.size + 1) (⟨(n1 s).1, (n2 s).1, (pN s 16).1, (n4 s).1, (n5 s).1, ba (t6 s).1, ba (t7 s).1, ba (t8 s).1, ⟨#[]⟩, 0, 0, ⟨#[]⟩⟩) := b9.blk K8.out N1.out
      have zz : EB w9 w.heap.size ev0 := b9.blk Z8.out N2.out
      have cc : w9.cell? ⟨w.heap.size + 1, 23, none⟩ = some (.string ⟨#[]⟩) := (Blk.cell kk 23).trans rfl
      have ff := Blk.free kk 23
      have K9 := Lib.hid (EB.put (e' := ⟨(n1 s).1, (n2 s).1, (pN s 16).1, (n4 s).1, (n5 s).1, ba (t6 s).1, ba (t7 s).1, ba (t8 s).1, ba (t9 s).1, 0, 0, ⟨#[]⟩⟩) kk 23 (.string (ba (t9 s).1)) rfl)
      have Z9 := Lib.hid (EB.far zz (q := w.heap.size + 1) (by omega) 23 (.string (ba (t9 s).1)))
      have R9 := Lib.hid (Rd.far r9 (q := w.heap.size + 1) N1.out.symm 23 (.string (ba (t9 s).1)))
      have B9 := Lib.hid ((B8.out.trans b9).far_set (q := w.heap.size + 1) (by omega) 23 (.string (ba (t9 s).1)))
      clear kk zz r9 b9 K8 Z8 R8 B8
      go_wp2_with fail
      clear cc ff
      refine (num_any g (t9 s).2 mx _ R9.out).mono ?_
      rintro e' w10 ⟨rfl, r10, b10⟩
      have kk : EB w10 (w.heap.size + 1) (⟨(n1 s).1, (n2 s).1, (pN s 16).1, (n4 s).1, (n5 s).1, ba (t6 s).1, ba (t7 s).1, ba (t8 s).1, ba (t9 s).1, 0, 0, ⟨#[]⟩⟩) := b10.blk K9.out N1.out
      have zz : EB w10 w.heap.size ev0 := b10.blk Z9.out N2.out
      have cc : w10.cell? ⟨w.heap.size + 1, 24, none⟩ = some (.int .i64 0) := (Blk.cell kk 24).trans rfl
      have ff := Blk.free kk 24
      have K10 := Lib.hid (EB.put (e' := ⟨(n1 s).1, (n2 s).1, (pN s 16).1, (n4 s).1, (n5 s).1, ba (t6 s).1, ba (t7 s).1, ba (t8 s).1, ba (t9 s).1, (n10 s).1, 0, ⟨#[]⟩⟩) kk 24 (.int .i64 (n10 s).1) rfl)
      have Z10 := Lib.hid (EB.far zz (q := w.heap.size + 1) (by omega) 24 (.int .i64 (n10 s).1))
      have R10 := Lib.hid (Rd.far r10 (q := w.heap.size + 1) N1.out.symm 24 (.int .i64 (n10 s).1))
      have B10 := Lib.hid ((B9.out.trans b10).far_set (q := w.heap.size + 1) (by omega) 24 (.int .i64 (n10 s).1))
      clear kk zz r10 b10 K9 Z9 R9 B9
      go_wp2_with fail
      clear cc ff
      refine (sig_any g (n10 s).2 _ R10.out).mono ?_
      rintro e' w11 ⟨rfl, r11, b11⟩
      have kk : EB w11 (w.heap.size + 1) (⟨(n1 s).1, (n2 s).1, (pN s 16).1, (n4 s).1, (n5 s).1, ba (t6 s).1, ba (t7 s).1, ba (t8 s).1, ba (t9 s).1, (n10 s).1, 0, ⟨#[]⟩⟩) := b11.blk K10.out N1.out
      have zz : EB w11 w.heap.size ev0 := b11.blk Z10.out N2.out
      have cc : w11.cell? ⟨w.heap.size + 1, 25, none⟩ = some (.int .i64 0) := (Blk.cell kk 25).trans rfl
      have ff := Blk.free kk 25
      have K11 := Lib.hid (EB.put (e' := ⟨(n1 s).1, (n2 s).1, (pN s 16).1, (n4 s).1, (n5 s).1, ba (t6 s).1, ba (t7 s).1, ba (t8 s).1, ba (t9 s).1, (n10 s).1, (n11 s).1, ⟨#[]⟩⟩) kk 25 (.int .i64 (n11 s).1) rfl)
      have Z11 := Lib.hid (EB.far zz (q := w.heap.size + 1) (by omega) 25 (.int .i64 (n11 s).1))
      have R11 := Lib.hid (Rd.far r11 (q := w.heap.size + 1) N1.out.symm 25 (.int .i64 (n11 s).1))
      have B11 := Lib.hid ((B10.out.trans b11).far_set (q := w.heap.size + 1) (by omega) 25 (.int .i64 (n11 s).1))
      clear kk zz r11 b11 K10 Z10 R10 B10
      go_wp2_with fail
      clear cc ff
      refine (rtext_any g (n11 s).2 mx _ R11.out).mono ?_
      rintro e' w12 ⟨q12, hq12, rfl, r12, b12⟩
      obtain rfl := ba_of hq12
      clear hq12
      have kk : EB w12 (w.heap.size + 1) (⟨(n1 s).1, (n2 s).1, (pN s 16).1, (n4 s).1, (n5 s).1, ba (t6 s).1, ba (t7 s).1, ba (t8 s).1, ba (t9 s).1, (n10 s).1, (n11 s).1, ⟨#[]⟩⟩) := b12.blk K11.out N1.out
      have zz : EB w12 w.heap.size ev0 := b12.blk Z11.out N2.out
      have cc : w12.cell? ⟨w.heap.size + 1, 26, none⟩ = some (.string ⟨#[]⟩) := (Blk.cell kk 26).trans rfl
      have ff := Blk.free kk 26
      have K12 := Lib.hid (EB.put (e' := ⟨(n1 s).1, (n2 s).1, (pN s 16).1, (n4 s).1, (n5 s).1, ba (t6 s).1, ba (t7 s).1, ba (t8 s).1, ba (t9 s).1, (n10 s).1, (n11 s).1, ba (t12 s).1⟩) kk 26 (.string (ba (t12 s).1)) rfl)
      have Z12 := Lib.hid (EB.far zz (q := w.heap.size + 1) (by omega) 26 (.string (ba (t12 s).1)))
      have R12 := Lib.hid (Rd.far r12 (q := w.heap.size + 1) N1.out.symm 26 (.string (ba (t12 s).1)))
      have B12 := Lib.hid ((B11.out.trans b12).far_set (q := w.heap.size + 1) (by omega) 26 (.string (ba (t12 s).1)))
      clear kk zz r12 b12 K11 Z11 R11 B11
      go_upto_region 18 with fail
      clear cc ff
      obtain ⟨Y, hY⟩ : ∃ Y, Y = w12.setCell ⟨w.heap.size + 1, 26, none⟩ (.string (ba (rText (n11 s).2 mx).1)) := ⟨_, rfl⟩
      rw [← hY]
      have Z13 : Hid (EB Y w.heap.size ev0) := by rw [hY]; exact Z12
      have HR := Lib.hid (setRow_blk Y w.heap.size _ _ (evC (nextE s)) Z13.out)
      have K13 : Hid (EB Y (w.heap.size + 1) (nextE s)) := by rw [hY]; exact K12
      have RR : Hid (Rd Y g (nextS s)) := by rw [hY]; exact R12
      have BB : Hid (But g w Y) := by rw [hY]; exact B12
      have R13 := Lib.hid (Rd.row RR.out (q := w.heap.size) N2.out.symm (evC (nextE s)))
      have B13 := Lib.hid (BB.out.far_row (q := w.heap.size) (Nat.le_refl _) (evC (nextE s)))
      clear hY RR BB
      clear K12 R12 B12
      go_wp2_with (first
        | (refine wpList_load_if rfl 48 (.tmp 3) rfl (w.heap.size + 1) rfl _ _ _ _ K13.out Try.underlying48 rfl (sizeE _) ?_)
        | (refine wpList_store_row rfl 48 (.tmp 2) (.tmp 57) rfl w.heap.size (evC (nextE s)) rfl rfl _ _ Z13.out (sizeE _) rfl (evC_one _) ?_))
      exact bodyPost_ret (v := .agg (evC (nextE s))) (results_cell_row (P := Try.prog) Try.results78 _ _ w.heap.size _ (evC (nextE s)) _ _ rfl HR.out Try.underlying48 rfl (sizeE _)) rfl ⟨rfl, R13.out, B13.out⟩

end Go.Proofs.Ytalaidlnhoonfaa
