/-
  event.laid: an event's bytes: the contract, by a walk. event.Put: an event's bytes, laid behind none: the contract, by a walk. Conditions: lengths.
-/
import Derived.Test.YtejljikikhecnaaGreatNEv
import Derived.Test.YtejljikikhecnaaGreatNNa
import Derived.Deep.DeepCutAuto
namespace Go.Proofs.YtejljikikhecnaaGreat
open Go.RowKit

theorem own_form {w : World} {base size n : Nat} {e : TypeId} {v : Value} {xs : List Value} (h : w.ownsRow base e size v n xs) : ∃ A c, v = .slice A n c := by
  rcases h.2 with ⟨rfl, rfl⟩ | ⟨g, cap, cur, rfl, _⟩
  · exact ⟨none, 0, rfl⟩
  · exact ⟨_, _, rfl⟩
theorem own_lt {w : World} {base size n : Nat} {e : TypeId} {v : Value} {xs : List Value} (h : w.ownsRow base e size v n xs) : ∀ q, v.ownBlock = some q → base ≤ q := by
  intro q hq
  rcases h.2 with ⟨rfl, rfl⟩ | ⟨g, cap, cur, rfl, hb, _⟩
  · cases hq
  · have : g = q := Option.some.inj hq
    omega
theorem own_base {w : World} {base b' size n : Nat} {e : TypeId} {v : Value} {xs : List Value} (h : w.ownsRow base e size v n xs) (hb : b' ≤ base) : w.ownsRow b' e size v n xs := by
  refine ⟨h.1, ?_⟩
  rcases h.2 with h2 | ⟨g, cap, cur, h1, h2, h3⟩
  · exact .inl h2
  · exact .inr ⟨g, cap, cur, h1, by omega, h3⟩
theorem index_V (f : Nat → Int) (k : Nat) (h : k < 16) (w : World) : (Instr.index 23 (.agg (vA f)) (.int .i64 k)).run Tryz.prog w = .ok (.int .i64 (f k)) w := by
  have h2 : (0 : Int) ≤ k ∧ (k : Int) < 16 := by omega
  have h3 := vA_at f k h
  have hs : (Go.sizeOf 3).run Tryz.prog w = .ok 1 w := by
    have hz := sizeI
    cases hq : Tryz.prog.info? 3 with
    | none => simp [hq] at hz
    | some i => simp [hq] at hz; simp [sizeOf, typeInfo, hq, hz]
  simp only [Instr.index, asIntOf, Sem.run_bind, Sem.run_pure, Result.andThen_ok, run_underlying Tryz.underlying23 w]
  simp [h2, hs, part, Sem.run_bind, h3, iv]
theorem int_val {a b : Int} (h : a = b) : Value.int .i64 a = Value.int .i64 b := by rw [h]


/-- A text's bytes; those of the first k numbers of a vector; an event's, as they come. -/
def txtB (s : ByteArray) : List UInt8 := putB s.size ++ s.data.toList
def pastB (p : Nat → Int) (k : Nat) : List UInt8 := (List.range k).flatMap fun i => putB (p i)
theorem pastB_succ (p : Nat → Int) (k : Nat) : pastB p (k + 1) = pastB p k ++ putB (p k) := by simp [pastB, List.range_succ]
theorem pastB_len (p : Nat → Int) (k : Nat) : (pastB p k).length ≤ 9 * k := by
  induction k with
  | zero => simp [pastB]
  | succ k ih => rw [pastB_succ, List.length_append]; have := putB_len (p k); omega
def b1 (e : Ev) : List UInt8 := [] ++ putB e.r
def b2 (e : Ev) : List UInt8 := b1 e ++ putB e.c
def b3 (e : Ev) (k : Nat) : List UInt8 := b2 e ++ pastB e.p k
def b4 (e : Ev) : List UInt8 := b3 e 16 ++ putB e.op
def b5 (e : Ev) : List UInt8 := b4 e ++ putB e.ek
def b6 (e : Ev) : List UInt8 := b5 e ++ txtB e.a
def b7 (e : Ev) : List UInt8 := b6 e ++ txtB e.b
def b8 (e : Ev) : List UInt8 := b7 e ++ txtB e.cc
def b9 (e : Ev) : List UInt8 := b8 e ++ txtB e.d
def b10 (e : Ev) : List UInt8 := b9 e ++ putB e.vk
def b11 (e : Ev) : List UInt8 := b10 e ++ sigB e.vn
def bytesE (e : Ev) : List UInt8 := b11 e ++ txtB e.t
theorem txtB_len (s : ByteArray) : (txtB s).length ≤ 9 + s.size := by
  unfold txtB; rw [List.length_append]; have := putB_len s.size; have : s.data.toList.length = s.size := Array.length_toList
  omega
theorem b_len (e : Ev) (hl : Lens e) : (b1 e).length ≤ 9 ∧ (b2 e).length ≤ 18 ∧ (∀ k, (b3 e k).length ≤ 18 + 9 * k) ∧ (b4 e).length ≤ 171 ∧ (b5 e).length ≤ 180 ∧ (b6 e).length ≤ 180 + 4294967289 ∧ (b7 e).length ≤ 180 + 4294967289 * 2 ∧ (b8 e).length ≤ 180 + 4294967289 * 3 ∧ (b9 e).length ≤ 180 + 4294967289 * 4 ∧ (b10 e).length ≤ 189 + 4294967289 * 4 ∧ (b11 e).length ≤ 198 + 4294967289 * 4 := by
  obtain ⟨l1, l2, l3, l4, l5⟩ := hl
  have h1 : (b1 e).length ≤ 9 := by unfold b1; rw [List.nil_append]; exact putB_len _
  have h2 : (b2 e).length ≤ 18 := by unfold b2; rw [List.length_append]; have := putB_len e.c; omega
  have h3 : ∀ k, (b3 e k).length ≤ 18 + 9 * k := by intro k; unfold b3; rw [List.length_append]; have := pastB_len e.p k; omega
  have h4 : (b4 e).length ≤ 171 := by unfold b4; rw [List.length_append]; have := putB_len e.op; have := h3 16; omega
  have h5 : (b5 e).length ≤ 180 := by unfold b5; rw [List.length_append]; have := putB_len e.ek; omega
  have h6 : (b6 e).length ≤ 180 + 4294967289 := by unfold b6; rw [List.length_append]; have := txtB_len e.a; omega
  have h7 : (b7 e).length ≤ 180 + 4294967289 * 2 := by unfold b7; rw [List.length_append]; have := txtB_len e.b; omega
  have h8 : (b8 e).length ≤ 180 + 4294967289 * 3 := by unfold b8; rw [List.length_append]; have := txtB_len e.cc; omega
  have h9 : (b9 e).length ≤ 180 + 4294967289 * 4 := by unfold b9; rw [List.length_append]; have := txtB_len e.d; omega
  have h10 : (b10 e).length ≤ 189 + 4294967289 * 4 := by unfold b10; rw [List.length_append]; have := putB_len e.vk; omega
  have h11 : (b11 e).length ≤ 198 + 4294967289 * 4 := by unfold b11; rw [List.length_append]; have := sigB_len e.vn; omega
  exact ⟨h1, h2, h3, h4, h5, h6, h7, h8, h9, h10, h11⟩

set_option maxRecDepth 100000 in
set_option maxHeartbeats 2000000 in
theorem elaid_any (e : Ev) (w : World) (hl : Lens e) : Calls Tryz.prog 93 #[evV e] w (Makes w (bytesE e)) := by
  obtain ⟨m1, m2, m3, m4, m5, m6, m7, m8, m9, m10, m11⟩ := b_len e hl
  obtain ⟨l1, l2, l3, l4, l5⟩ := hl
  have L0 := Lib.hid (show ([] : List UInt8).length ≤ 140737488350000 by simp)
  have L1 := Lib.hid (show (b1 e).length ≤ 140737488350000 by omega)
  have L2 := Lib.hid (fun k (hk : k ≤ 16) => show (b3 e k).length ≤ 140737488350000 by have := m3 k; omega)
  have L4 := Lib.hid (show (b4 e).length ≤ 140737488350000 by omega)
  have L5 := Lib.hid (show (b5 e).length + e.a.size ≤ 140737488350000 by omega)
  have L6 := Lib.hid (show (b6 e).length + e.b.size ≤ 140737488350000 by omega)
  have L7 := Lib.hid (show (b7 e).length + e.cc.size ≤ 140737488350000 by omega)
  have L8 := Lib.hid (show (b8 e).length + e.d.size ≤ 140737488350000 by omega)
  have L9 := Lib.hid (show (b9 e).length ≤ 140737488350000 by omega)
  have L10 := Lib.hid (show (b10 e).length ≤ 140737488350000 by omega)
  have L11 := Lib.hid (show (b11 e).length + e.t.size ≤ 140737488350000 by omega)
  clear m1 m2 m3 m4 m5 m6 m7 m8 m9 m10 m11 l1 l2 l3 l4 l5
  have hk : EB (w.alloc (.cells (evC e) 49)) w.heap.size e := EB.new_ w e
  have hy : Below w.heap.size w (w.alloc (.cells (evC e) 49)) := (Below.refl _ _).alloc (Nat.le_refl _) _
  obtain ⟨X, hX⟩ : ∃ X, X = w.alloc (.cells (evC e) 49) := ⟨_, rfl⟩
  rw [← hX] at hk hy
  have HX := Lib.hid hX
  have K0 := Lib.hid hk
  have Y0 := Lib.hid hy
  clear hX hk hy
  unfold evV
  go_enter Tryz.func93, Tryz.ntmps93
  go_upto_region 1 with fail
  rw [← HX.out]
  have hc := (show _ = some (.int .i64 e.r) from (Blk.cell K0.out 0).trans rfl)
  go_wp2_with fail
  clear hc
  refine (put_any _ [] e.r _ (Sl.nil_ _ _) L0.out).mono ?_
  rintro e' w1 ⟨v1, rfl, ho1, hb1⟩
  have K1 := Lib.hid (EB.keep K0.out hb1)
  have Y1 := Lib.hid (Y0.out.trans (hb1.mono Y0.out.size))
  have O1 : Hid (w1.ownsRow w.heap.size 5 1 v1 (b1 e).length (bs (b1 e))) := Lib.hid (own_base ho1 Y0.out.size)
  have S1 : Hid (Sl bv w1 v1 (b1 e)) := Lib.hid (Sl.of_own ho1)
  obtain ⟨A1, c1, rfl⟩ := S1.out.form
  clear ho1 hb1 K0 Y0
  have hc := (show _ = some (.int .i64 e.c) from (Blk.cell K1.out 1).trans rfl)
  go_wp2_with fail
  clear hc
  refine (put_any _ (b1 e) e.c _ S1.out L1.out).mono ?_
  rintro e' w2 ⟨v2, rfl, ho2, hb2⟩
  have K2 := Lib.hid (EB.keep K1.out hb2)
  have Y2 := Lib.hid (Y1.out.trans (hb2.mono Y1.out.size))
  have O2 : Hid (w2.ownsRow w.heap.size 5 1 v2 (b2 e).length (bs (b2 e))) := Lib.hid (own_base ho2 Y1.out.size)
  have S2 : Hid (Sl bv w2 v2 (b2 e)) := Lib.hid (Sl.of_own ho2)
  obtain ⟨A2, c2, rfl⟩ := S2.out.form
  clear ho2 hb2 K1 Y1
  go_wp2_with (refine wpList_load_midif rfl 23 (.tmp 15) rfl w.heap.size 2 rfl _ _ K2.out.past Tryz.underlying23 rfl (by kernel_rfl) ?_)
  have hb20 : b2 e = b3 e 0 := by simp [b3, pastB]
  rw [hb20] at O2 S2 ⊢
  clear hb20
  go_loopw [3, 5, 17] (fun l _ i W => ∃ k : Nat, k ≤ 16 ∧ i = .int .i64 k ∧ W.ownsRow w.heap.size 5 1 l (b3 e k).length (bs (b3 e k)) ∧ EB W w.heap.size e ∧ Below w.heap.size w W) (fun _ _ i _ => 16 - (intOf i).toNat)
  case atStart => exact ⟨0, by omega, rfl, O2.out, K2.out, Y2.out⟩
  case round =>
    clear O2 S2 K2 Y2
    obtain ⟨k, hk, rfl, ho, k2, y2⟩ := hrel
    have hs := Sl.of_own ho
    obtain ⟨A2, c2, rfl⟩ := hs.form
    have S2 := Lib.hid hs
    have O2 := Lib.hid ho
    have K2 := Lib.hid k2
    have Y2 := Lib.hid y2
    clear hs ho k2 y2
    by_cases hlt : k < 16
    · have hix := index_V e.p k hlt wr
      have hsu : b3 e (k + 1) = b3 e k ++ putB (e.p k) := by unfold b3; rw [pastB_succ, List.append_assoc]
      have HS := Lib.hid hsu
      clear hsu
      go_wp2_with fail
      clear hix
      refine (put_any _ (b3 e k) (e.p k) _ S2.out (L2.out k hk)).mono ?_
      rintro e' w3 ⟨v3, rfl, ho3, hb3⟩
      rw [← HS.out] at ho3
      have O3 := Lib.hid (own_base ho3 Y2.out.size)
      have K3 := Lib.hid (EB.keep K2.out hb3)
      have Y3 := Lib.hid (Y2.out.trans (hb3.mono Y2.out.size))
      clear ho3 hb3
      go_wp2
      go_roundw
      case rel => exact ⟨k + 1, by omega, by go_num, O3.out, K3.out, Y3.out⟩
      case measure => simp [intOf]; omega
    · have hkk : k = 16 := by omega
      subst hkk
      have hc := (show _ = some (.int .i64 e.op) from (Blk.cell K2.out 18).trans rfl)
      go_wp2_with fail
      clear hc
      refine (put_any _ (b3 e 16) e.op _ S2.out (L2.out 16 (Nat.le_refl _))).mono ?_
      rintro e' w4 ⟨v4, rfl, ho4, hb4⟩
      have K4 := Lib.hid (EB.keep K2.out hb4)
      have Y4 := Lib.hid (Y2.out.trans (hb4.mono Y2.out.size))
      have O4 : Hid (w4.ownsRow w.heap.size 5 1 v4 (b4 e).length (bs (b4 e))) := Lib.hid (own_base ho4 Y2.out.size)
      have S4 : Hid (Sl bv w4 v4 (b4 e)) := Lib.hid (Sl.of_own ho4)
      obtain ⟨A4, c4, rfl⟩ := S4.out.form
      clear ho4 hb4 K2 Y2
      have hc := (show _ = some (.int .i64 e.ek) from (Blk.cell K4.out 19).trans rfl)
      go_wp2_with fail
      clear hc
      refine (put_any _ (b4 e) e.ek _ S4.out L4.out).mono ?_
      rintro e' w5 ⟨v5, rfl, ho5, hb5⟩
      have K5 := Lib.hid (EB.keep K4.out hb5)
      have Y5 := Lib.hid (Y4.out.trans (hb5.mono Y4.out.size))
      have O5 : Hid (w5.ownsRow w.heap.size 5 1 v5 (b5 e).length (bs (b5 e))) := Lib.hid (own_base ho5 Y4.out.size)
      have S5 : Hid (Sl bv w5 v5 (b5 e)) := Lib.hid (Sl.of_own ho5)
      obtain ⟨A5, c5, rfl⟩ := S5.out.form
      clear ho5 hb5 K4 Y4
      have hc := (show _ = some (.string e.a) from (Blk.cell K5.out 20).trans rfl)
      go_wp2_with fail
      clear hc
      refine (text_any _ (b5 e) e.a _ S5.out L5.out).mono ?_
      rintro e' w6 ⟨v6, rfl, ho6, hb6⟩
      have K6 := Lib.hid (EB.keep K5.out hb6)
      have Y6 := Lib.hid (Y5.out.trans (hb6.mono Y5.out.size))
      have O6 : Hid (w6.ownsRow w.heap.size 5 1 v6 (b6 e).length (bs (b6 e))) := Lib.hid (own_base ho6 Y5.out.size)
      have S6 : Hid (Sl bv w6 v6 (b6 e)) := Lib.hid (Sl.of_own ho6)
      obtain ⟨A6, c6, rfl⟩ := S6.out.form
      clear ho6 hb6 K5 Y5
      have hc := (show _ = some (.string e.b) from (Blk.cell K6.out 21).trans rfl)
      go_wp2_with fail
      clear hc
      refine (text_any _ (b6 e) e.b _ S6.out L6.out).mono ?_
      rintro e' w7 ⟨v7, rfl, ho7, hb7⟩
      have K7 := Lib.hid (EB.keep K6.out hb7)
      have Y7 := Lib.hid (Y6.out.trans (hb7.mono Y6.out.size))
      have O7 : Hid (w7.ownsRow w.heap.size 5 1 v7 (b7 e).length (bs (b7 e))) := Lib.hid (own_base ho7 Y6.out.size)
      have S7 : Hid (Sl bv w7 v7 (b7 e)) := Lib.hid (Sl.of_own ho7)
      obtain ⟨A7, c7, rfl⟩ := S7.out.form
      clear ho7 hb7 K6 Y6
      have hc := (show _ = some (.string e.cc) from (Blk.cell K7.out 22).trans rfl)
      go_wp2_with fail
      clear hc
      refine (text_any _ (b7 e) e.cc _ S7.out L7.out).mono ?_
      rintro e' w8 ⟨v8, rfl, ho8, hb8⟩
      have K8 := Lib.hid (EB.keep K7.out hb8)
      have Y8 := Lib.hid (Y7.out.trans (hb8.mono Y7.out.size))
      have O8 : Hid (w8.ownsRow w.heap.size 5 1 v8 (b8 e).length (bs (b8 e))) := Lib.hid (own_base ho8 Y7.out.size)
      have S8 : Hid (Sl bv w8 v8 (b8 e)) := Lib.hid (Sl.of_own ho8)
      obtain ⟨A8, c8, rfl⟩ := S8.out.form
      clear ho8 hb8 K7 Y7
      have hc := (show _ = some (.string e.d) from (Blk.cell K8.out 23).trans rfl)
      go_wp2_with fail
      clear hc
      refine (text_any _ (b8 e) e.d _ S8.out L8.out).mono ?_
      rintro e' w9 ⟨v9, rfl, ho9, hb9⟩
      have K9 := Lib.hid (EB.keep K8.out hb9)
      have Y9 := Lib.hid (Y8.out.trans (hb9.mono Y8.out.size))
      have O9 : Hid (w9.ownsRow w.heap.size 5 1 v9 (b9 e).length (bs (b9 e))) := Lib.hid (own_base ho9 Y8.out.size)
      have S9 : Hid (Sl bv w9 v9 (b9 e)) := Lib.hid (Sl.of_own ho9)
      obtain ⟨A9, c9, rfl⟩ := S9.out.form
      clear ho9 hb9 K8 Y8
      have hc := (show _ = some (.int .i64 e.vk) from (Blk.cell K9.out 24).trans rfl)
      go_wp2_with fail
      clear hc
      refine (put_any _ (b9 e) e.vk _ S9.out L9.out).mono ?_
      rintro e' w10 ⟨v10, rfl, ho10, hb10⟩
      have K10 := Lib.hid (EB.keep K9.out hb10)
      have Y10 := Lib.hid (Y9.out.trans (hb10.mono Y9.out.size))
      have O10 : Hid (w10.ownsRow w.heap.size 5 1 v10 (b10 e).length (bs (b10 e))) := Lib.hid (own_base ho10 Y9.out.size)
      have S10 : Hid (Sl bv w10 v10 (b10 e)) := Lib.hid (Sl.of_own ho10)
      obtain ⟨A10, c10, rfl⟩ := S10.out.form
      clear ho10 hb10 K9 Y9
      have hc := (show _ = some (.int .i64 e.vn) from (Blk.cell K10.out 25).trans rfl)
      go_wp2_with fail
      clear hc
      refine (signed_any _ (b10 e) e.vn _ S10.out L10.out).mono ?_
      rintro e' w11 ⟨v11, rfl, ho11, hb11⟩
      have K11 := Lib.hid (EB.keep K10.out hb11)
      have Y11 := Lib.hid (Y10.out.trans (hb11.mono Y10.out.size))
      have O11 : Hid (w11.ownsRow w.heap.size 5 1 v11 (b11 e).length (bs (b11 e))) := Lib.hid (own_base ho11 Y10.out.size)
      have S11 : Hid (Sl bv w11 v11 (b11 e)) := Lib.hid (Sl.of_own ho11)
      obtain ⟨A11, c11, rfl⟩ := S11.out.form
      clear ho11 hb11 K10 Y10
      have hc := (show _ = some (.string e.t) from (Blk.cell K11.out 26).trans rfl)
      go_wp2_with fail
      clear hc
      refine (text_any _ (b11 e) e.t _ S11.out L11.out).mono ?_
      rintro e' w12 ⟨v12, rfl, ho12, hb12⟩
      have K12 := Lib.hid (EB.keep K11.out hb12)
      have Y12 := Lib.hid (Y11.out.trans (hb12.mono Y11.out.size))
      have O12 : Hid (w12.ownsRow w.heap.size 5 1 v12 (bytesE e).length (bs (bytesE e))) := Lib.hid (own_base ho12 Y11.out.size)
      have S12 : Hid (Sl bv w12 v12 (bytesE e)) := Lib.hid (Sl.of_own ho12)
      obtain ⟨A12, c12, rfl⟩ := S12.out.form
      clear ho12 hb12 K11 Y11
      go_wp2
      go_ret
      exact ⟨_, rfl, O12.out, Y12.out⟩

end Go.Proofs.YtejljikikhecnaaGreat

namespace Go.Proofs.YtejljikikhecnaaGreat
open Go.RowKit

set_option maxRecDepth 100000 in
set_option maxHeartbeats 1500000 in
theorem evput_any (e : Ev) (w : World) (hl : Lens e) (hn : (bytesE e).length ≤ 140737488355328) : Calls Tryz.prog 61 #[.slice none 0 0, evV e] w (Makes w (bytesE e)) := by
  have HN := Lib.hid hn
  have HLd := Lib.hid (fun W => elaid_any e W hl)
  have hk : EB (w.alloc (.cells (evC e) 49)) w.heap.size e := EB.new_ w e
  have hy : Below w.heap.size w (w.alloc (.cells (evC e) 49)) := (Below.refl _ _).alloc (Nat.le_refl _) _
  obtain ⟨X, hX⟩ : ∃ X, X = w.alloc (.cells (evC e) 49) := ⟨_, rfl⟩
  rw [← hX] at hk hy
  have HX := Lib.hid hX
  have K0 := Lib.hid hk
  have Y0 := Lib.hid hy
  clear hX hk hy hl hn
  unfold evV at *
  go_enter Tryz.func61, Tryz.ntmps61
  go_upto_region 1 with fail
  rw [← HX.out]
  go_wp2_with (refine wpList_load_if rfl 49 (.tmp 3) rfl w.heap.size rfl _ _ _ _ K0.out Tryz.underlying49 rfl (sizeE _) ?_)
  refine (HLd.out _).mono ?_
  rintro x1 w1 ⟨v1, rfl, ho1, hb1⟩
  have hs1 := (Sl.of_own ho1)
  have hbw := Y0.out.trans (hb1.mono Y0.out.size)
  obtain ⟨A1, c1, rfl⟩ := hs1.form
  have Y1 := Lib.hid hbw
  have S1 := Lib.hid hs1
  clear ho1 hb1 hs1 hbw K0 Y0
  go_wp2_with fail
  have hfl : flat [(.slice none 0 0, []), (.slice A1 (bytesE e).length c1, bytesE e)] = bytesE e := by simp [flat]
  refine (concat_laid w1 [(.slice none 0 0, []), (.slice A1 (bytesE e).length c1, bytesE e)] 2 2 rfl (by omega) (by omega) _ rfl ?_ (by rw [hfl]; exact HN.out)).mono ?_
  · intro p hp
    simp only [List.mem_cons, List.not_mem_nil, or_false] at hp
    rcases hp with rfl | rfl
    · exact Sl.nil_ _ _
    · exact S1.out
  · intro e' w3 H
    have H2 := H.behind (Y1.out.alloc Y1.out.size _)
    rw [hfl] at H2
    obtain ⟨v3, rfl, H3⟩ := H2
    have H4 := Lib.hid (show Makes w (bytesE e) (.returned v3) w3 from ⟨v3, rfl, H3⟩)
    clear H H3 hfl
    go_wp2
    go_ret
    exact H4.out

end Go.Proofs.YtejljikikhecnaaGreat
