/-
  snap.layElem, layEntry, layEvent, layVector: bytes laid: the contracts, by walks. Conditions: texts that are not too long.
-/
import Derived.Test.YtejljikikhecnaaGreatNSc
import Derived.Test.YtejljikikhecnaaGreatNLa
namespace Go.Proofs.YtejljikikhecnaaGreat
open Go.RowKit Go.MapKept Go.Sort

def s1 (x : El) : List UInt8 := [] ++ putB x.k
def s2 (x : El) : List UInt8 := s1 x ++ txtB x.a
def s3 (x : El) : List UInt8 := s2 x ++ txtB x.b
def s4 (x : El) : List UInt8 := s3 x ++ txtB x.c
/-- An element's bytes. -/
def bytesX (x : El) : List UInt8 := s4 x ++ txtB x.d
def t1 (q : Dt × Va) : List UInt8 := [] ++ putB q.1.r
def t2 (q : Dt × Va) : List UInt8 := t1 q ++ putB q.1.c
def t3 (q : Dt × Va) : List UInt8 := t2 q ++ putB q.2.k
def t4 (q : Dt × Va) : List UInt8 := t3 q ++ sigB q.2.n
/-- An entry's bytes. -/
def bytesN (q : Dt × Va) : List UInt8 := t4 q ++ txtB q.2.t
theorem s_len (x : El) (h : LenE x) : (s1 x).length ≤ 9 ∧ (s2 x).length ≤ 9 + 4294967289 ∧ (s3 x).length ≤ 9 + 4294967289 * 2 ∧ (s4 x).length ≤ 9 + 4294967289 * 3 ∧ (bytesX x).length ≤ 9 + 4294967289 * 4 := by
  obtain ⟨h1, h2, h3, h4⟩ := h
  have p1 := putB_len x.k
  have q1 := txtB_len x.a
  have q2 := txtB_len x.b
  have q3 := txtB_len x.c
  have q4 := txtB_len x.d
  simp only [bytesX, s4, s3, s2, s1, List.length_append, List.nil_append]
  omega
theorem t_len (q : Dt × Va) (h : q.2.t.size ≤ 4294967280) : (t1 q).length ≤ 9 ∧ (t2 q).length ≤ 18 ∧ (t3 q).length ≤ 27 ∧ (t4 q).length ≤ 36 ∧ (bytesN q).length ≤ 36 + 4294967289 := by
  have p1 := putB_len q.1.r
  have p2 := putB_len q.1.c
  have p3 := putB_len q.2.k
  have p4 := sigB_len q.2.n
  have q1 := txtB_len q.2.t
  simp only [bytesN, t4, t3, t2, t1, List.length_append, List.nil_append]
  omega

theorem bytesE_lenS (e : Ev) (hl : Lens e) : (bytesE e).length ≤ 21474836700 := by
  obtain ⟨_, _, _, _, _, _, _, _, _, _, m11⟩ := b_len e hl
  have := txtB_len e.t
  have := hl.2.2.2.2
  unfold bytesE
  rw [List.length_append]
  omega
set_option maxRecDepth 100000 in
set_option maxHeartbeats 2000000 in
theorem layElem_any (x : El) (w : World) (hl : LenE x) : Calls Tryz.prog 58 #[eE x] w (Makes w (bytesX x)) := by
  have L0 := Lib.hid (show ([] : List UInt8).length ≤ 140737488350000 by simp)
  have L1 := Lib.hid (show (s1 x).length + x.a.size ≤ 140737488350000 by have := s_len x hl; have := hl.1; have := hl.2.1; have := hl.2.2.1; have := hl.2.2.2; omega)
  have L2 := Lib.hid (show (s2 x).length + x.b.size ≤ 140737488350000 by have := s_len x hl; have := hl.1; have := hl.2.1; have := hl.2.2.1; have := hl.2.2.2; omega)
  have L3 := Lib.hid (show (s3 x).length + x.c.size ≤ 140737488350000 by have := s_len x hl; have := hl.1; have := hl.2.1; have := hl.2.2.1; have := hl.2.2.2; omega)
  have L4 := Lib.hid (show (s4 x).length + x.d.size ≤ 140737488350000 by have := s_len x hl; have := hl.1; have := hl.2.1; have := hl.2.2.1; have := hl.2.2.2; omega)
  obtain ⟨p, hp⟩ : ∃ p, w.heap.size = p := ⟨_, rfl⟩
  obtain ⟨X, hX⟩ : ∃ X, X = w.alloc (.cells #[.int .i64 x.k, .string x.a, .string x.b, .string x.c, .string x.d] 45) := ⟨_, rfl⟩
  have hbX : Below w.heap.size w X := by rw [hX]; exact (Below.refl _ _).alloc (Nat.le_refl _) _
  have K0 := Lib.hid (show Blk X p 45 #[.int .i64 x.k, .string x.a, .string x.b, .string x.c, .string x.d] by rw [hX, ← hp]; exact Blk.new _ _ _)
  have HX := Lib.hid hX
  have HP := Lib.hid hp
  have Y0 := Lib.hid hbX
  clear hX hp hbX
  try unfold eE elV
  go_enter Tryz.func58, Tryz.ntmps58
  go_upto_region 1 with fail
  rw [← HX.out, HP.out]
  have hc := (show _ = some (.int .i64 x.k) from (Blk.cell K0.out 0).trans rfl)
  go_wp2_with fail
  clear hc
  refine (put_any _ ([]) x.k _ (Sl.nil_ _ _) L0.out).mono ?_
  rintro e' w1 ⟨v1, rfl, ho1, hb1⟩
  have K1 := Lib.hid (Blk.below K0.out hb1 (Blk.lt K0.out))
  have Y1 := Lib.hid (Y0.out.trans (hb1.mono Y0.out.size))
  have O1 : Hid (w1.ownsRow w.heap.size 5 1 v1 (s1 x).length (bs (s1 x))) := Lib.hid (own_base ho1 Y0.out.size)
  have S1 : Hid (Sl bv w1 v1 (s1 x)) := Lib.hid (Sl.of_own ho1)
  obtain ⟨A1, c1, rfl⟩ := S1.out.form
  clear ho1 hb1 K0 Y0
  have hc := (show _ = some (.string x.a) from (Blk.cell K1.out 1).trans rfl)
  go_wp2_with fail
  clear hc
  refine (text_any _ (s1 x) x.a _ S1.out L1.out).mono ?_
  rintro e' w2 ⟨v2, rfl, ho2, hb2⟩
  have K2 := Lib.hid (Blk.below K1.out hb2 (Blk.lt K1.out))
  have Y2 := Lib.hid (Y1.out.trans (hb2.mono Y1.out.size))
  have O2 : Hid (w2.ownsRow w.heap.size 5 1 v2 (s2 x).length (bs (s2 x))) := Lib.hid (own_base ho2 Y1.out.size)
  have S2 : Hid (Sl bv w2 v2 (s2 x)) := Lib.hid (Sl.of_own ho2)
  obtain ⟨A2, c2, rfl⟩ := S2.out.form
  clear ho2 hb2 K1 Y1
  have hc := (show _ = some (.string x.b) from (Blk.cell K2.out 2).trans rfl)
  go_wp2_with fail
  clear hc
  refine (text_any _ (s2 x) x.b _ S2.out L2.out).mono ?_
  rintro e' w3 ⟨v3, rfl, ho3, hb3⟩
  have K3 := Lib.hid (Blk.below K2.out hb3 (Blk.lt K2.out))
  have Y3 := Lib.hid (Y2.out.trans (hb3.mono Y2.out.size))
  have O3 : Hid (w3.ownsRow w.heap.size 5 1 v3 (s3 x).length (bs (s3 x))) := Lib.hid (own_base ho3 Y2.out.size)
  have S3 : Hid (Sl bv w3 v3 (s3 x)) := Lib.hid (Sl.of_own ho3)
  obtain ⟨A3, c3, rfl⟩ := S3.out.form
  clear ho3 hb3 K2 Y2
  have hc := (show _ = some (.string x.c) from (Blk.cell K3.out 3).trans rfl)
  go_wp2_with fail
  clear hc
  refine (text_any _ (s3 x) x.c _ S3.out L3.out).mono ?_
  rintro e' w4 ⟨v4, rfl, ho4, hb4⟩
  have K4 := Lib.hid (Blk.below K3.out hb4 (Blk.lt K3.out))
  have Y4 := Lib.hid (Y3.out.trans (hb4.mono Y3.out.size))
  have O4 : Hid (w4.ownsRow w.heap.size 5 1 v4 (s4 x).length (bs (s4 x))) := Lib.hid (own_base ho4 Y3.out.size)
  have S4 : Hid (Sl bv w4 v4 (s4 x)) := Lib.hid (Sl.of_own ho4)
  obtain ⟨A4, c4, rfl⟩ := S4.out.form
  clear ho4 hb4 K3 Y3
  have hc := (show _ = some (.string x.d) from (Blk.cell K4.out 4).trans rfl)
  go_wp2_with fail
  clear hc
  refine (text_any _ (s4 x) x.d _ S4.out L4.out).mono ?_
  rintro e' w5 ⟨v5, rfl, ho5, hb5⟩
  have K5 := Lib.hid (Blk.below K4.out hb5 (Blk.lt K4.out))
  have Y5 := Lib.hid (Y4.out.trans (hb5.mono Y4.out.size))
  have O5 : Hid (w5.ownsRow w.heap.size 5 1 v5 (bytesX x).length (bs (bytesX x))) := Lib.hid (own_base ho5 Y4.out.size)
  clear ho5 hb5 K4 Y4
  go_wp2
  go_ret
  exact ⟨_, rfl, O5.out, Y5.out⟩

set_option maxRecDepth 100000 in
set_option maxHeartbeats 2000000 in
theorem layEntry_any (q : Dt × Va) (w : World) (hl : q.2.t.size ≤ 4294967280) : Calls Tryz.prog 60 #[.agg #[.int .i64 q.1.r, .int .i64 q.1.c, .int .i64 q.2.k, .int .i64 q.2.n, .string q.2.t]] w (Makes w (bytesN q)) := by
  have L0 := Lib.hid (show ([] : List UInt8).length ≤ 140737488350000 by simp)
  have L1 := Lib.hid (show (t1 q).length ≤ 140737488350000 by have := t_len q hl; omega)
  have L2 := Lib.hid (show (t2 q).length ≤ 140737488350000 by have := t_len q hl; omega)
  have L3 := Lib.hid (show (t3 q).length ≤ 140737488350000 by have := t_len q hl; omega)
  have L4 := Lib.hid (show (t4 q).length + q.2.t.size ≤ 140737488350000 by have := t_len q hl; omega)
  obtain ⟨p, hp⟩ : ∃ p, w.heap.size = p := ⟨_, rfl⟩
  obtain ⟨X, hX⟩ : ∃ X, X = w.alloc (.cells #[.int .i64 q.1.r, .int .i64 q.1.c, .int .i64 q.2.k, .int .i64 q.2.n, .string q.2.t] 63) := ⟨_, rfl⟩
  have hbX : Below w.heap.size w X := by rw [hX]; exact (Below.refl _ _).alloc (Nat.le_refl _) _
  have K0 := Lib.hid (show Blk X p 63 #[.int .i64 q.1.r, .int .i64 q.1.c, .int .i64 q.2.k, .int .i64 q.2.n, .string q.2.t] by rw [hX, ← hp]; exact Blk.new _ _ _)
  have HX := Lib.hid hX
  have HP := Lib.hid hp
  have Y0 := Lib.hid hbX
  clear hX hp hbX
  try unfold eE elV
  go_enter Tryz.func60, Tryz.ntmps60
  go_upto_region 1 with fail
  rw [← HX.out, HP.out]
  have hc := (show _ = some (.int .i64 q.1.r) from (Blk.cell K0.out 0).trans rfl)
  go_wp2_with fail
  clear hc
  refine (put_any _ ([]) q.1.r _ (Sl.nil_ _ _) L0.out).mono ?_
  rintro e' w1 ⟨v1, rfl, ho1, hb1⟩
  have K1 := Lib.hid (Blk.below K0.out hb1 (Blk.lt K0.out))
  have Y1 := Lib.hid (Y0.out.trans (hb1.mono Y0.out.size))
  have O1 : Hid (w1.ownsRow w.heap.size 5 1 v1 (t1 q).length (bs (t1 q))) := Lib.hid (own_base ho1 Y0.out.size)
  have S1 : Hid (Sl bv w1 v1 (t1 q)) := Lib.hid (Sl.of_own ho1)
  obtain ⟨A1, c1, rfl⟩ := S1.out.form
  clear ho1 hb1 K0 Y0
  have hc := (show _ = some (.int .i64 q.1.c) from (Blk.cell K1.out 1).trans rfl)
  go_wp2_with fail
  clear hc
  refine (put_any _ (t1 q) q.1.c _ S1.out L1.out).mono ?_
  rintro e' w2 ⟨v2, rfl, ho2, hb2⟩
  have K2 := Lib.hid (Blk.below K1.out hb2 (Blk.lt K1.out))
  have Y2 := Lib.hid (Y1.out.trans (hb2.mono Y1.out.size))
  have O2 : Hid (w2.ownsRow w.heap.size 5 1 v2 (t2 q).length (bs (t2 q))) := Lib.hid (own_base ho2 Y1.out.size)
  have S2 : Hid (Sl bv w2 v2 (t2 q)) := Lib.hid (Sl.of_own ho2)
  obtain ⟨A2, c2, rfl⟩ := S2.out.form
  clear ho2 hb2 K1 Y1
  have hc := (show _ = some (.int .i64 q.2.k) from (Blk.cell K2.out 2).trans rfl)
  go_wp2_with fail
  clear hc
  refine (put_any _ (t2 q) q.2.k _ S2.out L2.out).mono ?_
  rintro e' w3 ⟨v3, rfl, ho3, hb3⟩
  have K3 := Lib.hid (Blk.below K2.out hb3 (Blk.lt K2.out))
  have Y3 := Lib.hid (Y2.out.trans (hb3.mono Y2.out.size))
  have O3 : Hid (w3.ownsRow w.heap.size 5 1 v3 (t3 q).length (bs (t3 q))) := Lib.hid (own_base ho3 Y2.out.size)
  have S3 : Hid (Sl bv w3 v3 (t3 q)) := Lib.hid (Sl.of_own ho3)
  obtain ⟨A3, c3, rfl⟩ := S3.out.form
  clear ho3 hb3 K2 Y2
  have hc := (show _ = some (.int .i64 q.2.n) from (Blk.cell K3.out 3).trans rfl)
  go_wp2_with fail
  clear hc
  refine (signed_any _ (t3 q) q.2.n _ S3.out L3.out).mono ?_
  rintro e' w4 ⟨v4, rfl, ho4, hb4⟩
  have K4 := Lib.hid (Blk.below K3.out hb4 (Blk.lt K3.out))
  have Y4 := Lib.hid (Y3.out.trans (hb4.mono Y3.out.size))
  have O4 : Hid (w4.ownsRow w.heap.size 5 1 v4 (t4 q).length (bs (t4 q))) := Lib.hid (own_base ho4 Y3.out.size)
  have S4 : Hid (Sl bv w4 v4 (t4 q)) := Lib.hid (Sl.of_own ho4)
  obtain ⟨A4, c4, rfl⟩ := S4.out.form
  clear ho4 hb4 K3 Y3
  have hc := (show _ = some (.string q.2.t) from (Blk.cell K4.out 4).trans rfl)
  go_wp2_with fail
  clear hc
  refine (text_any _ (t4 q) q.2.t _ S4.out L4.out).mono ?_
  rintro e' w5 ⟨v5, rfl, ho5, hb5⟩
  have K5 := Lib.hid (Blk.below K4.out hb5 (Blk.lt K4.out))
  have Y5 := Lib.hid (Y4.out.trans (hb5.mono Y4.out.size))
  have O5 : Hid (w5.ownsRow w.heap.size 5 1 v5 (bytesN q).length (bs (bytesN q))) := Lib.hid (own_base ho5 Y4.out.size)
  clear ho5 hb5 K4 Y4
  go_wp2
  go_ret
  exact ⟨_, rfl, O5.out, Y5.out⟩

set_option maxRecDepth 100000 in
set_option maxHeartbeats 2000000 in
theorem layEvent_any (e : Ev) (w : World) (hl : Lens e) : Calls Tryz.prog 26 #[evV e] w (Makes w (bytesE e)) := by
  have HPt := Lib.hid (fun W => evput_any e W hl (by have := bytesE_lenS e hl; omega))
  obtain ⟨p, hp⟩ : ∃ p, w.heap.size = p := ⟨_, rfl⟩
  obtain ⟨X, hX⟩ : ∃ X, X = w.alloc (.cells (evC e) 49) := ⟨_, rfl⟩
  have hbX : Below w.heap.size w X := by rw [hX]; exact (Below.refl _ _).alloc (Nat.le_refl _) _
  have K0 := Lib.hid (show EB X p e by rw [hX, ← hp]; exact EB.new_ w e)
  have HX := Lib.hid hX
  have HP := Lib.hid hp
  have Y0 := Lib.hid hbX
  clear hX hp hbX
  unfold evV at *
  go_enter Tryz.func26, Tryz.ntmps26
  go_upto_region 1 with fail
  rw [← HX.out, HP.out]
  go_wp2_with (refine wpList_load_if rfl 49 (.tmp 1) rfl p rfl _ _ _ _ K0.out Tryz.underlying49 rfl (sizeE _) ?_)
  refine (HPt.out X).mono ?_
  rintro e' w1 ⟨v1, rfl, ho, hb⟩
  have O1 := Lib.hid (own_base ho Y0.out.size)
  have Y1 := Lib.hid (Y0.out.trans (hb.mono Y0.out.size))
  clear ho hb
  go_wp2
  go_ret
  exact ⟨_, rfl, O1.out, Y1.out⟩

set_option maxRecDepth 100000 in
set_option maxHeartbeats 2000000 in
theorem layVector_any (f : Nat → Int) (w : World) : Calls Tryz.prog 22 #[.agg (vA f)] w (Makes w (pastB f 16)) := by
  obtain ⟨p, hp⟩ : ∃ p, w.heap.size = p := ⟨_, rfl⟩
  obtain ⟨X, hX⟩ : ∃ X, X = w.alloc (.cells (vA f) 23) := ⟨_, rfl⟩
  have hbX : Below w.heap.size w X := by rw [hX]; exact (Below.refl _ _).alloc (Nat.le_refl _) _
  have K0 := Lib.hid (show VB X p f by rw [hX, ← hp]; exact VB.new_ f rfl)
  have HX := Lib.hid hX
  have HP := Lib.hid hp
  have Y0 := Lib.hid hbX
  clear hX hp hbX
  go_enter Tryz.func22, Tryz.ntmps22
  go_upto_region 2 with fail
  rw [← HX.out, HP.out]
  go_wp2_with (refine wpList_load_if rfl 23 (.tmp 1) rfl p rfl _ _ _ _ K0.out Tryz.underlying23 rfl (by kernel_rfl) ?_)
  go_loopw [3, 5, 7] (fun v3 _ i wr => ∃ k : Nat, k ≤ 16 ∧ i = .int .i64 k ∧ wr.ownsRow w.heap.size 5 1 v3 (pastB f k).length (bs (pastB f k)) ∧ Below w.heap.size w wr) (fun _ _ i _ => 16 - (intOf i).toNat)
  case atStart => exact ⟨0, by omega, rfl, World.ownsRow_nil _ _ _ _, Y0.out⟩
  case round =>
    obtain ⟨k, hk, rfl, ho, hb⟩ := hrel
    have HO := Lib.hid ho
    have HB := Lib.hid hb
    clear ho hb
    by_cases hlt : k < 16
    · have hix := index_V f k hlt wr
      have HLn := Lib.hid (show (pastB f k).length ≤ 140737488350000 by have := pastB_len f k; omega)
      go_wp2_with fail
      clear hix
      refine (put_any _ (pastB f k) (f k) _ (Sl.of_own HO.out) HLn.out).mono ?_
      rintro e' w3 ⟨v3, rfl, ho3, hb3⟩
      rw [← pastB_succ] at ho3
      have O3 := Lib.hid (own_base ho3 HB.out.size)
      have Y3 := Lib.hid (HB.out.trans (hb3.mono HB.out.size))
      clear ho3 hb3
      go_wp2
      go_roundw
      case rel => exact ⟨k + 1, by omega, by go_num, O3.out, Y3.out⟩
      case measure => simp [intOf]; omega
    · have hkk : k = 16 := by omega
      subst hkk
      go_wp2
      go_ret
      exact ⟨_, rfl, HO.out, HB.out⟩

end Go.Proofs.YtejljikikhecnaaGreat
