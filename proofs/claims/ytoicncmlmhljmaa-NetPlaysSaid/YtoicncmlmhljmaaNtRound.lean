/-
  A round of NetPlays (written by gennt4.py). Conditions: none.
-/
import Derived.Test.YtoicncmlmhljmaaNtK0
import Derived.Test.YtoicncmlmhljmaaNtK1
import Derived.Test.YtoicncmlmhljmaaNtK2
import Derived.Test.YtoicncmlmhljmaaNtK3
import Derived.Test.YtoicncmlmhljmaaNtK4
import Derived.Test.YtoicncmlmhljmaaNtK5
import Derived.Test.YtoicncmlmhljmaaNtInner
namespace Go.Proofs.Ytoicncmlmhljmaa
open Go.RowKit

/-- The switch, whatever it is told. -/
theorem sw_any {w W : World} {g gk j : Nat} {vf : Value} {A4 : Option Addr} {c4 : Nat} {L : List Pc} {kk : UInt8} {tt : Int} {B : Option Addr} {n c : Nat} {d : List UInt8} {I At : Int} {y : UInt8} {a : Act} {b : Bool} {K1 : Act → World → Prop} {Q' : Exit → Act → World → Prop}
    (S : Sit w W g gk j vf A4 c4 L kk tt B n c d I At y a b) (hK : ∀ a' w', SwR w g j a a' w' → K1 a' w') : Code.wp Try.prog swC (Exit.then K1 Q') a W := by
  obtain ⟨q, hq⟩ : ∃ q : Nat, q = kk.toNat % 4 := ⟨_, rfl⟩
  have hq4 : q = 0 ∨ q = 1 ∨ q = 2 ∨ q = 3 := by omega
  have hz : ((kk.toNat : Nat) : Int) % 4 = (q : Int) := by omega
  rcases hq4 with rfl | rfl | rfl | rfl
  · exact sw0 S hz hK
  · cases b
    · exact sw1_out S hz hK
    · exact sw1_in S hz hK
  · cases b
    · exact sw2_out S hz hK
    · exact sw2_in S hz hK
  · cases b
    · exact sw3_out S hz hK
    · by_cases h0 : At < 0
      · exact sw3_neg S h0 hz hK
      · obtain ⟨k, hk⟩ := Int.eq_ofNat_of_zero_le (show 0 ≤ At by omega)
        have hin : 0 ≤ I ∧ I < (L.length : Int) := of_decide_eq_true S.in_.symm
        have hi : I.toNat < L.length := by omega
        by_cases h1 : k < (L[I.toNat]'hi).b.length
        · cases h2 : (L[I.toNat]'hi).t
          · exact sw3_in S k hk (fun _ => ⟨h1, h2⟩) hz hK
          · exact sw3_was S k hk (fun _ => ⟨h1, h2⟩) hz hK
        · exact sw3_far S k hk (fun _ => by omega) hz hK

/-- A round. -/
noncomputable def rdC : Code := codeAt [1, 1, 1, 1, 1, 0, 1, 0, 0] ((Try.f3.body).getD .skip)
/-- Where it begins. -/
def LpI (w : World) (g : Nat) (A0 : Option Addr) (n0 c0 : Nat) (j : Nat) (a : Act) (W : World) : Prop :=
  a.tmps.size = 243 ∧ a.defers = [] ∧ a.tmps.getD 3 undef = .pointer (some ⟨g, 0, none⟩) ∧ a.tmps.getD 21 undef = .slice A0 n0 c0 ∧ a.tmps.getD 22 undef = .int .i64 n0 ∧ a.tmps.getD 23 undef = .int .i64 j ∧ ∃ (vf : Value) (L : List Pc), PlI w W g vf (a.tmps.getD 4 undef) L j

set_option maxRecDepth 100000 in
set_option maxHeartbeats 4000000 in
theorem round_walk {l : List Ac} {w W : World} {g c0 j : Nat} {A0 : Option Addr} {a : Act} {K1 : Act → World → Prop} {Q1 : Exit → Act → World → Prop}
    (hx : ∀ k (hk : k < l.length), ∃ b o, A0 = some ⟨b, o, none⟩ ∧ b < w.heap.size ∧ w.rangeAt b (o + k * 6) l[k].cells ∧ l[k].Ok w) (hl100 : l.length ≤ 100) (hI : LpI w g A0 l.length c0 j a W) (hlt : j < l.length)
    (hK : ∀ a' w', LpI w g A0 l.length c0 (j + 1) a' w' → K1 a' w') (hRet : ∀ a' w', a'.tmps.getD 2 undef = .bool true → a'.defers = [] → Below w.heap.size w w' → Q1 .ret a' w') :
    Code.wp Try.prog rdC (Exit.then K1 Q1) a W := by
  obtain ⟨hs, hd, s3, s21, s22, s23, vf, L, hn, hr, hL, hS⟩ := hI
  obtain ⟨t, rfl, ht⟩ := frame243 a hs hd
  have t3 := (ht 3).symm.trans s3
  have t21 := (ht 21).symm.trans s21
  have t22 := (ht 22).symm.trans s22
  have t23 := (ht 23).symm.trans s23
  rw [ht 4] at hr
  obtain ⟨A4, c4, t4⟩ := hr.form
  rw [t4] at hr
  obtain ⟨b1, o1, rfl, hbl1, hr1, hok⟩ := hx j hlt
  rw [t3, t4, t21, t22, t23]
  have HKn := Lib.hid hK
  have HRet := Lib.hid hRet
  have HN := Lib.hid hn
  have HR := Lib.hid hr
  have HS := Lib.hid hS
  have HLj := Lib.hid hL
  have hLj : L.length ≤ 100 := by omega
  generalize W = wo at *
  clear hK hRet hn hr hL hS hx ht hs hd s3 s21 s22 s23 t3 t4 t21 t22 t23
  conv => arg 2; whnf
  obtain ⟨r, hr⟩ : ∃ r, r = l[j]'hlt := ⟨_, rfl⟩
  rw [← hr] at hr1 hok
  obtain ⟨kk, tt, B, n, c, d, I, At, y⟩ := r
  simp only [Ac.cells, Ac.Ok] at hr1 hok
  have k0 := (HN.out.2.cell (p := ⟨b1, o1 + j * 6 + 0, none⟩) hbl1).trans (hr1 0 _ rfl)
  have k1 := (HN.out.2.cell (p := ⟨b1, o1 + j * 6 + 1, none⟩) hbl1).trans (hr1 1 _ rfl)
  have k2 := (HN.out.2.cell (p := ⟨b1, o1 + j * 6 + 2, none⟩) hbl1).trans (hr1 2 _ rfl)
  have k3 := (HN.out.2.cell (p := ⟨b1, o1 + j * 6 + 3, none⟩) hbl1).trans (hr1 3 _ rfl)
  have k4 := (HN.out.2.cell (p := ⟨b1, o1 + j * 6 + 4, none⟩) hbl1).trans (hr1 4 _ rfl)
  have k5 := (HN.out.2.cell (p := ⟨b1, o1 + j * 6 + 5, none⟩) hbl1).trans (hr1 5 _ rfl)
  rw [Nat.add_zero] at k0
  have hnd : n = d.length := (Sl.len hok).1
  have HLT := Lib.hid hlt
  have HND := Lib.hid hnd
  have hbA : Below wo.heap.size wo (wo.alloc (.cells #[bv kk, .int .i64 tt, .slice B n c, .int .i64 I, .int .i64 At, bv y] 29)) := (Below.refl _ _).alloc (Nat.le_refl _) _
  have HA := Lib.hid (Blk.new wo 29 #[bv kk, .int .i64 tt, .slice B n c, .int .i64 I, .int .i64 At, bv y])
  have N0 := Lib.hid (HN.out.below hbA)
  have R0 := Lib.hid (HR.out.keep hbA)
  have HOK := Lib.hid hok
  clear hr1 hok hr hbl1 hnd hbA
  unfold bv at k0 k5
  go_upto_region 10 with fail
  rw [show Value.int .u8 ((kk.toNat : Nat) : Int) = bv kk from rfl, show Value.int .u8 ((y.toNat : Nat) : Int) = bv y from rfl]
  clear k0 k1 k2 k3 k4 k5
  generalize wo.alloc (.cells #[bv kk, .int .i64 tt, .slice B n c, .int .i64 I, .int .i64 At, bv y] 29) = W at *
  generalize wo.heap.size = gk at *
  have e0 := HA.out.cell 0
  have e2 := HA.out.cell 2
  have e3 := HA.out.cell 3
  simp at e0 e2 e3
  unfold bv at e0
  by_cases h200 : 200 < n
  · go_wp2_with fail
    exact HRet.out _ _ rfl rfl N0.out.2
  have hn200 : n ≤ 200 := by omega
  have hd200 : d.length ≤ 200 := by have := HND.out; omega
  have HD := Lib.hid hd200
  clear h200 hd200
  go_upto_region 12 with fail
  go_cut [7] from 31 to 40 (fun u7 wx => u7 = .bool (decide (0 ≤ I ∧ I < L.length)) ∧ W = wx)
  case first =>
    by_cases h0 : 0 ≤ I
    · by_cases h1 : I < (L.length : Int)
      · have HDk := Lib.hid (show decide (0 ≤ I ∧ I < (L.length : Int)) = true from decide_eq_true ⟨h0, h1⟩)
        go_wp2_with fail
        go_meet
        exact ⟨by rw [HDk.out], rfl⟩
      · have HDk := Lib.hid (show decide (0 ≤ I ∧ I < (L.length : Int)) = false from decide_eq_false fun h => h1 h.2)
        go_wp2_with fail
        go_meet
        exact ⟨by rw [HDk.out], rfl⟩
    · have HDk := Lib.hid (show decide (0 ≤ I ∧ I < (L.length : Int)) = false from decide_eq_false fun h => h0 h.1)
      go_wp2_with fail
      go_meet
      exact ⟨by rw [HDk.out], rfl⟩
  case rest =>
    obtain ⟨rfl, rfl⟩ := hcut
    obtain ⟨b, hb⟩ : ∃ b, b = decide (0 ≤ I ∧ I < (L.length : Int)) := ⟨_, rfl⟩
    rw [← hb]
    have HBb := Lib.hid hb
    clear hb
    go_upto_if 42 with fail
    go_cut [7, 8] from 42 to 42 (fun u7 u8 wx => u7 = .bool b ∧ u8 = .int .i64 (if b then 0 else 5) ∧ W = wx)
    case first =>
      cases b
      · go_wp2_with fail
        go_meet
        exact ⟨rfl, rfl, rfl⟩
      · go_wp2_with fail
        go_meet
        exact ⟨rfl, rfl, rfl⟩
    case rest =>
      obtain ⟨rfl, rfl, rfl⟩ := hcut
      obtain ⟨wt, hwt⟩ : ∃ wt : Int, wt = (if b then 0 else 5) := ⟨_, rfl⟩
      rw [← hwt]
      have HW := Lib.hid hwt
      clear hwt
      go_upto_block 2 with fail
      clear e0 e2 e3
      refine wp_cut_at (SwR w g j) ?_ ?_
      · rintro a' W7 ⟨hs7, hd7, q0, q1, q3, q5, q15, q16, q17, q18, q19, q20, q21, q22, q23, v', L', hP⟩
        obtain ⟨t, rfl, ht⟩ := frame243 a' hs7 hd7
        have t3 : t 3 = .pointer (some ⟨g, 0, none⟩) := (ht 3).symm.trans q3
        have t21 : t 21 = .slice (some ⟨b1, o1, none⟩) l.length c0 := (ht 21).symm.trans q21
        have t22 : t 22 = .int .i64 l.length := (ht 22).symm.trans q22
        have t23 : t 23 = .int .i64 j := (ht 23).symm.trans q23
        rw [ht 4] at hP
        clear ht hs7 hd7 q0 q1 q3 q5 q15 q16 q17 q18 q19 q20 q21 q22 q23
        obtain ⟨p1, p2, p3, p4⟩ := hP
        obtain ⟨A5, c5, h5⟩ := p2.form
        rw [h5] at p2
        rw [t3, t21, t22, t23, h5]
        clear t3 t21 t22 t23 h5
        have N7 := Lib.hid p1
        have R7 := Lib.hid p2
        have H7 := Lib.hid p3
        have S7 := Lib.hid p4
        have hL' : L'.length ≤ 100 := by omega
        clear p1 p2 p3 p4
        go_wp2_with fail
        refine (nall_any W7 N7.out.1 (fun p hp => by have := S7.out p hp; omega) (by omega)).mono ?_
        rintro e W8 ⟨u8', qs, rfl, ha8, hb8⟩
        have N8 := Lib.hid (N7.out.below hb8)
        have R8 := Lib.hid (R7.out.keep hb8)
        obtain ⟨A8, c8, h8, _, _⟩ := ha8.1.read encQ_len
        rw [ha8.2.1] at h8
        subst h8
        have HA8 := Lib.hid ha8
        clear ha8 hb8
        go_wp2_with fail
        refine (nlen_any W8 N8.out.1).mono ?_
        rintro e w' ⟨rfl, rfl⟩
        go_upto_block 3 with fail
        refine inner_walk rfl rfl rfl rfl rfl rfl R8.out HA8.out (by omega) ?_
        rintro a' W9 ⟨hs9, hd9, r0, r1, r3, r4, r5, r15, r16, r17, r18, r19, r20, r21, r22, r23, hb9⟩
        obtain ⟨t9, rfl, ht9⟩ := frame243 a' hs9 hd9
        have m3 : t9 3 = .pointer (some ⟨g, 0, none⟩) := (ht9 3).symm.trans r3
        have m4 : t9 4 = .slice A5 L'.length c5 := (ht9 4).symm.trans r4
        have m21 : t9 21 = .slice (some ⟨b1, o1, none⟩) l.length c0 := (ht9 21).symm.trans r21
        have m22 : t9 22 = .int .i64 l.length := (ht9 22).symm.trans r22
        have m23 : t9 23 = .int .i64 j := (ht9 23).symm.trans r23
        rw [m3, m4, m21, m22, m23]
        have N9 := Lib.hid (N8.out.below hb9)
        have R9 := Lib.hid (R8.out.keep hb9)
        have hj9 : j ≤ 100 := by have := HLT.out; omega
        clear hs9 hd9 r0 r1 r3 r4 r5 r15 r16 r17 r18 r19 r20 r21 r22 r23 hb9 m3 m4 m21 m22 m23 ht9
        simp only [Exit.inBlock, Exit.then]
        go_wp2_with fail
        exact HKn.out _ _ ⟨rfl, rfl, rfl, rfl, rfl, rfl, v', L', N9.out, R9.out, H7.out, S7.out⟩
      · intro K' hK'
        exact sw_any (b := b) ⟨rfl, rfl, rfl, rfl, rfl, rfl, (by rw [HW.out]; rfl), rfl, N0.out, R0.out, hLj, HLj.out, HS.out, HA.out, HOK.out, HND.out, HD.out, HBb.out⟩ hK'

end Go.Proofs.Ytoicncmlmhljmaa
