/-
  The fixed facts at the head of layer 11's statements: the call answers true, and turns nothing that was there. Conditions: none.
-/
import Derived.Test.YtkdfedcmhcchiaaJnRewrite
import Derived.Lib.SlBytesConst
namespace Go.Proofs.Ytkdfedcmhcchiaa
open Go.RowKit

theorem bytes_str (w : World) (v : Value) (l : List UInt8) (h : Sl bv w v l) : (convert 34 9 v).run Try.prog w = .ok (.string ⟨l.toArray⟩) w :=
  run_string_sl (P := Try.prog) w 34 9 5 Try.underlying34 Try.underlying5 Try.underlying9 v _ h
/-- A block of another kind stays where a disk turns. -/
theorem Mv.blk {g h : Nat} {v v' : Value} {w w' : World} {l : List UInt8} {s : Nat} {t : TypeId} {cs : Array Value} (hm : Mv g v w w' v') (hd : Dk w g v l s) (hb : Blk w h t cs) (hg : h ≠ g) (ht : 5 ≠ t) : Blk w' h t cs :=
  (hm.block h hb.lt hg (own_ne hd.2.1 hb ht)).trans hb

theorem Mv.sl {g b n c : Nat} {v v' : Value} {w w' : World} {l : List UInt8} (hm : Mv g v w w' v') (hs : Sl bv w (.slice (some ⟨b, 0, none⟩) n c) l) (hbl : b < w.heap.size) (hbg : b ≠ g) (hbv : v.ownBlock ≠ some b) : Sl bv w' (.slice (some ⟨b, 0, none⟩) n c) l :=
  Sl.same_at hs hm.size fun _ b' o e => by
    injection e with e
    injection e with e _
    subst e
    exact hm.block b hbl hbg hbv
/-- A block ahead of all that the call makes is none of the disk's bytes' then. -/
theorem Mv.off {g b : Nat} {v v' : Value} {w w' : World} (hm : Mv g v w w' v') (hbl : b < w.heap.size) (hbv : v.ownBlock ≠ some b) : v'.ownBlock ≠ some b := by
  intro e
  rcases hm.fresh with h | h
  · exact hbv (h ▸ e)
  · have := h b e; omega

set_option maxHeartbeats 400000 in
theorem jread_nil (w : World) : Calls Try.prog 15 #[.pointer none] w fun e w' => e = .returned (.tuple #[.slice none 0 0, .int .i64 1]) ∧ w = w' := by
  go_enter Try.func15, Try.ntmps15
  go_wp2
  go_ret2
  exact ⟨rfl, rfl⟩

def hiJ : List UInt8 := frameB (payJ (1, [104, 105]))
def fixJ : List UInt8 := hiJ ++ hiJ
theorem hiJ_len : hiJ.length = 11 := by decide +kernel
theorem fixJ_len : fixJ.length = 22 := by decide +kernel
theorem fix_read : readJ (fixJ ++ [9]) = ([(1, [104, 105]), (1, [104, 105])], 2) := by decide +kernel
theorem fix_spoilt : readJ (turnB fixJ 0 fixJ.length 2 1) = ([], 7) := by decide +kernel
theorem fix_size : sizeJ [(1, [104, 105]), (1, [104, 105])] = 22 := by decide +kernel
theorem fix_take : (fixJ ++ [9]).take 22 = fixJ := by decide +kernel

set_option maxRecDepth 100000 in
set_option maxHeartbeats 4000000 in
theorem jfixed_any (w : World) : Calls Try.prog 7 #[] w (Law w) := by
  have kc := fun (w : World) (C : Array Value) (n c : Nat) => Lib.run_convert_bytes_const (P := Try.prog) w 34 5 C n c Try.underlying34 Try.underlying5
  go_enter Try.func7, Try.ntmps7
  go_wp2_with fail
  refine (dnew_any w).mono ?_
  rintro e w1 ⟨rfl, hd1, hb1⟩
  have D1 := Lib.hid (Dkn.new w hd1 rfl hb1)
  generalize w.heap.size = g at *
  clear hd1 hb1
  obtain ⟨B, hB⟩ : ∃ B, B = w1.heap.size := ⟨_, rfl⟩
  obtain ⟨X, hX⟩ : ∃ X, X = (w1.alloc (.cells #[.int .u8 104, .int .u8 105] 5 (2, 3))).alloc (.cells #[.int .u8 1, .slice (some ⟨w1.heap.size, 0, none⟩) 2 2] 37) := ⟨_, rfl⟩
  have hX1 : X.heap.size = B + 2 := by rw [hX, hB]; simp
  have D2 : Hid (Dkn w X g (.slice none 0 0) [] 0) := Lib.hid (by rw [hX]; exact (D1.out.alloc _).alloc _)
  have hS2 : Sl bv X (.slice (some ⟨B, 0, none⟩) 2 2) [104, 105] := by rw [hX, hB]; exact (sl_lit w1 [104, 105] #[.int .u8 104, .int .u8 105] 5 (2, 3) 2 rfl rfl).alloc _
  have hR2 : Blk X (B + 1) 37 #[.int .u8 1, .slice (some ⟨B, 0, none⟩) 2 2] := by
    rw [hX, hB]
    have := Blk.new (w1.alloc (.cells #[.int .u8 104, .int .u8 105] 5 (2, 3))) 37 #[.int .u8 1, .slice (some ⟨w1.heap.size, 0, none⟩) 2 2]
    rwa [show (w1.alloc (.cells #[.int .u8 104, .int .u8 105] 5 (2, 3))).heap.size = w1.heap.size + 1 by simp] at this
  have hgB : g < B := by rw [hB]; exact D1.out.dk.lt
  have HXX := Lib.hid hX
  have HBB := Lib.hid hB
  have S2 := Lib.hid hS2
  have R2 := Lib.hid hR2
  have HX1 := Lib.hid hX1
  have HGB := Lib.hid hgB
  clear hX hB hS2 hR2 hX1 hgB
  have hg1 : Hid (B ≠ g) := Lib.hid (by have := HGB.out; omega)
  have hg2 : Hid (B + 1 ≠ g) := Lib.hid (by have := HGB.out; omega)
  go_wp2_with fail
  rw [← HXX.out, ← HBB.out]
  clear HXX HBB
  refine (append_any g (.slice none 0 0) (.slice (some ⟨B, 0, none⟩) 2 2) [] [104, 105] 0 1 X D2.out.dk S2.out (by decide)).mono ?_
  rintro e w3 ⟨rfl, ht⟩
  obtain ⟨v3, d3, m3⟩ := D2.out.turns ht
  have D3 : Hid (Dkn w w3 g v3 hiJ 0) := Lib.hid d3
  have R3 := Lib.hid (m3.blk D2.out.dk R2.out hg2.out (by decide))
  have S3 := Lib.hid (m3.sl S2.out (by rw [HX1.out]; omega) hg1.out (by simp [Value.ownBlock]))
  have o3 : Hid (v3.ownBlock ≠ some B) := Lib.hid (m3.off (by rw [HX1.out]; omega) (by simp [Value.ownBlock]))
  have z3 : Hid (B + 1 < w3.heap.size) := Lib.hid R3.out.lt
  clear ht d3 m3 D2 S2 R2
  go_wp2_with fail
  refine (dsync_any g v3 _ _ w3 D3.out.dk).mono ?_
  rintro e w4 ⟨rfl, hd4, hm4⟩
  have D4 : Hid (Dkn w w4 g v3 hiJ 11) := Lib.hid (D3.out.turn hd4 hm4)
  have R4 := Lib.hid (hm4.blk D3.out.dk R3.out hg2.out (by decide))
  have S4 := Lib.hid (hm4.sl S3.out (by have := z3.out; omega) hg1.out o3.out)
  have z4 : Hid (B + 1 < w4.heap.size) := Lib.hid R4.out.lt
  clear hd4 hm4 D3 R3 S3
  have c0 := R4.out.cell 0
  have c1 := R4.out.cell 1
  simp at c0 c1
  go_wp2_with fail
  clear c0 c1
  refine (append_any g v3 (.slice (some ⟨B, 0, none⟩) 2 2) hiJ [104, 105] 11 1 w4 D4.out.dk S4.out (by rw [hiJ_len]; decide)).mono ?_
  rintro e w5 ⟨rfl, ht⟩
  obtain ⟨v5, d5, m5⟩ := D4.out.turns ht
  have D5 : Hid (Dkn w w5 g v5 fixJ 11) := Lib.hid d5
  have R5 := Lib.hid (m5.blk D4.out.dk R4.out hg2.out (by decide))
  have S5 := Lib.hid (m5.sl S4.out (by have := z4.out; omega) hg1.out o3.out)
  have o5 : Hid (v5.ownBlock ≠ some B) := Lib.hid (m5.off (by have := z4.out; omega) o3.out)
  clear ht d5 m5 D4 R4 S4
  go_wp2_with fail
  refine (dbytes_any g v5 _ _ w5 D5.out.dk).mono ?_
  rintro e w6 ⟨b6, rfl, ho6, hb6⟩
  rw [fixJ_len] at ho6
  have D6 := Lib.hid (D5.out.below hb6)
  have R6 := Lib.hid (R5.out.below hb6 R5.out.lt)
  have S6 := Lib.hid (S5.out.below hb6)
  obtain ⟨A6, c6, rfl⟩ := own_form ho6
  clear ho6 hb6 D5 R5 S5
  go_wp2_with fail
  refine (dtwin_any g v5 _ _ w6 D6.out.dk).mono ?_
  rintro e w7 ⟨h, u, rfl, hd7, hh, hu, hb7⟩
  have D7 := Lib.hid (D6.out.below hb7)
  have T7 : Hid (Dkn w w7 h u fixJ 11) := Lib.hid (Dkn.mono (w' := w6) ⟨hd7, hh, hu, hb7⟩ D6.out.base)
  have R7 := Lib.hid (R6.out.below hb7 R6.out.lt)
  have S7 := Lib.hid (S6.out.below hb7)
  have hgh : Hid (g ≠ h) := Lib.hid (by have := D6.out.dk.lt; omega)
  have hBh : Hid (B ≠ h ∧ B + 1 ≠ h) := Lib.hid (by have := R6.out.lt; omega)
  have ap7 : Hid (∀ i, v5.ownBlock = some i → u.ownBlock ≠ some i) := Lib.hid (fun i hi hj => by have := D6.out.dk.vlt i hi; have := hu i hj; omega)
  have ou7 : Hid (u.ownBlock ≠ some B) := Lib.hid (fun hj => by have := hu B hj; have := R6.out.lt; omega)
  clear hd7 hh hu hb7 D6 R6 S6
  go_wp2_with fail
  have T7a := Lib.hid (T7.out.alloc (.cells #[.int .u8 9] 5))
  have D7a := Lib.hid (D7.out.alloc (.cells #[.int .u8 9] 5))
  have R7a := Lib.hid (R7.out.alloc (.cells #[.int .u8 9] 5))
  have S7a := Lib.hid (S7.out.alloc (.cells #[.int .u8 9] 5))
  have HS9 := Lib.hid (sl_lit w7 [9] #[.int .u8 9] 5 (0, 0) 1 rfl rfl)
  refine (dwrite_any h u _ fixJ [9] 11 _ T7a.out.dk HS9.out (by rw [fixJ_len]; decide)).mono ?_
  rintro e w8 ⟨rfl, ht⟩
  obtain ⟨u8, t8, m8⟩ := T7a.out.turns ht
  have T8 := Lib.hid t8
  have D8 := Lib.hid (D7a.out.far T7a.out.dk m8 hgh.out ap7.out t8.base)
  have R8 := Lib.hid (m8.blk T7a.out.dk R7a.out hBh.out.2 (by decide))
  have S8 := Lib.hid (m8.sl S7a.out (by have := R7a.out.lt; omega) hBh.out.1 ou7.out)
  have ou8 : Hid (u8.ownBlock ≠ some B) := Lib.hid (m8.off (by have := R7a.out.lt; omega) ou7.out)
  have ap8 : Hid (∀ i, v5.ownBlock = some i → u8.ownBlock ≠ some i) := Lib.hid (m8.apart D7a.out.dk.vlt ap7.out)
  clear ht t8 m8 HS9 T7 D7 R7 S7 T7a D7a R7a S7a
  have hrec : (readJ (fixJ ++ [9])).1 = [(1, [104, 105]), (1, [104, 105])] := by rw [fix_read]
  go_wp2_with fail
  refine (jrecover_any h u8 (fixJ ++ [9]) 11 w8 T8.out.dk (by rw [List.length_append, fixJ_len]; decide) (by rw [hrec, fix_size]; decide)).mono ?_
  rintro e w9 ⟨v9, rfl, hr9, u9a, hd9, hm9, _⟩
  have ht : Turns w8 h u8 _ _ w9 := ⟨u9a, hd9, hm9⟩
  clear hd9 hm9
  rw [hrec] at hr9 ht
  rw [fix_size, fix_take] at ht
  obtain ⟨A9, c9, hv9⟩ := hr9.at.form
  have hv9' : v9 = .slice A9 2 c9 := hv9
  subst hv9'
  obtain ⟨u9, t9, m9⟩ := T8.out.turns ht
  have T9 := Lib.hid t9
  have D9 := Lib.hid (D8.out.far T8.out.dk m9 hgh.out ap8.out t9.base)
  have R9 := Lib.hid (m9.blk T8.out.dk R8.out hBh.out.2 (by decide))
  have S9 := Lib.hid (m9.sl S8.out (by have := R8.out.lt; omega) hBh.out.1 ou8.out)
  have ou9 : Hid (u9.ownBlock ≠ some B) := Lib.hid (m9.off (by have := R8.out.lt; omega) ou8.out)
  have ap9 : Hid (∀ i, v5.ownBlock = some i → u9.ownBlock ≠ some i) := Lib.hid (m9.apart D8.out.dk.vlt ap8.out)
  clear ht t9 m9 hr9 hv9 T8 D8 R8 S8 hrec
  go_wp2_with fail
  refine (dtwin_any g v5 _ _ w9 D9.out.dk).mono ?_
  rintro e w10 ⟨q, p, rfl, hd10, hq, hp, hb10⟩
  have D10 := Lib.hid (D9.out.below hb10)
  have T10 := Lib.hid (T9.out.below hb10)
  have U10 : Hid (Dkn w w10 q p fixJ 11) := Lib.hid (Dkn.mono (w' := w9) ⟨hd10, hq, hp, hb10⟩ D9.out.base)
  have R10 := Lib.hid (R9.out.below hb10 R9.out.lt)
  have S10 := Lib.hid (S9.out.below hb10)
  have hgq : Hid (g ≠ q ∧ h ≠ q) := Lib.hid (by have := D9.out.dk.lt; have := T9.out.dk.lt; omega)
  have hBq : Hid (B ≠ q ∧ B + 1 ≠ q) := Lib.hid (by have := R9.out.lt; omega)
  have apD : Hid (∀ i, v5.ownBlock = some i → p.ownBlock ≠ some i) := Lib.hid (fun i hi hj => by have := D9.out.dk.vlt i hi; have := hp i hj; omega)
  have apT : Hid (∀ i, u9.ownBlock = some i → p.ownBlock ≠ some i) := Lib.hid (fun i hi hj => by have := T9.out.dk.vlt i hi; have := hp i hj; omega)
  have op10 : Hid (p.ownBlock ≠ some B) := Lib.hid (fun hj => by have := hp B hj; have := R9.out.lt; omega)
  clear hd10 hq hp hb10 D9 T9 R9 S9
  go_wp2_with fail
  refine (dspoil_any q p fixJ 11 2 1 w10 U10.out.dk).mono ?_
  rintro e w11 ⟨rfl, hd11, hm11⟩
  have U11 := Lib.hid (U10.out.turn hd11 hm11)
  have D11 := Lib.hid (D10.out.far U10.out.dk hm11 hgq.out.1 apD.out U11.out.base)
  have T11 := Lib.hid (T10.out.far U10.out.dk hm11 hgq.out.2 apT.out U11.out.base)
  have R11 := Lib.hid (hm11.blk U10.out.dk R10.out hBq.out.2 (by decide))
  have S11 := Lib.hid (hm11.sl S10.out (by have := R10.out.lt; omega) hBq.out.1 op10.out)
  clear hd11 hm11 U10 D10 T10 R10 S10
  have hsp : (readJ (turnB fixJ 0 fixJ.length 2 1)) = ([], 7) := fix_spoilt
  go_wp2_with fail
  refine (jrecover_lost q p _ 11 w11 U11.out.dk (by rw [turnB_len, fixJ_len]; decide) (by rw [hsp]; decide)).mono ?_
  rintro e w12 ⟨rfl, hb12⟩
  rw [hsp]
  have D12 := Lib.hid (D11.out.below hb12)
  have T12 := Lib.hid (T11.out.below hb12)
  have R12 := Lib.hid (R11.out.below hb12 R11.out.lt)
  have S12 := Lib.hid (S11.out.below hb12)
  clear hb12 U11 D11 T11 R11 S11 hsp
  go_wp2_with fail
  refine (jread_nil w12).mono ?_
  rintro e w' ⟨rfl, rfl⟩
  have c0 := R12.out.cell 0
  have c1 := R12.out.cell 1
  simp at c0 c1
  go_wp2_with fail
  clear c0 c1
  have hrs : RecsAt (w12.alloc (.cells #[.int .u8 1, .slice (some ⟨B, 0, none⟩) 2 2, .int .u8 1, .slice (some ⟨B, 0, none⟩) 2 2] 37)) (.slice (some ⟨w12.heap.size, 0, none⟩) 2 2) [(1, [104, 105]), (1, [104, 105])] := by
    refine ⟨[⟨1, some ⟨B, 0, none⟩, 2, 2, [104, 105]⟩, ⟨1, some ⟨B, 0, none⟩, 2, 2, [104, 105]⟩], ⟨_, _, rfl, Nat.le_refl _, fun _ => ⟨w12.heap.size, 0, rfl, (Blk.new _ _ _).lt, fun j x hj => ?_⟩⟩, fun r hr => ?_, rfl⟩
    · intro a u hu
      rw [(Blk.new w12 37 #[.int .u8 1, .slice (some ⟨B, 0, none⟩) 2 2, .int .u8 1, .slice (some ⟨B, 0, none⟩) 2 2]).cell]
      have ha : a < 2 := (List.getElem?_eq_some_iff.1 hu).1
      have hj2 : j < 2 := (List.getElem?_eq_some_iff.1 hj).1
      have hx : x = ⟨1, some ⟨B, 0, none⟩, 2, 2, [104, 105]⟩ := by
        rcases Nat.lt_or_ge j 1 with h | h
        · have : j = 0 := by omega
          subst this
          simpa using hj.symm
        · have : j = 1 := by omega
          subst this
          simpa using hj.symm
      subst hx
      have hj' : j = 0 ∨ j = 1 := by omega
      have ha' : a = 0 ∨ a = 1 := by omega
      rcases hj' with rfl | rfl <;> rcases ha' with rfl | rfl <;> exact hu
    · have hr' : r = ⟨1, some ⟨B, 0, none⟩, 2, 2, [104, 105]⟩ := by simpa using hr
      subst hr'
      exact S12.out.alloc _
  refine (jsize_any _ _ _ hrs (by rw [fix_size]; decide) (by intro r hr; have hr' : r = (1, [104, 105]) := by simpa using hr
                                                             subst hr'
                                                             decide)).mono ?_
  rintro e w13 ⟨rfl, hb13⟩
  rw [fix_size]
  have hbw : Below w12.heap.size w12 w13 := ((Below.refl _ _).alloc (Nat.le_refl _) _).trans (hb13.mono (by simp))
  have D13 := Lib.hid (D12.out.below hbw)
  have T13 := Lib.hid (T12.out.below hbw)
  clear hrs hb13 hbw
  go_wp2_with fail
  refine (dbytes_any h u9 _ _ w13 T13.out.dk).mono ?_
  rintro e w14 ⟨b14, rfl, ho14, hb14⟩
  rw [fixJ_len] at ho14
  have D14 := Lib.hid (D13.out.below hb14)
  obtain ⟨A14, c14, rfl⟩ := own_form ho14
  clear ho14 hb14
  go_wp2_with fail
  refine (rewrite_any g v5 (.slice none 0 0) _ 11 [] w14 D14.out.dk ⟨[], SlK.nil_ _ _ _, (fun r hr => by cases hr), rfl⟩ (by decide)).mono ?_
  rintro e w15 ⟨rfl, ht⟩
  obtain ⟨v15, d15, _⟩ := D14.out.turns ht
  have D15 := Lib.hid d15
  clear ht d15
  go_wp2_with fail
  refine (dbytes_any g v15 _ _ w15 D15.out.dk).mono ?_
  rintro e w16 ⟨b16, rfl, ho16, hb16⟩
  have D16 := Lib.hid (D15.out.below hb16)
  have ho16' : w16.ownsRow w15.heap.size 5 1 b16 0 (bs []) := ho16
  obtain ⟨A16, c16, rfl⟩ := own_form ho16'
  clear ho16 hb16 ho16'
  go_wp2
  go_ret
  exact ⟨rfl, D16.out.base⟩

end Go.Proofs.Ytkdfedcmhcchiaa
