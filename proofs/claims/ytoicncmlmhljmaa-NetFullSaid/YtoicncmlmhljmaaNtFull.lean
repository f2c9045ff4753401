/-
  hedgerowlaw16.NetFull: the walk: for all numbers the call returns true, and nothing that was there has turned. Conditions: none.
-/
import Derived.Test.YtoicncmlmhljmaaNtFixed
namespace Go.Proofs.Ytoicncmlmhljmaa
open Go.RowKit

theorem min_int (a b : Int) (w : World) : (Builtin.min_ #[3, 3] 3 #[.int .i64 a, .int .i64 b]).run Try.prog w = .ok (.int .i64 (min a b)) w := by
  go_simp
  rw [Int.min_def]
  split <;> split <;> omega
set_option maxRecDepth 100000 in
set_option maxHeartbeats 2000000 in
theorem full_walk (m : Nat) (w : World) (hm : m ≤ 255) :
    Calls Try.prog 4 #[.int .u8 m] w (Law w) := by
  have HFX := Lib.hid (nfixed_any w)
  go_enter Try.func4, Try.ntmps4
  go_wp2_with fail
  refine HFX.out.mono ?_
  rintro e w1 ⟨rfl, hb1⟩
  have HB1 := Lib.hid hb1
  clear hb1
  go_wp2_with fail
  refine (nnew_any w.heap.size w1 HB1.out.size).mono ?_
  rintro e w2 ⟨rfl, hd2, hb2⟩
  have D2 : Hid (Nn w w2 w1.heap.size _ []) := Lib.hid ⟨hd2, HB1.out.trans (hb2.mono HB1.out.size)⟩
  generalize w1.heap.size = g at *
  clear hd2 hb2
  go_wp2_with fail
  go_loopw [13] (fun i wr => ∃ (k : Nat) (vf : Value) (L : List Pc), k ≤ 200 + m ∧ i = .int .i64 k ∧ Nn w wr g vf L ∧ L.length = min k 256 ∧ ∀ p ∈ L, p.b.length ≤ 1) (fun i _ => 200 + m - (intOf i).toNat)
  case atStart => exact ⟨0, _, [], Nat.zero_le _, rfl, D2.out, rfl, fun p hp => by simp at hp⟩
  case round =>
    obtain ⟨k, vf, L, hk, rfl, hn, hL, hs⟩ := hrel
    have HN := Lib.hid hn
    have HL := Lib.hid hL
    have HS := Lib.hid hs
    clear hn hL hs
    by_cases hlt : k < 200 + m
    · have HLT := Lib.hid hlt
      by_cases hf : k < 256
      · obtain ⟨z, hz⟩ : ∃ z : UInt8, bv z = .int .u8 ((k : Int)) := ⟨UInt8.ofNat k, by unfold bv; congr 1; simp; omega⟩
        have hba : Below wr.heap.size wr (wr.alloc (.cells #[.int .u8 ((k : Int))] 5)) := (Below.refl _ _).alloc (Nat.le_refl _) _
        have DA := Lib.hid (HN.out.below hba)
        have hsl : Sl bv (wr.alloc (.cells #[.int .u8 ((k : Int))] 5)) (.slice (some ⟨wr.heap.size, 0, none⟩) 1 1) [z] := sl_lit wr [z] _ 5 (0, 0) 1 (by rw [← hz]; rfl) rfl
        have HSl := Lib.hid hsl
        clear hba hsl hz
        go_wp2_with fail
        refine (nsend_any (k : Int) _ [z] _ DA.out.1 HSl.out (by simp) (by have := HL.out; omega)).mono ?_
        rintro e w4 ⟨rfl, hq⟩
        obtain ⟨v4, u4, d4⟩ := DA.out.put hq
        have D4 := Lib.hid d4
        clear hq d4
        go_wp2_with fail
        go_roundw
        case rel => exact ⟨k + 1, v4, _, HLT.out, by go_num, D4.out, by rw [List.length_append, HL.out]; simp; omega, fun p hp => by
          rcases List.mem_append.1 hp with hp | hp
          · exact HS.out p hp
          · have : p = ⟨(k : Int), [z], u4, false⟩ := by simpa using hp
            subst this
            simp⟩
        case measure => simp [intOf]; omega
      · obtain ⟨z, hz⟩ : ∃ z : UInt8, bv z = .int .u8 ((k : Int) % 256) := ⟨UInt8.ofNat k, by unfold bv; congr 1⟩
        have hba : Below wr.heap.size wr (wr.alloc (.cells #[.int .u8 ((k : Int) % 256)] 5)) := (Below.refl _ _).alloc (Nat.le_refl _) _
        have DA := Lib.hid (HN.out.below hba)
        have hsl : Sl bv (wr.alloc (.cells #[.int .u8 ((k : Int) % 256)] 5)) (.slice (some ⟨wr.heap.size, 0, none⟩) 1 1) [z] := sl_lit wr [z] _ 5 (0, 0) 1 (by rw [← hz]; rfl) rfl
        have HSl := Lib.hid hsl
        clear hba hsl hz
        go_wp2_with fail
        refine (nsend_full (k : Int) _ [z] _ DA.out.1 HSl.out (by have := HL.out; omega)).mono ?_
        rintro e w4 ⟨rfl, hb4⟩
        have D4 := Lib.hid (DA.out.below hb4)
        clear hb4
        go_wp2_with fail
        go_roundw
        case rel => exact ⟨k + 1, vf, L, HLT.out, by go_num, D4.out, by rw [HL.out]; omega, HS.out⟩
        case measure => simp [intOf]; omega
    · have hke : k = 200 + m := by omega
      subst hke
      clear hlt hk
      have hL0 : 0 < L.length := by have := HL.out; omega
      have hM := HS.out L[0] (List.getElem_mem hL0)
      by_cases hf : 200 + m < 256
      · have hc : ((200 : Int) + (m : Int)) < 256 := by omega
        have hmi := min_int (200 + (m : Int) + 1) 256
        rw [show min (200 + (m : Int) + 1) 256 = 200 + (m : Int) + 1 from by omega] at hmi
        go_wp2_with fail
        refine (ndouble_in 0 _ HN.out.1 hL0 (by omega) (by have := HL.out; omega)).mono ?_
        rintro e w4 ⟨rfl, hq⟩
        obtain ⟨v4, u4, d4⟩ := HN.out.put hq
        have D4 := Lib.hid d4
        have hl4 : (L ++ [(⟨L[0].to, L[0].b, u4, L[0].t⟩ : Pc)]).length = 201 + m := by rw [List.length_append, HL.out]; simp; omega
        clear hq d4
        go_wp2_with fail
        refine (nlen_any _ D4.out.1).mono ?_
        rintro e w' ⟨rfl, rfl⟩
        rw [hl4]
        go_wp2
        go_ret
        refine ⟨?_, D4.out.2⟩
        first
          | rfl
          | (simp; done)
          | (simp; omega)
      · have hc : ¬ ((200 : Int) + (m : Int)) < 256 := by omega
        have hmi := min_int (200 + (m : Int) + 1) 256
        rw [show min (200 + (m : Int) + 1) 256 = 256 from by omega] at hmi
        go_wp2_with fail
        refine (ndouble_full 0 _ HN.out.1 hL0 (by have := HL.out; omega)).mono ?_
        rintro e w4 ⟨rfl, hb4⟩
        have D4 := Lib.hid (HN.out.below hb4)
        have hl4 : L.length = 256 := by have := HL.out; omega
        clear hb4
        go_wp2_with fail
        refine (nlen_any _ D4.out.1).mono ?_
        rintro e w' ⟨rfl, rfl⟩
        rw [hl4]
        go_wp2
        go_ret
        refine ⟨?_, D4.out.2⟩
        first
          | rfl
          | (simp; done)
          | (simp; omega)

end Go.Proofs.Ytoicncmlmhljmaa
