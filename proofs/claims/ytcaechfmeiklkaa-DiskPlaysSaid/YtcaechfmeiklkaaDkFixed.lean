/-
  The fixed facts at the head of layer 10's statements: the call answers true, and turns nothing that was there. Conditions: none.
-/
import Derived.Test.YtcaechfmeiklkaaDkOwn
import Derived.Lib.SlBytesConst
namespace Go.Proofs.Ytcaechfmeiklkaa
open Go.RowKit

theorem crash_fix : crashB [97, 98, 99, 100, 101] 2 2 1 1 = [97, 98, 99, 101] := by decide +kernel
theorem bytes_str (w : World) (v : Value) (l : List UInt8) (h : Sl bv w v l) : (convert 26 9 v).run Try.prog w = .ok (.string ⟨l.toArray⟩) w :=
  run_string_sl (P := Try.prog) w 26 9 5 Try.underlying26 Try.underlying5 Try.underlying9 v _ h

set_option maxRecDepth 100000 in
set_option maxHeartbeats 4000000 in
theorem dfixed_any (w : World) : Calls Try.prog 7 #[] w (Law w) := by
  have kc := fun (w : World) (C : Array Value) (n c : Nat) => Lib.run_convert_bytes_const (P := Try.prog) w 26 5 C n c Try.underlying26 Try.underlying5
  go_enter Try.func7, Try.ntmps7
  go_wp2_with fail
  refine (dnew_any w).mono ?_
  rintro e w1 ⟨rfl, hd1, hb1⟩
  have D1 := Lib.hid (Dkn.new w hd1 rfl hb1)
  generalize w.heap.size = g at *
  clear hd1 hb1
  go_wp2_with fail
  refine (dwrite_any g _ _ [] [97, 98] 0 _ (D1.out.alloc (.cells #[.int .u8 97, .int .u8 98] 5 (2, 3))).dk (sl_lit _ [97, 98] #[.int .u8 97, .int .u8 98] 5 (2, 3) 2 rfl rfl) (by decide)).mono ?_
  rintro e w2 ⟨rfl, ht⟩
  obtain ⟨v2, d2, _⟩ := (D1.out.alloc _).turns ht
  have D2 := Lib.hid d2
  clear ht d2
  go_wp2_with fail
  refine (dsync_any g v2 _ _ w2 D2.out.dk).mono ?_
  rintro e w3 ⟨rfl, hd3, hm3⟩
  have D3 := Lib.hid (D2.out.turn hd3 hm3)
  clear hd3 hm3
  go_wp2_with fail
  refine (dwrite_any g _ _ [97, 98] [99, 100, 101] 2 _ (D3.out.alloc (.cells #[.int .u8 99, .int .u8 100, .int .u8 101] 5 (3, 4))).dk (sl_lit _ [99, 100, 101] #[.int .u8 99, .int .u8 100, .int .u8 101] 5 (3, 4) 3 rfl rfl) (by decide)).mono ?_
  rintro e w4 ⟨rfl, ht⟩
  obtain ⟨v4, d4, _⟩ := (D3.out.alloc _).turns ht
  have D4 := Lib.hid d4
  clear ht d4
  go_wp2_with fail
  refine (dtwin_any g v4 _ _ w4 D4.out.dk).mono ?_
  rintro e w5 ⟨h, u, rfl, hd5, hh, hu, hb5⟩
  have D5 := Lib.hid (D4.out.below hb5)
  have T5 : Hid (Dkn w w5 h u [97, 98, 99, 100, 101] 2) := Lib.hid (Dkn.mono (w' := w4) ⟨hd5, hh, hu, hb5⟩ D4.out.base)
  have hgh : Hid (g ≠ h) := Lib.hid (by have := D4.out.dk.lt; omega)
  have hap : Hid (∀ i, u.ownBlock = some i → v4.ownBlock ≠ some i) := Lib.hid (fun i hj hi => by have := D4.out.dk.vlt i hi; have := hu i hj; omega)
  clear hd5 hh hu hb5
  go_wp2_with fail
  refine (dcrash_any g v4 _ 2 2 1 1 w5 D5.out.dk).mono ?_
  rintro e w6 ⟨rfl, ht⟩
  rw [show crashB ([97, 98] ++ [99, 100, 101]) 2 2 1 1 = [97, 98, 99, 101] from crash_fix] at ht
  obtain ⟨v6, d6, m6⟩ := D5.out.turns ht
  have D6 := Lib.hid d6
  have T6 : Hid (Dkn w w6 h u [97, 98, 99, 100, 101] 2) := Lib.hid (T5.out.far D5.out.dk m6 hgh.out.symm hap.out d6.base)
  have hap6 : Hid (∀ i, u.ownBlock = some i → v6.ownBlock ≠ some i) := Lib.hid (m6.apart T5.out.dk.vlt hap.out)
  clear ht d6 m6
  go_wp2_with fail
  refine (dspoil_any h u _ 2 0 2 w6 T6.out.dk).mono ?_
  rintro e w7 ⟨rfl, hd7, hm7⟩
  have T7 := Lib.hid (T6.out.turn hd7 hm7)
  have hap6' : ∀ i, v6.ownBlock = some i → u.ownBlock ≠ some i := fun i hi hj => hap6.out i hj hi
  have D7 := Lib.hid (D6.out.far T6.out.dk hm7 hgh.out hap6' T7.out.base)
  clear hd7 hm7
  go_wp2_with fail
  refine (dreset_any h u _ _ [120] 2 _ (T7.out.alloc (.cells #[.int .u8 120] 5 (1, 2))).dk (sl_lit _ [120] #[.int .u8 120] 5 (1, 2) 1 rfl rfl) (by decide)).mono ?_
  rintro e w8 ⟨rfl, ht⟩
  obtain ⟨u8, t8, m8⟩ := (T7.out.alloc _).turns ht
  have T8 := Lib.hid t8
  have D8 := Lib.hid ((D7.out.alloc _).far (T7.out.alloc _).dk m8 hgh.out hap6' t8.base)
  clear ht t8 m8 hap6'
  go_wp2_with fail
  refine (dbytes_any g v6 _ 2 w8 D8.out.dk).mono ?_
  rintro e w9 ⟨b9, rfl, ho9, hb9⟩
  have D9 := Lib.hid (D8.out.below hb9)
  have T9 := Lib.hid (T8.out.below hb9)
  have q9 := bytes_str w9 b9 _ (own_sl ho9)
  obtain ⟨A9, c9, rfl⟩ := own_form ho9
  have q9' : (convert 26 9 (.slice A9 4 c9)).run Try.prog w9 = .ok (.string ⟨#[97, 98, 99, 101]⟩) w9 := q9
  clear q9 ho9 hb9
  go_wp2_with fail
  refine (dsynced_any g v6 _ 2 w9 D9.out.dk).mono ?_
  rintro e w' ⟨rfl, rfl⟩
  clear q9'
  go_wp2_with fail
  refine (dbytes_any h u8 _ _ w9 T9.out.dk).mono ?_
  rintro e w10 ⟨b10, rfl, ho10, hb10⟩
  have T10 := Lib.hid (T9.out.below hb10)
  have q10 := bytes_str w10 b10 _ (own_sl ho10)
  obtain ⟨A10, c10, rfl⟩ := own_form ho10
  have q10' : (convert 26 9 (.slice A10 1 c10)).run Try.prog w10 = .ok (.string ⟨#[120]⟩) w10 := q10
  clear q10 ho10 hb10
  go_wp2_with fail
  refine (dsynced_any h u8 _ _ w10 T10.out.dk).mono ?_
  rintro e w' ⟨rfl, rfl⟩
  clear q10'
  go_wp2_with fail
  refine (dwrite_nil _ w10).mono ?_
  rintro e w' ⟨rfl, rfl⟩
  go_wp2_with fail
  refine (dtwin_nil w10).mono ?_
  rintro e w' ⟨rfl, rfl⟩
  go_wp2_with fail
  refine (dbytes_nil w10).mono ?_
  rintro e w' ⟨rfl, rfl⟩
  go_wp2_with fail
  refine (dsynced_nil w10).mono ?_
  rintro e w' ⟨rfl, rfl⟩
  go_wp2
  go_ret
  exact ⟨rfl, T10.out.base⟩

end Go.Proofs.Ytcaechfmeiklkaa
