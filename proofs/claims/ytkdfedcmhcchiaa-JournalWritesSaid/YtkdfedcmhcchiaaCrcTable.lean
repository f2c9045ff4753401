/-
  crc.table: the contract, by a walk. Conditions: none.
-/
import Derived.Test.YtkdfedcmhcchiaaCrcTab
namespace Go.Proofs.Ytkdfedcmhcchiaa
open Go.RowKit

theorem cell_uv {w : World} {g : Nat} {t : TypeId} {a : Array (BitVec 32)} (h : Blk w g t (a.map uv)) {i : Nat} {r : BitVec 32} (hi : a[i]? = some r) : w.cell? ⟨g, i, none⟩ = some (uv r) := by
  rw [h.cell i]; simp [hi]
theorem size51 (a : Array (BitVec 32)) (h : a.size = 256) : (Try.prog.info? 75).map (·.size) = some (a.map uv).size := by
  rw [Array.size_map, h]; exact (zero_of_info zero51).2
theorem old_uv (a : Array (BitVec 32)) (i : Nat) (h : i < a.size) : ∃ r, a[i]? = some r := ⟨_, Array.getElem?_eq_getElem h⟩
theorem pow_round (k : Nat) (hk : k ≤ 8) : (k < 8 ↔ 0 < 128 / 2 ^ k) ∧ 128 / 2 ^ k ≤ 128 ∧ 128 / 2 ^ (k + 1) = 128 / 2 ^ k / 2 := by
  refine ⟨?_, Nat.div_le_self _ _, by rw [Nat.pow_succ, Nat.div_div_eq_div_mul]⟩
  have : ∀ k : Fin 9, (k.val < 8 ↔ 0 < 128 / 2 ^ k.val) := by decide
  exact this ⟨k, by omega⟩

set_option maxRecDepth 100000 in
set_option maxHeartbeats 1000000 in
theorem table_any (w : World) : Calls Try.prog 45 #[] w fun e w' => e = .returned (.agg tabA) ∧ Below w.heap.size w w' := by
  have hz := (zero_of_info zero51).1
  go_enter Try.func45, Try.ntmps45
  go_wp2
  have HZ := Lib.hid hz; clear hz
  generalize hg : w.heap.size = g at *
  have hg2 : g = w.heap.size := hg.symm
  clear hg
  have HG := Lib.hid hg2; clear hg2
  go_loopw [2, 3] (fun r i wr => ∃ k : Nat, k ≤ 8 ∧ r = uv (stn k 1#32) ∧ i = .int .i64 ((128 / 2 ^ k : Nat) : Int) ∧ Blk wr (g + 1) 75 ((powsB k).map uv) ∧ Blk wr g 75 ((powsB 0).map uv) ∧ Below g w wr) (fun _ i _ => (intOf i).toNat)
  case atStart =>
    have h1 := HG.out
    subst h1
    refine ⟨0, by omega, rfl, rfl, ?_, (Blk.new w _ _).alloc _, ((Below.refl _ _).alloc (Nat.le_refl _) _).alloc (by simp) _⟩
    have := Blk.new (w.alloc (.cells ((powsB 0).map uv) 75)) 75 ((powsB 0).map uv)
    simpa using this
  case round =>
    obtain ⟨k, hk, rfl, rfl, hb1, hb0, hbl⟩ := hrel
    obtain ⟨h1, h2, h3⟩ := pow_round k hk
    have hsz := powsB_size k
    by_cases hlt : k < 8
    · have hq := h1.1 hlt
      have hx : (powsB k).setIfInBounds (128 / 2 ^ k) (stn (k + 1) 1#32) = powsB (k + 1) := rfl
      have hst : st (stn k 1#32) = stn (k + 1) 1#32 := by rw [stn_add k 1]; rfl
      have H3 := Lib.hid h3
      clear h1 h3
      generalize hqq : 128 / 2 ^ k = q at *
      have HQ := Lib.hid hqq
      clear hqq
      obtain ⟨old, ho⟩ := old_uv (powsB k) q (by omega)
      have hc := cell_uv hb1 ho
      have hfz := hb1.free q
      have hset := hb1.set_ q (uv (stn (k + 1) 1#32))
      rw [map_uv_set, hx] at hset
      have hb0' := hb0.far (p := ⟨g + 1, q, none⟩) (by simp) (uv (stn (k + 1) 1#32))
      have hbl' := hbl.setCell (p := ⟨g + 1, q, none⟩) (by simp) (uv (stn (k + 1) 1#32))
      have HS := Lib.hid hset
      have HT := Lib.hid hst
      clear hx hst ho hset
      unfold uv at hc
      go_wp2_with (go_at_call 46; refine (step_any (stn k 1#32) _).mono ?_; rw [HT.out]; unfold uv; rintro e w' ⟨rfl, rfl⟩)
      go_roundw
      case rel => exact ⟨k + 1, by omega, rfl, by rw [H3.out]; go_num, HS.out, hb0', hbl'⟩
      case measure => simp [intOf]; omega
    · have hq : 128 / 2 ^ k = 0 := Nat.le_zero.1 (Nat.not_lt.1 (fun h => hlt (h1.2 h)))
      have hkk : k = 8 := by omega
      subst hkk
      clear h1 h2 h3 hsz hlt hk
      rw [hq]
      clear hq
      go_wp2
      go_loopw [14] (fun i wr => ∃ k : Nat, k ≤ 256 ∧ i = .int .i64 k ∧ Blk wr (g + 1) 75 ((tabB k).map uv) ∧ Blk wr g 75 ((powsB 0).map uv) ∧ Below g w wr) (fun i _ => 256 - (intOf i).toNat)
      case atStart => exact ⟨0, by omega, rfl, hb1, hb0, hbl⟩
      case round =>
        clear hb1 hb0 hbl
        obtain ⟨k, hk, rfl, hb1, hb0, hbl⟩ := hrel
        by_cases hlt : k < 256
        · obtain ⟨L, O, hL, hO, hL2, hO2, tL, tO, hx⟩ := tab_round k hlt
          unfold lowI at hL
          unfold offI at hO
          have c1 := cell_uv hb1 tL
          have c2 := cell_uv hb1 tO
          obtain ⟨old, ho⟩ := old_uv (tabB k) k (by rw [tabB_size]; omega)
          have c3 := cell_uv hb1 ho
          have f1 := hb1.free k
          have hset := hb1.set_ k (uv (tabN k))
          rw [map_uv_set] at hset
          have e1 : (tabB k).setIfInBounds k (tabN k) = tabB (k + 1) := rfl
          rw [e1] at hset
          have hb0' := hb0.far (p := ⟨g + 1, k, none⟩) (by simp) (uv (tabN k))
          have hbl' := hbl.setCell (p := ⟨g + 1, k, none⟩) (by simp) (uv (tabN k))
          have hxx := uv_xor (tabN L) (tabN O)
          rw [← hx] at hxx
          unfold uv at hxx c1 c2 c3
          have HS := Lib.hid hset
          have HX := Lib.hid hxx
          clear ho e1 hset tL tO hx hb1 hb0 hbl hxx
          generalize tabN L = rL at *
          generalize tabN O = rO at *
          generalize rL.toNat = nL at *
          generalize rO.toNat = nO at *
          generalize old.toNat = nC at *
          have HL := Lib.hid hL
          have HO := Lib.hid hO
          have C1 := Lib.hid c1
          have C2 := Lib.hid c2
          have C3 := Lib.hid c3
          clear hL hO c1 c2 c3
          go_wp2
          have hL := HL.out
          have hO := HO.out
          have c1 := C1.out
          have c2 := C2.out
          have c3 := C3.out
          go_region
          all_goals clear hL hO c1 c2 c3
          all_goals go_wp2
          all_goals go_roundw
          case rel =>
            rw [HX.out]
            exact ⟨k + 1, by omega, by go_num, HS.out, hb0', hbl'.drew⟩
          case measure => simp [intOf]; omega
        · have hkk : k = 256 := by omega
          subst hkk
          have HB1 := Lib.hid hb1
          have HB0 := Lib.hid hb0
          have hrow := setRow_heap wr g _ tabA _ _ hb0
          have hbl' : Below g w (wr.setRow g tabA) := hbl.trans ⟨rfl, rfl, rfl, by simp, fun k hk => setRow_other wr g k _ (by omega)⟩
          have HR := Lib.hid hrow
          have HL := Lib.hid hbl'
          clear hb1 hb0 hrow hbl' hbl hlt hk
          go_wp2_with (first
            | (refine wpList_load_row rfl 75 (.tmp 1) rfl (g + 1) rfl _ _ _ _ HB1.out Try.underlying75 rfl (size51 _ (tabB_size 256)) ?_)
            | (refine wpList_store_row rfl 75 (.tmp 0) (.tmp 33) rfl g tabA rfl rfl _ _ HB0.out (size51 _ (tabB_size 256)) (by simp [tabA, powsB_size, tabB_size]) (map_uv_one _) ?_))
          exact bodyPost_ret (v := .agg tabA) (results_cell_row (P := Try.prog) Try.results45 _ _ g _ tabA _ _ rfl HR.out Try.underlying75 rfl (size51 _ (tabB_size 256))) rfl ⟨rfl, HG.out ▸ HL.out⟩

end Go.Proofs.Ytkdfedcmhcchiaa
