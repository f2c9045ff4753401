/-
  crc.Of, crc.Bytes, and the reference's Of and Bytes: the contracts, by walks. Conditions: bounds on lengths.
-/
import Derived.Test.YtkdfedcmhcchiaaCrcAdd
namespace Go.Proofs.Ytkdfedcmhcchiaa
open Go.RowKit

/-- A slice just laid, of bytes said as numbers (a constant's has a mark behind it). -/
theorem sl_laid_m (w : World) (l : List UInt8) (cs : Array Value) (t : TypeId) (fr : Nat × Nat) (n : Nat) (hn : n = l.length) (hcs : cs = (bs l).toArray) : Sl bv (w.alloc (.cells cs t fr)) (.slice (some ⟨w.heap.size, 0, none⟩) n n) l := by
  subst hn hcs
  refine ⟨_, _, rfl, Nat.le_refl _, fun _ => ⟨w.heap.size, 0, rfl, by simp, fun j u hu => ?_⟩⟩
  rw [cell_of_row _ w.heap.size (0 + j) _ t fr (heap_alloc_new w _)]
  simp [bs, hu]
theorem sl_laid (w : World) (l : List UInt8) (cs : Array Value) (t : TypeId) (n : Nat) (hn : n = l.length) (hcs : cs = (bs l).toArray) : Sl bv (w.alloc (.cells cs t)) (.slice (some ⟨w.heap.size, 0, none⟩) n n) l := sl_laid_m w l cs t (0, 0) n hn hcs
theorem bv_of (k : Nat) : bv (UInt8.ofNat k) = .int .u8 ((k : Int) % 256) := by
  unfold bv
  congr 1

/-- Hands back a slice that reads l; turns nothing that was there. -/
def Reads (w : World) (l : List UInt8) (e : Ending) (w' : World) : Prop := ∃ v, e = .returned v ∧ Sl bv w' v l ∧ Below w.heap.size w w'

set_option maxHeartbeats 400000 in
theorem of_any (v : Value) (m : List UInt8) (w : World) (hs : Sl bv w v m) (hlen : m.length ≤ 140737488355328) :
    Calls Try.prog 39 #[v] w fun e w' => e = .returned (uv (crcOf m)) ∧ Below w.heap.size w w' := by
  have HS := Lib.hid hs
  obtain ⟨A, c, rfl⟩ := hs.form
  clear hs
  go_enter Try.func39, Try.ntmps39
  go_wp2_with fail
  refine (new_any w).mono ?_
  rintro e w1 ⟨rfl, hn1, hb1⟩
  go_wp2_with fail
  refine (add_any w w1 w.heap.size [] m _ (Nat.le_refl _) hb1 HS.out hn1 hlen).mono ?_
  rintro e w2 ⟨rfl, hn2, hb2⟩
  rw [List.nil_append] at hn2
  have hb3 := hb1.trans (hb2.below (Nat.le_refl _) hb1.size)
  go_wp2_with fail
  refine (value_any _ _ _ hn2).mono ?_
  rintro e w3 ⟨rfl, rfl⟩
  go_wp2
  go_ret
  exact ⟨rfl, hb3⟩

/-- A sum's bytes, the lowest first. -/
def leB (r : BitVec 32) : List UInt8 := [UInt8.ofNat r.toNat, UInt8.ofNat (r.toNat / 256), UInt8.ofNat (r.toNat / 65536), UInt8.ofNat (r.toNat / 16777216)]
theorem leB_cells (r : BitVec 32) : (bs (leB r)).toArray = #[.int .u8 ((r.toNat : Int) % 256), .int .u8 ((r.toNat : Int) / 256 % 256), .int .u8 ((r.toNat : Int) / 65536 % 256), .int .u8 ((r.toNat : Int) / 16777216)] := by
  have h : ((r.toNat : Int) / 16777216) = (r.toNat : Int) / 16777216 % 256 := by have := r.isLt; omega
  rw [h]
  simp only [leB, bs, List.map_cons, List.map_nil, bv_of, Int.natCast_ediv]
  rfl

set_option maxHeartbeats 400000 in
theorem bytes_any (r : BitVec 32) (w : World) : Calls Try.prog 38 #[uv r] w (Reads w (leB r)) := by
  have hb := (Below.refl w.heap.size w).alloc (Nat.le_refl _) (.cells (bs (leB r)).toArray 5)
  have hl := sl_laid w (leB r) _ 5 4 rfl rfl
  rw [leB_cells] at hl hb
  unfold uv
  have hr := r.isLt
  have HL := Lib.hid hl
  have HB := Lib.hid hb
  clear hl hb
  generalize r.toNat = n at *
  go_enter Try.func38, Try.ntmps38
  go_wp2
  go_ret
  exact ⟨_, rfl, HL.out, HB.out⟩

set_option maxHeartbeats 400000 in
theorem rbytes_any (r : BitVec 32) (w : World) : Calls Try.prog 29 #[uv r] w (Reads w (leB r)) := by
  have hb := (Below.refl w.heap.size w).alloc (Nat.le_refl _) (.cells (bs (leB r)).toArray 5)
  have hl := sl_laid w (leB r) _ 5 4 rfl rfl
  rw [leB_cells] at hl hb
  unfold uv
  have hr := r.isLt
  have HL := Lib.hid hl
  have HB := Lib.hid hb
  clear hl hb
  generalize r.toNat = n at *
  go_enter Try.func29, Try.ntmps29
  go_wp2
  go_ret
  exact ⟨_, rfl, HL.out, HB.out⟩

theorem st_int (q : BitVec 32) : ((st q).toNat : Int) = if q.toNat % 2 = 1 then bits .xor .u32 ((q.toNat : Int) / 2) 3988292384 else (q.toNat : Int) / 2 := by
  rw [st_nat]; exact sN_int _ q.isLt
theorem stn_snoc (j : Nat) (q : BitVec 32) : stn (j + 1) q = st (stn j q) := by rw [stn_add j 1]; rfl

set_option maxRecDepth 100000 in
set_option maxHeartbeats 1000000 in
theorem rof_any (v : Value) (m : List UInt8) (w : World) (hs : Sl bv w v m) (hlen : m.length ≤ 140737488355328) :
    Calls Try.prog 30 #[v] w fun e w' => e = .returned (uv (crcOf m)) ∧ w = w' := by
  obtain ⟨A, c, rfl, hlc, hcell⟩ := hs.at_
  have HC := Lib.hid hcell
  clear hcell hs
  go_enter Try.func30, Try.ntmps30
  go_wp2
  go_loop [3, 10] (fun r i => ∃ k : Nat, k ≤ m.length ∧ i = .int .i64 k ∧ r = .int .u32 ((regI (m.take k)).toNat : Int)) (fun _ i => m.length - (intOf i).toNat)
  case atStart => exact ⟨0, by omega, rfl, rfl⟩
  case round =>
    obtain ⟨k, hk, rfl, rfl⟩ := hrel
    by_cases hlt : k < m.length
    · obtain ⟨b, o, rfl, hbw, hc⟩ := HC.out k hlt
      have hck := hc k m[k] (List.getElem?_eq_getElem hlt)
      unfold bv at hck
      clear hc
      have hsn := regI_snoc [] m k hlt
      simp only [List.nil_append] at hsn
      unfold bstep at hsn
      have hx : bits .xor .u32 ((regI (m.take k)).toNat : Int) (m[k].toNat : Int) = ((regI (m.take k) ^^^ bx m[k]).toNat : Int) := by
        have := m[k].toNat_lt
        rw [u32_xor_nat _ _ (BitVec.isLt _) (by omega), BitVec.toNat_xor]
        congr 2
        simp [bx]
      generalize regI (m.take k) ^^^ bx m[k] = q at *
      have hR := (regI (m.take k)).isLt
      generalize (regI (m.take k)).toNat = n at *
      have hy := m[k].toNat_lt
      generalize m[k].toNat = y at *
      have HN := Lib.hid hsn
      clear hsn
      go_wp2
      go_loop [3, 6] (fun r i => ∃ j : Nat, j ≤ 8 ∧ i = .int .i64 j ∧ r = .int .u32 ((stn j q).toNat : Int)) (fun _ i => 8 - (intOf i).toNat)
      case atStart => exact ⟨0, by omega, rfl, rfl⟩
      case round =>
        clear hx
        obtain ⟨j, hj, rfl, rfl⟩ := hrel
        by_cases hj8 : j < 8
        · have hst := st_int (stn j q)
          rw [← stn_snoc] at hst
          have hlt := (stn j q).isLt
          have HS := Lib.hid hst
          clear hst
          generalize (stn j q).toNat = z at *
          by_cases hz : z % 2 = 1
          · have ht : ((z : Int) % 2 == 1) = true := by rw [beq_iff_eq]; omega
            go_wp2
            go_round
            case rel => exact ⟨j + 1, by omega, by go_num, by rw [HS.out, if_pos hz]⟩
            case measure => simp [intOf]; omega
          · have ht : ((z : Int) % 2 == 1) = false := by rw [beq_eq_false_iff_ne]; omega
            go_wp2
            go_round
            case rel => exact ⟨j + 1, by omega, by go_num, by rw [HS.out, if_neg hz]⟩
            case measure => simp [intOf]; omega
        · have hjj : j = 8 := by omega
          subst hjj
          go_wp2
          go_round
          case rel => exact ⟨k + 1, by omega, by go_num, by rw [HN.out]⟩
          case measure => simp [intOf]; omega
    · have hkk : k = m.length := by omega
      subst hkk
      rw [List.take_length]
      have hx := u32_xor_nat (regI m).toNat 4294967295 (regI m).isLt (by decide)
      have hx2 : bits .xor .u32 ((regI m).toNat : Int) 4294967295 = ((crcOf m).toNat : Int) := by
        have h := not_int (regI m)
        rw [not_regI] at h
        rw [← h]
        rw [show IntKind.u32.max = ((4294967295 : Nat) : Int) from rfl, u32_xor_nat _ _ (by decide) (BitVec.isLt _), Nat.xor_comm, ← hx]
        rfl
      clear hx
      go_wp2
      go_ret
      exact ⟨rfl, rfl⟩

end Go.Proofs.Ytkdfedcmhcchiaa
