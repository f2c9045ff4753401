/-
  crc's Sum.Add, Sum.Value, Of, Bytes: the contracts, by walks. crc.Of, crc.Bytes, and the reference's Of and Bytes: the contracts, by walks. Strings out of bytes. append onto rows of the call's own. Conditions: lengths.
-/
import Derived.Test.YtalaidlnhoonfaaQCa
import Derived.Test.YtalaidlnhoonfaaWords
import Derived.Lib.Strings
import Derived.Test.YtalaidlnhoonfaaRows
import Derived.Lib.AppendZeros
namespace Go.Proofs.Ytalaidlnhoonfaa.Fr
open Go.RowKit

set_option maxHeartbeats 400000 in
theorem value_nil (w : World) : Calls Try.prog 61 #[.pointer none] w fun e w' => e = .returned (uv 0#32) ∧ w = w' := by
  go_enter Try.func61, Try.ntmps61
  go_wp2
  go_ret
  exact ⟨rfl, rfl⟩
set_option maxHeartbeats 400000 in
theorem value_any (w : World) (g : Nat) (l : List UInt8) (h : SumOf w g l) : Calls Try.prog 61 #[.pointer (some ⟨g, 0, none⟩)] w fun e w' => e = .returned (uv (crcOf l)) ∧ w = w' := by
  obtain ⟨m, tb, _, _, c0, _⟩ := h
  unfold uv at c0 ⊢
  go_enter Try.func61, Try.ntmps61
  go_wp2
  go_ret
  exact ⟨rfl, rfl⟩
set_option maxHeartbeats 400000 in
theorem add_nil (v : Value) (w : World) : Calls Try.prog 60 #[.pointer none, v] w fun e w' => e = .returned (.pointer none) ∧ w = w' := by
  go_enter Try.func60, Try.ntmps60
  go_wp2
  go_ret
  exact ⟨rfl, rfl⟩

theorem not_int (r : BitVec 32) : bits .xor .u32 IntKind.u32.max (r.toNat : Int) = ((~~~r).toNat : Int) := by
  rw [show IntKind.u32.max = ((4294967295 : Nat) : Int) from rfl, u32_xor_nat _ _ (by decide) r.isLt]
  have : ~~~r = 4294967295#32 ^^^ r := by
    rw [show 4294967295#32 = BitVec.allOnes 32 by decide, BitVec.allOnes_xor]
  rw [this, BitVec.toNat_xor]; rfl

/-- The register behind bytes, as it is in a loop. -/
def regI (l : List UInt8) : BitVec 32 := reg (~~~0#32) l
theorem not_crc (l : List UInt8) : ~~~(crcOf l) = regI l := by simp [crcOf, regI]
theorem not_regI (l : List UInt8) : ~~~(regI l) = crcOf l := rfl
theorem regI_snoc (l m : List UInt8) (k : Nat) (h : k < m.length) : regI (l ++ m.take (k + 1)) = bstep (regI (l ++ m.take k)) m[k] := by
  unfold regI
  rw [List.take_succ_eq_append_getElem h, ← List.append_assoc, reg_append]; rfl
/-- A round of Add's loop. -/
theorem add_round (R : BitVec 32) (x : UInt8) : ∃ N : Nat, N < 256 ∧ bits .xor .u8 ((R.toNat : Int) % 256) (x.toNat : Int) = (N : Int) ∧ bits .xor .u32 ((R.toNat : Int) / 256) ((tabN N).toNat : Int) = ((bstep R x).toNat : Int) := by
  have hx := x.toNat_lt
  have hR := R.isLt
  refine ⟨(R.toNat % 256) ^^^ x.toNat, Nat.xor_lt_two_pow (n := 8) (by omega) (by omega), ?_, ?_⟩
  · rw [show ((R.toNat : Int) % 256) = ((R.toNat % 256 : Nat) : Int) by omega]
    exact u8_xor_nat _ _ (by omega) (by omega)
  · rw [show ((R.toNat : Int) / 256) = ((R.toNat / 256 : Nat) : Int) by omega, u32_xor_nat _ _ (by omega) (BitVec.isLt _), bstep_tab, BitVec.toNat_xor, BitVec.toNat_ushiftRight, Nat.shiftRight_eq_div_pow]

set_option maxRecDepth 100000 in
set_option maxHeartbeats 1000000 in
theorem add_any (w0 w : World) (g : Nat) (l m : List UInt8) (v : Value) (hg : w0.heap.size ≤ g) (hb : Below w0.heap.size w0 w) (hs : Sl bv w0 v m) (hS : SumOf w g l) (hlen : m.length ≤ 140737488355328) :
    Calls Try.prog 60 #[.pointer (some ⟨g, 0, none⟩), v] w fun e w' => e = .returned (.pointer (some ⟨g, 0, none⟩)) ∧ SumOf w' g (l ++ m) ∧ But g w w' := by
  obtain ⟨made, tb, hmt, hS⟩ := hS
  obtain ⟨A, c, rfl, hlc, hcell⟩ := hs.at_
  have cm := hS.2.2.2.2.1
  go_enter Try.func60, Try.ntmps60
  go_upto_if 14 with fail
  go_cut [4] (fun x wx => x = .pointer none ∧ SumAt wx g (crcOf l) true (tabB 256) ∧ But g w wx)
  case first =>
    cases made
    · have hth := hS.there_
      have HS := Lib.hid hS
      have HM := Lib.hid hmt
      have HC := Lib.hid hcell
      have HT := Lib.hid hth
      clear hS hmt hcell hth
      go_wp2_with (first
        | (go_at_call 82; refine (table_any _).mono ?_; rintro e w1 ⟨rfl, hb1⟩; have HS1 := Lib.hid (HS.out.below hb1 HS.out.1); have HB1 := Lib.hid hb1; clear hb1)
        | (refine wpList_store_mid rfl 112 (.tmp 19) (.tmp 17) rfl g 1 tabA rfl rfl (by rw [show tabA.size = 256 by simp [tabA, tabB_size]]; exact HS1.out.there_) (size51 _ (tabB_size 256)) (map_uv_one _) ?_; have hc2 : (w1.setCells g 1 tabA.toList).cell? ⟨g, 257, none⟩ = some (.bool false) := (HS1.out.setTab (tabB 256) (tabB_size 256)).2.2.2.2.1; have hf2 : (w1.setCells g 1 tabA.toList).frozen? ⟨g, 257, none⟩ = false := (HS1.out.setTab (tabB 256) (tabB_size 256)).2.2.2.2.2 257))
      go_meet
      exact ⟨rfl, (HS1.out.setTab (tabB 256) (tabB_size 256)).setMade true, (But.of_below HB1.out).trans ((But.setCells g _ 1 _).trans (But.setCell _ g 257 _))⟩
    · have ht := hmt rfl
      subst ht
      have HS := Lib.hid hS
      clear hS hcell hmt
      go_wp2
      go_meet
      exact ⟨rfl, HS.out, But.refl _ _⟩
  case rest =>
    obtain ⟨rfl, hS1, hB1⟩ := hcut
    clear hS hmt cm
    have hbx : Below w0.heap.size w0 wc := hb.trans (hB1.below hg hb.size)
    have c0 := hS1.2.1
    have f0 := hS1.2.2.2.2.2 0
    have ht := hS1.2.2.1
    have HS := Lib.hid hS1
    have HB := Lib.hid hB1
    have HT := Lib.hid ht
    clear hS1 hB1 hb ht
    have hn0 := not_int (crcOf l)
    rw [not_crc] at hn0
    unfold uv at c0
    have HC := Lib.hid hcell
    have HN := Lib.hid hn0
    clear hcell hn0
    go_wp2
    rw [HN.out]
    go_loop [5, 29] (fun r i => ∃ k : Nat, k ≤ m.length ∧ i = .int .i64 k ∧ r = .int .u32 ((regI (l ++ m.take k)).toNat : Int)) (fun _ i => m.length - (intOf i).toNat)
    case atStart => exact ⟨0, by omega, rfl, by simp⟩
    case round =>
      obtain ⟨k, hk, rfl, rfl⟩ := hrel
      by_cases hlt : k < m.length
      · obtain ⟨b, o, rfl, hbw, hc⟩ := HC.out k hlt
        have hck := (hbx.cell (p := ⟨b, o + k, none⟩) hbw).trans (hc k m[k] (List.getElem?_eq_getElem hlt))
        unfold bv at hck
        clear hc
        obtain ⟨N, hN, hx1, hx2⟩ := add_round (regI (l ++ m.take k)) m[k]
        rw [← regI_snoc l m k hlt] at hx2
        have htc := HT.out N (tabN N) (tabB_done 256 N hN (by omega))
        unfold uv at htc
        have HX := Lib.hid hx2
        clear hx2
        generalize regI (l ++ m.take k) = R at *
        have hR := R.isLt
        generalize m[k] = x at *
        generalize R.toNat = n at *
        generalize x.toNat = y at *
        generalize (tabN N).toNat = T at *
        go_wp2
        go_round
        case rel => exact ⟨k + 1, by omega, by go_num, by rw [HX.out]⟩
        case measure => simp [intOf]; omega
      · have hkk : k = m.length := by omega
        subst hkk
        rw [List.take_length]
        have hx := not_int (regI (l ++ m))
        rw [not_regI] at hx
        have hS2 := HS.out.setReg (crcOf (l ++ m))
        have HS2 := Lib.hid hS2
        unfold uv at HS2
        clear hS2
        go_wp2
        go_ret
        exact ⟨rfl, ⟨true, tabB 256, fun _ => rfl, HS2.out⟩, HB.out.trans (But.setCell _ g 0 _)⟩

end Go.Proofs.Ytalaidlnhoonfaa.Fr

namespace Go.Proofs.Ytalaidlnhoonfaa.Fr
open Go.RowKit

/-- A slice just laid, of bytes said as numbers (a constant's has a mark behind it). -/
theorem sl_laid_m (w : World) (l : List UInt8) (cs : Array Value) (t : TypeId) (fr : Nat × Nat) (n : Nat) (hn : n = l.length) (hcs : cs = (bs l).toArray) : Sl bv (w.alloc (.cells cs t fr)) (.slice (some ⟨w.heap.size, 0, none⟩) n n) l := by
  subst hn hcs
  refine ⟨_, _, rfl, Nat.le_refl _, fun _ => ⟨w.heap.size, 0, rfl, by simp, fun j u hu => ?_⟩⟩
  rw [cell_of_row _ w.heap.size (0 + j) _ t fr (heap_alloc_new w _)]
  simp [bs, hu]
theorem sl_laid (w : World) (l : List UInt8) (cs : Array Value) (t : TypeId) (n : Nat) (hn : n = l.length) (hcs : cs = (bs l).toArray) : Sl bv (w.alloc (.cells cs t)) (.slice (some ⟨w.heap.size, 0, none⟩) n n) l := sl_laid_m w l cs t (0, 0) n hn hcs
theorem bv_of (k : Nat) : bv (UInt8.ofNat k) = .int .u8 ((k : Int) % 256) := by
  unfold bv
  congr 1

/-- Hands back a slice that reads l; turns nothing that was there. -/
def Reads (w : World) (l : List UInt8) (e : Ending) (w' : World) : Prop := ∃ v, e = .returned v ∧ Sl bv w' v l ∧ Below w.heap.size w w'

set_option maxHeartbeats 400000 in
theorem of_any (v : Value) (m : List UInt8) (w : World) (hs : Sl bv w v m) (hlen : m.length ≤ 140737488355328) :
    Calls Try.prog 36 #[v] w fun e w' => e = .returned (uv (crcOf m)) ∧ Below w.heap.size w w' := by
  have HS := Lib.hid hs
  obtain ⟨A, c, rfl⟩ := hs.form
  clear hs
  go_enter Try.func36, Try.ntmps36
  go_wp2_with fail
  refine (new_any w).mono ?_
  rintro e w1 ⟨rfl, hn1, hb1⟩
  go_wp2_with fail
  refine (add_any w w1 w.heap.size [] m _ (Nat.le_refl _) hb1 HS.out hn1 hlen).mono ?_
  rintro e w2 ⟨rfl, hn2, hb2⟩
  rw [List.nil_append] at hn2
  have hb3 := hb1.trans (hb2.below (Nat.le_refl _) hb1.size)
  go_wp2_with fail
  refine (value_any _ _ _ hn2).mono ?_
  rintro e w3 ⟨rfl, rfl⟩
  go_wp2
  go_ret
  exact ⟨rfl, hb3⟩

/-- A sum's bytes, the lowest first. -/
def leB (r : BitVec 32) : List UInt8 := [UInt8.ofNat r.toNat, UInt8.ofNat (r.toNat / 256), UInt8.ofNat (r.toNat / 65536), UInt8.ofNat (r.toNat / 16777216)]
theorem leB_cells (r : BitVec 32) : (bs (leB r)).toArray = #[.int .u8 ((r.toNat : Int) % 256), .int .u8 ((r.toNat : Int) / 256 % 256), .int .u8 ((r.toNat : Int) / 65536 % 256), .int .u8 ((r.toNat : Int) / 16777216)] := by
  have h : ((r.toNat : Int) / 16777216) = (r.toNat : Int) / 16777216 % 256 := by have := r.isLt; omega
  rw [h]
  simp only [leB, bs, List.map_cons, List.map_nil, bv_of, Int.natCast_ediv]
  rfl

set_option maxHeartbeats 400000 in
theorem bytes_any (r : BitVec 32) (w : World) : Calls Try.prog 35 #[uv r] w (Reads w (leB r)) := by
  have hb := (Below.refl w.heap.size w).alloc (Nat.le_refl _) (.cells (bs (leB r)).toArray 5)
  have hl := sl_laid w (leB r) _ 5 4 rfl rfl
  rw [leB_cells] at hl hb
  unfold uv
  have hr := r.isLt
  have HL := Lib.hid hl
  have HB := Lib.hid hb
  clear hl hb
  generalize r.toNat = n at *
  go_enter Try.func35, Try.ntmps35
  go_wp2
  go_ret
  exact ⟨_, rfl, HL.out, HB.out⟩

set_option maxHeartbeats 400000 in
theorem rbytes_any (r : BitVec 32) (w : World) : Calls Try.prog 51 #[uv r] w (Reads w (leB r)) := by
  have hb := (Below.refl w.heap.size w).alloc (Nat.le_refl _) (.cells (bs (leB r)).toArray 5)
  have hl := sl_laid w (leB r) _ 5 4 rfl rfl
  rw [leB_cells] at hl hb
  unfold uv
  have hr := r.isLt
  have HL := Lib.hid hl
  have HB := Lib.hid hb
  clear hl hb
  generalize r.toNat = n at *
  go_enter Try.func51, Try.ntmps51
  go_wp2
  go_ret
  exact ⟨_, rfl, HL.out, HB.out⟩

theorem st_int (q : BitVec 32) : ((st q).toNat : Int) = if q.toNat % 2 = 1 then bits .xor .u32 ((q.toNat : Int) / 2) 3988292384 else (q.toNat : Int) / 2 := by
  rw [st_nat]; exact sN_int _ q.isLt
theorem stn_snoc (j : Nat) (q : BitVec 32) : stn (j + 1) q = st (stn j q) := by rw [stn_add j 1]; rfl

set_option maxRecDepth 100000 in
set_option maxHeartbeats 1000000 in
theorem rof_any (v : Value) (m : List UInt8) (w : World) (hs : Sl bv w v m) (hlen : m.length ≤ 140737488355328) :
    Calls Try.prog 52 #[v] w fun e w' => e = .returned (uv (crcOf m)) ∧ w = w' := by
  obtain ⟨A, c, rfl, hlc, hcell⟩ := hs.at_
  have HC := Lib.hid hcell
  clear hcell hs
  go_enter Try.func52, Try.ntmps52
  go_wp2
  go_loop [3, 10] (fun r i => ∃ k : Nat, k ≤ m.length ∧ i = .int .i64 k ∧ r = .int .u32 ((regI (m.take k)).toNat : Int)) (fun _ i => m.length - (intOf i).toNat)
  case atStart => exact ⟨0, by omega, rfl, rfl⟩
  case round =>
    obtain ⟨k, hk, rfl, rfl⟩ := hrel
    by_cases hlt : k < m.length
    · obtain ⟨b, o, rfl, hbw, hc⟩ := HC.out k hlt
      have hck := hc k m[k] (List.getElem?_eq_getElem hlt)
      unfold bv at hck
      clear hc
      have hsn := regI_snoc [] m k hlt
      simp only [List.nil_append] at hsn
      unfold bstep at hsn
      have hx : bits .xor .u32 ((regI (m.take k)).toNat : Int) (m[k].toNat : Int) = ((regI (m.take k) ^^^ bx m[k]).toNat : Int) := by
        have := m[k].toNat_lt
        rw [u32_xor_nat _ _ (BitVec.isLt _) (by omega), BitVec.toNat_xor]
        congr 2
        simp [bx]
      generalize regI (m.take k) ^^^ bx m[k] = q at *
      have hR := (regI (m.take k)).isLt
      generalize (regI (m.take k)).toNat = n at *
      have hy := m[k].toNat_lt
      generalize m[k].toNat = y at *
      have HN := Lib.hid hsn
      clear hsn
      go_wp2
      go_loop [3, 6] (fun r i => ∃ j : Nat, j ≤ 8 ∧ i = .int .i64 j ∧ r = .int .u32 ((stn j q).toNat : Int)) (fun _ i => 8 - (intOf i).toNat)
      case atStart => exact ⟨0, by omega, rfl, rfl⟩
      case round =>
        clear hx
        obtain ⟨j, hj, rfl, rfl⟩ := hrel
        by_cases hj8 : j < 8
        · have hst := st_int (stn j q)
          rw [← stn_snoc] at hst
          have hlt := (stn j q).isLt
          have HS := Lib.hid hst
          clear hst
          generalize (stn j q).toNat = z at *
          by_cases hz : z % 2 = 1
          · have ht : ((z : Int) % 2 == 1) = true := by rw [beq_iff_eq]; omega
            go_wp2
            go_round
            case rel => exact ⟨j + 1, by omega, by go_num, by rw [HS.out, if_pos hz]⟩
            case measure => simp [intOf]; omega
          · have ht : ((z : Int) % 2 == 1) = false := by rw [beq_eq_false_iff_ne]; omega
            go_wp2
            go_round
            case rel => exact ⟨j + 1, by omega, by go_num, by rw [HS.out, if_neg hz]⟩
            case measure => simp [intOf]; omega
        · have hjj : j = 8 := by omega
          subst hjj
          go_wp2
          go_round
          case rel => exact ⟨k + 1, by omega, by go_num, by rw [HN.out]⟩
          case measure => simp [intOf]; omega
    · have hkk : k = m.length := by omega
      subst hkk
      rw [List.take_length]
      have hx := u32_xor_nat (regI m).toNat 4294967295 (regI m).isLt (by decide)
      have hx2 : bits .xor .u32 ((regI m).toNat : Int) 4294967295 = ((crcOf m).toNat : Int) := by
        have h := not_int (regI m)
        rw [not_regI] at h
        rw [← h]
        rw [show IntKind.u32.max = ((4294967295 : Nat) : Int) from rfl, u32_xor_nat _ _ (by decide) (BitVec.isLt _), Nat.xor_comm, ← hx]
        rfl
      clear hx
      go_wp2
      go_ret
      exact ⟨rfl, rfl⟩

end Go.Proofs.Ytalaidlnhoonfaa.Fr

namespace Go.Proofs.Ytalaidlnhoonfaa.Fr
open Go.RowKit

/-- The bytes that a slice reads, as a string. -/
theorem run_string_sl {P : Program} (w : World) (src dst e : TypeId) (hs : P.underlying src = some (.slice e)) (he : P.underlying e = some (.int .u8)) (hd : P.underlying dst = some .string)
    (v : Value) (l : List UInt8) (h : Sl bv w v l) : (convert src dst v).run P w = .ok (.string ⟨l.toArray⟩) w := by
  obtain ⟨A, c, rfl, hlc, hx⟩ := h
  by_cases hn : l = []
  · subst hn
    rcases A with _ | ad
    · exact run_convert_bytes_nil w src e hs he 0 c dst hd
    · rw [run_convert_bytes_string w src dst e _ _ c hs he hd, run_bytesToString w ad _ c [] (by simp [loadCells, loadCellsFrom])]
      rfl
  · obtain ⟨b, o, rfl, hb, hcell⟩ := hx hn
    have := run_convert_bytes_arg (P := P) w src e hs he b o l.length c (l.map fun x => (x.toNat : Int)) (by simp) (fun i hi => by
      rw [hcell i l[i] (List.getElem?_eq_getElem hi)]
      simp [bv, List.getD, hi]) dst hd
    rw [this]
    have e2 : ((l.map fun x => (x.toNat : Int)).map fun n => UInt8.ofNat n.toNat) = l := by
      rw [List.map_map]
      conv => rhs; rw [← List.map_id l]
      exact List.map_congr_left fun x _ => by simp
    unfold strOfNums
    rw [e2]

theorem str_eq {b : ByteArray} {l : List UInt8} (h : b.data.toList = l) : b = ⟨l.toArray⟩ := by
  obtain ⟨⟨k⟩⟩ := b
  simp at h
  subst h
  rfl
theorem str_len (s : ByteArray) : s.data.toList.length = s.size := by rw [Array.length_toList]; rfl

end Go.Proofs.Ytalaidlnhoonfaa.Fr

namespace Go.Proofs.Ytalaidlnhoonfaa.Fr
open Go.RowKit

theorem infoB : (Try.prog.info? 5).map (fun i => (i.zero, i.size, i.bytes)) = some (some (.int .u8 0), 1, 1) := by kernel_rfl

/-- append onto an empty row just laid, whatever the source. -/
theorem append_fresh (w : World) (v : Value) (l : List UInt8) (hs : Sl bv w v l) (hlen : l.length ≤ 140737488355328) :
    ∃ v' w', (Builtin.append_ #[29, 29] 29 #[.slice (some ⟨w.heap.size, 0, none⟩) 0 0, v]).run Try.prog (w.alloc (.cells #[] 5)) = .ok v' w' ∧ w'.ownsRow w.heap.size 5 1 v' l.length (bs l) ∧ Below w.heap.size w w' := by
  obtain ⟨i0, hi, hz0, hz1, hz2⟩ := info_parts infoB
  have hw1 : (w.alloc (.cells #[] 5)).ownsRow w.heap.size 5 1 (.slice (some ⟨w.heap.size, 0, none⟩) 0 0) 0 [] := World.ownsRow_made w #[] 0 (Nat.le_refl _) (by unfold maxLen; omega) rfl
  have hs1 := hs.alloc (.cells #[] 5)
  obtain ⟨v', w2, hr, ho2, hg2⟩ := run_append_sl (P := Try.prog) (w.alloc (.cells #[] 5)) w.heap.size 29 29 5 i0 (.int .u8 0) 1 Try.underlying29 hi hz0 hz1 hz2 rfl _ _ _ hw1 _ _ hs1 (fun _ => rfl) (by omega) (by omega) (by simp)
  have hb2 : Below w.heap.size w w2 := ((Below.refl _ _).alloc (Nat.le_refl _) _).grown hg2 (by simp) (fun k hk => (hw1.lt k hk).1)
  simp only [Nat.zero_add, List.nil_append] at ho2
  exact ⟨v', w2, hr, ho2, hb2⟩
/-- append onto a row of the call's own. -/
theorem append_more (w0 w : World) (v0 : Value) (l0 : List UInt8) (ho : w.ownsRow w0.heap.size 5 1 v0 l0.length (bs l0)) (hb : Below w0.heap.size w0 w) (v : Value) (l : List UInt8) (hs : Sl bv w v l) (hlen : l0.length + l.length ≤ 140737488355328) :
    ∃ v' w', (Builtin.append_ #[29, 29] 29 #[v0, v]).run Try.prog w = .ok v' w' ∧ w'.ownsRow w0.heap.size 5 1 v' (l0 ++ l).length (bs (l0 ++ l)) ∧ Below w0.heap.size w0 w' := by
  obtain ⟨i0, hi, hz0, hz1, hz2⟩ := info_parts infoB
  obtain ⟨v', w2, hr, ho2, hg2⟩ := run_append_sl (P := Try.prog) w w0.heap.size 29 29 5 i0 (.int .u8 0) 1 Try.underlying29 hi hz0 hz1 hz2 rfl _ _ _ ho _ _ hs (fun _ => rfl) (by omega) (by omega) hb.size
  exact ⟨v', w2, hr, by rw [List.length_append, bs_append]; exact ho2, hb.grown hg2 hb.size (fun k hk => (ho.lt k hk).1)⟩

/-- One element of a slice, as a slice. -/
theorem _root_.Go.Proofs.Ytalaidlnhoonfaa.Sl.one {α : Type} {f : α → Value} {w : World} {b o n c : Nat} {l : List α} (h : Sl f w (.slice (some ⟨b, o, none⟩) n c) l) (k : Nat) (hk : k < l.length) (c2 : Nat) (hc2 : 1 ≤ c2) : Sl f w (.slice (some ⟨b, o + k, none⟩) 1 c2) [l[k]] := by
  obtain ⟨A, c', hv, hlc, hx⟩ := h
  injection hv with h1 h2 h3
  obtain ⟨b', o', hA, hb, hcell⟩ := hx (by rintro rfl; simp at hk)
  rw [← h1] at hA
  injection hA with hA
  injection hA with hA1 hA2
  subst hA1 hA2
  refine ⟨_, _, rfl, by simpa using hc2, fun _ => ⟨b, o + k, rfl, hb, fun j u hu => ?_⟩⟩
  have hj : j = 0 := by have := (List.getElem?_eq_some_iff.1 hu).1; simp at this; exact this
  subst hj
  simp at hu
  subst hu
  exact hcell k l[k] (List.getElem?_eq_getElem hk)

end Go.Proofs.Ytalaidlnhoonfaa.Fr
