/-
  hedgerowlaw04.FrameCuts: the walk: for all rows of bytes, cuts, places and patterns the call returns true, and nothing that was there has turned. Conditions: none.
-/
import Derived.Test.YtoihfcojnbegcaaFrCutMath
import Derived.Deep.CutBlock
namespace Go.Proofs.Ytoihfcojnbegcaa
open Go.RowKit

def iv (n : Int) : Value := .int .i64 n
theorem infoI : (Try.prog.info? 3).map (fun i => (i.zero, i.size, i.bytes)) = some (some (.int .i64 0), 1, 8) := by kernel_rfl
theorem sizeS : (Try.prog.info? 22).map (·.size) = some 1 := by kernel_rfl
/-- append of one number, out of a row just laid. -/
theorem append_int (w0 w : World) (v : Value) (xs : List Int) (n : Nat) (ho : w.ownsRow w0.heap.size 3 1 v n (xs.map iv)) (hb : Below w0.heap.size w0 w) (x : Int) (hlen : n + 1 ≤ 1000000) :
    ∃ v' w', (Builtin.append_ #[49, 49] 49 #[v, .slice (some ⟨w.heap.size, 0, none⟩) 1 1]).run Try.prog (w.alloc (.cells #[.int .i64 x] 3)) = .ok v' w' ∧ w'.ownsRow w0.heap.size 3 1 v' (n + 1) ((xs ++ [x]).map iv) ∧ w.grownBy w' v.ownBlock ∧ Below w0.heap.size w0 w' := by
  obtain ⟨i0, hi, hz0, hz1, hz2⟩ := info_parts infoI
  have hal : Below w.heap.size w (w.alloc (.cells #[.int .i64 x] 3)) := (Below.refl _ _).alloc (Nat.le_refl _) _
  have ho' := ho.alloc (.cells #[.int .i64 x] 3)
  have hx : Sl iv (w.alloc (.cells #[.int .i64 x] 3)) (.slice (some ⟨w.heap.size, 0, none⟩) 1 1) [x] := by
    refine ⟨_, _, rfl, Nat.le_refl _, fun _ => ⟨w.heap.size, 0, rfl, by simp, fun j u hu => ?_⟩⟩
    rw [(Blk.new w _ _).cell (0 + j)]
    have hj : j = 0 := by have := (List.getElem?_eq_some_iff.1 hu).1; simp at this; exact this
    subst hj
    simp at hu
    subst hu
    rfl
  obtain ⟨v', w2, hr, ho2, hg2⟩ := run_append_sl (P := Try.prog) (w.alloc (.cells #[.int .i64 x] 3)) w0.heap.size 49 49 3 i0 (.int .i64 0) 8 Try.underlying49 hi hz0 hz1 hz2 rfl _ _ _ ho' _ _ hx (fun _ => rfl) (by simp; omega) (by simp; omega) (by have := hb.size; simp; omega)
  refine ⟨v', w2, hr, by rw [List.map_append]; exact ho2, ?_, (hb.alloc hb.size _).grown hg2 (by have := hb.size; simp; omega) (fun k hk => (ho'.lt k hk).1)⟩
  exact ⟨hg2.os.trans hal.os, hg2.tape.trans hal.tape, hg2.output.trans hal.output, Nat.le_trans hal.size hg2.size, fun i hi' hn => (hg2.block i (Nat.lt_of_lt_of_le hi' hal.size) hn).trans (hal.block i hi')⟩
/-- Two rows of unlike elements lie apart. -/
theorem rows_apart {w : World} {b1 b2 : Nat} {v1 v2 : Value} {n1 n2 : Nat} {xs1 xs2 : List Value} (h1 : w.ownsRow b1 5 1 v1 n1 xs1) (h2 : w.ownsRow b2 3 1 v2 n2 xs2) : v1.ownBlock = none ∨ v1.ownBlock ≠ v2.ownBlock := by
  rcases h1.2 with ⟨rfl, _⟩ | ⟨g, cap, cur, rfl, _, hc, _⟩
  · exact .inl rfl
  · refine .inr fun e => ?_
    rcases h2.2 with ⟨rfl, _⟩ | ⟨g', cap', cur', rfl, _, hc', _⟩
    · simp [Value.ownBlock] at e
    · simp [Value.ownBlock] at e
      subst e
      rw [hc] at hc'
      injection hc' with hc'
      injection hc' with _ hc' _
      exact absurd hc' (by decide)
theorem rows_apart' {w : World} {b1 b2 : Nat} {v1 v2 : Value} {n1 n2 : Nat} {xs1 xs2 : List Value} (h1 : w.ownsRow b1 3 1 v1 n1 xs1) (h2 : w.ownsRow b2 5 1 v2 n2 xs2) : v1.ownBlock = none ∨ v1.ownBlock ≠ v2.ownBlock := by
  rcases rows_apart h2 h1 with h | h
  · cases hv : v1.ownBlock with
    | none => exact .inl rfl
    | some g => exact .inr (by rw [h]; simp)
  · exact .inr fun e => h e.symm
theorem own_below {w w' : World} {B n : Nat} {e : TypeId} {v : Value} {xs : List Value} (h : w.ownsRow B e 1 v n xs) (hb : Below w.heap.size w w') : w'.ownsRow B e 1 v n xs :=
  h.kept (row := none) (grownBy_below hb none) (by cases hv : v.ownBlock <;> simp)
theorem RowsAt.hi {w : World} {A : Option Addr} {n c : Nat} {ls : List (List UInt8)} (h : RowsAt w (.slice A n c) ls) (k : Nat) (hk : k ≤ n) : RowsAt w (.slice (slA A c 0) k c) (ls.take k) := by
  obtain ⟨rs, h1, h2, h3⟩ := h
  exact ⟨rs.take k, h1.hi k hk, fun r hr => h2 r (List.mem_of_mem_take hr), by rw [List.map_take, h3]⟩

/-- Where the first 0, 1 .. k frames end. -/
def endsV (l : List (List UInt8)) (k : Nat) : List Int := (List.range (k + 1)).map fun j => (endL l j : Int)
theorem endsV_succ (l : List (List UInt8)) (k : Nat) : endsV l (k + 1) = endsV l k ++ [(endL l (k + 1) : Int)] := by
  unfold endsV; rw [List.range_succ, List.map_append]; rfl
theorem endsV_cell {w : World} {B g c : Nat} {l : List (List UInt8)} {k : Nat} (h : w.ownsRow B 3 1 (.slice (some ⟨g, 0, none⟩) (k + 1) c) (k + 1) ((endsV l k).map iv)) (j : Nat) (hj : j ≤ k) : w.cell? ⟨g, j, none⟩ = some (.int .i64 (endL l j)) := by
  rw [h.cellAt j (by omega)]
  simp [endsV, iv, List.getElem?_range (show j < k + 1 by omega)]

set_option maxRecDepth 100000 in
set_option maxHeartbeats 16000000 in
theorem fcuts_walk (va : Value) (l : List (List UInt8)) (cut at_ : Nat) (x : UInt8) (w : World) (ha : RowsAt w va l) (hla : l.length ≤ 140737488355328) (hcut : cut < 65536) (hat : at_ < 65536) :
    Calls Try.prog 8 #[va, .int .u16 cut, .int .u16 at_, .int .u8 (x.toNat : Int)] w (Law w) := by
  have hfx := ffixed_any w
  have HFX := Lib.hid hfx; clear hfx
  have HA := Lib.hid ha
  obtain ⟨A1, c1, rfl, hc1, hx1⟩ := ha.at_
  have HX := Lib.hid hx1
  clear ha hx1
  have hx256 := x.toNat_lt
  obtain ⟨y, hy⟩ : ∃ y, y = x.toNat := ⟨_, rfl⟩
  rw [← hy] at hx256 ⊢
  have HY := Lib.hid hy
  clear hy
  by_cases h1 : 12 < l.length
  · go_enter Try.func8, Try.ntmps8
    go_wp2_with fail
    refine HFX.out.mono ?_
    rintro e w1 ⟨rfl, hb1⟩
    go_wp2
    go_ret
    exact ⟨rfl, hb1⟩
  go_enter Try.func8, Try.ntmps8
  go_wp2_with fail
  refine HFX.out.mono ?_
  rintro e w1 ⟨rfl, hb1⟩
  have HB1 := Lib.hid hb1
  have HE1 := Lib.hid (own_le (B' := w.heap.size) (World.ownsRow_lit (base := w1.heap.size) (e := 3) (size := 1) w1 #[.int .i64 0] 1 (Nat.le_refl _) (by unfold maxLen; omega) rfl) hb1.size)
  clear hb1
  go_wp2
  go_loopw [9, 10, 28] (fun b en i wr => ∃ k : Nat, k ≤ l.length ∧ i = .int .i64 k ∧ (∀ p ∈ l.take k, p.length ≤ 100) ∧ wr.ownsRow w.heap.size 5 1 b (framesB (l.take k)).length (bs (framesB (l.take k))) ∧ wr.ownsRow w.heap.size 3 1 en (k + 1) ((endsV l k).map iv) ∧ Below w.heap.size w wr) (fun _ _ i _ => l.length - (intOf i).toNat)
  case atStart => exact ⟨0, by omega, rfl, by simp, World.ownsRow_nil _ _ _ _, HE1.out, HB1.out.alloc HB1.out.size _⟩
  case round =>
    obtain ⟨k, hk, rfl, hp, hob, hoe, hb⟩ := hrel
    have hlen := framesB_len (l.take k) 100 hp
    rw [List.length_take, Nat.min_eq_left hk] at hlen
    have hlen2 : (framesB (l.take k)).length ≤ 1296 := by omega
    have HP := Lib.hid hp
    have HOB := Lib.hid hob
    have HOE := Lib.hid hoe
    have HB := Lib.hid hb
    obtain ⟨A3, c3, rfl⟩ := (Sl.of_own hob).form
    clear hp hob hoe hb hlen
    by_cases hlt : k < l.length
    · obtain ⟨b0, o0, rfl, hb0, A5, n5, c5, hcell, hs5⟩ := HX.out k hlt
      have hn5 := hs5.len.1
      have hck := (HB.out.cell (p := ⟨b0, o0 + k, none⟩) hb0).trans hcell
      have HS5 := Lib.hid (hs5.below HB.out)
      have HSN := Lib.hid (framesB_snoc l k hlt)
      have HTK := Lib.hid (List.take_succ_eq_append_getElem hlt)
      clear hs5 hcell
      by_cases hbig : 100 < l[k].length
      · generalize l[k].length = m at *
        subst hn5
        go_wp2
        go_ret
        exact ⟨rfl, HB.out⟩
      · generalize l[k] = p at *
        subst hn5
        go_wp2_with fail
        refine (rput_any _ _ (framesB (l.take k)) p wr (Sl.of_own HOB.out) HS5.out (by omega) (by omega)).mono ?_
        rintro e w2 ⟨v2, rfl, ho2, hb2⟩
        rw [← HSN.out] at ho2
        have ho3 := own_le ho2 HB.out.size
        have hel : (framesB (l.take (k + 1))).length = endL l (k + 1) := rfl
        have HO2 := Lib.hid ho3
        have HE2 := Lib.hid (own_below HOE.out hb2)
        have HB2 := Lib.hid (HB.out.trans (hb2.mono HB.out.size))
        obtain ⟨A6, c6, rfl⟩ := (Sl.of_own ho2).form
        clear ho2 ho3 hb2
        rw [hel] at HO2 ⊢
        obtain ⟨v7, w7, hr7, ho7, hg7, hb7⟩ := append_int w w2 _ (endsV l k) (k + 1) HE2.out HB2.out (endL l (k + 1)) (by omega)
        rw [← endsV_succ] at ho7
        have HR7 := Lib.hid hr7
        have HO7 := Lib.hid ho7
        have HB7 := Lib.hid hb7
        have hob7 := HO2.out.kept hg7 (rows_apart HO2.out HE2.out)
        have HOB7 := Lib.hid hob7
        have hp2 : ∀ q ∈ l.take (k + 1), q.length ≤ 100 := by
          intro q hq
          rw [HTK.out] at hq
          rcases List.mem_append.1 hq with hq | hq
          · exact HP.out q hq
          · simp at hq; subst hq; omega
        have HP2 := Lib.hid hp2
        clear hr7 ho7 hg7 hb7 hob7 hp2 hel
        generalize hE : endL l (k + 1) = E at *
        have HEE := Lib.hid hE
        clear hE
        go_wp2_with (at_builtin; refine Lib.wpList_append_run (o := ⟨some 42, _, _, _, _, _⟩) _ rfl _ _ _ _ rfl _ _ rfl rfl _ _ HR7.out ?_)
        go_roundw
        case rel => exact ⟨k + 1, by omega, by go_num, HP2.out, HEE.out ▸ HOB7.out, HO7.out, HB7.out⟩
        case measure => simp [intOf]; omega
    · have hkk : k = l.length := by omega
      subst hkk
      have hp := HP.out
      have hob := HOB.out
      rw [List.take_length] at hp hob hlen2 ⊢
      have hl2 : ∀ p ∈ l, p.length ≤ 1048576 := fun p h => Nat.le_trans (hp p h) (by omega)
      have HL2 := Lib.hid hl2
      have hea := endL_all l
      have hel := endL_le l
      have htb := fun j h => tb_set (framesB l) j h x
      have hca := cut_all l hl2
      have hta := turned_all l hl2
      obtain ⟨F, hF⟩ : ∃ F, F = framesB l := ⟨_, rfl⟩
      rw [← hF] at hob hlen2 hea hel htb hca hta ⊢
      have HOF := Lib.hid hob
      have HEA := Lib.hid hea
      have HEL := Lib.hid hel
      have HTB := Lib.hid htb
      have HCA := Lib.hid hca
      have HTA := Lib.hid hta
      obtain ⟨g2, c2, hen⟩ : ∃ g2 c2, u10 = .slice (some ⟨g2, 0, none⟩) (l.length + 1) c2 := by
        rcases HOE.out.2 with ⟨_, h⟩ | ⟨g, cap, cur, h, _⟩
        · omega
        · exact ⟨g, cap, h⟩
      subst hen
      clear hp hob hl2 hea hel htb hca hta hF HP HOB hlt hk
      obtain ⟨n, hn, hnF⟩ : ∃ n : Nat, (cut : Int) % ((F.length : Int) + 1) = (n : Int) ∧ n ≤ F.length := ⟨cut % (F.length + 1), by simp [Int.natCast_emod], by have := Nat.mod_lt cut (show F.length + 1 > 0 by omega); omega⟩
      go_upto_block 2 with fail
      rw [hn]
      clear hn
      go_cut [14] (fun i wx => wx = wr ∧ ∃ k : Nat, k ≤ l.length ∧ i = .int .i64 k ∧ endL l k ≤ n ∧ (k < l.length → n < endL l (k + 1)))
      case first =>
        go_wp2
        go_loop [14] (fun i => ∃ k : Nat, k ≤ l.length ∧ i = .int .i64 k ∧ endL l k ≤ n) (fun i => l.length - (intOf i).toNat)
        case atStart => exact ⟨0, by omega, rfl, by rw [endL_zero]; omega⟩
        case round =>
          obtain ⟨k, hk, rfl, hkn⟩ := hrel
          by_cases hlt : k < l.length
          · have hcell := endsV_cell HOE.out (k + 1) (by omega)
            by_cases hgo : endL l (k + 1) ≤ n
            · generalize hE : endL l (k + 1) = E at *
              have HEE := Lib.hid hE
              clear hE
              go_wp2
              go_round
              case rel => exact ⟨k + 1, by omega, by go_num, by rw [HEE.out]; exact hgo⟩
              case measure => simp [intOf]; omega
            · generalize hE : endL l (k + 1) = E at *
              have HEE := Lib.hid hE
              clear hE
              go_wp2
              go_meet
              exact ⟨rfl, k, by omega, rfl, hkn, fun _ => by rw [HEE.out]; omega⟩
          · go_wp2
            go_meet
            exact ⟨rfl, k, by omega, rfl, hkn, fun h => absurd h hlt⟩
      case rest =>
        obtain ⟨rfl, k, hk, rfl, hkn, hend⟩ := hcut
        have hcellk := endsV_cell HOE.out k (by omega)
        obtain ⟨er, hall, her⟩ := HCA.out n k hk hnF hkn hend
        have HER := Lib.hid her
        have HCK := Lib.hid hcellk
        have hF12 : F.length ≤ 1296 := hlen2
        have hsn := (Sl.of_own HOF.out).hi n hnF
        have hnl : (F.take n).length ≤ 1000000 := by rw [List.length_take]; omega
        have hc3 := (Sl.of_own HOF.out).len.2
        have hfall := fall_any _ (F.take n) wc hsn hnl
        rw [hall] at hfall
        have HFALL := Lib.hid hfall
        have hrk := (HA.out.below HB.out).hi k hk
        have HRK := Lib.hid hrk
        clear hfall hrk hnl hsn hall her hcellk hend
        have hen : endL l k ≤ 1296 := by omega
        obtain ⟨E, hE⟩ : ∃ E, E = endL l k := ⟨_, rfl⟩
        rw [← hE] at HFALL HCK HER hen
        have HE := Lib.hid hE
        clear hE hkn
        go_wp2_with (refine wpList_slice_hi (o := ⟨some 68, _, _, _, _, _⟩) rfl 22 5 (.tmp 66) (.tmp 67) rfl Try.underlying22 sizeU A3 F.length c3 n rfl rfl (by omega) ?_)
        refine HFALL.out.mono ?_
        rintro e w5 ⟨v5, rfl, hr5, hb5⟩
        dsimp only at hr5 ⊢
        have HR5 := Lib.hid hr5
        have HK5 := Lib.hid hb5
        have HB5 := Lib.hid (HB.out.trans (hb5.mono HB.out.size))
        obtain ⟨A5, c5, rfl⟩ := hr5.form
        clear hr5 hb5
        have hA1 : slA A1 c1 0 = A1 := by
          unfold slA
          split
          · rfl
          · cases A1 <;> simp [Addr.add]
        have htk : (l.take k).length = k := by rw [List.length_take]; omega
        have hrk2 := HRK.out
        rw [hA1] at hrk2
        have hsm := same_any _ _ (l.take k) (l.take k) w5 HR5.out (hrk2.below HK5.out) (by omega) (by omega)
        rw [(sameB_true _ _).2 rfl, htk] at hsm
        rw [htk]
        have HSM := Lib.hid hsm
        have HA1 := Lib.hid hA1
        clear hsm htk hrk2
        obtain ⟨q, hq1, hq2⟩ : ∃ q : Bool, ((er : Int) == 0) = q ∧ ((E : Int) == (n : Int)) = q := by
          refine ⟨decide (er = 0), ?_, ?_⟩
          · by_cases h : er = 0
            · subst h; rfl
            · rw [decide_eq_false h, beq_eq_false_iff_ne]; omega
          · by_cases h : er = 0
            · rw [decide_eq_true h, beq_iff_eq]; have := HER.out.1 h; omega
            · rw [decide_eq_false h, beq_eq_false_iff_ne]; intro e; exact h (HER.out.2 (by omega))
        have HQ1 := Lib.hid hq1
        have HQ2 := Lib.hid hq2
        clear hq1 hq2
        go_wp2_with (refine wpList_slice_hi (o := ⟨some 76, _, _, _, _, _⟩) rfl 39 22 (.tmp 74) (.tmp 75) rfl Try.underlying39 sizeS A1 l.length c1 k rfl rfl (by omega) ?_)
        refine HSM.out.mono ?_
        rintro e w6 ⟨rfl, hb6⟩
        have hk6 := HK5.out.trans (hb6.mono HK5.out.size)
        have hg2 : g2 < wc.heap.size := (HOE.out.lt g2 rfl).2
        have hck6 := (hk6.cell (p := ⟨g2, k, none⟩) hg2).trans HCK.out
        have HK6 := Lib.hid hk6
        have HB6 := Lib.hid (HB5.out.trans (hb6.mono HB5.out.size))
        have HOF6 := Lib.hid (own_below HOF.out hk6)
        have HOE6 := Lib.hid (own_below HOE.out hk6)
        have q1 := HQ1.out
        have q2 := HQ2.out
        clear hb6 hk6 hg2
        by_cases hf0 : F.length = 0
        · rw [hf0]
          go_wp2
          go_ret
          exact ⟨rfl, HB6.out⟩
        by_cases hy0 : y = 0
        · subst hy0
          have hf1 : ((F.length : Int) == 0) = false := by rw [beq_eq_false_iff_ne]; omega
          go_wp2
          go_ret
          exact ⟨rfl, HB6.out⟩
        obtain ⟨g, hg⟩ : ∃ g, A3 = some ⟨g, 0, none⟩ := by
          rcases HOF6.out.2 with ⟨_, h'⟩ | ⟨g, cap, cur, h, _⟩
          · omega
          · injection h with h _ _; exact ⟨g, h⟩
        subst hg
        have hf1 : ((F.length : Int) == 0) = false := by rw [beq_eq_false_iff_ne]; omega
        have hy1 : ((y : Int) == 0) = false := by rw [beq_eq_false_iff_ne]; omega
        obtain ⟨m, hm, hmF⟩ : ∃ m : Nat, (at_ : Int) % (F.length : Int) = (m : Int) ∧ m < F.length := ⟨at_ % F.length, by simp [Int.natCast_emod], Nat.mod_lt _ (by omega)⟩
        have hbc := HOF6.out.cellAt m (by omega)
        have hbs : (bs F)[m]? = some (bv F[m]) := by simp [bs, hmF]
        rw [hbs] at hbc
        have hbf := HOF6.out.frozenAt m
        have hst := HOF6.out.stored m (bv (F[m] ^^^ x))
        have hset : (bs F).set m (bv (F[m] ^^^ x)) = bs (tb F m x) := by
          rw [HTB.out m hmF]; unfold bs; rw [List.map_set]
        rw [hset] at hst
        have hoe7 := HOE6.out.kept hst.2 (rows_apart' HOE6.out HOF6.out)
        have hxx : bits .xor .u8 ((F[m]).toNat : Int) (y : Int) = ((F[m] ^^^ x).toNat : Int) := by rw [HY.out]; exact u8x _ _
        unfold bv at hbc hst hoe7
        have HST := Lib.hid hst
        have HOE7 := Lib.hid hoe7
        have HXX := Lib.hid hxx
        clear hst hoe7 hxx hset hbs
        have hFm := (F[m]).toNat_lt
        generalize (F[m] ^^^ x).toNat = z at *
        generalize (F[m]).toNat = f at *
        have hxx := HXX.out
        go_upto_block 4 with fail
        rw [hm]
        have hgB : w.heap.size ≤ g := (HOF6.out.lt g rfl).1
        have HB7 := Lib.hid (HB6.out.setCell (p := ⟨g, m, none⟩) hgB (.int .u8 (z : Int)))
        have hx0 : x ≠ 0 := fun e => hy0 (by rw [HY.out, e]; rfl)
        have hsb : Sl bv (w6.setCell ⟨g, m, none⟩ (.int .u8 (z : Int))) (.slice (some ⟨g, 0, none⟩) F.length c3) (tb F m x) := Sl.of_own HST.out.1
        have HSB := Lib.hid hsb
        have htl : (tb F m x).length ≤ 1000000 := by rw [tb_length]; omega
        have hfall := fall_any _ (tb F m x) _ hsb htl
        have HX0 := Lib.hid hx0
        have hmE : m < endL l l.length := by rw [HEA.out]; exact hmF
        have HME := Lib.hid hmE
        have HSTW := Lib.hid (HB7.out)
        generalize w6.setCell ⟨g, m, none⟩ (.int .u8 (z : Int)) = w7 at *
        have HFA := Lib.hid hfall
        clear hfall hm hmE hx0 hsb hxx hbc hbf hck6 q1 q2 hk htl
        go_wp2
        go_loop [19] (fun i => ∃ j : Nat, j < l.length ∧ i = .int .i64 j ∧ endL l j ≤ m) (fun i => l.length - (intOf i).toNat)
        case atStart =>
          refine ⟨0, ?_, rfl, by rw [endL_zero]; omega⟩
          rcases Nat.eq_zero_or_pos l.length with h | h
          · have := HME.out; rw [h, endL_zero] at this; omega
          · exact h
        case round =>
          obtain ⟨j, hj, rfl, hjm⟩ := hrel
          have hcell := endsV_cell HOE7.out (j + 1) (by omega)
          by_cases hgo : endL l (j + 1) ≤ m
          · have hj2 : j + 1 < l.length := by
              rcases Nat.lt_or_ge (j + 1) l.length with h | h
              · exact h
              · have : j + 1 = l.length := by omega
                have h9 := HME.out
                rw [← this] at h9
                omega
            generalize hE2 : endL l (j + 1) = E2 at *
            have HEE := Lib.hid hE2
            clear hE2
            go_wp2
            go_round
            case rel => exact ⟨j + 1, by omega, by go_num, by rw [HEE.out]; exact hgo⟩
            case measure => simp [intOf]; omega
          · have hta := HTA.out m j hj hjm (by omega) x HX0.out
            have hfa := HFA.out
            rw [hta] at hfa
            have HFB := Lib.hid hfa
            have hcj := endsV_cell HOE7.out j (by omega)
            have hej : endL l j ≤ 1296 := by omega
            have HCJ := Lib.hid hcj
            clear hta hfa hcj hjm
            generalize hE2 : endL l (j + 1) = E2 at *
            clear hE2
            generalize hE3 : endL l j = E3 at *
            clear hE3
            go_wp2_with fail
            refine HFB.out.mono ?_
            rintro e w8 ⟨v8, rfl, hr8, hb8⟩
            dsimp only at hr8 ⊢
            have HB8 := Lib.hid (HB7.out.trans (hb8.mono HB7.out.size))
            have hrk := (HA.out.below HB8.out).hi j (by omega)
            rw [HA1.out] at hrk
            have htk : (l.take j).length = j := by rw [List.length_take]; omega
            obtain ⟨A8, c8, rfl⟩ := hr8.form
            have hsm := same_any _ _ (l.take j) (l.take j) w8 hr8 hrk (by omega) (by omega)
            rw [(sameB_true _ _).2 rfl, htk] at hsm
            rw [htk]
            have HSM2 := Lib.hid hsm
            have hg2 : g2 < w7.heap.size := (HOE7.out.lt g2 rfl).2
            have hck8 := (hb8.cell (p := ⟨g2, j, none⟩) hg2).trans HCJ.out
            have HCK8 := Lib.hid hck8
            have hg28 : g2 < w8.heap.size := Nat.lt_of_lt_of_le hg2 hb8.size
            have HG28 := Lib.hid hg28
            clear hsm htk hrk hr8 hb8 hg2 hck8 hcell hg28
            go_wp2_with (refine wpList_slice_hi (o := ⟨some 132, _, _, _, _, _⟩) rfl 39 22 (.tmp 130) (.tmp 131) rfl Try.underlying39 sizeS A1 l.length c1 j rfl rfl (by omega) ?_; rw [HA1.out])
            refine HSM2.out.mono ?_
            rintro e w9 ⟨rfl, hb9⟩
            have hck9 := (hb9.cell (p := ⟨g2, j, none⟩) HG28.out).trans HCK8.out
            have HB9 := Lib.hid (HB8.out.trans (hb9.mono HB8.out.size))
            clear hb9
            go_wp2
            go_ret
            exact ⟨rfl, HB9.out⟩

end Go.Proofs.Ytoihfcojnbegcaa
