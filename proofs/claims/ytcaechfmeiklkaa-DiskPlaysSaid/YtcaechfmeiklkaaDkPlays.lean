/-
  hedgerowlaw10.DiskPlays: the walk: for all acts the call returns true, and nothing that was there has turned. Conditions: none.
-/
import Derived.Test.YtcaechfmeiklkaaArgsT
import Derived.Test.YtcaechfmeiklkaaDkPlayM
import Derived.Deep.RegionHeld3
import Derived.StillTailTactics
namespace Go.Proofs.Ytcaechfmeiklkaa
open Go.RowKit

/-- A byte of a row of the call's own turns. -/
theorem own_put {w : World} {B : Nat} {A : Option Addr} {c : Nat} {l : List UInt8} (ho : w.ownsRow B 5 1 (.slice A l.length c) l.length (bs l)) (k : Nat) (hk : k < l.length) (x : UInt8) :
    ∃ b, A = some ⟨b, 0, none⟩ ∧ B ≤ b ∧ w.cell? ⟨b, k, none⟩ = some (bv l[k]) ∧ w.frozen? ⟨b, k, none⟩ = false ∧ (w.setCell ⟨b, k, none⟩ (bv x)).ownsRow B 5 1 (.slice (some ⟨b, 0, none⟩) l.length c) (l.set k x).length (bs (l.set k x)) := by
  rcases ho.2 with ⟨hv, h0⟩ | ⟨b, cap, cur, hv, hb, _⟩
  · omega
  · injection hv with h1 h2 h3
    subst h1 h3
    have hc : w.cell? ⟨b, k, none⟩ = some (bv l[k]) := by
      rw [ho.cellAt k (by omega)]
      simp [bs, hk]
    refine ⟨b, rfl, hb, hc, ho.frozenAt k, ?_⟩
    obtain ⟨hs1, hs2⟩ := ho.stored k (bv x)
    rw [List.length_set]
    have : bs (l.set k x) = (bs l).set k (bv x) := by simp [bs, List.map_set]
    rw [this]
    exact hs1
/-- Another disk turns, apart from both. -/
theorem Pl.far {w0 w w' : World} {g h2 t : Nat} {v u x x' : Value} {l r m : List UInt8} {s : Nat} (h : Pl w0 w g v l s u r) (k : Dk w h2 x m t) (hm : Mv h2 x w w' x') (hne : g ≠ h2) (hv : ∀ i, v.ownBlock = some i → x.ownBlock ≠ some i) (hu : ∀ i, u.ownBlock = some i → x.ownBlock ≠ some i) (hb : Below w0.heap.size w0 w') : Pl w0 w' g v l s u r :=
  ⟨h.1.far k hm hne hv hb, hm.row k h.2.1 hu, h.2.2⟩
theorem playB_one (l : List UInt8) (s : Nat) (m a : Int) (y : UInt8) (i : Nat) (x : UInt8) (h : stepB s m a y i (l.getD i 0) = [x]) : playB l s m a y (i + 1) = playB l s m a y i ++ [x] := by simp only [playB, h]
theorem playB_no (l : List UInt8) (s : Nat) (m a : Int) (y : UInt8) (i : Nat) (h : stepB s m a y i (l.getD i 0) = []) : playB l s m a y (i + 1) = playB l s m a y i := by simp only [playB, h, List.append_nil]
theorem step_append_run {P : Program} {ops : Array Oper} {o : Oper} {a : Act} {w w' : World} {K : Act → World → Prop} {Q : Exit → Act → World → Prop} {E : Prop} (hgd : o.guard = none) (s x : Operand) (t tn : TypeId)
    (ho : o.op = .call { callee := .builtin .append, args := #[s, x], argTypes := #[t, tn] }) (vs vx v' : Value) (hs : a.eval s = vs) (hx : a.eval x = vx) (hr : (Builtin.append_ #[t, tn] o.type #[vs, vx]).run P w = .ok v' w')
    (h : K (a.put o.dst v') w') : if Region.wanted o (yielded ops a.tmps) = true then Oper.wp P o a w K Q else E := by
  have hw : Region.wanted o (yielded ops a.tmps) = true := by simp [Region.wanted, hgd]
  rw [if_pos hw]
  unfold Oper.wp
  rw [run_append_op ho hs hx hr]
  exact h
theorem append_fresh' (w : World) (v : Value) (l : List UInt8) (hs : Sl bv w v l) (hlen : l.length ≤ 1000000) :
    ∃ A c w', (Builtin.append_ #[26, 26] 26 #[.slice (some ⟨w.heap.size, 0, none⟩) 0 0, v]).run Try.prog (w.alloc (.cells #[] 5)) = .ok (.slice A l.length c) w' ∧ w'.ownsRow w.heap.size 5 1 (.slice A l.length c) l.length (bs l) ∧ Below w.heap.size w w' := by
  obtain ⟨v', w', hr, ho, hb⟩ := append_fresh w v l hs (by omega)
  obtain ⟨A, c, rfl⟩ := own_form ho
  exact ⟨A, c, w', hr, ho, hb⟩

set_option maxRecDepth 100000 in
set_option maxHeartbeats 2000000 in
theorem plays_walk (vl : Value) (l : List Ac) (w : World) (h : ActsAt w vl l) (hll : l.length ≤ 4611686018427387903) :
    Calls Try.prog 3 #[vl] w (Law w) := by
  have HFX := Lib.hid (dfixed_any w)
  obtain ⟨A0, c0, rfl, hx⟩ := h.at_
  have HX := Lib.hid hx
  clear h hx
  by_cases h80 : 80 < l.length
  · go_enter Try.func3, Try.ntmps3
    go_wp2_with fail
    refine HFX.out.mono ?_
    rintro e w1 ⟨rfl, hb1⟩
    go_wp2
    go_ret
    exact ⟨rfl, hb1⟩
  · go_enter Try.func3, Try.ntmps3
    go_wp2_with fail
    refine HFX.out.mono ?_
    rintro e w1 ⟨rfl, hb1⟩
    have HB1 := Lib.hid hb1
    clear hb1
    go_wp2_with fail
    refine (dnew_any w1).mono ?_
    rintro e w2 ⟨rfl, hd2, hb2⟩
    have D2 := Lib.hid ((Dkn.new w1 hd2 rfl hb2).mono HB1.out)
    generalize w1.heap.size = g at *
    clear hd2 hb2
    have P2 : Hid (Pl w w2 g (.slice none 0 0) [] 0 (.slice none 0 0) []) := Lib.hid ⟨D2.out, World.ownsRow_nil _ _ _ _, fun k e => by simp [Value.ownBlock] at e⟩
    go_wp2_with fail
    go_loopw [4, 5, 21] (fun u4 u5 i wr => ∃ (j : Nat) (vf : Value) (L : List UInt8) (s : Nat), j ≤ l.length ∧ i = .int .i64 j ∧ u5 = .int .i64 s ∧ Pl w wr g vf L s u4 L ∧ L.length ≤ 300 * j) (fun _ _ i _ => l.length - (intOf i).toNat)
    case atStart => exact ⟨0, _, [], 0, Nat.zero_le _, rfl, rfl, P2.out, Nat.zero_le _⟩
    case round =>
      obtain ⟨j, vf, L, s, hj, rfl, rfl, hpl, hln⟩ := hrel
      generalize wr = wo at *
      have HP := Lib.hid hpl
      by_cases hlt : j < l.length
      · obtain ⟨b1, o1, rfl, hbl1, hr1, hok⟩ := HX.out j hlt
        obtain ⟨r, hr⟩ : ∃ r, r = l[j]'hlt := ⟨_, rfl⟩
        rw [← hr] at hr1 hok
        obtain ⟨kk, B, n, c, d, m, a, y⟩ := r
        simp only [Ac.cells, Ac.Ok] at hr1 hok
        have k0 := (hpl.base.cell (p := ⟨b1, o1 + j * 5 + 0, none⟩) hbl1).trans (hr1 0 _ rfl)
        have k1 := (hpl.base.cell (p := ⟨b1, o1 + j * 5 + 1, none⟩) hbl1).trans (hr1 1 _ rfl)
        have k2 := (hpl.base.cell (p := ⟨b1, o1 + j * 5 + 2, none⟩) hbl1).trans (hr1 2 _ rfl)
        have k3 := (hpl.base.cell (p := ⟨b1, o1 + j * 5 + 3, none⟩) hbl1).trans (hr1 3 _ rfl)
        have k4 := (hpl.base.cell (p := ⟨b1, o1 + j * 5 + 4, none⟩) hbl1).trans (hr1 4 _ rfl)
        rw [Nat.add_zero] at k0
        have hS := Lib.hid (hok.below hpl.base)
        have SD := Lib.hid hok
        have hnd : n = d.length := (Sl.len hok).1
        have HLT := Lib.hid hlt
        have HN := Lib.hid hnd
        have hbA : Below wo.heap.size wo (wo.alloc (.cells #[bv kk, .slice B n c, .int .i64 m, .int .i64 a, bv y] 28)) := (Below.refl _ _).alloc (Nat.le_refl _) _
        have HNB := Lib.hid (Blk.new wo 28 #[bv kk, .slice B n c, .int .i64 m, .int .i64 a, bv y])
        have PA := Lib.hid (hpl.below hbA)
        have SA := Lib.hid (hS.out.below hbA)
        have HGK := Lib.hid (show wo.heap.size ≠ g from by have := hpl.dk.lt; omega)
        have hln2 := Lib.hid hln
        clear hr1 hok hr hbl1 hnd hln hbA hpl hS
        unfold bv at k0 k4
        go_upto_region 11 with fail
        rw [show Value.int .u8 ((kk.toNat : Nat) : Int) = bv kk from rfl, show Value.int .u8 ((y.toNat : Nat) : Int) = bv y from rfl]
        clear k0 k1 k2 k3 k4 HP
        generalize wo.alloc (.cells #[bv kk, .slice B n c, .int .i64 m, .int .i64 a, bv y] 28) = W at *
        generalize wo.heap.size = gk at *
        have e0 := HNB.out.cell 0
        have e1 := HNB.out.cell 1
        have e2 := HNB.out.cell 2
        have e3 := HNB.out.cell 3
        have e4 := HNB.out.cell 4
        simp at e0 e1 e2 e3 e4
        unfold bv at e0 e4
        by_cases h300 : 300 < n
        · go_wp2
          go_ret
          exact ⟨rfl, PA.out.base⟩
        · have hn300 : n ≤ 300 := by omega
          obtain ⟨A4, c4, hu4⟩ := own_form PA.out.2.1
          subst hu4
          have hL1 : L.length ≤ 24000 := by have := hln2.out; omega
          have hsL : s ≤ L.length := PA.out.dk.2.2.1
          have HL1 := Lib.hid hL1
          have HSL := Lib.hid hsL
          have HN3 := Lib.hid hn300
          have hd300 : d.length ≤ 300 := by have := HN.out; omega
          have HD3 := Lib.hid hd300
          have hln1 : Hid (L.length ≤ 300 * j) := hln2
          clear hln2 hd300 hL1 hsL
          go_upto_block 2 with fail
          go_cut [4, 5] (fun u4 u5 wx => ∃ (v' : Value) (L' : List UInt8) (s' : Nat), u5 = .int .i64 s' ∧ Pl w wx g v' L' s' u4 L' ∧ L'.length ≤ 300 * (j + 1))
          case first =>
            obtain ⟨q, hq5, hqk⟩ : ∃ q : Nat, q < 5 ∧ kk.toNat % 5 = q := ⟨kk.toNat % 5, Nat.mod_lt _ (by decide), rfl⟩
            have hz : ((kk.toNat : Nat) : Int) % 5 = (q : Int) := by omega
            have hqq : q = 0 ∨ q = 1 ∨ q = 2 ∨ q = 3 ∨ q = 4 := by omega
            clear hqk
            rcases hqq with rfl | rfl | rfl | rfl | rfl
            · have f0 : (((kk.toNat : Nat) : Int) % 5 == 0) = true := by rw [hz]; rfl
              clear hz hq5
              go_wp2_with fail
              refine (dwrite_any g vf _ L d s W PA.out.dk SA.out (by have := HL1.out; have := HD3.out; omega)).mono ?_
              rintro e w3 ⟨rfl, v3, hd3, hm3⟩
              clear e0 e1 e2 e3 e4
              have N3 := Lib.hid (hm3.blk PA.out.dk HNB.out HGK.out (by decide))
              have e1 := N3.out.cell 1
              have e2 := N3.out.cell 2
              have e3 := N3.out.cell 3
              have e4 := N3.out.cell 4
              simp at e1 e2 e3 e4
              unfold bv at e4
              have P3 := Lib.hid (PA.out.turn hd3 hm3)
              have S3 := Lib.hid (SD.out.below P3.out.base)
              obtain ⟨v', w4, v5, w5, hr4, hb4, hr5, ho5, hb5⟩ := append_both w3.drew (.slice A4 L.length c4) (.slice B n c) L d (P3.out.row.below ((Below.refl _ _).drew)) (S3.out.below ((Below.refl _ _).drew)) (by have := HL1.out; omega) (by have := HD3.out; omega)
              have hr4' : (Builtin.append_ #[26, 26] 26 #[.slice (some ⟨w3.heap.size, 0, none⟩) 0 0, .slice A4 L.length c4]).run Try.prog (w3.drew.alloc (.cells #[] 5)) = .ok v' w4 := hr4
              have HR4 := Lib.hid hr4'
              have HR5 := Lib.hid hr5
              have P5 := Lib.hid ((P3.out.below ((Below.refl _ _).drew)).fresh hb5 ho5)
              have g0 : w3.drew.cell? ⟨gk, 1, none⟩ = some (.slice B n c) := e1
              have g1 := (((N3.out.below ((Below.refl _ _).drew) N3.out.lt).alloc (.cells #[] 5)).cell 1)
              have g2 := ((N3.out.below ((Below.refl _ _).drew) N3.out.lt).below hb4 N3.out.lt).cell 1
              have g3 := ((N3.out.below ((Below.refl _ _).drew) N3.out.lt).below hb5 N3.out.lt).cell 1
              simp at g1 g2 g3
              clear hd3 hm3 f0 hr4 hr4' hr5 hb4 ho5 hb5 e2 e3 e4
              go_upto_region 17 with fail
              go_region_held3 (fun W' => W'.cell? ⟨gk, 1, none⟩ = some (.slice B n c)) (first | assumption | (simp [*]; done)) (first | (refine step_append_run rfl _ _ _ _ rfl _ _ _ rfl rfl HR4.out ?_) | (refine step_append_run rfl _ _ _ _ rfl _ _ _ rfl rfl HR5.out ?_))
              go_wp2
              go_meet
              exact ⟨_, L ++ d, s, rfl, P5.out, by have := HD3.out; have := hln1.out; simp; omega⟩
            · have f0 : (((kk.toNat : Nat) : Int) % 5 == 0) = false := by rw [hz]; rfl
              have f1 : (((kk.toNat : Nat) : Int) % 5 == 1) = true := by rw [hz]; rfl
              clear hz hq5
              go_wp2_with fail
              refine (dsync_any g vf L s W PA.out.dk).mono ?_
              rintro e w3 ⟨rfl, hd3, hm3⟩
              have P3 := Lib.hid (PA.out.turn hd3 hm3)
              clear hd3 hm3
              go_wp2_with fail
              go_meet
              exact ⟨vf, L, L.length, rfl, P3.out, by have := hln1.out; omega⟩
            · have f0 : (((kk.toNat : Nat) : Int) % 5 == 0) = false := by rw [hz]; rfl
              have f1 : (((kk.toNat : Nat) : Int) % 5 == 1) = false := by rw [hz]; rfl
              have f2 : (((kk.toNat : Nat) : Int) % 5 == 2) = true := by rw [hz]; rfl
              clear hz hq5
              go_wp2_with fail
              refine (dreset_any g vf _ L d s W PA.out.dk SA.out (by have := HD3.out; omega)).mono ?_
              rintro e w3 ⟨rfl, v3, hd3, hm3⟩
              clear e0 e1 e2 e3 e4
              have N3 := Lib.hid (hm3.blk PA.out.dk HNB.out HGK.out (by decide))
              have e1 := N3.out.cell 1
              have e2 := N3.out.cell 2
              have e3 := N3.out.cell 3
              have e4 := N3.out.cell 4
              simp at e1 e2 e3 e4
              unfold bv at e4
              have P3 := Lib.hid (PA.out.turn hd3 hm3)
              have S3 := Lib.hid (SD.out.below P3.out.base)
              obtain ⟨A5, c5, w5, hr5, ho5, hb5⟩ := append_fresh' w3 _ d S3.out (by have := HD3.out; omega)
              have HR5 := Lib.hid hr5
              have P5 := Lib.hid (P3.out.fresh hb5 ho5)
              have e1' := ((N3.out.alloc (.cells #[] 5)).cell 1)
              simp at e1'
              clear hd3 hm3 hr5 ho5 hb5 f0 f1 f2
              go_upto_region 25 with (at_builtin; refine Lib.wpList_append_run (o := ⟨some 61, _, _, _, _, _⟩) _ rfl _ _ _ _ rfl _ _ rfl rfl _ _ HR5.out ?_)
              go_wp2
              go_meet
              exact ⟨_, d, d.length, rfl, P5.out, by have := HD3.out; omega⟩
            · have f0 : (((kk.toNat : Nat) : Int) % 5 == 0) = false := by rw [hz]; rfl
              have f1 : (((kk.toNat : Nat) : Int) % 5 == 1) = false := by rw [hz]; rfl
              have f2 : (((kk.toNat : Nat) : Int) % 5 == 2) = false := by rw [hz]; rfl
              have f3 : (((kk.toNat : Nat) : Int) % 5 == 3) = true := by rw [hz]; rfl
              clear hz hq5
              go_wp2_with fail
              refine (dcrash_any g vf L s m a y W PA.out.dk).mono ?_
              rintro e w3 ⟨rfl, v3, hd3, hm3⟩
              clear e0 e1 e2 e3 e4
              have N3 := Lib.hid (hm3.blk PA.out.dk HNB.out HGK.out (by decide))
              have e1 := N3.out.cell 1
              have e2 := N3.out.cell 2
              have e3 := N3.out.cell 3
              have e4 := N3.out.cell 4
              simp at e1 e2 e3 e4
              unfold bv at e4
              have P3 := Lib.hid (PA.out.turn hd3 hm3)
              obtain ⟨A', c', hv, hlcr, hxr⟩ := P3.out.row.at_
              injection hv with q1 q2 q3
              subst q1 q3
              have HXR := Lib.hid hxr
              have hcl : (crashB L s m a y).length ≤ 300 * (j + 1) := by rw [crashB_len L s m a y HSL.out]; have := leftB_le L s m; have := hln1.out; have := HSL.out; omega
              have HCL := Lib.hid hcl
              have hL1 : L.length ≤ 24000 := HL1.out
              have hsL : s ≤ L.length := HSL.out
              clear hd3 hm3 f0 f1 f2 f3 e1 e2 e3 e4 hxr hcl q2
              go_wp2_with fail
              go_loopw [8, 76] (fun u8 i wr => ∃ (k : Nat), k ≤ L.length ∧ i = .int .i64 k ∧ wr.ownsRow w3.heap.size 5 1 u8 (playB L s m a y k).length (bs (playB L s m a y k)) ∧ Below w3.heap.size w3 wr) (fun _ i _ => L.length - (intOf i).toNat)
              case atStart => exact ⟨0, Nat.zero_le _, rfl, World.ownsRow_nil _ _ _ _, Below.refl _ _⟩
              case round =>
                obtain ⟨k, hk, rfl, ho8, hb8⟩ := hrel
                by_cases hlt : k < L.length
                · have n2 := (N3.out.below hb8 N3.out.lt).cell 2
                  have n3 := (N3.out.below hb8 N3.out.lt).cell 3
                  have n4 := (N3.out.below hb8 N3.out.lt).cell 4
                  simp at n2 n3 n4
                  obtain ⟨br, orr, rfl, hbr, hcr⟩ := HXR.out k hlt
                  obtain ⟨ck, hck⟩ : ∃ ck, L[k]? = some ck := ⟨_, List.getElem?_eq_getElem hlt⟩
                  have hc := (hb8.cell (p := ⟨br, orr + k, none⟩) hbr).trans (hcr k ck hck)
                  have hgd : L.getD k 0 = ck := by simp [List.getD, hck]
                  obtain ⟨A8, c8, hu8⟩ := own_form ho8
                  subst hu8
                  have hpl := playB_len L s m a y k
                  have h1s : ∀ x, stepB s m a y k (L.getD k 0) = [x] → playB L s m a y (k + 1) = playB L s m a y k ++ [x] := fun x hx => playB_one L s m a y k x hx
                  have h0s : stepB s m a y k (L.getD k 0) = [] → playB L s m a y (k + 1) = playB L s m a y k := fun hx => playB_no L s m a y k hx
                  obtain ⟨PL, hPL⟩ : ∃ PL, PL = playB L s m a y k := ⟨_, rfl⟩
                  rw [← hPL] at ho8 hpl h1s h0s ⊢
                  have happ := fun x => append_byte w3 wr _ PL ho8 hb8 x (by omega)
                  have HAPP := Lib.hid happ
                  have HO8 := Lib.hid ho8
                  have HB8 := Lib.hid hb8
                  have HLTk := Lib.hid hlt
                  have ex := u8x ck y
                  rw [hgd] at h1s h0s
                  have H1S := Lib.hid h1s
                  have H0S := Lib.hid h0s
                  unfold bv at hc n4
                  clear hPL ho8 hb8 happ hck hgd h1s h0s hcr hpl
                  by_cases h1 : (k : Int) - s < 0
                  · obtain ⟨v9, w9, hr9, ho9, hb9⟩ := HAPP.out ck
                    have hst := H1S.out ck (by unfold stepB; rw [if_pos h1])
                    have HST := Lib.hid hst
                    have HO9 := Lib.hid ho9
                    have HB9 := Lib.hid hb9
                    unfold bv at hr9
                    have HR9 := Lib.hid hr9
                    clear hst ho9 hb9 hr9 ex
                    go_wp2_with (at_builtin; refine Lib.wpList_append_run (o := ⟨some 94, _, _, _, _, _⟩) _ rfl _ _ _ _ rfl _ _ rfl rfl _ _ HR9.out ?_)
                    go_roundw
                    case rel => exact ⟨k + 1, HLTk.out, by go_num, by rw [HST.out]; exact HO9.out, HB9.out⟩
                    case measure => have := HLTk.out; simp [intOf]; omega
                  · by_cases h2 : m ≤ (k : Int) - s
                    · have hst := H0S.out (by unfold stepB; rw [if_neg h1, if_pos h2])
                      have HST := Lib.hid hst
                      clear hst ex
                      go_wp2_with fail
                      go_roundw
                      case rel => exact ⟨k + 1, HLTk.out, by go_num, by rw [HST.out]; exact HO8.out, HB8.out⟩
                      case measure => have := HLTk.out; simp [intOf]; omega
                    · by_cases h3 : (k : Int) - s = a
                      · obtain ⟨v9, w9, hr9, ho9, hb9⟩ := HAPP.out (ck ^^^ y)
                        have hst := H1S.out (ck ^^^ y) (by unfold stepB; rw [if_neg h1, if_neg h2, if_pos h3])
                        have HST := Lib.hid hst
                        have HO9 := Lib.hid ho9
                        have HB9 := Lib.hid hb9
                        unfold bv at hr9
                        rw [← ex] at hr9
                        have HR9 := Lib.hid hr9
                        have hb3 : ((k : Int) - s == a) = true := by rw [beq_iff_eq]; exact h3
                        clear hst ho9 hb9 hr9 ex h3
                        go_wp2_with (at_builtin; refine Lib.wpList_append_run (o := ⟨some 111, _, _, _, _, _⟩) _ rfl _ _ _ _ rfl _ _ rfl rfl _ _ HR9.out ?_)
                        go_roundw
                        case rel => exact ⟨k + 1, HLTk.out, by go_num, by rw [HST.out]; exact HO9.out, HB9.out⟩
                        case measure => have := HLTk.out; simp [intOf]; omega
                      · obtain ⟨v9, w9, hr9, ho9, hb9⟩ := HAPP.out ck
                        have hst := H1S.out ck (by unfold stepB; rw [if_neg h1, if_neg h2, if_neg h3])
                        have HST := Lib.hid hst
                        have HO9 := Lib.hid ho9
                        have HB9 := Lib.hid hb9
                        unfold bv at hr9
                        have HR9 := Lib.hid hr9
                        have hb3 : ((k : Int) - s == a) = false := by rw [beq_eq_false_iff_ne]; exact h3
                        clear hst ho9 hb9 hr9 ex h3
                        go_wp2_with (at_builtin; refine Lib.wpList_append_run (o := ⟨some 87, _, _, _, _, _⟩) _ rfl _ _ _ _ rfl _ _ rfl rfl _ _ HR9.out ?_)
                        go_roundw
                        case rel => exact ⟨k + 1, HLTk.out, by go_num, by rw [HST.out]; exact HO9.out, HB9.out⟩
                        case measure => have := HLTk.out; simp [intOf]; omega
                · have hkk : k = L.length := by omega
                  subst hkk
                  rw [playB_all L s m a y HSL.out] at ho8
                  have P8 := Lib.hid (P3.out.fresh hb8 ho8)
                  clear ho8 hb8
                  go_wp2
                  go_meet
                  exact ⟨v3, _, s, rfl, P8.out, HCL.out⟩
            · have f0 : (((kk.toNat : Nat) : Int) % 5 == 0) = false := by rw [hz]; rfl
              have f1 : (((kk.toNat : Nat) : Int) % 5 == 1) = false := by rw [hz]; rfl
              have f2 : (((kk.toNat : Nat) : Int) % 5 == 2) = false := by rw [hz]; rfl
              have f3 : (((kk.toNat : Nat) : Int) % 5 == 3) = false := by rw [hz]; rfl
              have f4 : (((kk.toNat : Nat) : Int) % 5 == 4) = true := by rw [hz]; rfl
              clear hz hq5
              go_wp2_with fail
              refine (dspoil_any g vf L s a y W PA.out.dk).mono ?_
              rintro e w3 ⟨rfl, hd3, hm3⟩
              clear e0 e1 e2 e3 e4
              have N3 := Lib.hid (hm3.blk PA.out.dk HNB.out HGK.out (by decide))
              have e1 := N3.out.cell 1
              have e2 := N3.out.cell 2
              have e3 := N3.out.cell 3
              have e4 := N3.out.cell 4
              simp at e1 e2 e3 e4
              unfold bv at e4
              have P3 := Lib.hid (PA.out.turn hd3 hm3)
              clear hd3 hm3 f0 f1 f2 f3 f4 e1 e2
              by_cases hin : 0 ≤ a ∧ a < L.length
              · obtain ⟨k, rfl⟩ := Int.eq_ofNat_of_zero_le hin.1
                have hk : k < L.length := by omega
                have et : turnB L 0 L.length (k : Int) y = L.set k (L[k] ^^^ y) := by
                  unfold turnB
                  rw [if_pos ⟨by omega, by omega⟩, Int.toNat_natCast, Nat.zero_add, List.getD_eq_getElem?_getD, List.getElem?_eq_getElem hk]
                  rfl
                rw [et] at P3
                obtain ⟨A5, c5, w5, hr5, ho5, hb5⟩ := append_fresh' w3 _ L P3.out.row (by have := HL1.out; omega)
                have HR5 := Lib.hid hr5
                obtain ⟨b5, rfl, hB5, hc5, hf5, ho6⟩ := own_put (w := w5.drew) (own_at ho5 (fun _ _ => rfl) (fun k e => (ho5.lt k e).1)) k hk (L[k] ^^^ y)
                have hb6 : Below w3.heap.size w3 (w5.drew.setCell ⟨b5, k, none⟩ (bv (L[k] ^^^ y))) := (hb5.drew).setCell hB5 _
                have P6 := Lib.hid (P3.out.fresh hb6 ho6)
                have q3 := (N3.out.below hb5 N3.out.lt).cell 3
                have q4 := (N3.out.below hb5 N3.out.lt).cell 4
                have r3 := (N3.out.below (hb5.drew) N3.out.lt).cell 3
                have r4 := (N3.out.below (hb5.drew) N3.out.lt).cell 4
                simp at q3 q4 r3 r4
                have hx := u8x L[k] y
                have hc6 : w5.cell? ⟨b5, k, none⟩ = some (bv L[k]) := hc5
                have hf6 : w5.frozen? ⟨b5, k, none⟩ = false := hf5
                unfold bv at q4 r4 hc5 hc6 P6
                have hln3 : (L.set k (L[k] ^^^ y)).length ≤ 300 * (j + 1) := by rw [List.length_set]; have := hln1.out; omega
                have HLN3 := Lib.hid hln3
                obtain ⟨Z, hZ⟩ : ∃ Z, Z = L.set k (L[k] ^^^ y) := ⟨_, rfl⟩
                rw [← hZ] at P6 HLN3
                have hk1 : (k : Int) < (L.length : Int) := by omega
                clear hr5 ho5 hb5 ho6 hb6 et hin hB5 hZ hln3 P3
                generalize (L[k] ^^^ y).toNat = z at *
                generalize L[k].toNat = x at *
                rw [← hx] at P6
                clear hx
                go_upto_region 44 with fail
                go_upto_region 45 with (at_builtin; refine Lib.wpList_append_run (o := ⟨some 134, _, _, _, _, _⟩) _ rfl _ _ _ _ rfl _ _ rfl rfl _ _ HR5.out ?_)
                clear e3 e4
                go_still_tail 9, (by kernel_rfl)
                change wpList _ _ _ _ _ w5.drew
                go_wp2
                go_meet
                exact ⟨_, Z, s, rfl, P6.out, HLN3.out⟩
              · have et : turnB L 0 L.length a y = L := by unfold turnB; rw [if_neg hin]
                rw [et] at P3
                by_cases h0 : 0 ≤ a
                · have h1 : ¬ a < (L.length : Int) := fun h => hin ⟨h0, h⟩
                  clear hin et
                  go_wp2
                  go_meet
                  exact ⟨vf, L, s, rfl, P3.out, by have := hln1.out; omega⟩
                · clear hin et
                  go_wp2
                  go_meet
                  exact ⟨vf, L, s, rfl, P3.out, by have := hln1.out; omega⟩
          case rest =>
            obtain ⟨v6, L6, s6, rfl, hp6, hl6⟩ := hcut
            obtain ⟨A6, c6, hu6⟩ := own_form hp6.2.1
            subst hu6
            have P6 := Lib.hid hp6
            have HL6 := Lib.hid hl6
            clear hp6 hl6
            go_upto_region 46 with fail
            refine wp_region_any (by kernel_rfl) ?_
            refine wpAny_below (fun i => pOfB (([(some (.pointer (some ⟨g, 0, none⟩)), none), (none, some (L6)), (some (.string ⟨(L6).toArray⟩), none), (some (.slice A6 L6.length c6), none), (some (.string ⟨(L6).toArray⟩), none), (some (.bool false), none), (some (.bool false), none), (some (.pointer (some ⟨g, 0, none⟩)), none), (some (.int .i64 s6), none), (some (.int .i64 s6), none), (some (.bool false), none), (some (.bool false), none)] : List (Option Value × Option (List UInt8))).getD i (none, none))) _ _ (by kernel_rfl) (by kernel_rfl) (by kernel_rfl) (fun i v w w' => pOfB_stable _ i v w w') ?_ ?_
            · refine ⟨?_, ?_, ?_, ?_, ?_, ?_, ?_, ?_, ?_, ?_, ?_, ?_, trivial⟩
              · intro a W hI hun haft hi
                have e3 : a.eval (.tmp 3) = .pointer (some ⟨g, 0, none⟩) := hun 3 (by kernel_rfl)
                exact b_same hi hI rfl _ (run_move_op rfl e3) rfl
              · intro a W hI hun haft hi
                have f0 : a.eval (.tmp 144) = .pointer (some ⟨g, 0, none⟩) := haft ⟨0, .data⟩ (by simp) rfl _ _ rfl rfl
                refine b_call hi hI rfl _ _ (run_call_op (args := #[.pointer (some ⟨g, 0, none⟩)]) rfl (by simp [f0]) (by kernel_rfl)) ?_
                exact (dbytes_any g v6 L6 s6 W (P6.out.below hI).dk).mono fun e' w' H => by
                  obtain ⟨v', he, ho, hb⟩ := H
                  exact ⟨v', he, Sl.of_own ho, hb⟩
              · intro a W hI hun haft hi
                have f1 : Sl bv W (a.eval (.tmp 145)) (L6) := haft ⟨1, .data⟩ (by simp) rfl _ _ rfl rfl
                exact b_same hi hI rfl _ (run_convert_op rfl rfl (bytes_str W _ _ f1)) rfl
              · intro a W hI hun haft hi
                have e4 : a.eval (.tmp 4) = .slice A6 L6.length c6 := hun 4 (by kernel_rfl)
                exact b_same hi hI rfl _ (run_move_op rfl e4) rfl
              · intro a W hI hun haft hi
                have f3 : a.eval (.tmp 147) = .slice A6 L6.length c6 := haft ⟨3, .data⟩ (by simp) rfl _ _ rfl rfl
                exact b_same hi hI rfl _ (run_convert_op rfl f3 (bytes_str W _ _ (Sl.below (P6.out.row) hI))) rfl
              · intro a W hI hun haft hi
                have f2 : a.eval (.tmp 146) = .string ⟨(L6).toArray⟩ := haft ⟨2, .data⟩ (by simp) rfl _ _ rfl rfl
                have f4 : a.eval (.tmp 148) = .string ⟨(L6).toArray⟩ := haft ⟨4, .data⟩ (by simp) rfl _ _ rfl rfl
                exact b_same hi hI rfl (.bool false) (run_bin_op rfl f2 f4 (by go_simp) (run_nes _ _)) rfl
              · intro a W hI hun haft hi
                have f5 : a.eval (.tmp 149) = .bool false := haft ⟨5, .data⟩ (by simp) rfl _ _ rfl rfl
                exact b_same hi hI rfl _ (run_move_op rfl f5) rfl
              · intro a W hI hun haft hi
                have fg : a.eval (.tmp 150) = .bool false := haft ⟨6, .guard⟩ (by simp) rfl _ _ rfl rfl
                have e3 : a.eval (.tmp 3) = .pointer (some ⟨g, 0, none⟩) := hun 3 (by kernel_rfl)
                exact b_same hi hI (guard_ok rfl rfl rfl fg) _ (run_move_op rfl e3) rfl
              · intro a W hI hun haft hi
                have fg : a.eval (.tmp 150) = .bool false := haft ⟨6, .guard⟩ (by simp) rfl _ _ rfl rfl
                have f7 : a.eval (.tmp 151) = .pointer (some ⟨g, 0, none⟩) := haft ⟨7, .data⟩ (by simp) rfl _ _ rfl rfl
                refine b_call hi hI (guard_ok rfl rfl rfl fg) _ _ (run_call_op (args := #[.pointer (some ⟨g, 0, none⟩)]) rfl (by simp [f7]) (by kernel_rfl)) ?_
                exact (dsynced_step g v6 L6 s6 W (P6.out.below hI).dk).mono fun e' w' H => ⟨_, H.1, rfl, H.2⟩
              · intro a W hI hun haft hi
                have fg : a.eval (.tmp 150) = .bool false := haft ⟨6, .guard⟩ (by simp) rfl _ _ rfl rfl
                have e5 : a.eval (.tmp 5) = .int .i64 s6 := hun 5 (by kernel_rfl)
                exact b_same hi hI (guard_ok rfl rfl rfl fg) _ (run_move_op rfl e5) rfl
              · intro a W hI hun haft hi
                have fg : a.eval (.tmp 150) = .bool false := haft ⟨6, .guard⟩ (by simp) rfl _ _ rfl rfl
                have f8 : a.eval (.tmp 152) = .int .i64 s6 := haft ⟨8, .data⟩ (by simp) rfl _ _ rfl rfl
                have f9 : a.eval (.tmp 153) = .int .i64 s6 := haft ⟨9, .data⟩ (by simp) rfl _ _ rfl rfl
                exact b_same hi hI (guard_ok rfl rfl rfl fg) (.bool false) (run_bin_op rfl f8 f9 (by go_simp) (run_nei (by simp) _)) rfl
              · intro a W hI hun haft hi
                have f6 : a.eval (.tmp 150) = .bool false := haft ⟨6, .data⟩ (by simp) rfl _ _ rfl rfl
                have f10 : a.eval (.tmp 154) = .bool false := haft ⟨10, .data⟩ (by simp) rfl _ _ rfl rfl
                exact b_same hi hI rfl _ (run_pick_op (b := false) rfl f6 rfl f10) rfl
            · intro vals W hI hp
              have hl11 : vals 11 = .bool false := hp 11 (by decide)
              have HI := Lib.hid hI
              clear hp hI
              simp only [layN, List.size_toArray, List.length_cons, List.length_nil, List.range, List.range.loop, if_true, List.getElem?_toArray, List.getElem?_cons_zero, List.getElem?_cons_succ, Act.put, List.setIfInBounds_toArray, List.set_cons_zero, List.set_cons_succ, Nat.zero_add, Nat.reduceAdd, hl11]
              clear hl11
              have P7 := Lib.hid (P6.out.below HI.out)
              clear HI
              go_wp2
              go_roundw
              case rel => exact ⟨j + 1, _, L6, s6, HLT.out, by go_num, rfl, P7.out, HL6.out⟩
              case measure => have := HLT.out; simp [intOf]; omega
      · have hjj : j = l.length := by omega
        obtain ⟨A4, c4, hu4⟩ := own_form hpl.2.1
        subst hu4
        have hL1 := Lib.hid (show L.length ≤ 24000 by omega)
        subst hjj
        clear hln hpl
        go_wp2_with fail
        refine (dtwin_any g vf L s wo HP.out.dk).mono ?_
        rintro e w5 ⟨h, x5, rfl, hd5, hh, hx5, hb5⟩
        have P5 := Lib.hid (HP.out.below hb5)
        have T5 := Lib.hid (Dkn.mono (w' := wo) ⟨hd5, hh, hx5, hb5⟩ HP.out.base)
        have HGH := Lib.hid (show g ≠ h from by have := HP.out.dk.lt; omega)
        have AV5 := Lib.hid (show ∀ i, vf.ownBlock = some i → x5.ownBlock ≠ some i from fun i e e' => by have h1 := HP.out.dk.vlt i e; have h2 := hx5 i e'; omega)
        have AU5 := Lib.hid (show ∀ i, (Value.slice A4 L.length c4).ownBlock = some i → x5.ownBlock ≠ some i from fun i e e' => by have h1 := (HP.out.2.1.lt i e).2; have h2 := hx5 i e'; omega)
        clear hd5 hh hx5 hb5
        have PB := Lib.hid (P5.out.below ((Below.refl _ _).alloc (Nat.le_refl _) (.cells #[.int .u8 1] 5)))
        have TB := Lib.hid (T5.out.alloc (.cells #[.int .u8 1] 5))
        go_wp2_with fail
        refine (dwrite_any h x5 _ L [1] s _ TB.out.dk (sl_lit _ [1] #[.int .u8 1] 5 (0, 0) 1 rfl rfl) (by have := hL1.out; simp; omega)).mono ?_
        rintro e w6 ⟨rfl, ht⟩
        obtain ⟨x6, d6, m6⟩ := TB.out.turns ht
        have T6 := Lib.hid d6
        have P6 := Lib.hid (PB.out.far TB.out.dk m6 HGH.out AV5.out AU5.out d6.base)
        have AV6 := Lib.hid (m6.apart PB.out.dk.vlt AV5.out)
        have AU6 := Lib.hid (m6.apart (fun k e => (PB.out.2.1.lt k e).2) AU5.out)
        clear ht d6 m6 P5 T5 PB TB
        go_wp2_with fail
        refine (dspoil_any h x6 _ _ 0 1 w6 T6.out.dk).mono ?_
        rintro e w7 ⟨rfl, hd7, hm7⟩
        have T7 := Lib.hid (T6.out.turn hd7 hm7)
        have P7 := Lib.hid (P6.out.far T6.out.dk hm7 HGH.out AV6.out AU6.out T7.out.base)
        clear hd7 hm7
        go_upto_region 52 with fail
        refine wp_region_any (by kernel_rfl) ?_
        refine wpAny_below (fun i => pOfB (([(some (.pointer (some ⟨g, 0, none⟩)), none), (none, some (L)), (some (.string ⟨(L).toArray⟩), none), (some (.slice A4 L.length c4), none), (some (.string ⟨(L).toArray⟩), none), (some (.bool true), none), (some (.bool true), none), (some (.pointer (some ⟨h, 0, none⟩)), none), (some (.int .i64 s), none), (some (.int .i64 s), none), (some (.bool true), none), (some (.bool true), none), (some (.bool true), none)] : List (Option Value × Option (List UInt8))).getD i (none, none))) _ _ (by kernel_rfl) (by kernel_rfl) (by kernel_rfl) (fun i v w w' => pOfB_stable _ i v w w') ?_ ?_
        · refine ⟨?_, ?_, ?_, ?_, ?_, ?_, ?_, ?_, ?_, ?_, ?_, ?_, ?_, trivial⟩
          · intro a W hI hun haft hi
            have e3 : a.eval (.tmp 3) = .pointer (some ⟨g, 0, none⟩) := hun 3 (by kernel_rfl)
            exact b_same hi hI rfl _ (run_move_op rfl e3) rfl
          · intro a W hI hun haft hi
            have f0 : a.eval (.tmp 164) = .pointer (some ⟨g, 0, none⟩) := haft ⟨0, .data⟩ (by simp) rfl _ _ rfl rfl
            refine b_call hi hI rfl _ _ (run_call_op (args := #[.pointer (some ⟨g, 0, none⟩)]) rfl (by simp [f0]) (by kernel_rfl)) ?_
            exact (dbytes_any g vf L s W (P7.out.below hI).dk).mono fun e' w' H => by
              obtain ⟨v', he, ho, hb⟩ := H
              exact ⟨v', he, Sl.of_own ho, hb⟩
          · intro a W hI hun haft hi
            have f1 : Sl bv W (a.eval (.tmp 165)) (L) := haft ⟨1, .data⟩ (by simp) rfl _ _ rfl rfl
            exact b_same hi hI rfl _ (run_convert_op rfl rfl (bytes_str W _ _ f1)) rfl
          · intro a W hI hun haft hi
            have e4 : a.eval (.tmp 4) = .slice A4 L.length c4 := hun 4 (by kernel_rfl)
            exact b_same hi hI rfl _ (run_move_op rfl e4) rfl
          · intro a W hI hun haft hi
            have f3 : a.eval (.tmp 167) = .slice A4 L.length c4 := haft ⟨3, .data⟩ (by simp) rfl _ _ rfl rfl
            exact b_same hi hI rfl _ (run_convert_op rfl f3 (bytes_str W _ _ (Sl.below (P7.out.row) hI))) rfl
          · intro a W hI hun haft hi
            have f2 : a.eval (.tmp 166) = .string ⟨(L).toArray⟩ := haft ⟨2, .data⟩ (by simp) rfl _ _ rfl rfl
            have f4 : a.eval (.tmp 168) = .string ⟨(L).toArray⟩ := haft ⟨4, .data⟩ (by simp) rfl _ _ rfl rfl
            exact b_same hi hI rfl (.bool true) (run_bin_op rfl f2 f4 (by go_simp) (run_eqs _ _)) rfl
          · intro a W hI hun haft hi
            have f5 : a.eval (.tmp 169) = .bool true := haft ⟨5, .data⟩ (by simp) rfl _ _ rfl rfl
            exact b_same hi hI rfl _ (run_move_op rfl f5) rfl
          · intro a W hI hun haft hi
            have fg : a.eval (.tmp 170) = .bool true := haft ⟨6, .guard⟩ (by simp) rfl _ _ rfl rfl
            have e12 : a.eval (.tmp 12) = .pointer (some ⟨h, 0, none⟩) := hun 12 (by kernel_rfl)
            exact b_same hi hI (guard_ok rfl rfl rfl fg) _ (run_move_op rfl e12) rfl
          · intro a W hI hun haft hi
            have fg : a.eval (.tmp 170) = .bool true := haft ⟨6, .guard⟩ (by simp) rfl _ _ rfl rfl
            have f7 : a.eval (.tmp 171) = .pointer (some ⟨h, 0, none⟩) := haft ⟨7, .data⟩ (by simp) rfl _ _ rfl rfl
            refine b_call hi hI (guard_ok rfl rfl rfl fg) _ _ (run_call_op (args := #[.pointer (some ⟨h, 0, none⟩)]) rfl (by simp [f7]) (by kernel_rfl)) ?_
            exact (dsynced_step h x6 _ s W (T7.out.below hI).dk).mono fun e' w' H => ⟨_, H.1, rfl, H.2⟩
          · intro a W hI hun haft hi
            have fg : a.eval (.tmp 170) = .bool true := haft ⟨6, .guard⟩ (by simp) rfl _ _ rfl rfl
            have e5 : a.eval (.tmp 5) = .int .i64 s := hun 5 (by kernel_rfl)
            exact b_same hi hI (guard_ok rfl rfl rfl fg) _ (run_move_op rfl e5) rfl
          · intro a W hI hun haft hi
            have fg : a.eval (.tmp 170) = .bool true := haft ⟨6, .guard⟩ (by simp) rfl _ _ rfl rfl
            have f8 : a.eval (.tmp 172) = .int .i64 s := haft ⟨8, .data⟩ (by simp) rfl _ _ rfl rfl
            have f9 : a.eval (.tmp 173) = .int .i64 s := haft ⟨9, .data⟩ (by simp) rfl _ _ rfl rfl
            exact b_same hi hI (guard_ok rfl rfl rfl fg) (.bool true) (run_bin_op rfl f8 f9 (by go_simp) (run_eqi (beq_self_eq_true _) _)) rfl
          · intro a W hI hun haft hi
            have f6 : a.eval (.tmp 170) = .bool true := haft ⟨6, .data⟩ (by simp) rfl _ _ rfl rfl
            have f10 : a.eval (.tmp 174) = .bool true := haft ⟨10, .data⟩ (by simp) rfl _ _ rfl rfl
            exact b_same hi hI rfl _ (run_pick_op (b := true) rfl f6 f10 rfl) rfl
          · intro a W hI hun haft hi
            have f11 : a.eval (.tmp 175) = .bool true := haft ⟨11, .data⟩ (by simp) rfl _ _ rfl rfl
            exact b_same hi hI rfl _ (run_assign_op rfl f11) rfl
        · intro vals W hI hp
          have hl12 : vals 12 = .bool true := hp 12 (by decide)
          have HI := Lib.hid hI
          clear hp hI
          simp only [layN, List.size_toArray, List.length_cons, List.length_nil, List.range, List.range.loop, if_true, List.getElem?_toArray, List.getElem?_cons_zero, List.getElem?_cons_succ, Act.put, List.setIfInBounds_toArray, List.set_cons_zero, List.set_cons_succ, Nat.zero_add, Nat.reduceAdd, hl12]
          clear hl12
          go_wp2
          go_ret
          exact ⟨rfl, (P7.out.below HI.out).base⟩

end Go.Proofs.Ytcaechfmeiklkaa
