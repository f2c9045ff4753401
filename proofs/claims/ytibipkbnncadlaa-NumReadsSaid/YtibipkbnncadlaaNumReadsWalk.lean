/-
  hedgerowlaw02.NumReads: the walk: for all bytes and rows of acts the call returns true, and nothing that was there has turned. Conditions: bounds on lengths.
-/
import Derived.Test.YtibipkbnncadlaaNumFixed
import Derived.Test.YtibipkbnncadlaaNumRefReader
import Derived.Deep.RegionHeld3
import Derived.Deep.DeepCutAuto
import Derived.Deep.QuietTactic
import Derived.BigQuiet
namespace Go.Proofs.Ytibipkbnncadlaa
open Go.RowKit

theorem quiet_same {P : Program} {f : FuncId} {args : Array Value} {w : World} {n : Nat} {v : Value} (h : Calls P f args (w.drewN n) (Same (w.drewN n) v)) :
    Calls P f args (w.drewN n) fun e w'' => e = .returned v ∧ ∃ m, w'' = w.drewN m := h.mono fun _ _ ⟨he, hw⟩ => ⟨he, n, hw.symm⟩
theorem Rd.drewN {w : World} {g : Nat} {s : List UInt8 × Bool} (h : Rd w g s) (n : Nat) : Rd (w.drewN n) g s := h
theorem Rr.drewN {w : World} {B g : Nat} {s : List UInt8 × Bool} (h : Rr w B g s) (n : Nat) : Rr (w.drewN n) B g s := h
theorem done_len (l : List UInt8) : ((l.length : Int) == 0) = rDone (l, false) := by
  cases l with
  | nil => rfl
  | cons a t => simp [rDone]; omega

theorem below_drewN {B : Nat} {a w : World} (h : Below B a w) (n : Nat) : Below B a (w.drewN n) := ⟨h.os, h.tape, h.output, h.size, h.block⟩

set_option maxHeartbeats 8000000 in
set_option maxRecDepth 100000 in
theorem reads_walk (v : Value) (l : List UInt8) (A2 : Option Addr) (c2 : Nat) (zs : List (Nat × Int)) (w : World) (h : Sl bv w v l)
    (hz : ∀ k, k < zs.length → ∃ b o, A2 = some ⟨b, o, none⟩ ∧ b < w.heap.size ∧ ∀ j z, zs[j]? = some z → w.cell? ⟨b, o + j * 2, none⟩ = some (.int .u8 z.1) ∧ w.cell? ⟨b, o + j * 2 + 1, none⟩ = some (.int .i64 z.2) ∧ z.1 < 256) :
    Calls Try.prog 4 #[v, .slice A2 zs.length c2] w (Law w) := by
  have hfx := fixed_any w
  have HFX := Lib.hid hfx; clear hfx
  have hf0 := h.form
  obtain ⟨A, c, rfl⟩ := hf0
  by_cases h1 : 200 < l.length
  · go_enter Try.func4, Try.ntmps4
    go_wp2_with fail
    refine HFX.out.mono ?_
    rintro e w1 ⟨rfl, hb1⟩
    go_wp2
    go_ret
    exact ⟨rfl, hb1⟩
  by_cases h2 : 60 < zs.length
  · go_enter Try.func4, Try.ntmps4
    go_wp2_with fail
    refine HFX.out.mono ?_
    rintro e w1 ⟨rfl, hb1⟩
    go_wp2
    go_ret
    exact ⟨rfl, hb1⟩
  have hlen : l.length ≤ 140737488350000 := by omega
  go_enter Try.func4, Try.ntmps4
  go_wp2_with fail
  refine HFX.out.mono ?_
  rintro e w1 ⟨rfl, hb1⟩
  have hl1 := h.below hb1
  go_wp2_with fail
  refine (read_any _ _ w1 hl1 (by omega)).mono ?_
  rintro e w2 ⟨rfl, r2, hb2⟩
  have hl2 := hl1.below hb2
  have hbb := hb1.trans (hb2.mono hb1.size)
  have hg1 := hb1.size
  have hg2 := r2.lt
  clear hl1 hb2
  generalize w1.heap.size = g1 at *
  have hr0 : Rr (w2.alloc (.cells #[.slice A l.length c, .bool false] 35)) w.heap.size w2.heap.size (l, false) := by
    obtain ⟨A', c', hv, hlc, hx⟩ := h
    injection hv with e1 e2 e3
    subst e1 e3
    refine ⟨A, c, hlc, by omega, hlen, fun hn => ?_, Blk.new w2 _ _⟩
    obtain ⟨b, o, hA, hbw, hc⟩ := hx hn
    refine ⟨b, o, hA, hbw, fun j u hu => ?_⟩
    have hB : Below w.heap.size w (w2.alloc (.cells #[.slice A l.length c, .bool false] 35)) := hbb.alloc hbb.size _
    exact (hB.cell (p := ⟨b, o + j, none⟩) hbw).trans (hc j u hu)
  have hr1 := r2.below ((Below.refl _ _).alloc (Nat.le_refl _) (.cells #[.slice A l.length c, .bool false] 35))
  have hb3 : Below w.heap.size w (w2.alloc (.cells #[.slice A l.length c, .bool false] 35)) := hbb.alloc hbb.size _
  have hne : g1 ≠ w2.heap.size := by omega
  have hgB : w.heap.size ≤ w2.heap.size := by omega
  have HH := Lib.hid h
  clear hl2 hbb h r2 hb1 hg2
  go_wp2
  generalize w2.heap.size = g2 at *
  go_loopw [27] (fun i wr => ∃ (k : Nat) (s : List UInt8 × Bool), k ≤ zs.length ∧ i = .int .i64 k ∧ Rd wr g1 s ∧ Rr wr w.heap.size g2 s ∧ Below w.heap.size w wr) (fun i _ => zs.length - (intOf i).toNat)
  case atStart => exact ⟨0, (l, false), by omega, rfl, hr1, hr0, hb3⟩
  case round =>
    clear hr0 hr1 hb3
    obtain ⟨k, s, hk, rfl, hrd, hrr, hb⟩ := hrel
    by_cases hlt : k < zs.length
    · obtain ⟨b, o, rfl, hbw, hc⟩ := hz k hlt
      obtain ⟨z1, z2, z3⟩ := hc k zs[k] (List.getElem?_eq_getElem hlt)
      have z1' := (hb.cell (p := ⟨b, o + k * 2, none⟩) hbw).trans z1
      have z2' := (hb.cell (p := ⟨b, o + k * 2 + 1, none⟩) hbw).trans z2
      clear z1 z2 hc hz
      generalize zs[k] = z at *
      obtain ⟨kd, m⟩ := z
      simp only at z1' z2' z3
      have hkd : kd % 3 = 0 ∨ kd % 3 = 1 ∨ kd % 3 = 2 := by omega
      have hrdW := hrd.below ((Below.refl _ _).alloc (Nat.le_refl _) (.cells #[.int .u8 kd, .int .i64 m] 37))
      have hrrW := hrr.below ((Below.refl _ _).alloc (Nat.le_refl _) (.cells #[.int .u8 kd, .int .i64 m] 37))
      have hbW : Below w.heap.size w (wr.alloc (.cells #[.int .u8 kd, .int .i64 m] 37)) := hb.alloc hb.size _
      have ga1 : wr.heap.size ≠ g1 := by have := hrd.lt; omega
      have ga2 : wr.heap.size ≠ g2 := by have := hrr.lt; omega
      have gaB : Blk (wr.alloc (.cells #[.int .u8 kd, .int .i64 m] 37)) wr.heap.size 37 #[.int .u8 kd, .int .i64 m] := Blk.new wr _ _
      have HB := Lib.hid gaB
      clear gaB hrd hrr hb
      rcases hkd with h3 | h3 | h3
      · go_wp2_with fail
        generalize wr.alloc (.cells #[.int .u8 kd, .int .i64 m] 37) = W at *
        generalize wr.heap.size = ga at *
        have gcm := HB.out.cell 1
        simp at gcm
        have hrdD : Rd W.drew g1 s := hrdW
        have hrrD : Rr W.drew w.heap.size g2 s := hrrW
        have hbD : Below w.heap.size w W.drew := hbW.drew
        have HBD : Hid (Blk W.drew ga 37 #[.int .u8 kd, .int .i64 m]) := HB
        clear hrdW hrrW hbW HB
        go_region_held3 (fun W' => W'.cell? ⟨ga, 1, none⟩ = some (.int .i64 m)) (first | assumption | (simp [*]; done)) (first
          | (go_at_call 15; refine (num_any g1 s m _ hrdD).mono ?_; rintro e w4 ⟨rfl, rd4, bt4⟩; have c4 := ((bt4.blk HBD.out ga1).cell 1); simp at c4)
          | (go_at_call 19; refine (refnum_any w.heap.size g2 s m _ (hrrD.but bt4 (by omega) (by omega))).mono ?_; rintro e w5 ⟨rfl, rr5, bt5⟩; have c5 := ((bt5.blk (bt4.blk HBD.out ga1) ga2).cell 1); simp at c5))
        have rd5 : Rd w5 g1 (rNum s m).2 := rd4.but bt5 (by omega)
        have hb4 := hbD.trans (bt4.below (by omega) hbD.size)
        have hb5 := hb4.trans (bt5.below (by omega) hb4.size)
        clear rd4 bt4 bt5 hbD hb4 hrdD hrrD
        generalize (rNum s m).2 = s1 at *
        obtain ⟨A5, c5, hblk, hlc5, hsl5, hlen5⟩ := rr5.sl
        have c50 := hblk.cell 0
        have c51 := hblk.cell 1
        simp at c50 c51
        have HRD := Lib.hid rd5
        have HRR := Lib.hid rr5
        clear hsl5 hblk rd5 rr5 HBD
        obtain ⟨l1, f1⟩ := s1
        simp only at c50 c51 hlc5 hlen5
        cases f1
        · have hD := done_len l1
          go_wp2_with fail
          go_quiet ((first
            | (go_at_call 22; exact quiet_same (left_any g1 (l1, false) _ (HRD.out.drewN _)))
            | (go_at_call 23; exact quiet_same (refleft_any w.heap.size g2 (l1, false) _ (HRR.out.drewN _)))
            | (go_at_call 24; exact quiet_same (fail_any g1 (l1, false) _ (HRD.out.drewN _)))
            | (go_at_call 18; exact quiet_same (done_any g1 (l1, false) _ (HRD.out.drewN _)))))
          go_wp2
          go_roundw
          case rel => exact ⟨k + 1, (l1, false), by omega, by go_num, HRD.out.drewN _, HRR.out.drewN _, below_drewN hb5 _⟩
          case measure => simp [intOf]; omega
        · skip
          go_wp2_with fail
          go_quiet ((first
            | (go_at_call 22; exact quiet_same (left_any g1 (l1, true) _ (HRD.out.drewN _)))
            | (go_at_call 23; exact quiet_same (refleft_any w.heap.size g2 (l1, true) _ (HRR.out.drewN _)))
            | (go_at_call 24; exact quiet_same (fail_any g1 (l1, true) _ (HRD.out.drewN _)))
            | (go_at_call 18; exact quiet_same (done_any g1 (l1, true) _ (HRD.out.drewN _)))))
          go_wp2
          go_roundw
          case rel => exact ⟨k + 1, (l1, true), by omega, by go_num, HRD.out.drewN _, HRR.out.drewN _, below_drewN hb5 _⟩
          case measure => simp [intOf]; omega
      · go_wp2_with fail
        generalize wr.alloc (.cells #[.int .u8 kd, .int .i64 m] 37) = W at *
        generalize wr.heap.size = ga at *
        have gcm := HB.out.cell 1
        simp at gcm
        have hrdD : Rd W g1 s := hrdW
        have hrrD : Rr W w.heap.size g2 s := hrrW
        have hbD : Below w.heap.size w W := hbW
        have HBD : Hid (Blk W ga 37 #[.int .u8 kd, .int .i64 m]) := HB
        clear hrdW hrrW hbW HB
        refine (sig_any g1 s _ hrdD).mono ?_
        rintro e w4 ⟨rfl, rd4, bt4⟩
        go_wp2_with fail
        refine (refrsig_any w.heap.size g2 s _ (hrrD.but bt4 (by omega) (by omega))).mono ?_
        rintro e w5 ⟨rfl, rr5, bt5⟩
        have rd5 : Rd w5 g1 (rSig s).2 := rd4.but bt5 (by omega)
        have hb4 := hbD.trans (bt4.below (by omega) hbD.size)
        have hb5 := hb4.trans (bt5.below (by omega) hb4.size)
        clear rd4 bt4 bt5 hbD hb4 hrdD hrrD
        generalize (rSig s).2 = s1 at *
        obtain ⟨A5, c5, hblk, hlc5, hsl5, hlen5⟩ := rr5.sl
        have c50 := hblk.cell 0
        have c51 := hblk.cell 1
        simp at c50 c51
        have HRD := Lib.hid rd5
        have HRR := Lib.hid rr5
        clear hsl5 hblk rd5 rr5 HBD
        obtain ⟨l1, f1⟩ := s1
        simp only at c50 c51 hlc5 hlen5
        cases f1
        · have hD := done_len l1
          go_wp2_with fail
          go_quiet ((first
            | (go_at_call 22; exact quiet_same (left_any g1 (l1, false) _ (HRD.out.drewN _)))
            | (go_at_call 23; exact quiet_same (refleft_any w.heap.size g2 (l1, false) _ (HRR.out.drewN _)))
            | (go_at_call 24; exact quiet_same (fail_any g1 (l1, false) _ (HRD.out.drewN _)))
            | (go_at_call 18; exact quiet_same (done_any g1 (l1, false) _ (HRD.out.drewN _)))))
          go_wp2
          go_roundw
          case rel => exact ⟨k + 1, (l1, false), by omega, by go_num, HRD.out.drewN _, HRR.out.drewN _, below_drewN hb5 _⟩
          case measure => simp [intOf]; omega
        · skip
          go_wp2_with fail
          go_quiet ((first
            | (go_at_call 22; exact quiet_same (left_any g1 (l1, true) _ (HRD.out.drewN _)))
            | (go_at_call 23; exact quiet_same (refleft_any w.heap.size g2 (l1, true) _ (HRR.out.drewN _)))
            | (go_at_call 24; exact quiet_same (fail_any g1 (l1, true) _ (HRD.out.drewN _)))
            | (go_at_call 18; exact quiet_same (done_any g1 (l1, true) _ (HRD.out.drewN _)))))
          go_wp2
          go_roundw
          case rel => exact ⟨k + 1, (l1, true), by omega, by go_num, HRD.out.drewN _, HRR.out.drewN _, below_drewN hb5 _⟩
          case measure => simp [intOf]; omega
      · go_wp2_with fail
        generalize wr.alloc (.cells #[.int .u8 kd, .int .i64 m] 37) = W at *
        generalize wr.heap.size = ga at *
        have gcm := HB.out.cell 1
        simp at gcm
        have hrdD : Rd W.drew g1 s := hrdW
        have hrrD : Rr W.drew w.heap.size g2 s := hrrW
        have hbD : Below w.heap.size w W.drew := hbW.drew
        have HBD : Hid (Blk W.drew ga 37 #[.int .u8 kd, .int .i64 m]) := HB
        clear hrdW hrrW hbW HB
        go_region_held3 (fun W' => W'.cell? ⟨ga, 1, none⟩ = some (.int .i64 m)) (first | assumption | (simp [*]; done)) (first
          | (go_at_call 17; refine (rtext_any g1 s m _ hrdD).mono ?_; rintro e w4 ⟨x4, e4, rfl, rd4, bt4⟩; obtain rfl := str_eq e4; clear e4; have c4 := ((bt4.blk HBD.out ga1).cell 1); simp at c4)
          | (go_at_call 21; refine (refrtext_any w.heap.size g2 s m _ (hrrD.but bt4 (by omega) (by omega))).mono ?_; rintro e w5 ⟨x5, e5, rfl, rr5, bt5⟩; obtain rfl := str_eq e5; clear e5; have c5 := ((bt5.blk (bt4.blk HBD.out ga1) ga2).cell 1); simp at c5))
        have rd5 : Rd w5 g1 (rText s m).2 := rd4.but bt5 (by omega)
        have hb4 := hbD.trans (bt4.below (by omega) hbD.size)
        have hb5 := hb4.trans (bt5.below (by omega) hb4.size)
        clear rd4 bt4 bt5 hbD hb4 hrdD hrrD
        generalize (rText s m).2 = s1 at *
        obtain ⟨A5, c5, hblk, hlc5, hsl5, hlen5⟩ := rr5.sl
        have c50 := hblk.cell 0
        have c51 := hblk.cell 1
        simp at c50 c51
        have HRD := Lib.hid rd5
        have HRR := Lib.hid rr5
        clear hsl5 hblk rd5 rr5 HBD
        obtain ⟨l1, f1⟩ := s1
        simp only at c50 c51 hlc5 hlen5
        cases f1
        · have hD := done_len l1
          go_wp2_with fail
          go_quiet ((first
            | (go_at_call 22; exact quiet_same (left_any g1 (l1, false) _ (HRD.out.drewN _)))
            | (go_at_call 23; exact quiet_same (refleft_any w.heap.size g2 (l1, false) _ (HRR.out.drewN _)))
            | (go_at_call 24; exact quiet_same (fail_any g1 (l1, false) _ (HRD.out.drewN _)))
            | (go_at_call 18; exact quiet_same (done_any g1 (l1, false) _ (HRD.out.drewN _)))))
          go_wp2
          go_roundw
          case rel => exact ⟨k + 1, (l1, false), by omega, by go_num, HRD.out.drewN _, HRR.out.drewN _, below_drewN hb5 _⟩
          case measure => simp [intOf]; omega
        · skip
          go_wp2_with fail
          go_quiet ((first
            | (go_at_call 22; exact quiet_same (left_any g1 (l1, true) _ (HRD.out.drewN _)))
            | (go_at_call 23; exact quiet_same (refleft_any w.heap.size g2 (l1, true) _ (HRR.out.drewN _)))
            | (go_at_call 24; exact quiet_same (fail_any g1 (l1, true) _ (HRD.out.drewN _)))
            | (go_at_call 18; exact quiet_same (done_any g1 (l1, true) _ (HRD.out.drewN _)))))
          go_wp2
          go_roundw
          case rel => exact ⟨k + 1, (l1, true), by omega, by go_num, HRD.out.drewN _, HRR.out.drewN _, below_drewN hb5 _⟩
          case measure => simp [intOf]; omega
    · have hkk : ¬ k < zs.length := hlt
      clear hrd hrr hz
      go_wp2
      go_ret
      exact ⟨rfl, hb⟩

end Go.Proofs.Ytibipkbnncadlaa
