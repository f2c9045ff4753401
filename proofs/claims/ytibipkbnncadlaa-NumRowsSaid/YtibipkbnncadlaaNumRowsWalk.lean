/-
  hedgerowlaw02.NumRows: the walk: for every row of numbers the call returns true, and nothing that was there has turned. Conditions: none.
-/
import Derived.Test.YtibipkbnncadlaaNumFixed
namespace Go.Proofs.Ytibipkbnncadlaa
open Go.RowKit

def iv (n : Int) : Value := .int .i64 n
/-- What is laid of a row: each number's rest, signed. -/
def encs (zs : List Int) : List UInt8 := zs.flatMap fun n => sigB (n.tmod 576460752303423488)
theorem encs_snoc (zs : List Int) (k : Nat) (h : k < zs.length) : encs (zs.take (k + 1)) = encs (zs.take k) ++ sigB (zs[k].tmod 576460752303423488) := by
  unfold encs
  rw [List.take_succ_eq_append_getElem h, List.flatMap_append]; simp
theorem encs_len (zs : List Int) : (encs zs).length ≤ 9 * zs.length := by
  induction zs with
  | nil => simp [encs]
  | cons z zs ih =>
    have := sigB_len (z.tmod 576460752303423488)
    have e : encs (z :: zs) = sigB (z.tmod 576460752303423488) ++ encs zs := by simp [encs]
    rw [e, List.length_append, List.length_cons]; omega
theorem tmod_rng (n : Int) : -576460752303423488 < n.tmod 576460752303423488 ∧ n.tmod 576460752303423488 < 576460752303423488 := by
  constructor
  · rcases Int.lt_or_le n 0 with h | h
    · have := Int.neg_tmod (-n) 576460752303423488
      rw [Int.neg_neg] at this
      rw [this, Int.tmod_eq_emod_of_nonneg (by omega)]
      omega
    · rw [Int.tmod_eq_emod_of_nonneg h]; omega
  · rcases Int.lt_or_le n 0 with h | h
    · have := Int.neg_tmod (-n) 576460752303423488
      rw [Int.neg_neg] at this
      rw [this, Int.tmod_eq_emod_of_nonneg (by omega)]
      omega
    · rw [Int.tmod_eq_emod_of_nonneg h]; omega
theorem encs_drop (zs : List Int) (k : Nat) (h : k < zs.length) : rSig (encs (zs.drop k), false) = (zs[k].tmod 576460752303423488, (encs (zs.drop (k + 1)), false)) := by
  have e : encs (zs.drop k) = sigB (zs[k].tmod 576460752303423488) ++ encs (zs.drop (k + 1)) := by
    rw [List.drop_eq_getElem_cons h]; simp only [encs, List.flatMap_cons]
  have := tmod_rng zs[k]
  rw [e]; exact rSig_put _ _ (by omega) (by omega)
theorem rNum_end (most : Int) : rNum ([], false) most = (0, ([], true)) := rfl


set_option maxHeartbeats 2000000 in
theorem rows_walk (v : Value) (zs : List Int) (w : World) (h : Sl iv w v zs) (hlen : zs.length ≤ 140737488355328) : Calls Try.prog 6 #[v] w (Law w) := by
  have hfx := fixed_any w
  have HFX := Lib.hid hfx; clear hfx
  obtain ⟨A, c, rfl, _, hcell⟩ := h.at_
  by_cases h1 : 60 < zs.length
  · go_enter Try.func6, Try.ntmps6
    go_wp2_with fail
    refine HFX.out.mono ?_
    rintro e w1 ⟨rfl, hb1⟩
    go_wp2
    go_ret
    exact ⟨rfl, hb1⟩
  · go_enter Try.func6, Try.ntmps6
    go_wp2_with fail
    refine HFX.out.mono ?_
    rintro e w1 ⟨rfl, hb1⟩
    go_wp2
    go_loopw [3, 16] (fun b i wr => ∃ k : Nat, k ≤ zs.length ∧ i = .int .i64 k ∧ Sl bv wr b (encs (zs.take k)) ∧ Below w.heap.size w wr) (fun _ i _ => zs.length - (intOf i).toNat)
    case atStart => exact ⟨0, by omega, rfl, Sl.nil_ _ _, hb1⟩
    case round =>
      obtain ⟨k, hk, rfl, hs, hb⟩ := hrel
      by_cases hlt : k < zs.length
      · obtain ⟨b, o, rfl, hbw, hc⟩ := hcell k hlt
        have hck := (hb.cell (p := ⟨b, o + k, none⟩) hbw).trans (hc k zs[k] (List.getElem?_eq_getElem hlt))
        unfold iv at hck
        have hsn := encs_snoc zs k hlt
        have hle := encs_len (zs.take k)
        have htk : (zs.take k).length ≤ 60 := by rw [List.length_take]; omega
        have HS := Lib.hid hsn
        clear hsn hc hcell
        generalize zs[k] = z at *
        go_wp2_with fail
        refine (signed_any _ _ (z.tmod 576460752303423488) _ hs (by omega)).mono ?_
        rintro e w2 ⟨v2, rfl, ho2, hb2⟩
        have H : Hid (Sl bv w2 v2 (encs (zs.take (k + 1)))) := Lib.hid (by rw [HS.out]; exact Sl.of_own ho2)
        have hb3 := hb.trans (hb2.mono hb.size)
        clear ho2 hb2 hb hs HS
        go_wp2
        go_roundw
        case rel => exact ⟨k + 1, by omega, by go_num, H.out, hb3⟩
        case measure => simp [intOf]; omega
      · have hkk : k = zs.length := by omega
        subst hkk
        rw [List.take_length] at hs
        have hle := encs_len zs
        go_wp2_with fail
        refine (read_any _ _ _ hs (by omega)).mono ?_
        rintro e w2 ⟨rfl, r2, hb2⟩
        have hb3 := hb.trans (hb2.mono hb.size)
        have hg := hb.size
        clear hb hb2 hs hb1
        generalize wr.heap.size = g at *
        go_wp2
        go_loopw [29] (fun i wr => ∃ k : Nat, k ≤ zs.length ∧ i = .int .i64 k ∧ Rd wr g (encs (zs.drop k), false) ∧ Below w.heap.size w wr) (fun i _ => zs.length - (intOf i).toNat)
        case atStart => exact ⟨0, by omega, rfl, r2, hb3⟩
        case round =>
          clear hb3 r2
          obtain ⟨k, hk, rfl, hr, hb⟩ := hrel
          by_cases hlt : k < zs.length
          · obtain ⟨b, o, rfl, hbw, hc⟩ := hcell k hlt
            have hck := (hb.cell (p := ⟨b, o + k, none⟩) hbw).trans (hc k zs[k] (List.getElem?_eq_getElem hlt))
            unfold iv at hck
            have hed := encs_drop zs k hlt
            have HE := Lib.hid hed
            clear hed hc hcell
            generalize zs[k] = z at *
            go_wp2_with fail
            refine (fail_any g _ _ hr).mono ?_
            intro e w' H
            obtain ⟨rfl, rfl⟩ := (H : Same _ (.bool false) e w')
            go_wp2_with fail
            refine (sig_any g _ _ hr).mono ?_
            intro e w3 H
            rw [HE.out] at H
            obtain ⟨rfl, hr3, hb3⟩ := H
            have hb4 := hb.trans (hb3.below hg hb.size)
            clear hb3 hb hr HE
            go_wp2
            go_roundw
            case rel => exact ⟨k + 1, by omega, by go_num, hr3, hb4⟩
            case measure => simp [intOf]; omega
          · have hkk : k = zs.length := by omega
            subst hkk
            rw [List.drop_length] at hr
            go_wp2_with fail
            refine (done_any g ([], false) _ hr).mono ?_
            intro e w' H
            obtain ⟨rfl, rfl⟩ := (H : Same _ (.bool true) e w')
            go_wp2_with fail
            refine (num_any g ([], false) 9 _ hr).mono ?_
            intro e w3 H
            rw [rNum_end] at H
            obtain ⟨rfl, hr3, hb3⟩ := H
            have hb4 := hb.trans (hb3.below hg hb.size)
            clear hb3 hb hr
            go_wp2_with fail
            refine (fail_any g _ _ hr3).mono ?_
            rintro e w' ⟨rfl, rfl⟩
            go_wp2
            go_ret
            exact ⟨rfl, hb4⟩

end Go.Proofs.Ytibipkbnncadlaa
