/-
  lex.first, and what a token's text is (spelt, right, Is): the contracts, by walks. Slices of tokens. Conditions: lengths.
-/
import Derived.Test.YtmmphgapginmjaaGreatDoorLxText
import Derived.Test.YtmmphgapginmjaaGreatDoorSlK
import Derived.Lib.AppendZeros
namespace Go.Proofs.YtmmphgapginmjaaGreatDoor
open Go.RowKit

theorem nameO_pos {l : List UInt8} {t : Lx.Tk} {n : Nat} (h : Lx.nameO l = some (t, n)) : 0 < n := by
  obtain ⟨k1, _, k3⟩ := Lx.nameO_some h
  cases hr : Lx.runL Lx.inNames l with
  | nil => rw [hr] at k1; cases k1
  | cons a b => rw [k3, hr]; simp
theorem numO_pos {l : List UInt8} {t : Lx.Tk} {n : Nat} (h : Lx.numO l = some (t, n)) : 0 < n := by
  obtain ⟨v, k1, _, k3⟩ := Lx.numO_some h
  have := List.length_pos_iff.2 (Lx.parseO_ne k1)
  omega
theorem textO_pos {l : List UInt8} {t : Lx.Tk} {n : Nat} (h : Lx.textO l = some (t, n)) : 0 < n := by
  obtain ⟨v, k1, _, k3⟩ := Lx.textO_some h
  have := List.length_pos_iff.2 (Lx.parseO_ne k1)
  omega

set_option maxRecDepth 100000 in
set_option maxHeartbeats 2000000 in
theorem lfirst_any (s : ByteArray) (w : World) (hw : WOk w) (hs : s.size ≤ 140737488355328) : Calls Tryz.prog 13 #[.string s] w (Gives w (rdV (Lx.firstO s.data.toList))) := by
  have HV : Hid (Lx.firstO s.data.toList = match Lx.nameO s.data.toList with | some x => some x | none => match Lx.numO s.data.toList with | some x => some x | none => match Lx.textO s.data.toList with | some x => some x | none => Lx.signO s.data.toList) := Lib.hid rfl
  have HW := Lib.hid hw
  have H1 := Lib.hid (fun W => lname_any s W hs)
  have H2 := Lib.hid (fun W hW => lnumber_any s W hW hs)
  have H3 := Lib.hid (fun W hW => ltext_any s W hW hs)
  have H4 := Lib.hid (fun W => lsign_any s W)
  clear hw hs
  cases h1 : Lx.nameO s.data.toList with
  | some x =>
    obtain ⟨t, n⟩ := x
    have hn := nameO_pos h1
    have HF := Lib.hid (show Value.tuple #[tkV t, .int .i64 (n : Nat)] = rdV (Lx.firstO s.data.toList) by rw [HV.out, h1]; rfl)
    rw [h1] at H1
    clear h1 HV H2 H3 H4
    obtain ⟨tk, tn, tt⟩ := t
    go_enter Tryz.func13, Tryz.ntmps13
    go_wp2_with fail
    refine (H1.out _).mono ?_
    rintro e w1 ⟨rfl, hb1⟩
    have k1 := In1.of hb1
    clear hb1
    unfold rdV tkV
    dsimp only
    obtain ⟨c0, c1, c2, f0, f1, f2, hlt⟩ := k1.three
    have hb := k1.below
    go_wp2_with fail
    (try simp only [Exit.inBlock, Exit.then])
    refine bodyPost_ret (ret_cell rfl _ _ _ _ _ _ (.int .i64 (n : Nat)) rfl (set3_alloc_blk k1 _ _ _ _) Tryz.underlying32 rfl infoTk rfl) rfl ?_
    exact ⟨by rw [← HF.out]; rfl, set3_alloc_below hb _ _ _ _⟩
  | none =>
    rw [h1] at H1 HV
    clear h1
    cases h2 : Lx.numO s.data.toList with
    | some x =>
      obtain ⟨t, n⟩ := x
      have hn := numO_pos h2
      have HF := Lib.hid (show Value.tuple #[tkV t, .int .i64 (n : Nat)] = rdV (Lx.firstO s.data.toList) by rw [HV.out, h2]; rfl)
      rw [h2] at H2
      clear h2 HV H3 H4
      obtain ⟨tk, tn, tt⟩ := t
      go_enter Tryz.func13, Tryz.ntmps13
      go_wp2_with fail
      refine (H1.out _).mono ?_
      rintro e w1 ⟨rfl, hb1⟩
      have k1 := (In1.of hb1).then_ (alloc_below w1 (.cells #[.int .i64 0, .int .i64 0, .string ⟨#[]⟩] 32))
      clear hb1
      unfold rdV tkV
      dsimp only
      go_wp2_with fail
      refine (H2.out _ (HW.out.below k1.below)).mono ?_
      rintro e w2 ⟨rfl, hb2⟩
      have k2 := k1.then_ hb2
      clear hb2 k1
      unfold rdV tkV
      dsimp only
      obtain ⟨c0, c1, c2, f0, f1, f2, hlt⟩ := k2.three
      have hb := k2.below
      go_wp2_with fail
      (try simp only [Exit.inBlock, Exit.then])
      refine bodyPost_ret (ret_cell rfl _ _ _ _ _ _ (.int .i64 (n : Nat)) rfl (set3_alloc_blk k2 _ _ _ _) Tryz.underlying32 rfl infoTk rfl) rfl ?_
      exact ⟨by rw [← HF.out]; rfl, set3_alloc_below hb _ _ _ _⟩
    | none =>
      rw [h2] at H2 HV
      clear h2
      cases h3 : Lx.textO s.data.toList with
      | some x =>
        obtain ⟨t, n⟩ := x
        have hn := textO_pos h3
        have HF := Lib.hid (show Value.tuple #[tkV t, .int .i64 (n : Nat)] = rdV (Lx.firstO s.data.toList) by rw [HV.out, h3]; rfl)
        rw [h3] at H3
        clear h3 HV H4
        obtain ⟨tk, tn, tt⟩ := t
        go_enter Tryz.func13, Tryz.ntmps13
        go_wp2_with fail
        refine (H1.out _).mono ?_
        rintro e w1 ⟨rfl, hb1⟩
        have k1 := (In1.of hb1).then_ (alloc_below w1 (.cells #[.int .i64 0, .int .i64 0, .string ⟨#[]⟩] 32))
        clear hb1
        unfold rdV tkV
        dsimp only
        go_wp2_with fail
        refine (H2.out _ (HW.out.below k1.below)).mono ?_
        rintro e w2 ⟨rfl, hb2⟩
        have k2 := (k1.then_ hb2).then_ (alloc_below w2 (.cells #[.int .i64 0, .int .i64 0, .string ⟨#[]⟩] 32))
        clear hb2 k1
        unfold rdV tkV
        dsimp only
        go_wp2_with fail
        refine (H3.out _ (HW.out.below k2.below)).mono ?_
        rintro e w3 ⟨rfl, hb3⟩
        have k3 := k2.then_ hb3
        clear hb3 k2
        unfold rdV tkV
        dsimp only
        obtain ⟨c0, c1, c2, f0, f1, f2, hlt⟩ := k3.three
        have hb := k3.below
        go_wp2_with fail
        (try simp only [Exit.inBlock, Exit.then])
        refine bodyPost_ret (ret_cell rfl _ _ _ _ _ _ (.int .i64 (n : Nat)) rfl (set3_alloc_blk k3 _ _ _ _) Tryz.underlying32 rfl infoTk rfl) rfl ?_
        exact ⟨by rw [← HF.out]; rfl, set3_alloc_below hb _ _ _ _⟩
      | none =>
        rw [h3] at H3 HV
        clear h3
        obtain ⟨t, n, ht⟩ : ∃ (t : Lx.Tk) (n : Nat), rdV (Lx.signO s.data.toList) = .tuple #[tkV t, .int .i64 (n : Nat)] := by
          cases h4 : Lx.signO s.data.toList with
          | none => exact ⟨(0, 0, []), 0, rfl⟩
          | some x => obtain ⟨t, n⟩ := x; exact ⟨t, n, rfl⟩
        have HF := Lib.hid (show Value.tuple #[tkV t, .int .i64 (n : Nat)] = rdV (Lx.firstO s.data.toList) by rw [HV.out, ← ht])
        rw [ht] at H4
        clear ht HV
        obtain ⟨tk, tn, tt⟩ := t
        go_enter Tryz.func13, Tryz.ntmps13
        go_wp2_with fail
        refine (H1.out _).mono ?_
        rintro e w1 ⟨rfl, hb1⟩
        have k1 := (In1.of hb1).then_ (alloc_below w1 (.cells #[.int .i64 0, .int .i64 0, .string ⟨#[]⟩] 32))
        clear hb1
        unfold rdV tkV
        dsimp only
        go_wp2_with fail
        refine (H2.out _ (HW.out.below k1.below)).mono ?_
        rintro e w2 ⟨rfl, hb2⟩
        have k2 := (k1.then_ hb2).then_ (alloc_below w2 (.cells #[.int .i64 0, .int .i64 0, .string ⟨#[]⟩] 32))
        clear hb2 k1
        unfold rdV tkV
        dsimp only
        go_wp2_with fail
        refine (H3.out _ (HW.out.below k2.below)).mono ?_
        rintro e w3 ⟨rfl, hb3⟩
        have k3 := (k2.then_ hb3).then_ (alloc_below w3 (.cells #[.int .i64 0, .int .i64 0, .string ⟨#[]⟩] 32))
        clear hb3 k2
        unfold rdV tkV
        dsimp only
        go_wp2_with fail
        refine (H4.out _).mono ?_
        rintro e w4 ⟨rfl, hb4⟩
        have k4 := k3.then_ hb4
        clear hb4 k3
        unfold tkV
        obtain ⟨c0, c1, c2, f0, f1, f2, hlt⟩ := k4.three
        have hb := k4.below
        go_wp2_with fail
        (try simp only [Exit.inBlock, Exit.then])
        refine bodyPost_ret (ret_cell rfl _ _ _ _ _ _ (.int .i64 (n : Nat)) rfl (set3_blk k4 _ _ _) Tryz.underlying32 rfl infoTk rfl) rfl ?_
        exact ⟨by rw [← HF.out]; rfl, set3_below hb _ _ _⟩

end Go.Proofs.YtmmphgapginmjaaGreatDoor

namespace Go.Proofs.YtmmphgapginmjaaGreatDoor
open Go.RowKit

def encT (t : Lx.Tk) : List Value := [.int .i64 t.1, .int .i64 t.2.1, .string ⟨t.2.2.toArray⟩]
theorem encT_len (t : Lx.Tk) : (encT t).length = 3 := rfl
theorem encT_one : ∀ t, ∀ v ∈ encT t, v.oneCell' = true := by
  intro t v hv
  simp only [encT, List.mem_cons, List.not_mem_nil, or_false] at hv
  rcases hv with rfl | rfl | rfl <;> rfl
theorem infoTkA : (Tryz.prog.info? 32).map (fun i => (i.zero, i.size, i.bytes)) = some (some (tkV (0, 0, [])), 3, 32) := by kernel_rfl
theorem infoTkK : ∃ i, Tryz.prog.info? 32 = some i ∧ i.zero = some (tkV (0, 0, [])) ∧ i.size = 3 ∧ i.bytes = 32 := info_parts infoTkA
theorem SlK.tk {w : World} {A : Option Addr} {n c j : Nat} {l : List Lx.Tk} {t : Lx.Tk} (h : SlK encT 3 w (.slice A n c) l) (hj : l[j]? = some t) : ∃ g o, A = some ⟨g, o, none⟩ ∧ g < w.heap.size ∧ w.rangeAt g (o + j * 3) (encT t) := by
  obtain ⟨A', c', hv', _, hcells⟩ := h
  obtain ⟨g, o, rfl, hgl, hcell⟩ := hcells (fun e => by rw [e] at hj; cases hj)
  injection hv' with e1 e2 e3
  exact ⟨g, o, e1, hgl, hcell j t hj⟩
section
variable {α : Type} {enc : α → List Value} {k : Nat} {w w' : World} {v : Value} {l : List α} {base : Nat} {e : TypeId}
theorem OwnK.keep (h : OwnK enc base e k w v l) (hb : Below w.heap.size w w') : OwnK enc base e k w' v l := h.same fun g hg => hb.block g (h.lt g hg).2
theorem OwnK.base_ (h : OwnK enc base e k w v l) {b' : Nat} (hb : b' ≤ base) : OwnK enc b' e k w v l := by
  refine ⟨h.1, ?_⟩
  rcases h.2 with h2 | ⟨g, cap, cur, h3, h4, h5⟩
  · exact .inl h2
  · exact .inr ⟨g, cap, cur, h3, Nat.le_trans hb h4, h5⟩
end
theorem append_tk (R : Nat) (w : World) (v : Value) (xs : List Lx.Tk) (hown : OwnK encT R 32 3 w v xs) (v2 : Value) (l : List Lx.Tk) (hl : SlK encT 3 w v2 l) (hn : xs.length + l.length ≤ 1000000) (hR : R ≤ w.heap.size) :
    ∃ v' w', (Builtin.append_ #[23, 23] 23 #[v, v2]).run Tryz.prog w = .ok v' w' ∧ OwnK encT R 32 3 w' v' (xs ++ l) ∧ w.grownBy w' v.ownBlock := by
  obtain ⟨i, hi, hz0, hz1, hz2⟩ := infoTkK
  exact run_append_K (P := Tryz.prog) encT_len (by decide) w R 23 23 32 i _ 32 Tryz.underlying23 hi hz0 hz1 hz2 rfl v xs hown v2 l hl (fun e => encT_one e) (by omega) (by omega) hR
theorem sl_oneT (t : Lx.Tk) (w : World) : SlK encT 3 (w.alloc (.cells (tkC t) 32)) (.slice (some ⟨w.heap.size, 0, none⟩) 1 1) [t] := ⟨_, _, rfl, Nat.le_refl _, fun _ => ⟨w.heap.size, 0, rfl, by simp, fun q y hq => by
  have hq0 : q = 0 := by have := (List.getElem?_eq_some_iff.1 hq).1; simp at this; exact this
  subst hq0
  have hy : y = t := by simpa using hq.symm
  subst hy
  intro i u hu
  rw [Blk.cell (Blk.new w _ _)]
  simpa [encT, tkC] using hu⟩⟩
/-- Append of one token that lies in a block of its own: what the call keeps. -/
theorem append_one (R : Nat) (w : World) (v : Value) (xs : List Lx.Tk) (t : Lx.Tk) (hown : OwnK encT R 32 3 w v xs) (hn : xs.length + 1 ≤ 1000000) (hR : R ≤ w.heap.size) :
    ∃ v' w', (Builtin.append_ #[23, 23] 23 #[v, .slice (some ⟨w.heap.size, 0, none⟩) 1 1]).run Tryz.prog (w.alloc (.cells (tkC t) 32)) = .ok v' w' ∧ OwnK encT R 32 3 w' v' (xs ++ [t]) ∧ Below R w w' := by
  have hal : Below w.heap.size w (w.alloc (.cells (tkC t) 32)) := alloc_below _ _
  obtain ⟨v', w', h1, h2, h3⟩ := append_tk R _ v xs (hown.keep hal) _ [t] (sl_oneT t w) (by simpa using hn) (Nat.le_trans hR hal.size)
  exact ⟨v', w', h1, h2, (hal.mono hR).grown h3 (by rw [show (w.alloc (.cells (tkC t) 32)).heap.size = w.heap.size + 1 by simp]; omega) (fun g hg => (hown.lt g hg).1)⟩

end Go.Proofs.YtmmphgapginmjaaGreatDoor
