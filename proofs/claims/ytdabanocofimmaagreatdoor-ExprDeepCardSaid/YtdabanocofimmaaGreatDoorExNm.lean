/-
  tokens.Name, Mark, IsName; expr.two, sides, spoken: the contracts, by walks. Conditions: lengths; the world holds the library's tables (WOk).
-/
import Derived.Test.YtdabanocofimmaaGreatDoorJExAll
namespace Go.Proofs.YtdabanocofimmaaGreatDoor
open Go.RowKit

set_option maxRecDepth 100000 in
set_option maxHeartbeats 1000000 in
theorem tname_any (s : ByteArray) (w : World) : Calls Tryz.prog 48 #[.string s] w (Gives w (.agg #[.int .i64 1, .int .i64 0, .string s])) := by
  have HB : Hid (∀ o : Obj, Below w.heap.size w (w.alloc o)) := Lib.hid (alloc_below w)
  go_enter Tryz.func48, Tryz.ntmps48
  go_wp2
  go_returns
  exact ⟨rfl, HB.out _⟩
/-- A word's token, or a sign's. -/
def markT (s : List UInt8) : Lx.Tk := (if nameB s = true then 2 else 5, 0, s)
set_option maxRecDepth 100000 in
set_option maxHeartbeats 1000000 in
theorem mark_any (s : ByteArray) (w : World) (hs : s.size ≤ 1000000) : Calls Tryz.prog 28 #[.string s] w (Gives w (.agg #[.int .i64 (markT s.data.toList).1, .int .i64 0, .string s])) := by
  have HN := Lib.hid (name_any s (w.alloc (.cells #[.int .i64 0, .int .i64 0, .string ⟨#[]⟩] 43)) (by omega))
  unfold markT
  clear hs
  cases hq : nameB s.data.toList
  all_goals
    rw [hq] at HN
    have HQ := Lib.hid hq
    clear hq
    go_enter Tryz.func28, Tryz.ntmps28
    go_wp2_with fail
    refine HN.out.mono ?_
    rintro e w1 ⟨rfl, hb⟩
    have HK := Lib.hid (In1.of hb)
    obtain ⟨c0, c1, c2, f0, f1, f2, hlt⟩ := HK.out.three
    clear hb
    go_wp2
    (try simp only [Exit.inBlock, Exit.then])
    refine bodyPost_ret (ret_cell1 rfl _ _ _ _ _ _ rfl (set3_blk HK.out _ _ _) Tryz.underlying43 rfl (by kernel_rfl)) rfl ?_
    exact ⟨rfl, set3_below HK.out.below _ _ _⟩
/-- A name, and no word of the language. -/
def idB (s : List UInt8) : Bool := Lx.rightT (1, 0, s)
set_option maxRecDepth 100000 in
set_option maxHeartbeats 1000000 in
theorem isname_any (s : ByteArray) (w : World) (hw : WOk w) (hs : s.size ≤ 1000000) : Calls Tryz.prog 55 #[.string s] w (Gives w (.bool (idB s.data.toList))) := by
  have HT := Lib.hid (tname_any s w)
  have HM := Lib.hid (fun W (hb : Below w.heap.size w W) => by
    have := may_any (1, 0, s.data.toList) W (hw.below hb) (by show s.data.toList.length ≤ 1000000; rw [Array.length_toList]; exact hs)
    unfold tkV at this
    rw [show (⟨s.data.toList.toArray⟩ : ByteArray) = s by simp] at this
    exact this)
  clear hw hs
  unfold idB
  obtain ⟨q, hq⟩ : ∃ q, Lx.rightT (1, 0, s.data.toList) = q := ⟨_, rfl⟩
  rw [hq] at HM ⊢
  clear hq
  go_enter Tryz.func55, Tryz.ntmps55
  go_wp2_with fail
  refine HT.out.mono ?_
  rintro e w1 ⟨rfl, hb⟩
  have HB := Lib.hid hb
  clear hb
  go_wp2_with fail
  refine (HM.out w1 HB.out).mono ?_
  rintro e w2 ⟨rfl, hb⟩
  have HB2 := Lib.hid (HB.out.trans (hb.mono HB.out.size))
  clear hb
  go_wp2_with fail
  go_ret
  exact ⟨rfl, HB2.out⟩
def twoB (k : Int) : Bool := decide (8 ≤ k) && decide (k ≤ 18)
set_option maxRecDepth 100000 in
set_option maxHeartbeats 1000000 in
theorem two_any (k : Int) (w : World) : Calls Tryz.prog 56 #[.int .i64 k] w (SameV w (.bool (twoB k))) := by
  unfold twoB
  by_cases h1 : 8 ≤ k <;> by_cases h2 : k ≤ 18
  all_goals
    go_enter Tryz.func56, Tryz.ntmps56
    go_wp2
    go_ret
    exact ⟨by simp [h1, h2], rfl⟩
def encZ (z : Int) : List Value := [.int .i64 z]
/-- The places of an expression's sides. -/
def sidesL (e : Ex.X) : List Int := if e.k = 5 ∨ e.k = 6 ∨ e.k = 7 then [e.l] else if twoB e.k = true then [e.l, e.r] else []
theorem sl_z {l : List Int} {cs : Array Value} (h : ∀ (j : Nat) (z : Int), l[j]? = some z → cs[j]? = some (Value.int .i64 z)) (w : World) : SlK encZ 1 (w.alloc (.cells cs 3)) (.slice (some ⟨w.heap.size, 0, none⟩) l.length l.length) l :=
  ⟨_, _, rfl, Nat.le_refl _, fun _ => ⟨w.heap.size, 0, rfl, by simp, fun q y hq => by
    intro i u hu
    have hi : i = 0 := by have := (List.getElem?_eq_some_iff.1 hu).1; simp [encZ] at this; exact this
    subst hi
    have hu' : u = .int .i64 y := by simpa [encZ] using hu.symm
    rw [hu', Blk.cell (Blk.new w _ _)]
    simpa using h q y hq⟩⟩

/-- A slice that lies behind all that was there. -/
def OffV (w : World) (v : Value) : Prop := ∀ g o s n c, v = .slice (some ⟨g, o, s⟩) n c → w.heap.size ≤ g
/-- What sides answers. -/
def SidesR (e : Ex.X) (w : World) (r : Ending) (w' : World) : Prop := ∃ v, r = .returned v ∧ SlK encZ 1 w' v (sidesL e) ∧ Below w.heap.size w w' ∧ OffV w v
set_option maxRecDepth 100000 in
set_option maxHeartbeats 2000000 in
theorem sides_any (e : Ex.X) (w : World) : Calls Tryz.prog 31 #[exV e] w (SidesR e w) := by
  obtain ⟨p, hp⟩ : ∃ p, w.heap.size = p := ⟨_, rfl⟩
  obtain ⟨X, hX⟩ : ∃ X, X = w.alloc (.cells (exC e) 49) := ⟨_, rfl⟩
  have hbX : Below w.heap.size w X := by rw [hX]; exact (Below.refl _ _).alloc (Nat.le_refl _) _
  have hE : Blk X p 49 (exC e) := by rw [hX, ← hp]; exact Blk.new w _ _
  have HB := Lib.hid hbX
  have HX := Lib.hid hX
  have HP := Lib.hid hp
  have c0 : X.cell? ⟨p, 0, none⟩ = some (.int .i64 e.k) := (Blk.cell hE 0).trans rfl
  have c4 : X.cell? ⟨p, 6, none⟩ = some (.int .i64 e.l) := (Blk.cell hE 6).trans rfl
  have c5 : X.cell? ⟨p, 7, none⟩ = some (.int .i64 e.r) := (Blk.cell hE 7).trans rfl
  have HT := Lib.hid (two_any e.k X)
  obtain ⟨L, hL⟩ : ∃ L, sidesL e = L := ⟨_, rfl⟩
  have HL := Lib.hid hL
  clear hp hX hbX hE hL
  unfold exV exC
  by_cases h5 : e.k = 5 ∨ e.k = 6 ∨ e.k = 7
  · have hl : L = [e.l] := by rw [← HL.out]; exact if_pos h5
    have hs := Lib.hid (show SidesR e w (.returned (.slice (some ⟨X.heap.size, 0, none⟩) 1 1)) (X.alloc (.cells #[.int .i64 e.l] 3)) from
      ⟨_, rfl, by rw [HL.out, hl]; exact sl_z (l := [e.l]) (fun j z hz => by
        match j with
        | 0 => cases hz; rfl) X, HB.out.trans (((Below.refl _ X).alloc (Nat.le_refl _) _).mono HB.out.size), fun g o s n c h => by injection h with h; injection h with h; injection h with h; rw [← h]; exact HB.out.size⟩)
    obtain ⟨q5, hq5⟩ : ∃ q, (e.k == 5) = q := ⟨_, rfl⟩
    obtain ⟨q6, hq6⟩ : ∃ q, (e.k == 6) = q := ⟨_, rfl⟩
    have h7 : q5 = false → q6 = false → (e.k == 7) = true := fun e5 e6 => by
      rw [e5] at hq5
      rw [e6] at hq6
      rw [beq_eq_false_iff_ne] at hq5 hq6
      rcases h5 with h | h | h
      · exact absurd h hq5
      · exact absurd h hq6
      · rw [h]; rfl
    unfold exC at HX
    clear h5 hl HT
    cases q5 <;> cases q6
    all_goals (try (have h7' := h7 rfl rfl))
    all_goals
      (try clear h7)
      go_enter Tryz.func31, Tryz.ntmps31
      go_upto_region 1 with fail
      rw [← HX.out, HP.out]
      go_wp2_with fail
      go_ret
      exact hs.out
  · have hl : L = if twoB e.k = true then [e.l, e.r] else [] := by rw [← HL.out]; exact if_neg h5
    have h5' : (e.k == 5) = false := by rw [beq_eq_false_iff_ne]; exact fun h => h5 (.inl h)
    have h6' : (e.k == 6) = false := by rw [beq_eq_false_iff_ne]; exact fun h => h5 (.inr (.inl h))
    have h7' : (e.k == 7) = false := by rw [beq_eq_false_iff_ne]; exact fun h => h5 (.inr (.inr h))
    cases h2 : twoB e.k
    · rw [h2] at HT
      have hs := Lib.hid (show SidesR e w (.returned (.slice none 0 0)) X from ⟨_, rfl, by rw [HL.out, hl, h2]; exact ⟨_, _, rfl, Nat.le_refl _, fun h => absurd rfl h⟩, HB.out, fun g o s n c h => by injection h with h; cases h⟩)
      unfold exC at HX
      clear hl h2 h5
      go_enter Tryz.func31, Tryz.ntmps31
      go_upto_region 1 with fail
      rw [← HX.out, HP.out]
      go_wp2_with fail
      refine HT.out.mono ?_
      rintro e w1 ⟨rfl, rfl⟩
      go_wp2_with fail
      go_ret
      exact hs.out
    · rw [h2] at HT
      have hs := Lib.hid (show SidesR e w (.returned (.slice (some ⟨X.heap.size, 0, none⟩) 2 2)) (X.alloc (.cells #[.int .i64 e.l, .int .i64 e.r] 3)) from
        ⟨_, rfl, by rw [HL.out, hl, h2]; exact sl_z (l := [e.l, e.r]) (fun j z hz => by
          match j with
          | 0 => cases hz; rfl
          | 1 => cases hz; rfl) X, HB.out.trans (((Below.refl _ X).alloc (Nat.le_refl _) _).mono HB.out.size), fun g o s n c h => by injection h with h; injection h with h; injection h with h; rw [← h]; exact HB.out.size⟩)
      unfold exC at HX
      clear hl h2 h5
      go_enter Tryz.func31, Tryz.ntmps31
      go_upto_region 1 with fail
      rw [← HX.out, HP.out]
      go_wp2_with fail
      refine HT.out.mono ?_
      rintro e w1 ⟨rfl, rfl⟩
      go_wp2_with fail
      go_ret
      exact hs.out
/-- A value that has tokens. -/
def spokenB (k n : Int) (s : List UInt8) : Bool := if k = 5 then false else if k = 4 then rightB k n s && idB s else rightB k n s
set_option maxRecDepth 100000 in
set_option maxHeartbeats 2000000 in
theorem spoken_any (k n : Int) (s : ByteArray) (w : World) (hw : WOk w) (hs : s.size ≤ 1000000) : Calls Tryz.prog 54 #[.agg #[.int .i64 k, .int .i64 n, .string s]] w (Gives w (.bool (spokenB k n s.data.toList))) := by
  obtain ⟨p, hp⟩ : ∃ p, w.heap.size = p := ⟨_, rfl⟩
  obtain ⟨X, hX⟩ : ∃ X, X = w.alloc (.cells #[.int .i64 k, .int .i64 n, .string s] 47) := ⟨_, rfl⟩
  have hbX : Below w.heap.size w X := by rw [hX]; exact (Below.refl _ _).alloc (Nat.le_refl _) _
  have hE : Blk X p 47 #[.int .i64 k, .int .i64 n, .string s] := by rw [hX, ← hp]; exact Blk.new w _ _
  have HE := Lib.hid hE
  have HB := Lib.hid hbX
  have HX := Lib.hid hX
  have HP := Lib.hid hp
  have c0 : X.cell? ⟨p, 0, none⟩ = some (.int .i64 k) := (Blk.cell hE 0).trans rfl
  have c1 : X.cell? ⟨p, 1, none⟩ = some (.int .i64 n) := (Blk.cell hE 1).trans rfl
  have c2 : X.cell? ⟨p, 2, none⟩ = some (.string s) := (Blk.cell hE 2).trans rfl
  have HR := Lib.hid (right_any k n s X (by omega) (hw.below hbX).cut)
  have HI := Lib.hid (fun W (hb : Below X.heap.size X W) => isname_any s W (hw.below (hbX.trans (hb.mono hbX.size))) hs)
  unfold valV at HR
  have HS := Lib.hid (show spokenB k n s.data.toList = if k = 5 then false else if k = 4 then rightB k n s.data.toList && idB s.data.toList else rightB k n s.data.toList from rfl)
  obtain ⟨q, hq⟩ : ∃ q, rightB k n s.data.toList = q := ⟨_, rfl⟩
  rw [hq] at HR HS
  obtain ⟨r, hr⟩ : ∃ r, idB s.data.toList = r := ⟨_, rfl⟩
  rw [hr] at HI HS
  rw [HS.out]
  clear hp hX hbX hE hw hs hq hr HS
  by_cases h5 : k = 5
  · rw [if_pos h5]
    have h5' : (k == 5) = true := by rw [h5]; rfl
    clear h5
    go_enter Tryz.func54, Tryz.ntmps54
    go_upto_region 1 with fail
    rw [← HX.out, HP.out]
    go_wp2_with fail
    go_ret
    exact ⟨rfl, HB.out⟩
  rw [if_neg h5]
  have h5' : (k == 5) = false := by rw [beq_eq_false_iff_ne]; exact h5
  clear h5
  by_cases h4 : k = 4
  · rw [if_pos h4]
    have h4' : (k == 4) = true := by rw [h4]; rfl
    clear h4
    cases q
    all_goals
      go_enter Tryz.func54, Tryz.ntmps54
      go_upto_region 1 with fail
      rw [← HX.out, HP.out]
      go_wp2_with fail
      refine HR.out.mono ?_
      rintro e w1 ⟨rfl, hb⟩
      have HB1 := Lib.hid hb
      clear hb c0 c1 c2
      have c2 : w1.cell? ⟨p, 2, none⟩ = some (.string s) := (Blk.cell (HE.out.below HB1.out HE.out.lt) 2).trans rfl
      go_wp2_with fail
    · go_ret
      exact ⟨rfl, HB.out.trans (HB1.out.mono HB.out.size)⟩
    · refine (HI.out w1 HB1.out).mono ?_
      rintro e w2 ⟨rfl, hb⟩
      have HB2 := Lib.hid hb
      clear hb c2
      go_wp2_with fail
      go_ret
      exact ⟨rfl, (HB.out.trans (HB1.out.mono HB.out.size)).trans (HB2.out.mono (Nat.le_trans HB.out.size HB1.out.size))⟩
  · rw [if_neg h4]
    have h4' : (k == 4) = false := by rw [beq_eq_false_iff_ne]; exact h4
    clear h4
    go_enter Tryz.func54, Tryz.ntmps54
    go_upto_region 1 with fail
    rw [← HX.out, HP.out]
    go_wp2_with fail
    refine HR.out.mono ?_
    rintro e w1 ⟨rfl, hb⟩
    have HB1 := Lib.hid hb
    clear hb c0 c1 c2
    go_wp2_with fail
    go_ret
    exact ⟨rfl, HB.out.trans (HB1.out.mono HB.out.size)⟩

end Go.Proofs.YtdabanocofimmaaGreatDoor
