/-
  (*hedgerowref02.Reader).Num, Signed, Text, Left: the contracts, by walks. Conditions: a bound on lengths.
-/
import Derived.Test.YtibipkbnncadlaaNumTake
namespace Go.Proofs.Ytibipkbnncadlaa
open Go.RowKit

/-- Block g is the plain reader: what is left lies below block B. -/
def Rr (w : World) (B g : Nat) (s : List UInt8 × Bool) : Prop :=
  ∃ A c, s.1.length ≤ c ∧ B ≤ g ∧ s.1.length ≤ 140737488350000 ∧ (s.1 ≠ [] → ∃ b o, A = some ⟨b, o, none⟩ ∧ b < B ∧ ∀ j u, s.1[j]? = some u → w.cell? ⟨b, o + j, none⟩ = some (bv u)) ∧ Blk w g 35 #[.slice A s.1.length c, .bool s.2]

theorem Rr.lt {w : World} {B g : Nat} {s : List UInt8 × Bool} (h : Rr w B g s) : g < w.heap.size := by
  obtain ⟨A, c, _, _, _, _, h3⟩ := h
  exact h3.lt
theorem Rr.kept {w w' : World} {B g : Nat} {s : List UInt8 × Bool} (h : Rr w B g s) (hb : ∀ k, k < w.heap.size → (k < B ∨ k = g) → w'.heap[k]? = w.heap[k]?) : Rr w' B g s := by
  obtain ⟨A, c, h1, h2, h3, h4, h5⟩ := h
  refine ⟨A, c, h1, h2, h3, fun hn => ?_, (hb g h5.lt (.inr rfl)).trans h5⟩
  obtain ⟨b, o, hA, hbB, hc⟩ := h4 hn
  exact ⟨b, o, hA, hbB, fun j u hu => (World.cell?_of_block (w := w) (a := ⟨b, o + j, none⟩) (hb b (by have := h5.lt; omega) (.inl hbB))).trans (hc j u hu)⟩
theorem Rr.below {w w' : World} {B g : Nat} {s : List UInt8 × Bool} (h : Rr w B g s) (hb : Below w.heap.size w w') : Rr w' B g s := h.kept fun k hk _ => hb.block k hk
theorem Rr.but {w w' : World} {B g h : Nat} {s : List UInt8 × Bool} (hr : Rr w B g s) (hb : But h w w') (hB : B ≤ h) (hne : g ≠ h) : Rr w' B g s :=
  hr.kept fun k hk hc => hb.block k hk (by simp; omega)
theorem Rr.sl {w : World} {B g : Nat} {s : List UInt8 × Bool} (h : Rr w B g s) : ∃ A c, Blk w g 35 #[.slice A s.1.length c, .bool s.2] ∧ s.1.length ≤ c ∧ Sl bv w (.slice A s.1.length c) s.1 ∧ s.1.length ≤ 140737488350000 := by
  obtain ⟨A, c, h1, h2, h3, h4, h5⟩ := h
  refine ⟨A, c, h5, h1, ⟨A, c, rfl, h1, fun hn => ?_⟩, h3⟩
  obtain ⟨b, o, hA, hbB, hc⟩ := h4 hn
  exact ⟨b, o, hA, by have := h5.lt; omega, hc⟩

/-- Hands v back; block g is then the plain reader s; all else is as it was. -/
def MovesR (w : World) (B g : Nat) (v : Value) (s : List UInt8 × Bool) (e : Ending) (w' : World) : Prop := e = .returned v ∧ Rr w' B g s ∧ But g w w'

/-- A plain reader behind a failure; behind a cut. -/
theorem Rr.fail {w : World} {B g : Nat} {s : List UInt8 × Bool} (h : Rr w B g s) : Rr (w.setCell ⟨g, 1, none⟩ (.bool true)) B g (s.1, true) ∧ But g w (w.setCell ⟨g, 1, none⟩ (.bool true)) := by
  obtain ⟨A, c, h1, h2, h3, h4, h5⟩ := h
  refine ⟨⟨A, c, h1, h2, h3, fun hn => ?_, by simpa using h5.set_ 1 (.bool true)⟩, But.setCell w g 1 _⟩
  obtain ⟨b, o, hA, hbB, hc⟩ := h4 hn
  refine ⟨b, o, hA, hbB, fun j u hu => ?_⟩
  rw [World.cell?_setCell_other w ⟨g, 1, none⟩ ⟨b, o + j, none⟩ _ (fun e => by injection e; omega)]
  exact hc j u hu
theorem Rr.cut {w : World} {B g : Nat} {s : List UInt8 × Bool} {A : Option Addr} {c k : Nat} {A' : Option Addr} (h : Rr w B g s) (hb : Blk w g 35 #[.slice A s.1.length c, .bool s.2]) (hlc : s.1.length ≤ c)
    (hA' : ∀ b o, A = some ⟨b, o, none⟩ → k < s.1.length → A' = some ⟨b, o + k, none⟩) :
    Rr (w.setCell ⟨g, 0, none⟩ (.slice A' (s.1.length - k) (c - k))) B g (s.1.drop k, s.2) ∧ But g w (w.setCell ⟨g, 0, none⟩ (.slice A' (s.1.length - k) (c - k))) := by
  obtain ⟨A1, c1, h1, h2, h3, h4, h5⟩ := h
  have e : (#[Value.slice A1 s.1.length c1, .bool s.2] : Array Value) = #[.slice A s.1.length c, .bool s.2] := by
    unfold Blk at h5 hb
    rw [h5] at hb
    injection hb with hb
    injection hb
  have e1 : A1 = A := by simp at e; exact e.1
  subst e1
  refine ⟨⟨A', c - k, by simp; omega, h2, by simp; omega, fun hn => ?_, ?_⟩, But.setCell w g 0 _⟩
  · have hkl : k < s.1.length := by
      rcases Nat.lt_or_ge k s.1.length with hlt | hge
      · exact hlt
      · exact absurd (List.drop_eq_nil_of_le hge) hn
    obtain ⟨b, o, hA, hbB, hc⟩ := h4 (by intro e; rw [e] at hkl; simp at hkl)
    refine ⟨b, o + k, hA' b o hA hkl, hbB, fun j u hu => ?_⟩
    rw [World.cell?_setCell_other w ⟨g, 0, none⟩ ⟨b, o + k + j, none⟩ _ (fun e => by injection e; omega)]
    have hu' : s.1[k + j]? = some u := by simpa using hu
    rw [Nat.add_assoc]
    exact hc (k + j) u hu'
  · have := hb.set_ 0 (.slice A' (s.1.length - k) (c - k))
    simpa using this

set_option maxHeartbeats 1000000 in
theorem refnum_any (B g : Nat) (s : List UInt8 × Bool) (most : Int) (w : World) (h : Rr w B g s) :
    Calls Try.prog 19 #[.pointer (some ⟨g, 0, none⟩), .int .i64 most] w (MovesR w B g (.int .i64 (rNum s most).1) (rNum s most).2) := by
  obtain ⟨A, c, hblk, hlc, hsl, hlen⟩ := h.sl
  have ht := take_any _ _ w hsl hlen
  have c0 := hblk.cell 0
  simp at c0
  have HTk := Lib.hid ht
  have HR := Lib.hid h
  have HB := Lib.hid hblk
  clear ht h hsl hblk
  obtain ⟨l, f⟩ := s
  simp only at c0 hlc hlen HTk HB
  go_enter Try.func19, Try.ntmps19
  go_wp2_with fail
  refine HTk.out.mono ?_
  rintro e w1 ⟨rfl, hb1⟩
  have HR1 := Lib.hid (HR.out.below hb1)
  have HB1 := Lib.hid (HB.out.below hb1 HB.out.lt)
  have hbut : But g w w1 := But.of_below hb1
  have c0' := HB1.out.cell 0
  have c1' := HB1.out.cell 1
  have f0' := HB1.out.free 0
  have f1' := HB1.out.free 1
  simp at c0' c1'
  clear c0 hb1
  cases f
  · cases htk : takeN l with
    | none =>
      have HN : Hid (rNum (l, false) most = (0, (l, true))) := Lib.hid (by unfold rNum; simp only [htk]; rfl)
      have hv := fst_none htk
      rw [hv]
      clear htk hv
      have hP := Lib.hid HR1.out.fail
      go_wp2
      go_ret
      exact ⟨by rw [HN.out]; rfl, by rw [HN.out]; exact hP.out.1, hbut.trans hP.out.2⟩
    | some p =>
      obtain ⟨n, k⟩ := p
      obtain ⟨k0, kl, k9⟩ := takeN_len htk
      have hk0 : ((k : Int) == 0) = false := by rw [beq_eq_false_iff_ne]; omega
      have hv := fst_some htk
      rw [hv]
      by_cases hm : most < (n : Int)
      · have HN : Hid (rNum (l, false) most = (0, (l, true))) := Lib.hid (by unfold rNum; simp only [htk]; rw [if_pos hm]; rfl)
        clear htk hv
        have hP := Lib.hid HR1.out.fail
        go_wp2
        go_ret
        exact ⟨by rw [HN.out]; rfl, by rw [HN.out]; exact hP.out.1, hbut.trans hP.out.2⟩
      · have HN : Hid (rNum (l, false) most = ((n : Int), (l.drop k, false))) := Lib.hid (by unfold rNum; simp only [htk]; rw [if_neg hm]; rfl)
        clear htk hv
        by_cases hck : c = k
        · have hkl : ¬ k < l.length := by omega
          have hP := Lib.hid (HR1.out.cut HB1.out (k := k) (A' := A) hlc (fun b o hA h => absurd h hkl))
          rw [show c - k = 0 from by omega] at hP
          go_wp2
          go_ret
          exact ⟨by rw [HN.out]; rfl, by rw [HN.out]; exact hP.out.1, hbut.trans hP.out.2⟩
        · have hP := Lib.hid (HR1.out.cut HB1.out (k := k) (A' := A.map (·.add k)) hlc (fun b o hA _ => by rw [hA]; simp [Addr.add_lit]))
          go_wp2
          go_ret
          exact ⟨by rw [HN.out]; rfl, by rw [HN.out]; exact hP.out.1, hbut.trans hP.out.2⟩
  · have HN : Hid (rNum (l, true) most = (0, (l, true))) := Lib.hid (by unfold rNum; rfl)
    have hP := Lib.hid HR1.out.fail
    generalize fstV l = q at *
    obtain ⟨q1, q2⟩ := q
    go_wp2
    go_ret
    exact ⟨by rw [HN.out]; rfl, by rw [HN.out]; exact hP.out.1, hbut.trans hP.out.2⟩

set_option maxHeartbeats 400000 in
theorem refrsig_any (B g : Nat) (s : List UInt8 × Bool) (w : World) (h : Rr w B g s) :
    Calls Try.prog 20 #[.pointer (some ⟨g, 0, none⟩)] w (MovesR w B g (.int .i64 (rSig s).1) (rSig s).2) := by
  have hn := refnum_any B g s 2305843009213693952 w h
  have hr := rNum_rng s 2305843009213693952
  have HS : Hid ((rSig s).2 = (rNum s 2305843009213693952).2) := rfl
  have HV : Hid ((rSig s).1 = unzig (rNum s 2305843009213693952).1) := rfl
  generalize rNum s 2305843009213693952 = q at *
  obtain ⟨n, s'⟩ := q
  obtain ⟨r1, r2, _⟩ := hr
  simp only at r1 r2
  have HN := Lib.hid hn; clear hn
  have r3 : n ≤ 9223372036854775800 := by omega
  clear r2
  by_cases ho : n % 2 = 1
  · have h3 : (n % 2 == 1) = true := by simpa using ho
    have HO := Lib.hid ho; clear ho
    go_enter Try.func20, Try.ntmps20
    go_wp2_with fail
    refine HN.out.mono ?_
    rintro e w' ⟨rfl, hr1, hb1⟩
    go_wp2
    go_ret
    refine ⟨?_, by rw [HS.out]; exact hr1, hb1⟩
    rw [HV.out]
    simp only [unzig, if_pos HO.out]
    have e9 : -(n / 2) - 1 = -((n + 1) / 2) := by have := HO.out; omega
    exact congrArg (fun x => Ending.returned (Value.int IntKind.i64 x)) e9
  · have h3 : (n % 2 == 1) = false := by simpa using ho
    have HO := Lib.hid ho; clear ho
    go_enter Try.func20, Try.ntmps20
    go_wp2_with fail
    refine HN.out.mono ?_
    rintro e w' ⟨rfl, hr1, hb1⟩
    go_wp2
    go_ret
    refine ⟨?_, by rw [HS.out]; exact hr1, hb1⟩
    rw [HV.out]
    simp only [unzig, if_neg HO.out]
    rfl

/-- Hands back a string of these bytes; block g is then the plain reader s; all else is as it was. -/
def MovesRS (w : World) (B g : Nat) (l : List UInt8) (s : List UInt8 × Bool) (e : Ending) (w' : World) : Prop := ∃ b : ByteArray, b.data.toList = l ∧ e = .returned (.string b) ∧ Rr w' B g s ∧ But g w w'

set_option maxHeartbeats 1000000 in
theorem refrtext_any (B g : Nat) (s : List UInt8 × Bool) (most : Int) (w : World) (h : Rr w B g s) :
    Calls Try.prog 21 #[.pointer (some ⟨g, 0, none⟩), .int .i64 most] w (MovesRS w B g (rText s most).1 (rText s most).2) := by
  have hn := refnum_any B g s most w h
  have hr := rNum_rng s most
  have HS : Hid (rText s most = if (rNum s most).2.2 = true then ([], (rNum s most).2) else
    if ((rNum s most).2.1.length : Int) < (rNum s most).1 then ([], ((rNum s most).2.1, true)) else
    ((rNum s most).2.1.take (rNum s most).1.toNat, ((rNum s most).2.1.drop (rNum s most).1.toNat, false))) := rfl
  generalize rNum s most = q at *
  obtain ⟨n, l, f⟩ := q
  obtain ⟨r1, r2, _⟩ := hr
  simp only at r1 r2
  simp only at HS
  have HN := Lib.hid hn; clear hn
  go_enter Try.func21, Try.ntmps21
  go_wp2_with fail
  refine HN.out.mono ?_
  rintro e w1 ⟨rfl, hr1, hb1⟩
  obtain ⟨A, c, hblk, hlc, hsl, hlen⟩ := hr1.sl
  have HR1 := Lib.hid hr1
  have HB1 := Lib.hid hblk
  have c0 := hblk.cell 0
  have c1 := hblk.cell 1
  have f0 := hblk.free 0
  have f1 := hblk.free 1
  simp at c0 c1
  simp only at hlc hsl hlen
  clear hblk hr1
  cases f
  · by_cases hlt : (l.length : Int) < n
    · have HQ : Hid (rText s most = ([], (l, true))) := Lib.hid (by rw [HS.out, if_neg (by simp), if_pos hlt])
      have hP := Lib.hid HR1.out.fail
      clear hsl
      go_wp2
      go_ret
      exact ⟨ByteArray.empty, by rw [HQ.out]; rfl, rfl, by rw [HQ.out]; exact hP.out.1, hb1.trans hP.out.2⟩
    · obtain ⟨m, rfl⟩ := Int.eq_ofNat_of_zero_le r1
      have HQ : Hid (rText s most = (l.take m, (l.drop m, false))) := Lib.hid (by rw [HS.out, if_neg (by simp), if_neg hlt]; rfl)
      have hml : m ≤ l.length := by omega
      obtain ⟨X, hX⟩ := str_ex (l.take m)
      have rX := str_run (P := Try.prog) w1 22 9 5 Try.underlying22 Try.underlying5 Try.underlying9 _ _ (hsl.take_ hml) X hX
      have HX := Lib.hid hX
      clear hX hsl r1 r2
      by_cases hck : c = m
      · subst hck
        have hkl : ¬ c < l.length := by omega
        have hP := Lib.hid (HR1.out.cut HB1.out (k := c) (A' := A) hlc (fun b o hA h => absurd h hkl))
        rw [show c - c = 0 from by omega, show l.length - c = 0 from by omega] at hP
        go_wp2
        go_ret
        exact ⟨X, by rw [HQ.out]; exact HX.out, rfl, by rw [HQ.out]; exact hP.out.1, hb1.trans hP.out.2⟩
      · have hP := Lib.hid (HR1.out.cut HB1.out (k := m) (A' := A.map (·.add m)) hlc (fun b o hA _ => by rw [hA]; simp [Addr.add_lit]))
        go_wp2
        go_ret
        exact ⟨X, by rw [HQ.out]; exact HX.out, rfl, by rw [HQ.out]; exact hP.out.1, hb1.trans hP.out.2⟩
  · have HQ : Hid (rText s most = ([], (l, true))) := Lib.hid (by rw [HS.out, if_pos rfl])
    have hP := Lib.hid HR1.out.fail
    clear hsl
    go_wp2
    go_ret
    exact ⟨ByteArray.empty, by rw [HQ.out]; rfl, rfl, by rw [HQ.out]; exact hP.out.1, hb1.trans hP.out.2⟩

set_option maxHeartbeats 400000 in
theorem refleft_any (B g : Nat) (s : List UInt8 × Bool) (w : World) (h : Rr w B g s) :
    Calls Try.prog 23 #[.pointer (some ⟨g, 0, none⟩)] w (Same w (.int .i64 (rLeft s))) := by
  obtain ⟨A, c, hblk, hlc, hsl, hlen⟩ := h.sl
  have c0 := hblk.cell 0
  have c1 := hblk.cell 1
  simp at c0 c1
  clear hblk hsl h
  obtain ⟨l, f⟩ := s
  simp only at c0 c1 hlc hlen
  cases f
  · go_enter Try.func23, Try.ntmps23
    go_wp2
    go_ret
    exact ⟨rfl, rfl⟩
  · go_enter Try.func23, Try.ntmps23
    go_wp2
    go_ret
    exact ⟨rfl, rfl⟩

end Go.Proofs.Ytibipkbnncadlaa
