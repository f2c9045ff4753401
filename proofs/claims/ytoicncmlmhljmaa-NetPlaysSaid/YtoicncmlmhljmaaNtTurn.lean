/-
  Turn: what turns in memory; the contracts, by walks. Conditions: none.
-/
import Derived.Test.YtoicncmlmhljmaaNtCalls
namespace Go.Proofs.Ytoicncmlmhljmaa
open Go.RowKit

section
variable {α : Type} {enc : α → List Value}
theorem flat_same (l : List α) (i : Nat) (hi : i < l.length) (x : α) (hx : enc x = enc l[i]) : (l.set i x).flatMap enc = l.flatMap enc := by
  rw [List.flatMap_def, List.flatMap_def, List.map_set, hx]
  congr 1
  have : enc l[i] = (l.map enc)[i]'(by simpa using hi) := by simp
  rw [this, List.set_getElem_self]
theorem flat_set {k : Nat} (hk : ∀ x, (enc x).length = k) (j : Nat) (u : Value) : ∀ (l : List α) (i : Nat) (hi : i < l.length) (x : α), j < k → enc x = (enc l[i]).set j u → (l.set i x).flatMap enc = (l.flatMap enc).set (i * k + j) u
  | y :: l, 0, _, x, hj, hx => by
    simp only [List.set_cons_zero, List.flatMap_cons, Nat.zero_mul, Nat.zero_add]
    rw [List.set_append_left _ _ (by rw [hk]; exact hj), hx]
    rfl
  | y :: l, i + 1, hi, x, hj, hx => by
    simp only [List.set_cons_succ, List.flatMap_cons]
    rw [flat_set hk j u l i (by simpa using hi) x hj (by simpa using hx), List.set_append_right _ _ (by rw [hk, Nat.add_mul]; omega), hk, show (i + 1) * k + j - k = i * k + j from by rw [Nat.add_mul]; omega]
theorem map_same {β : Type} {f : α → β} (l : List α) (i : Nat) (hi : i < l.length) (x : α) (hx : f x = f l[i]) : (l.set i x).map f = l.map f := by
  rw [List.map_set, hx]
  have : f l[i] = (l.map f)[i]'(by simpa using hi) := by simp
  rw [this, List.set_getElem_self]
end

section
variable {R g r : Nat} {w : World} {v : Value} {l : List Pc}
theorem Nt.far (h : Nt R w g v l) {i j : Nat} (hi : i < l.length) (hj : j < l.length) (hn : i ≠ j) : ∀ k, l[i].v.ownBlock = some k → l[j].v.ownBlock ≠ some k := by
  have hp := List.pairwise_iff_getElem.1 h.apart
  intro k hk hk2
  rcases Nat.lt_or_gt_of_ne hn with h1 | h1
  · exact hp i j (by simpa using hi) (by simpa using hj) h1 k (by simpa using hk) (by simpa using hk2)
  · exact hp j i (by simpa using hj) (by simpa using hi) h1 k (by simpa using hk2) (by simpa using hk)
theorem Nt.byte (h : Nt R w g v l) (i : Nat) (hi : i < l.length) (k : Nat) (hk : k < l[i].b.length) (x : UInt8) :
    ∃ b d, l[i].v = .slice (some ⟨b, 0, none⟩) l[i].b.length d ∧ w.cell? ⟨b, k, none⟩ = some (bv l[i].b[k]) ∧ w.frozen? ⟨b, k, none⟩ = false ∧
      Nt R (w.setCell ⟨b, k, none⟩ (bv x)) g v (l.set i ⟨l[i].to, l[i].b.set k x, l[i].v, l[i].t⟩) ∧ Tn R w (w.setCell ⟨b, k, none⟩ (bv x)) := by
  have ho := h.row l[i] (List.getElem_mem hi)
  rcases ho.2 with ⟨_, h0⟩ | ⟨b, cap, cur, hv, hb, hbk, _⟩
  · omega
  · have ho' : w.ownsRow R 5 1 (.slice (some ⟨b, 0, none⟩) l[i].b.length cap) l[i].b.length (bs l[i].b) := by have := ho; unfold Ob at this; rwa [hv] at this
    obtain ⟨hs1, _⟩ := ho'.stored k (bv x)
    have hbl : Blk w b 5 cur := hbk
    have hown : l[i].v.ownBlock = some b := by rw [hv]; rfl
    refine ⟨b, cap, hv, ?_, ho'.frozenAt k, ⟨h.base, ?_, ?_, ?_, ?_⟩, Tn.but (But.setCell w b k _) hb (Nat.le_trans h.base (Nat.le_of_lt h.lt)) hbl (.inr (.inr rfl))⟩
    · rw [ho'.cellAt k (by omega)]; simp [bs, hk]
    · exact (But.setCell w b k (bv x)).blk h.blk (blk_ne h.blk hbl (by decide))
    · have : OwnK encP R 52 3 (w.setCell ⟨b, k, none⟩ (bv x)) v l := own_keep h.own fun q hq => Below.heap_setCell w ⟨b, k, none⟩ _ q (by
        obtain ⟨_, cs, hb2⟩ := own_blk h.own hq
        exact blk_ne hb2 hbl (by decide))
      unfold OwnK at this ⊢
      rw [List.length_set, flat_same (enc := encP) l i hi ⟨l[i].to, l[i].b.set k x, l[i].v, l[i].t⟩ rfl]
      exact this
    · intro p hp
      obtain ⟨j, hj, rfl⟩ := List.mem_iff_getElem.1 hp
      rw [List.length_set] at hj
      rw [List.getElem_set]
      split
      · unfold Ob
        simp only [List.length_set]
        rw [hv, show bs (l[i].b.set k x) = (bs l[i].b).set k (bv x) by simp [bs, List.map_set]]
        exact hs1
      · rename_i hne
        exact own_keep (h.row l[j] (List.getElem_mem hj)) fun q hq => Below.heap_setCell w ⟨b, k, none⟩ _ q (fun e => h.far hi hj hne b hown (by rw [hq, e]))
    · rw [map_same (f := Pc.v) l i hi ⟨l[i].to, l[i].b.set k x, l[i].v, l[i].t⟩ rfl]; exact h.apart
theorem Nt.flag {n c : Nat} (h : Nt R w g (.slice (some ⟨r, 0, none⟩) n c) l) (i : Nat) (hi : i < l.length) (q : Bool) :
    w.cell? ⟨r, i * 3 + 2, none⟩ = some (.bool l[i].t) ∧ w.frozen? ⟨r, i * 3 + 2, none⟩ = false ∧ Nt R (w.setCell ⟨r, i * 3 + 2, none⟩ (.bool q)) g (.slice (some ⟨r, 0, none⟩) n c) (l.set i ⟨l[i].to, l[i].b, l[i].v, q⟩) ∧ Tn R w (w.setCell ⟨r, i * 3 + 2, none⟩ (.bool q)) := by
  obtain ⟨A, c', hv, hx⟩ := h.at_
  obtain ⟨r', hA, hR, ⟨cur, hb⟩, hra⟩ := hx i hi
  injection hv with h1 h2 h3
  subst h2 h3
  rw [hA] at h1
  simp only [Option.some.injEq, Addr.mk.injEq, and_true] at h1
  subst h1
  have ho : w.ownsRow R 52 3 (.slice (some ⟨r, 0, none⟩) l.length c) l.length (l.flatMap encP) := h.own
  obtain ⟨hs1, _⟩ := ho.stored (i * 3 + 2) (.bool q)
  refine ⟨hra 2 _ rfl, ho.frozenAt _, ⟨h.base, ?_, ?_, ?_, ?_⟩, Tn.but (But.setCell w r _ _) hR (Nat.le_trans h.base (Nat.le_of_lt h.lt)) hb (.inr (.inl rfl))⟩
  · exact (But.setCell w r _ _).blk h.blk (blk_ne h.blk hb (by decide))
  · unfold OwnK
    rw [List.length_set, flat_set (enc := encP) encP_len 2 (.bool q) l i hi _ (by decide) rfl]
    exact hs1
  · intro p hp
    have key : ∀ p' ∈ l, Ob R (w.setCell ⟨r, i * 3 + 2, none⟩ (.bool q)) p'.v p'.b := fun p' hp' => own_keep (h.row p' hp') fun k hk => Below.heap_setCell w ⟨r, i * 3 + 2, none⟩ _ k (by
        obtain ⟨_, cs, hb2⟩ := own_blk (h.row p' hp') hk
        exact blk_ne hb2 hb (by decide))
    rcases List.mem_or_eq_of_mem_set hp with hp | rfl
    · exact key p hp
    · exact key l[i] (List.getElem_mem hi)
  · rw [map_same (f := Pc.v) l i hi ⟨l[i].to, l[i].b, l[i].v, q⟩ rfl]; exact h.apart
end

set_option maxHeartbeats 1000000 in
theorem nturn_out {R g : Nat} {v : Value} {l : List Pc} (i at_ y : Int) (w : World) (h : Nt R w g v l) (hi : ¬ (0 ≤ i ∧ i < l.length)) :
    Calls Try.prog 11 #[.pointer (some ⟨g, 0, none⟩), .int .i64 i, .int .i64 at_, .int .u8 y] w fun e w' => e = .returned (.int .i64 5) ∧ w = w' := by
  have HC := Lib.hid (find_out i w h hi)
  clear h hi
  go_enter Try.func11, Try.ntmps11
  go_wp2_with fail
  refine HC.out.mono ?_
  rintro e w' ⟨rfl, rfl⟩
  go_wp2
  go_ret
  exact ⟨rfl, rfl⟩
set_option maxHeartbeats 1000000 in
theorem nturn_range {R g : Nat} {v : Value} {l : List Pc} (i : Nat) (at_ y : Int) (w : World) (h : Nt R w g v l) (hi : i < l.length) (ha : ¬ (0 ≤ at_ ∧ at_ < l[i].b.length)) :
    Calls Try.prog 11 #[.pointer (some ⟨g, 0, none⟩), .int .i64 i, .int .i64 at_, .int .u8 y] w fun e w' => e = .returned (.int .i64 4) ∧ w = w' := by
  obtain ⟨A, c, rfl, hx⟩ := h.at_
  obtain ⟨r, rfl, hr, _, hra⟩ := hx i hi
  have hs := (h.row l[i] (List.getElem_mem hi)).sl
  have HF := Lib.hid (find_in i w h hi)
  obtain ⟨B, d, hv⟩ := hs.form
  obtain ⟨k0, k1, k2⟩ := at_cells hra
  rw [hv] at k1
  clear hv hx h hs hra hr k0 k2
  generalize l[i].b.length = n at *
  clear hi
  by_cases h0 : 0 ≤ at_
  · have h1 : ¬ at_ < (n : Int) := fun h1 => ha ⟨h0, h1⟩
    clear ha
    go_enter Try.func11, Try.ntmps11
    go_wp2_with fail
    refine HF.out.mono ?_
    rintro e w' ⟨rfl, rfl⟩
    go_wp2
    go_ret
    exact ⟨rfl, rfl⟩
  · clear ha
    go_enter Try.func11, Try.ntmps11
    go_wp2_with fail
    refine HF.out.mono ?_
    rintro e w' ⟨rfl, rfl⟩
    go_wp2
    go_ret
    exact ⟨rfl, rfl⟩
set_option maxHeartbeats 1000000 in
theorem nturn_was {R g : Nat} {v : Value} {l : List Pc} (i at_ : Nat) (y : Int) (w : World) (h : Nt R w g v l) (hi : i < l.length) (ha : at_ < l[i].b.length) (ht : l[i].t = true) :
    Calls Try.prog 11 #[.pointer (some ⟨g, 0, none⟩), .int .i64 i, .int .i64 at_, .int .u8 y] w fun e w' => e = .returned (.int .i64 1) ∧ w = w' := by
  obtain ⟨A, c, rfl, hx⟩ := h.at_
  obtain ⟨r, rfl, hr, _, hra⟩ := hx i hi
  have hs := (h.row l[i] (List.getElem_mem hi)).sl
  have HF := Lib.hid (find_in i w h hi)
  obtain ⟨B, d, hv⟩ := hs.form
  obtain ⟨k0, k1, k2⟩ := at_cells hra
  rw [hv] at k1
  rw [ht] at k2
  clear hv hx h hs hra hr k0 ht
  generalize l[i].b.length = n at *
  clear hi
  have h0 : (0 : Int) ≤ (at_ : Int) := by omega
  have h1 : (at_ : Int) < (n : Int) := by omega
  clear ha
  go_enter Try.func11, Try.ntmps11
  go_wp2_with fail
  refine HF.out.mono ?_
  rintro e w' ⟨rfl, rfl⟩
  go_wp2
  go_ret
  exact ⟨rfl, rfl⟩
set_option maxHeartbeats 2000000 in
theorem nturn_in {R g : Nat} {v : Value} {l : List Pc} (i at_ : Nat) (y : UInt8) (w : World) (h : Nt R w g v l) (hi : i < l.length) (ha : at_ < l[i].b.length) (ht : l[i].t = false) :
    Calls Try.prog 11 #[.pointer (some ⟨g, 0, none⟩), .int .i64 i, .int .i64 at_, bv y] w fun e w' => e = .returned (.int .i64 0) ∧ Nt R w' g v (l.set i ⟨l[i].to, l[i].b.set at_ (l[i].b[at_] ^^^ y), l[i].v, true⟩) ∧ Tn R w w' := by
  obtain ⟨A, c, rfl, hx⟩ := h.at_
  obtain ⟨r, rfl, hr, ⟨cur, hbk⟩, hra⟩ := hx i hi
  have HF := Lib.hid (find_in i w h hi)
  obtain ⟨k0, k1, k2⟩ := at_cells hra
  obtain ⟨b, d, hv, hc, hf, hN1, hT1⟩ := h.byte i hi at_ ha (l[i].b[at_] ^^^ y)
  obtain ⟨g2, gf, hN2, hT2⟩ := hN1.flag i (by simpa using hi) true
  have hbb := (own_blk (h.row l[i] (List.getElem_mem hi)) (by rw [hv]; rfl : l[i].v.ownBlock = some b)).2.choose_spec
  have hne : r ≠ b := blk_ne hbk hbb (by decide)
  have HN : Hid (Nt R ((w.setCell ⟨b, at_, none⟩ (bv (l[i].b[at_] ^^^ y))).setCell ⟨r, i * 3 + 2, none⟩ (.bool true)) g (.slice (some ⟨r, 0, none⟩) l.length c) (l.set i ⟨l[i].to, l[i].b.set at_ (l[i].b[at_] ^^^ y), l[i].v, true⟩)) := Lib.hid (by
    have := hN2
    simp only [List.getElem_set_self, List.set_set] at this
    exact this)
  have HT := Lib.hid (hT1.trans hT2)
  simp only [List.getElem_set_self] at g2
  rw [ht] at g2
  rw [hv] at k1
  have hx9 := u8x l[i].b[at_] y
  obtain ⟨x, hxx⟩ : ∃ x, x = l[i].b[at_] := ⟨_, rfl⟩
  rw [← hxx] at hc hx9 HN HT g2 gf ⊢
  rw [ht] at k2
  clear hN1 hN2 hT1 hT2 hra hx h hbk hbb hv k0 hxx ht
  unfold bv at *
  rw [← hx9] at HN HT g2 gf
  clear hx9
  obtain ⟨n, hn⟩ : ∃ n, n = l[i].b.length := ⟨_, rfl⟩
  rw [← hn] at k1
  have h0 : (0 : Int) ≤ (at_ : Int) := by omega
  have h1 : (at_ : Int) < (n : Int) := by omega
  have HHn := Lib.hid hn
  clear hn ha
  go_enter Try.func11, Try.ntmps11
  go_wp2_with fail
  refine HF.out.mono ?_
  rintro e w' ⟨rfl, rfl⟩
  go_wp2
  go_ret
  exact ⟨rfl, HN.out, HT.out⟩

end Go.Proofs.Ytoicncmlmhljmaa
