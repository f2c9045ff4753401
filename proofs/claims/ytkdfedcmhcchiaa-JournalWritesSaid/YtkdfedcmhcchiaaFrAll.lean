/-
  Rows of slices; frame.All and the reference's All: the contracts, by walks. Conditions: a bound on the length.
-/
import Derived.Test.YtkdfedcmhcchiaaFrTake
namespace Go.Proofs.Ytkdfedcmhcchiaa
open Go.RowKit

/-- A slice with what it reads, and its cell. -/
def rv (r : (Option Addr × Nat × Nat) × List UInt8) : Value := .slice r.1.1 r.1.2.1 r.1.2.2
/-- v is a slice of slices that read ls. -/
def RowsAt (w : World) (v : Value) (ls : List (List UInt8)) : Prop := ∃ rs : List ((Option Addr × Nat × Nat) × List UInt8), Sl rv w v rs ∧ (∀ r ∈ rs, Sl bv w (rv r) r.2) ∧ rs.map (·.2) = ls
/-- What r reads lies behind the base, in a block of bytes. -/
def Off (w : World) (base : Nat) (r : (Option Addr × Nat × Nat) × List UInt8) : Prop := r.2 = [] ∨ ∃ b o, r.1.1 = some ⟨b, o, none⟩ ∧ b < w.heap.size ∧ base ≤ b ∧ ∃ cs fr, w.heap[b]? = some (.cells cs 5 fr)
/-- What r reads lies behind the base. -/
def From (base : Nat) (r : (Option Addr × Nat × Nat) × List UInt8) : Prop := r.2 = [] ∨ ∃ b o, r.1.1 = some ⟨b, o, none⟩ ∧ base ≤ b
/-- v is a slice of slices that read ls, and lie behind the base. -/
def RowsFrom (w : World) (base : Nat) (v : Value) (ls : List (List UInt8)) : Prop := ∃ rs : List ((Option Addr × Nat × Nat) × List UInt8), Sl rv w v rs ∧ (∀ r ∈ rs, Sl bv w (rv r) r.2 ∧ From base r) ∧ rs.map (·.2) = ls
/-- The same, in a row of the call's own. -/
def RowsOwn (w : World) (base : Nat) (v : Value) (ls : List (List UInt8)) : Prop := ∃ rs : List ((Option Addr × Nat × Nat) × List UInt8), w.ownsRow base 34 1 v rs.length (rs.map rv) ∧ (∀ r ∈ rs, Sl bv w (rv r) r.2 ∧ Off w base r) ∧ rs.map (·.2) = ls
theorem RowsOwn.rows {w : World} {base : Nat} {v : Value} {ls : List (List UInt8)} (h : RowsOwn w base v ls) : RowsFrom w base v ls := by
  obtain ⟨rs, h1, h2, h3⟩ := h
  exact ⟨rs, Sl.of_own h1, fun r hr => ⟨(h2 r hr).1, (h2 r hr).2.imp id fun ⟨b, o, e, _, hb, _⟩ => ⟨b, o, e, hb⟩⟩, h3⟩
theorem RowsFrom.form {w : World} {base : Nat} {v : Value} {ls : List (List UInt8)} (h : RowsFrom w base v ls) : ∃ A c, v = .slice A ls.length c := by
  obtain ⟨rs, h1, h2, h3⟩ := h
  obtain ⟨A, c, rfl⟩ := h1.form
  exact ⟨A, c, by rw [← h3, List.length_map]⟩
theorem RowsOwn.form {w : World} {base : Nat} {v : Value} {ls : List (List UInt8)} (h : RowsOwn w base v ls) : ∃ A c, v = .slice A ls.length c := h.rows.form
theorem RowsAt.below {w w' : World} {v : Value} {ls : List (List UInt8)} (h : RowsAt w v ls) (hb : Below w.heap.size w w') : RowsAt w' v ls := by
  obtain ⟨rs, h1, h2, h3⟩ := h
  exact ⟨rs, h1.below hb, fun r hr => (h2 r hr).below hb, h3⟩
theorem RowsAt.form {w : World} {v : Value} {ls : List (List UInt8)} (h : RowsAt w v ls) : ∃ A c, v = .slice A ls.length c := by
  obtain ⟨rs, h1, h2, h3⟩ := h
  obtain ⟨A, c, rfl⟩ := h1.form
  exact ⟨A, c, by rw [← h3, List.length_map]⟩
theorem Off.kept {w w' : World} {base : Nat} {r : (Option Addr × Nat × Nat) × List UInt8} {row : Option Nat} (h : Off w base r) (hg : w.grownBy w' row) (hne : ∀ b o, r.1.1 = some ⟨b, o, none⟩ → r.2 ≠ [] → row ≠ some b) : Off w' base r := by
  by_cases h0 : r.2 = []
  · exact .inl h0
  · rcases h with h | ⟨b, o, h1, h2, h3⟩
    · exact absurd h h0
    · obtain ⟨h3, cs, fr, h4⟩ := h3
      exact .inr ⟨b, o, h1, Nat.lt_of_lt_of_le h2 hg.size, h3, cs, fr, (hg.block b h2 (fun e => hne b o h1 h0 e.symm)).trans h4⟩
theorem Sl.grown_ {w w' : World} {r : (Option Addr × Nat × Nat) × List UInt8} {row : Option Nat} (h : Sl bv w (rv r) r.2) (hg : w.grownBy w' row) (hne : ∀ b o, r.1.1 = some ⟨b, o, none⟩ → r.2 ≠ [] → row ≠ some b) : Sl bv w' (rv r) r.2 := by
  obtain ⟨A, c, hv, hlc, hx⟩ := h
  refine ⟨A, c, hv, hlc, fun hn => ?_⟩
  obtain ⟨b, o, hA, hb, hcell⟩ := hx hn
  injection hv with hv1 _ _
  refine ⟨b, o, hA, Nat.lt_of_lt_of_le hb hg.size, fun j u hu => ?_⟩
  have := World.cell?_of_block (a := ⟨b, o + j, none⟩) (hg.block b hb (fun e => hne b o (hv1.trans hA) hn e.symm))
  exact this.trans (hcell j u hu)
theorem off_ne {w : World} {base n : Nat} {v : Value} {xs : List Value} {r : (Option Addr × Nat × Nat) × List UInt8} (ho : w.ownsRow base 34 1 v n xs) (h : Off w base r) : ∀ b o, r.1.1 = some ⟨b, o, none⟩ → r.2 ≠ [] → v.ownBlock ≠ some b := by
  intro b o hb h0 e
  rcases h with h | ⟨b', o', h1, _, h3⟩
  · exact h0 h
  · rw [h1] at hb
    injection hb with hb
    injection hb with hb _
    subst hb
    rcases ho.2 with ⟨rfl, _⟩ | ⟨g, cap, cur, rfl, hg, hc, _⟩
    · simp [Value.ownBlock] at e
    · simp [Value.ownBlock] at e
      subst e
      obtain ⟨_, cs, fr, h4⟩ := h3
      rw [hc] at h4
      injection h4 with h4
      injection h4 with _ h4 _
      exact absurd h4 (by decide)
theorem grownBy_below {w w' : World} (hb : Below w.heap.size w w') (row : Option Nat) : w.grownBy w' row := ⟨hb.os, hb.tape, hb.output, hb.size, fun i hi _ => hb.block i hi⟩
theorem RowsOwn.below {w w' : World} {base : Nat} {v : Value} {ls : List (List UInt8)} (h : RowsOwn w base v ls) (hb : Below w.heap.size w w') : RowsOwn w' base v ls := by
  obtain ⟨rs, h1, h2, h3⟩ := h
  exact ⟨rs, h1.kept (row := none) (grownBy_below hb none) (by cases hv : v.ownBlock <;> simp), fun r hr => ⟨(h2 r hr).1.below hb, (h2 r hr).2.kept (grownBy_below hb none) (fun _ _ _ _ e => by cases e)⟩, h3⟩
theorem RowsOwn.nil (w : World) (base : Nat) : RowsOwn w base (.slice none 0 0) [] := ⟨[], World.ownsRow_nil _ _ _ _, fun r hr => by simp at hr, rfl⟩

theorem infoS : (Try.prog.info? 34).map (fun i => (i.zero, i.size, i.bytes)) = some (some (.slice none 0 0), 1, 24) := by kernel_rfl

/-- append of one slice, out of a row just laid. -/
theorem append_row (w0 w : World) (v : Value) (ls : List (List UInt8)) (h : RowsOwn w w0.heap.size v ls) (hb : Below w0.heap.size w0 w) (A : Option Addr) (n c : Nat) (l : List UInt8) (hs : Sl bv w (.slice A n c) l) (hoff : Off w w0.heap.size ((A, n, c), l)) (hlen : ls.length + 1 ≤ 1000000000) :
    ∃ v' w', (Builtin.append_ #[42, 42] 42 #[v, .slice (some ⟨w.heap.size, 0, none⟩) 1 1]).run Try.prog (w.alloc (.cells #[.slice A n c] 34)) = .ok v' w' ∧ RowsOwn w' w0.heap.size v' (ls ++ [l]) ∧ Below w0.heap.size w0 w' := by
  obtain ⟨i0, hi, hz0, hz1, hz2⟩ := info_parts infoS
  obtain ⟨rs, h1, h2, h3⟩ := h
  have hl : rs.length = ls.length := by rw [← h3, List.length_map]
  have hal : Below w.heap.size w (w.alloc (.cells #[.slice A n c] 34)) := (Below.refl _ _).alloc (Nat.le_refl _) _
  have ho := h1.alloc (.cells #[.slice A n c] 34)
  have hx : Sl rv (w.alloc (.cells #[.slice A n c] 34)) (.slice (some ⟨w.heap.size, 0, none⟩) 1 1) [((A, n, c), l)] := by
    refine ⟨_, _, rfl, Nat.le_refl _, fun _ => ⟨w.heap.size, 0, rfl, by simp, fun j u hu => ?_⟩⟩
    rw [(Blk.new w _ _).cell (0 + j)]
    have hj : j = 0 := by have := (List.getElem?_eq_some_iff.1 hu).1; simp at this; exact this
    subst hj
    simp at hu
    subst hu
    rfl
  obtain ⟨v', w2, hr, ho2, hg2⟩ := run_append_sl (P := Try.prog) (w.alloc (.cells #[.slice A n c] 34)) w0.heap.size 42 42 34 i0 (.slice none 0 0) 24 Try.underlying42 hi hz0 hz1 hz2 rfl _ _ _ ho _ _ hx (fun _ => rfl) (by simp; omega) (by simp; omega) (by have := hb.size; simp; omega)
  have hbw : Below w0.heap.size w0 w2 := (hb.alloc hb.size _).grown hg2 (by have := hb.size; simp; omega) (fun k hk => (ho.lt k hk).1)
  refine ⟨v', w2, hr, ⟨rs ++ [((A, n, c), l)], by rw [List.length_append, List.map_append]; exact ho2, fun r hr => ?_, by simp [h3]⟩, hbw⟩
  have hall : Sl bv w (rv r) r.2 ∧ Off w w0.heap.size r := by
    rcases List.mem_append.1 hr with hr | hr
    · exact h2 r hr
    · simp at hr
      subst hr
      exact ⟨hs, hoff⟩
  have hoa : Off (w.alloc (.cells #[.slice A n c] 34)) w0.heap.size r := hall.2.kept (grownBy_below hal none) (fun _ _ _ _ e => by cases e)
  have hne := off_ne ho hoa
  exact ⟨(hall.1.below hal).grown_ hg2 hne, hoa.kept hg2 hne⟩

/-- What All hands back. -/
def AllIs (w : World) (t : List (List UInt8) × Nat × Nat) (e : Ending) (w' : World) : Prop := ∃ v, e = .returned (.tuple #[v, .int .i64 t.2.1, .int .i64 t.2.2]) ∧ RowsFrom w' w.heap.size v t.1 ∧ Below w.heap.size w w'
/-- How far All has come. -/
def Come (b : List UInt8) (done : List (List UInt8)) (k : Nat) : Prop := k ≤ b.length ∧ done.length ≤ k ∧ allF b = (done ++ (allF (b.drop k)).1, k + (allF (b.drop k)).2.1, (allF (b.drop k)).2.2)
theorem Come.start (b : List UInt8) : Come b [] 0 := ⟨Nat.zero_le _, Nat.zero_le _, by simp⟩
theorem Come.next {b : List UInt8} {done : List (List UInt8)} {k : Nat} (h : Come b done k) (hk : k < b.length) (he : (takeF (b.drop k)).2.2 = 0) : Come b (done ++ [(takeF (b.drop k)).1]) (k + (takeF (b.drop k)).2.1) := by
  obtain ⟨h1, h2, h3⟩ := h
  have hs := takeF_size _ he
  rw [List.length_drop] at hs
  have h0 : b.drop k ≠ [] := by intro e; have := congrArg List.length e; rw [List.length_drop] at this; simp at this; omega
  refine ⟨by omega, by simp; omega, ?_⟩
  rw [h3, allF_cons _ h0 he, List.drop_drop]
  simp only [List.append_assoc, List.singleton_append, Nat.add_assoc]
theorem Come.fail {b : List UInt8} {done : List (List UInt8)} {k : Nat} (h : Come b done k) (hk : k < b.length) (he : (takeF (b.drop k)).2.2 ≠ 0) : allF b = (done, k, (takeF (b.drop k)).2.2) := by
  have h0 : b.drop k ≠ [] := by intro e; have := congrArg List.length e; rw [List.length_drop] at this; simp at this; omega
  rw [h.2.2, allF_err _ h0 he]; simp
theorem Come.done {b : List UInt8} {done : List (List UInt8)} (h : Come b done b.length) : allF b = (done, b.length, 0) := by
  rw [h.2.2, List.drop_length, allF_nil]; simp

end Go.Proofs.Ytkdfedcmhcchiaa
