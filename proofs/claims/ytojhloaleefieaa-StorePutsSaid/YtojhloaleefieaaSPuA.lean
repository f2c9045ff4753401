/-
  StorePuts: a store's Put and Entries where it lies, and the law's own map. Conditions: lengths.
-/
import Derived.Test.YtojhloaleefieaaSPuN
import Derived.Test.YtojhloaleefieaaStCopA
namespace Go.Proofs.Ytojhloaleefieaa
open Go.RowKit Go.MapKept Go.Sort

/-- A slice as a map's value. -/
def eSl (s : Option Addr × Nat × Nat) : Value := .slice s.1 s.2.1 s.2.2
/-- What the law's own map has is what the store has. -/
def RelP (w : World) (σ : List (El × List (Dt × Va))) (M : List (El × (Option Addr × Nat × Nat))) : Prop :=
  ∀ y, (getL y M = none → entS y σ = []) ∧ ∀ s, getL y M = some s → ∃ l, SlK enN 5 w (eSl s) l ∧ l.length = s.2.1 ∧ l.length ≤ 20 ∧ entS y σ = l ∧ rightI y l = true
theorem wpList_act {P : Program} {ops : Array Oper} {rest : List Oper} {o : Oper} {a : Act} {w : World} {Q : Exit → Act → World → Prop} (hw : Region.wanted o (yielded ops a.tmps) = true) (w' : World)
    (hr : (execOp a.eval o).run P w = .ok .skip w') (h : wpList P ops Q rest (a.put o.dst undef) w') : wpList P ops Q (o :: rest) a w :=
  wpList_step fun K hK => by
    rw [if_pos hw]
    unfold Oper.wp
    rw [hr]
    exact hK _ _ h
theorem zero_slE (w : World) : (zeroValue 44).run Try.prog w = .ok (eSl (none, 0, 0)) w := by kernel_rfl
theorem look_M {w : World} {b : Nat} {M : List (El × (Option Addr × Nat × Nat))} (h : MapIs eE eSl w b M) (x : El) (s : Option Addr × Nat × Nat) (hs : (getL x M).getD (none, 0, 0) = s) :
    (Instr.lookup 55 (.map (some b)) (eE x) false).run Try.prog w = .ok (.slice s.1 s.2.1 s.2.2) w := by
  refine (look_run h keyE Try.underlying55 (zero_slE w) x).trans ?_
  subst hs
  cases getL x M <;> rfl
theorem RelP.at_ {w : World} {σ : List (El × List (Dt × Va))} {M : List (El × (Option Addr × Nat × Nat))} (h : RelP w σ M) (x : El) :
    ∃ (A : Option Addr) (n c : Nat) (l : List (Dt × Va)), (getL x M).getD (none, 0, 0) = (A, n, c) ∧ SlK enN 5 w (.slice A n c) l ∧ l.length = n ∧ l.length ≤ 20 ∧ entS x σ = l ∧ l.Pairwise (fun a b => cfD a.1 b.1 < 0) := by
  obtain ⟨h1, h2⟩ := h x
  cases hg : getL x M with
  | none => exact ⟨none, 0, 0, [], rfl, SlK.nil_ _ _ _, rfl, by decide, h1 hg, List.Pairwise.nil⟩
  | some s =>
    obtain ⟨l, q1, q2, q3, q4, q5⟩ := h2 s hg
    obtain ⟨A, n, c⟩ := s
    exact ⟨A, n, c, l, rfl, q1, q2, q3, q4, right_pair q5⟩
theorem RelP.put {w : World} {σ : List (El × List (Dt × Va))} {M : List (El × (Option Addr × Nat × Nat))} (h : RelP w σ M) {x : El} {l : List (Dt × Va)} {A : Option Addr} {n c : Nat} (hs : SlK enN 5 w (.slice A n c) l) (hn : l.length = n) (hl : l.length ≤ 20) (hr : rightI x l = true) :
    RelP w (putI x l σ) (putL x (A, n, c) M) := by
  intro y
  rw [getL_putL, ent_put (right_keys hr)]
  by_cases e : x = y
  · subst e
    rw [if_pos rfl, if_pos rfl]
    refine ⟨(by intro e; cases e), fun s hs' => ?_⟩
    injection hs' with hs'
    subst hs'
    exact ⟨l, hs, hn, hl, rfl, hr⟩
  · rw [if_neg e, if_neg e]
    exact h y
theorem row_same {W : World} {base : Nat} {v : Value} {l : List (Dt × Va)} (h : RowIs W base v l) (hp : l.Pairwise fun a b => cfD a.1 b.1 < 0) : OwnK enN base 48 5 W v l := by
  obtain ⟨l', p1, p2, p3⟩ := h
  have hn : (keysL l).Nodup := by
    unfold keysL
    refine List.pairwise_map.2 (hp.imp fun {a b} hab e => ?_)
    rw [e, cfD_self] at hab
    omega
  have e : l' = l := row_unique hn p1 p2 (List.Perm.refl l) (hp.imp fun {a b} hab => by
    have h1 := cfD_ok.anti a.1 b.1
    unfold ltOf cfN
    simp
    omega)
  subst e
  exact p3
theorem put_there {w w0 W : World} {sb B : Nat} {σ : List (El × List (Dt × Va))} (h : StAt w0 sb B σ) (hb : Below w0.heap.size w0 W) (hB : B ≤ w0.heap.size) (x : El) (l : List (Dt × Va)) (A : Option Addr) (N c : Nat)
    (hs : SlK enN 5 w (.slice A N c) l) (hw : Below w.heap.size w W) (hsb : w.heap.size ≤ sb) (hwB : w.heap.size ≤ B) (hN : l.length = N) (hN2 : N ≤ 1000000) (hx : LenE x) (hv : ∀ q ∈ l, q.2.t.size ≤ 140737488355328) (hc : CutOk W) (r : Bool) (hr : rightI x l = r) :
    Calls Try.prog 19 #[.pointer (some ⟨sb, 0, none⟩), .agg #[.int .i64 x.k, .string x.a, .string x.b, .string x.c, .string x.d, .slice A N c]] W fun e w' =>
      e = .returned (.int .i64 (codeI r)) ∧ StAt w' sb B (if r then putI x l σ else σ) ∧ Kept sb B W w' ∧ ∀ k, w0.heap.size ≤ k → k < W.heap.size → w'.heap[k]? = W.heap[k]? := by
  obtain ⟨F, h1, h2⟩ := h
  subst hr
  refine (put_any x l A N c sb F σ W (h1.below hb) (hs.below hw) (fun hn g o e hF => by
    obtain ⟨A', c', hv', _, hcc⟩ := hs
    obtain ⟨b, o', hA', hbl, _⟩ := hcc hn
    injection hv' with e1
    rw [e1, hA'] at e
    injection e with e
    injection e with e _ _
    subst e
    rcases h2 b hF with q | q <;> omega) hN hN2 hx hv hc).mono ?_
  rintro y w' ⟨r1, r2, r3⟩
  exact ⟨r1, ⟨_, r2, fun i hi => by
    rcases hi with hi | hi
    · exact h2 i hi
    · exact .inr (Nat.le_trans (Nat.le_trans hB hb.size) hi.1)⟩, r3.mono h2, fun k hk hk2 => Out.block r3 k hk2 (fun hF => by have := h1.2.1 k hF; omega)⟩
theorem entries_there {W : World} {sb B : Nat} {σ : List (El × List (Dt × Va))} (h : StAt W sb B σ) (x : El) (l : List (Dt × Va)) (n : Nat) (hn : l.length = n) (he : entS x σ = l) (hl : l.length ≤ 20) (hp : l.Pairwise fun a b => cfD a.1 b.1 < 0) :
    Calls Try.prog 20 #[.pointer (some ⟨sb, 0, none⟩), eE x] W fun e w' => ∃ A c, e = .returned (.slice A n c) ∧ OwnK enN W.heap.size 48 5 w' (.slice A n c) l ∧ Below W.heap.size W w' := by
  subst hn
  obtain ⟨F, h1, _⟩ := h
  refine (entries_any x sb F σ W h1 (by rw [he]; omega)).mono ?_
  rintro y w' ⟨v, r1, r2, r3⟩
  rw [he] at r2
  have ho := row_same r2 hp
  obtain ⟨A, c, rfl⟩ : ∃ A c, v = .slice A l.length c := by
    rcases ho.2 with ⟨rfl, h0⟩ | ⟨g, cap, cur, rfl, _⟩
    · exact ⟨none, 0, by rw [h0]⟩
    · exact ⟨_, cap, rfl⟩
  exact ⟨A, c, r1, ho, r3⟩
theorem StAt.beside {w w' : World} {sb B c : Nat} {σ : List (El × List (Dt × Va))} (h : StAt w sb B σ) (hb : But c w w') (h1 : c ≠ sb) (h2 : c < B) : StAt w' sb B σ := by
  obtain ⟨F, q1, q2⟩ := h
  refine ⟨F, q1.kept hb.size fun i hi => hb.block i (q1.2.1 i hi) (fun e => ?_), q2⟩
  have e := Option.some.inj e
  rcases q2 i hi with q | q <;> omega
theorem but_below {w w' : World} {c C : Nat} (h : But c w w') (h1 : C ≤ c) (h2 : C ≤ w.heap.size) : Below C w w' := (Out.of_but (F := fun i => i = c) h rfl).below h2 fun i hi => by rw [hi]; exact h1
theorem put_true {w w0 W : World} {sb B : Nat} {σ : List (El × List (Dt × Va))} (h : StAt w0 sb B σ) (hb : Below w0.heap.size w0 W) (hB : B ≤ w0.heap.size) (x : El) (l : List (Dt × Va)) (A : Option Addr) (N c : Nat)
    (hs : SlK enN 5 w (.slice A N c) l) (hw : Below w.heap.size w W) (hsb : w.heap.size ≤ sb) (hwB : w.heap.size ≤ B) (hN : l.length = N) (hN2 : N ≤ 1000000) (hx : LenE x) (hv : ∀ q ∈ l, q.2.t.size ≤ 140737488355328) (hc : CutOk W) (hr : rightI x l = true) :
    Calls Try.prog 19 #[.pointer (some ⟨sb, 0, none⟩), .agg #[.int .i64 x.k, .string x.a, .string x.b, .string x.c, .string x.d, .slice A N c]] W fun e w' =>
      e = .returned (.int .i64 0) ∧ StAt w' sb B (putI x l σ) ∧ Kept sb B W w' ∧ ∀ k, w0.heap.size ≤ k → k < W.heap.size → w'.heap[k]? = W.heap[k]? :=
  put_there h hb hB x l A N c hs hw hsb hwB hN hN2 hx hv hc true hr
theorem put_false {w w0 W : World} {sb B : Nat} {σ : List (El × List (Dt × Va))} (h : StAt w0 sb B σ) (hb : Below w0.heap.size w0 W) (hB : B ≤ w0.heap.size) (x : El) (l : List (Dt × Va)) (A : Option Addr) (N c : Nat)
    (hs : SlK enN 5 w (.slice A N c) l) (hw : Below w.heap.size w W) (hsb : w.heap.size ≤ sb) (hwB : w.heap.size ≤ B) (hN : l.length = N) (hN2 : N ≤ 1000000) (hx : LenE x) (hv : ∀ q ∈ l, q.2.t.size ≤ 140737488355328) (hc : CutOk W) (hr : rightI x l = false) :
    Calls Try.prog 19 #[.pointer (some ⟨sb, 0, none⟩), .agg #[.int .i64 x.k, .string x.a, .string x.b, .string x.c, .string x.d, .slice A N c]] W fun e w' =>
      e = .returned (.int .i64 1) ∧ StAt w' sb B σ ∧ Kept sb B W w' ∧ ∀ k, w0.heap.size ≤ k → k < W.heap.size → w'.heap[k]? = W.heap[k]? :=
  put_there h hb hB x l A N c hs hw hsb hwB hN hN2 hx hv hc false hr

end Go.Proofs.Ytojhloaleefieaa
