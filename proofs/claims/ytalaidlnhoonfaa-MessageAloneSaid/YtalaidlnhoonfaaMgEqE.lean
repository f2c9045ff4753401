/-
  Two events, two rows of events: are they the same? What the model's == tells of two events. Conditions: none.
-/
import Derived.Test.YtalaidlnhoonfaaMgBack
namespace Go.Proofs.Ytalaidlnhoonfaa
open Go.RowKit

def eqE (e f : Ev) : Bool := (e.r == f.r) && (e.c == f.c) && eqV e.p f.p && (e.op == f.op) && (e.ek == f.ek) && (e.a.toList == f.a.toList) && (e.b.toList == f.b.toList) && (e.cc.toList == f.cc.toList) && (e.d.toList == f.d.toList) && (e.vk == f.vk) && (e.vn == f.vn) && (e.t.toList == f.t.toList)
set_option maxRecDepth 100000 in
set_option maxHeartbeats 2000000 in
theorem run_neE (w : World) (e f : Ev) : (binOp .neq 48 (evV e) (evV f)).run Try.prog w = .ok (.bool (!eqE e f)) w := by
  have hq := run_equalIn_arr Try.prog w 9997 23 3 e.p f.p Try.underlying23 Try.underlying3 sizeI
  rw [vA_lit, vA_lit] at hq
  unfold eqE
  obtain ⟨r, c, p, op, ek, a, b, cc, d, vk, vn, t⟩ := e
  obtain ⟨r', c', p', op', ek', a', b', cc', d', vk', vn', t'⟩ := f
  dsimp only at *
  unfold evV evC
  dsimp only
  generalize eqV p p' = q at *
  cases h1 : (r == r') <;> cases h2 : (c == c') <;> cases q
  all_goals go_simp
  by_cases g0 : op = op'
  case neg => simp [g0]
  by_cases g1 : ek = ek'
  case neg => simp [g0, g1]
  by_cases g2 : a.toList = a'.toList
  case neg => simp [g0, g1, g2]
  by_cases g3 : b.toList = b'.toList
  case neg => simp [g0, g1, g2, g3]
  by_cases g4 : cc.toList = cc'.toList
  case neg => simp [g0, g1, g2, g3, g4]
  by_cases g5 : d.toList = d'.toList
  case neg => simp [g0, g1, g2, g3, g4, g5]
  by_cases g6 : vk = vk'
  case neg => simp [g0, g1, g2, g3, g4, g5, g6]
  by_cases g7 : vn = vn'
  case neg => simp [g0, g1, g2, g3, g4, g5, g6, g7]
  by_cases g8 : t.toList = t'.toList
  case neg => simp [g0, g1, g2, g3, g4, g5, g6, g7, g8]
  simp [g0, g1, g2, g3, g4, g5, g6, g7, g8]

theorem eqE_same {e f : Ev} (h : eqE e f = true) : Same1 e f := by
  unfold eqE at h
  simp only [Bool.and_eq_true, beq_iff_eq] at h
  obtain ⟨⟨⟨⟨⟨⟨⟨⟨⟨⟨⟨h1, h2⟩, h3⟩, h4⟩, h5⟩, h6⟩, h7⟩, h8⟩, h9⟩, h10⟩, h11⟩, h12⟩ := h
  have tl : ∀ {a b : ByteArray}, a.toList = b.toList → a = b := fun {a b} h => by
    rw [Lib.toList_data, Lib.toList_data] at h
    rw [← ba_back a, ← ba_back b, h]
  exact ⟨h1, h2, (eqV_iff _ _).1 h3, h4, h5, tl h6, tl h7, tl h8, tl h9, h10, h11, tl h12⟩
theorem eqE_self (e : Ev) : eqE e e = true := by
  unfold eqE
  simp [eqV_self]
def sameL : List Ev → List Ev → Bool
  | [], [] => true
  | e :: l, f :: r => eqE e f && sameL l r
  | _, _ => false
theorem sameL_len : ∀ {l r : List Ev}, l.length ≠ r.length → sameL l r = false
  | [], [], h => absurd rfl h
  | [], _ :: _, _ => rfl
  | _ :: _, [], _ => rfl
  | e :: l, f :: r, h => by
    unfold sameL
    rw [sameL_len (l := l) (r := r) (fun e => h (by simp [e])), Bool.and_false]
theorem sameL_no : ∀ {l r : List Ev} {i : Nat} {e f : Ev}, l[i]? = some e → r[i]? = some f → eqE e f = false → sameL l r = false
  | [], _, _, _, _, h, _, _ => by simp at h
  | _ :: _, [], _, _, _, _, h, _ => by simp at h
  | e' :: l, f' :: r, 0, e, f, h1, h2, h3 => by
    simp at h1 h2
    subst h1 h2
    unfold sameL
    rw [h3, Bool.false_and]
  | e' :: l, f' :: r, i + 1, e, f, h1, h2, h3 => by
    unfold sameL
    rw [sameL_no (l := l) (r := r) (i := i) (by simpa using h1) (by simpa using h2) h3, Bool.and_false]
theorem sameL_yes : ∀ {l r : List Ev}, l.length = r.length → (∀ (i : Nat) (e f : Ev), l[i]? = some e → r[i]? = some f → eqE e f = true) → sameL l r = true
  | [], [], _, _ => rfl
  | [], _ :: _, h, _ => by simp at h
  | _ :: _, [], h, _ => by simp at h
  | e :: l, f :: r, h, hA => by
    unfold sameL
    rw [hA 0 e f rfl rfl, Bool.true_and]
    exact sameL_yes (by simpa using h) fun i a b ha hb => hA (i + 1) a b (by simpa using ha) (by simpa using hb)
theorem sameL_eq : ∀ {l r : List Ev}, sameL l r = true → (∀ e ∈ l, Canon e) → (∀ e ∈ r, Canon e) → l = r
  | [], [], _, _, _ => rfl
  | [], _ :: _, h, _, _ => by cases h
  | _ :: _, [], h, _, _ => by cases h
  | e :: l, f :: r, h, hl, hr => by
    unfold sameL at h
    rw [Bool.and_eq_true] at h
    rw [same_eq (eqE_same h.1) (hl e List.mem_cons_self) (hr f List.mem_cons_self), sameL_eq h.2 (fun x hx => hl x (List.mem_cons_of_mem _ hx)) (fun x hx => hr x (List.mem_cons_of_mem _ hx))]
theorem sameL_self : ∀ l : List Ev, sameL l l = true
  | [] => rfl
  | e :: l => by unfold sameL; rw [eqE_self, sameL_self l]; rfl
/-- Are two messages the same? -/
def sameM (m : Mg) (l : List Ev) (n : Mg) (r : List Ev) : Bool := (m.k == n.k) && (m.f == n.f) && (m.t == n.t) && eqV m.v n.v && sameL l r
theorem sameM_self (m : Mg) (l : List Ev) : sameM m l m l = true := by
  unfold sameM
  simp [eqV_self, sameL_self]
theorem sameM_eq {m n : Mg} {l r : List Ev} (h : sameM m l n r = true) (cm : CanonM m) (cn : CanonM n) (cl : ∀ e ∈ l, Canon e) (cr : ∀ e ∈ r, Canon e) : m = n ∧ l = r := by
  unfold sameM at h
  simp only [Bool.and_eq_true, beq_iff_eq] at h
  obtain ⟨⟨⟨⟨h1, h2⟩, h3⟩, h4⟩, h5⟩ := h
  refine ⟨?_, sameL_eq h5 cl cr⟩
  obtain ⟨k, f, t, v⟩ := m
  obtain ⟨k', f', t', v'⟩ := n
  dsimp only at *
  have hv : v = v' := by
    funext i
    by_cases hi : i < 16
    · exact (eqV_iff _ _).1 h4 i hi
    · exact (cm i (by omega)).trans (cn i (by omega)).symm
  subst h1 h2 h3 hv
  rfl

end Go.Proofs.Ytalaidlnhoonfaa
