/-
  Events' bytes, read: there and back; more behind; none behind. Plain mathematics. Conditions: none.
-/
import Derived.Test.YtalaidlnhoonfaaQMk
namespace Go.Proofs.Ytalaidlnhoonfaa
open Go.RowKit

/-- What is left, with more behind. -/
def addS (s : List UInt8 × Bool) (t : List UInt8) : List UInt8 × Bool := (s.1 ++ t, s.2)
theorem rNum_flag (s : List UInt8 × Bool) (m : Int) (h : (rNum s m).2.2 = false) : s.2 = false := by
  cases hs : s.2 with
  | false => rfl
  | true => unfold rNum at h; rw [if_pos hs] at h; rw [hs] at h; cases h
theorem rNum_add (s : List UInt8 × Bool) (t : List UInt8) (m : Int) (h : (rNum s m).2.2 = false) : rNum (addS s t) m = ((rNum s m).1, addS (rNum s m).2 t) := by
  have hs := rNum_flag s m h
  obtain ⟨l, f⟩ := s
  dsimp only at hs
  subst hs
  cases hq : takeN l with
  | none =>
    have : rNum (l, false) m = (0, (l, true)) := by unfold rNum; simp [hq]
    rw [this] at h; cases h
  | some nk =>
    obtain ⟨n, k⟩ := nk
    obtain ⟨h1, h2, h3⟩ := takeN_some hq
    have hk := takeN_len hq
    by_cases hm : m < (n : Int)
    · have : rNum (l, false) m = (0, (l, true)) := by unfold rNum; simp [hq, hm]
      rw [this] at h; cases h
    · have e1 : rNum (l, false) m = ((n : Int), (l.drop k, false)) := by unfold rNum; simp [hq, hm]
      have hl : l ++ t = enc n ++ (l.drop k ++ t) := by rw [← List.append_assoc, ← h3]
      have hq2 : takeN (l ++ t) = some (n, k) := by rw [hl, takeN_enc _ _ h1, ← h2]
      have e2 : rNum (l ++ t, false) m = ((n : Int), ((l ++ t).drop k, false)) := by unfold rNum; simp [hq2, hm]
      show rNum (l ++ t, false) m = _
      rw [e1, e2, List.drop_append_of_le_length (by omega)]
      rfl
theorem rText_flag (s : List UInt8 × Bool) (m : Int) (h : (rText s m).2.2 = false) : (rNum s m).2.2 = false ∧ ¬ ((rNum s m).2.1.length : Int) < (rNum s m).1 := by
  unfold rText at h
  split at h
  · rename_i hq; rw [hq] at h; cases h
  · rename_i hq
    split at h
    · cases h
    · rename_i hn
      exact ⟨by simpa using hq, hn⟩
theorem rText_add (s : List UInt8 × Bool) (t : List UInt8) (m : Int) (h : (rText s m).2.2 = false) : rText (addS s t) m = ((rText s m).1, addS (rText s m).2 t) := by
  obtain ⟨h1, h2⟩ := rText_flag s m h
  have ha := rNum_add s t m h1
  have h0 := (rNum_rng s m).1
  have e1 : rText s m = ((rNum s m).2.1.take (rNum s m).1.toNat, ((rNum s m).2.1.drop (rNum s m).1.toNat, false)) := by
    unfold rText
    rw [if_neg (by rw [h1]; decide), if_neg h2]
  have e2 : rText (addS s t) m = (((rNum s m).2.1 ++ t).take (rNum s m).1.toNat, (((rNum s m).2.1 ++ t).drop (rNum s m).1.toNat, false)) := by
    unfold rText
    rw [if_neg (by rw [ha]; show ¬ (rNum s m).2.2 = true; rw [h1]; decide), if_neg (by rw [ha]; show ¬ (((rNum s m).2.1 ++ t).length : Int) < (rNum s m).1; rw [List.length_append]; omega), ha]
    rfl
  rw [e1, e2, List.take_append_of_le_length (by omega), List.drop_append_of_le_length (by omega)]
  rfl
theorem rSig_flag (s : List UInt8 × Bool) (h : (rSig s).2.2 = false) : s.2 = false := rNum_flag _ _ h
theorem rSig_add (s : List UInt8 × Bool) (t : List UInt8) (h : (rSig s).2.2 = false) : rSig (addS s t) = ((rSig s).1, addS (rSig s).2 t) := by
  have ha := rNum_add s t 2305843009213693952 h
  unfold rSig
  rw [ha]
theorem pN_flag (s : List UInt8 × Bool) (k : Nat) (h : (pN s k).2.2 = false) : (n2 s).2.2 = false := by
  induction k with
  | zero => exact h
  | succ k ih => exact ih (rNum_flag _ _ h)
theorem pN_add (s : List UInt8 × Bool) (t : List UInt8) (h2 : n2 (addS s t) = ((n2 s).1, addS (n2 s).2 t)) (k : Nat) (h : (pN s k).2.2 = false) : pN (addS s t) k = ((pN s k).1, addS (pN s k).2 t) := by
  induction k with
  | zero => show ((fun _ => 0), (n2 (addS s t)).2) = _; rw [h2]; rfl
  | succ k ih =>
    have hi := ih (rNum_flag _ _ h)
    have ha := rNum_add (pN s k).2 t mx h
    show ((fun i => if i = k then (rNum (pN (addS s t) k).2 mx).1 else (pN (addS s t) k).1 i), (rNum (pN (addS s t) k).2 mx).2) = _
    rw [hi]
    dsimp only
    rw [ha]
    rfl
/-- With more behind the same event is read, and the more is left. -/
theorem next_add (s : List UInt8 × Bool) (t : List UInt8) (h : (nextS s).2 = false) : nextE (addS s t) = nextE s ∧ nextS (addS s t) = addS (nextS s) t := by
  have f12 : (t12 s).2.2 = false := h
  have f11 : (n11 s).2.2 = false := rNum_flag _ _ (rText_flag _ _ f12).1
  have f10 : (n10 s).2.2 = false := rSig_flag _ f11
  have f9 : (t9 s).2.2 = false := rNum_flag _ _ f10
  have f8 : (t8 s).2.2 = false := rNum_flag _ _ (rText_flag _ _ f9).1
  have f7 : (t7 s).2.2 = false := rNum_flag _ _ (rText_flag _ _ f8).1
  have f6 : (t6 s).2.2 = false := rNum_flag _ _ (rText_flag _ _ f7).1
  have f5 : (n5 s).2.2 = false := rNum_flag _ _ (rText_flag _ _ f6).1
  have f4 : (n4 s).2.2 = false := rNum_flag _ _ f5
  have fp : (pN s 16).2.2 = false := rNum_flag _ _ f4
  have f2 : (n2 s).2.2 = false := pN_flag s 16 fp
  have f1 : (n1 s).2.2 = false := rNum_flag _ _ f2
  have a1 : n1 (addS s t) = ((n1 s).1, addS (n1 s).2 t) := rNum_add _ _ _ f1
  have a2 : n2 (addS s t) = ((n2 s).1, addS (n2 s).2 t) := by unfold n2; rw [a1]; exact rNum_add _ _ _ f2
  have ap := pN_add s t a2 16 fp
  have a4 : n4 (addS s t) = ((n4 s).1, addS (n4 s).2 t) := by unfold n4; rw [ap]; exact rNum_add _ _ _ f4
  have a5 : n5 (addS s t) = ((n5 s).1, addS (n5 s).2 t) := by unfold n5; rw [a4]; exact rNum_add _ _ _ f5
  have a6 : t6 (addS s t) = ((t6 s).1, addS (t6 s).2 t) := by unfold t6; rw [a5]; exact rText_add _ _ _ f6
  have a7 : t7 (addS s t) = ((t7 s).1, addS (t7 s).2 t) := by unfold t7; rw [a6]; exact rText_add _ _ _ f7
  have a8 : t8 (addS s t) = ((t8 s).1, addS (t8 s).2 t) := by unfold t8; rw [a7]; exact rText_add _ _ _ f8
  have a9 : t9 (addS s t) = ((t9 s).1, addS (t9 s).2 t) := by unfold t9; rw [a8]; exact rText_add _ _ _ f9
  have a10 : n10 (addS s t) = ((n10 s).1, addS (n10 s).2 t) := by unfold n10; rw [a9]; exact rNum_add _ _ _ f10
  have a11 : n11 (addS s t) = ((n11 s).1, addS (n11 s).2 t) := by unfold n11; rw [a10]; exact rSig_add _ _ f11
  have a12 : t12 (addS s t) = ((t12 s).1, addS (t12 s).2 t) := by unfold t12; rw [a11]; exact rText_add _ _ _ f12
  constructor
  · unfold nextE; rw [a1, a2, ap, a4, a5, a6, a7, a8, a9, a10, a11, a12]
  · unfold nextS; rw [a12]

/-- Numbers that have bytes. -/
def Enc (e : Ev) : Prop := (0 ≤ e.r ∧ e.r < 4611686018427387904) ∧ (0 ≤ e.c ∧ e.c < 4611686018427387904) ∧ (∀ i, i < 16 → 0 ≤ e.p i ∧ e.p i < 4611686018427387904) ∧ (0 ≤ e.op ∧ e.op < 4611686018427387904) ∧ (0 ≤ e.ek ∧ e.ek < 4611686018427387904) ∧ (0 ≤ e.vk ∧ e.vk < 4611686018427387904) ∧ (-1152921504606846976 ≤ e.vn ∧ e.vn ≤ 1152921504606846976)
theorem put_read (n : Int) (r : List UInt8) (h : 0 ≤ n ∧ n < 4611686018427387904) : rNum (putB n ++ r, false) mx = (n, (r, false)) := rNum_put n r mx h.1 h.2 (by unfold mx; omega)
theorem txt_read (s : ByteArray) (r : List UInt8) (h : s.size ≤ 4294967280) : rText (txtB s ++ r, false) mx = (s.data.toList, (r, false)) := by
  have hl : s.data.toList.length = s.size := Array.length_toList
  have := rText_put s.data.toList r mx (by omega) (by unfold mx; omega)
  unfold txtB
  rw [List.append_assoc, ← hl]
  exact this
def restB (p : Nat → Int) (k j : Nat) : List UInt8 := (List.range' k j).flatMap fun i => putB (p i)
theorem pastB_rest (p : Nat → Int) : pastB p 16 = restB p 0 16 := by unfold pastB restB; rw [List.range_eq_range']
theorem restB_cons (p : Nat → Int) (k j : Nat) : restB p k (j + 1) = putB (p k) ++ restB p (k + 1) j := by simp [restB, List.range'_succ]
theorem past_read (s : List UInt8 × Bool) (p : Nat → Int) (R : List UInt8) (hp : ∀ i, i < 16 → 0 ≤ p i ∧ p i < 4611686018427387904) (h2 : (n2 s).2 = (pastB p 16 ++ R, false)) :
    ∀ k, k ≤ 16 → (pN s k).2 = (restB p k (16 - k) ++ R, false) ∧ ∀ i, i < k → (pN s k).1 i = p i := by
  intro k
  induction k with
  | zero => intro _; exact ⟨by show (n2 s).2 = _; rw [h2, pastB_rest], fun i hi => by omega⟩
  | succ k ih =>
    intro hk
    obtain ⟨i1, i2⟩ := ih (by omega)
    have hr : rNum (pN s k).2 mx = (p k, (restB p (k + 1) (16 - (k + 1)) ++ R, false)) := by
      rw [i1, show 16 - k = (16 - (k + 1)) + 1 by omega, restB_cons, List.append_assoc]
      exact put_read _ _ (hp k (by omega))
    refine ⟨by show (rNum (pN s k).2 mx).2 = _; rw [hr], fun i hi => ?_⟩
    show (if i = k then (rNum (pN s k).2 mx).1 else (pN s k).1 i) = p i
    by_cases e : i = k
    · subst e; rw [if_pos rfl, hr]
    · rw [if_neg e]; exact i2 i (by omega)
/-- The same event: but for numbers that are none of its. -/
structure Same1 (e f : Ev) : Prop where
  r : e.r = f.r
  c : e.c = f.c
  p : ∀ i, i < 16 → e.p i = f.p i
  op : e.op = f.op
  ek : e.ek = f.ek
  a : e.a = f.a
  b : e.b = f.b
  cc : e.cc = f.cc
  d : e.d = f.d
  vk : e.vk = f.vk
  vn : e.vn = f.vn
  t : e.t = f.t
theorem ba_back (s : ByteArray) : ba s.data.toList = s := by unfold ba; simp
/-- There and back. -/
theorem back (e : Ev) (h : Enc e) (hl : Lens e) : Same1 (nextE (bytesE e, false)) e ∧ nextS (bytesE e, false) = ([], false) := by
  obtain ⟨hr, hc, hp, ho, hk, hv, hn⟩ := h
  obtain ⟨l1, l2, l3, l4, l5⟩ := hl
  have e0 : bytesE e = putB e.r ++ (putB e.c ++ (pastB e.p 16 ++ (putB e.op ++ (putB e.ek ++ (txtB e.a ++ (txtB e.b ++ (txtB e.cc ++ (txtB e.d ++ (putB e.vk ++ (sigB e.vn ++ (txtB e.t ++ []))))))))))) := by
    simp only [bytesE, b11, b10, b9, b8, b7, b6, b5, b4, b3, b2, b1, List.append_assoc, List.nil_append, List.append_nil]
  rw [e0]
  generalize hs : (putB e.r ++ (putB e.c ++ (pastB e.p 16 ++ (putB e.op ++ (putB e.ek ++ (txtB e.a ++ (txtB e.b ++ (txtB e.cc ++ (txtB e.d ++ (putB e.vk ++ (sigB e.vn ++ (txtB e.t ++ []))))))))))), false) = s
  have q1 : n1 s = (e.r, (putB e.c ++ (pastB e.p 16 ++ (putB e.op ++ (putB e.ek ++ (txtB e.a ++ (txtB e.b ++ (txtB e.cc ++ (txtB e.d ++ (putB e.vk ++ (sigB e.vn ++ (txtB e.t ++ [])))))))))), false)) := by unfold n1; rw [← hs]; exact put_read _ _ hr
  have q2 : n2 s = (e.c, (pastB e.p 16 ++ (putB e.op ++ (putB e.ek ++ (txtB e.a ++ (txtB e.b ++ (txtB e.cc ++ (txtB e.d ++ (putB e.vk ++ (sigB e.vn ++ (txtB e.t ++ []))))))))), false)) := by unfold n2; rw [q1]; exact put_read _ _ hc
  obtain ⟨qp, qp2⟩ := past_read s e.p _ hp (by rw [q2]) 16 (Nat.le_refl _)
  have q4 : n4 s = (e.op, (putB e.ek ++ (txtB e.a ++ (txtB e.b ++ (txtB e.cc ++ (txtB e.d ++ (putB e.vk ++ (sigB e.vn ++ (txtB e.t ++ []))))))), false)) := by
    unfold n4; rw [qp, show restB e.p 16 (16 - 16) = [] from rfl, List.nil_append]; exact put_read _ _ ho
  have q5 : n5 s = (e.ek, (txtB e.a ++ (txtB e.b ++ (txtB e.cc ++ (txtB e.d ++ (putB e.vk ++ (sigB e.vn ++ (txtB e.t ++ [])))))), false)) := by unfold n5; rw [q4]; exact put_read _ _ hk
  have q6 : t6 s = (e.a.data.toList, (txtB e.b ++ (txtB e.cc ++ (txtB e.d ++ (putB e.vk ++ (sigB e.vn ++ (txtB e.t ++ []))))), false)) := by unfold t6; rw [q5]; exact txt_read _ _ l1
  have q7 : t7 s = (e.b.data.toList, (txtB e.cc ++ (txtB e.d ++ (putB e.vk ++ (sigB e.vn ++ (txtB e.t ++ [])))), false)) := by unfold t7; rw [q6]; exact txt_read _ _ l2
  have q8 : t8 s = (e.cc.data.toList, (txtB e.d ++ (putB e.vk ++ (sigB e.vn ++ (txtB e.t ++ []))), false)) := by unfold t8; rw [q7]; exact txt_read _ _ l3
  have q9 : t9 s = (e.d.data.toList, (putB e.vk ++ (sigB e.vn ++ (txtB e.t ++ [])), false)) := by unfold t9; rw [q8]; exact txt_read _ _ l4
  have q10 : n10 s = (e.vk, (sigB e.vn ++ (txtB e.t ++ []), false)) := by unfold n10; rw [q9]; exact put_read _ _ hv
  have q11 : n11 s = (e.vn, (txtB e.t ++ [], false)) := by unfold n11; rw [q10]; exact rSig_put _ _ hn.1 hn.2
  have q12 : t12 s = (e.t.data.toList, ([], false)) := by unfold t12; rw [q11]; exact txt_read _ _ l5
  refine ⟨⟨?_, ?_, ?_, ?_, ?_, ?_, ?_, ?_, ?_, ?_, ?_, ?_⟩, ?_⟩
  · show (n1 s).1 = _; rw [q1]
  · show (n2 s).1 = _; rw [q2]
  · exact qp2
  · show (n4 s).1 = _; rw [q4]
  · show (n5 s).1 = _; rw [q5]
  · show ba (t6 s).1 = _; rw [q6]; exact ba_back _
  · show ba (t7 s).1 = _; rw [q7]; exact ba_back _
  · show ba (t8 s).1 = _; rw [q8]; exact ba_back _
  · show ba (t9 s).1 = _; rw [q9]; exact ba_back _
  · show (n10 s).1 = _; rw [q10]
  · show (n11 s).1 = _; rw [q11]
  · show ba (t12 s).1 = _; rw [q12]; exact ba_back _
  · show (t12 s).2 = _; rw [q12]
theorem same_evC {e f : Ev} (h : Same1 e f) : evC e = evC f := by
  unfold evC
  rw [h.r, h.c, h.p 0 (by decide), h.p 1 (by decide), h.p 2 (by decide), h.p 3 (by decide), h.p 4 (by decide), h.p 5 (by decide), h.p 6 (by decide), h.p 7 (by decide), h.p 8 (by decide), h.p 9 (by decide), h.p 10 (by decide), h.p 11 (by decide), h.p 12 (by decide), h.p 13 (by decide), h.p 14 (by decide), h.p 15 (by decide), h.op, h.ek, h.a, h.b, h.cc, h.d, h.vk, h.vn, h.t]
theorem same_ok {e f : Ev} (h : Same1 e f) : okB e = okB f := by
  have h1 : nextB e.p e.r e.c = nextB f.p f.r f.c := by
    unfold nextB
    rw [h.r, h.c]
    cases hd : dotB f.r f.c with
    | false => rfl
    | true =>
      obtain ⟨n, hn, h16, _⟩ := (dotB_iff _ _).1 hd
      rw [hn, Int.toNat_natCast, h.p n h16]
  have h2 : rightV e.p = rightV f.p := by
    unfold rightV
    rw [Bool.eq_iff_iff, eqV_iff, eqV_iff]
    refine forall_congr' fun i => forall_congr' fun hi => ?_
    unfold clampV
    rw [h.p i hi]
  unfold okB changeB
  rw [h1, h2, h.ek, h.a, h.b, h.cc, h.d, h.op, h.vk, h.vn, h.t]
/-- What may be has bytes. -/
theorem ok_enc (e : Ev) (h : okB e = true) : Enc e := by
  unfold okB changeB at h
  simp only [Bool.and_eq_true] at h
  obtain ⟨⟨hn, hr⟩, he, hf⟩ := h
  unfold nextB at hn
  rw [Bool.and_eq_true] at hn
  obtain ⟨n, h1, h2, h3, h4⟩ := (dotB_iff _ _).1 hn.1
  have hp : ∀ i, i < 16 → 0 ≤ e.p i ∧ e.p i ≤ 1048576 := by
    intro i hi
    unfold rightV at hr
    have := (eqV_iff _ _).1 hr i hi
    unfold clampV at this
    omega
  have hk : 1 ≤ e.ek ∧ e.ek ≤ 5 := by
    unfold elemB at he
    rw [Bool.and_eq_true, decide_eq_true_eq] at he
    exact he.1
  have hrest : (0 ≤ e.op ∧ e.op ≤ 4) ∧ (0 ≤ e.vk ∧ e.vk ≤ 3) ∧ (-1152921504606846976 ≤ e.vn ∧ e.vn ≤ 1152921504606846976) := by
    unfold fitsB at hf
    split at hf
    · rw [Bool.and_eq_true] at hf
      have := hf.2
      unfold noneB at this
      simp only [Bool.and_eq_true, beq_iff_eq] at this
      omega
    · split at hf
      · rw [Bool.and_eq_true] at hf
        have := hf.2
        unfold setB at this
        rw [Bool.and_eq_true, decide_eq_true_eq] at this
        obtain ⟨hv, hq⟩ := this
        have hvn : -1152921504606846976 ≤ e.vn ∧ e.vn ≤ 1152921504606846976 := by
          have h3 : e.vk = 1 ∨ e.vk = 2 ∨ e.vk = 3 := by omega
          rcases h3 with hv | hv | hv
          · rw [hv] at hq; simp [rightB] at hq; omega
          · rw [hv] at hq; simp [rightB] at hq; omega
          · rw [hv] at hq; simp [rightB] at hq; omega
        omega
      · split at hf
        · rw [Bool.and_eq_true] at hf
          have := hf.2
          unfold noneB at this
          simp only [Bool.and_eq_true, beq_iff_eq] at this
          omega
        · cases hf
  obtain ⟨o1, o2, o3⟩ := hrest
  exact ⟨by omega, by omega, fun i hi => by have := hp i hi; omega, by omega, by omega, by omega, o3⟩
/-- Its bytes are read as it was; with more behind, or cut, they are no event's. -/
theorem parse_back (e : Ev) (h : okB e = true) (hl : Lens e) : parsC (bytesE e) = 0 ∧ Same1 (parsE (bytesE e)) e := by
  obtain ⟨hs, hn⟩ := back e (ok_enc e h) hl
  have hc : parsC (bytesE e) = 0 := by unfold parsC; rw [hn, same_ok hs, h]; rfl
  exact ⟨hc, by unfold parsE; rw [if_pos hc]; exact hs⟩
theorem parse_more (e : Ev) (h : okB e = true) (hl : Lens e) (t : List UInt8) (ht : t ≠ []) : parsC (bytesE e ++ t) = 2 := by
  obtain ⟨hs, hn⟩ := back e (ok_enc e h) hl
  have ha := (next_add (bytesE e, false) t (by rw [hn])).2
  have hx : nextS (bytesE e ++ t, false) = (t, false) := by
    have : addS (bytesE e, false) t = (bytesE e ++ t, false) := rfl
    rw [this, hn] at ha
    exact ha
  have hd : rDone (t, false) = false := by
    cases t with
    | nil => exact absurd rfl ht
    | cons x t => rfl
  unfold parsC
  rw [hx, hd]; rfl
theorem parse_cut (e : Ev) (h : okB e = true) (hl : Lens e) (k : Nat) (hk : k < (bytesE e).length) : parsC ((bytesE e).take k) = 2 := by
  obtain ⟨hs, hn⟩ := back e (ok_enc e h) hl
  unfold parsC
  cases hd : rDone (nextS ((bytesE e).take k, false)) with
  | false => rfl
  | true =>
    exfalso
    unfold rDone at hd
    rw [Bool.and_eq_true] at hd
    have hf : (nextS ((bytesE e).take k, false)).2 = false := by simpa using hd.1
    have hr : (nextS ((bytesE e).take k, false)).1 = [] := by simpa using hd.2
    have ha := (next_add ((bytesE e).take k, false) ((bytesE e).drop k) hf).2
    have e1 : addS ((bytesE e).take k, false) ((bytesE e).drop k) = (bytesE e, false) := by
      unfold addS; rw [List.take_append_drop]
    rw [e1, hn] at ha
    have this : ([] : List UInt8) = (nextS ((bytesE e).take k, false)).1 ++ (bytesE e).drop k := congrArg Prod.fst ha
    rw [hr] at this
    have := congrArg List.length this
    simp at this
    omega

end Go.Proofs.Ytalaidlnhoonfaa
