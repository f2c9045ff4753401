/-
  Snapshots' bytes, there and back. Plain mathematics. Conditions: none.
-/
import Derived.Test.YtejljikikhecnaaGreatSnBack
namespace Go.Proofs.YtejljikikhecnaaGreat
open Go.RowKit Go.MapKept Go.Sort

/-- No number beyond the sixteen. -/
def CanonV (f : Nat → Int) : Prop := ∀ i, 16 ≤ i → f i = 0
def NumOk (n : Int) : Prop := 0 ≤ n ∧ n < 4611686018427387904
theorem put_read (n : Int) (r : List UInt8) (h : NumOk n) : rNum (putB n ++ r, false) mx = (n, (r, false)) := rNum_put n r mx h.1 h.2 (by have := h.2; unfold mx; omega)
theorem txt_read (s : ByteArray) (r : List UInt8) (h : s.size ≤ 4294967280) : rText (txtB s ++ r, false) mx = (s.data.toList, (r, false)) := by
  have hl : s.data.toList.length = s.size := Array.length_toList
  have := rText_put s.data.toList r mx (by omega) (by unfold mx; omega)
  unfold txtB
  rw [List.append_assoc, ← hl]
  exact this
theorem ba_back (s : ByteArray) : ba s.data.toList = s := by unfold ba; simp
def restB (p : Nat → Int) (k j : Nat) : List UInt8 := (List.range' k j).flatMap fun i => putB (p i)
theorem pastB_rest (p : Nat → Int) : pastB p 16 = restB p 0 16 := by unfold pastB restB; rw [List.range_eq_range']
theorem restB_cons (p : Nat → Int) (k j : Nat) : restB p k (j + 1) = putB (p k) ++ restB p (k + 1) j := by simp [restB, List.range'_succ]
theorem pV_back (p : Nat → Int) (R : List UInt8) (hp : ∀ i, i < 16 → NumOk (p i)) : ∀ k, k ≤ 16 → (pV (pastB p 16 ++ R, false) k).2 = (restB p k (16 - k) ++ R, false) ∧ (∀ i, i < k → (pV (pastB p 16 ++ R, false) k).1 i = p i) ∧ ∀ i, 16 ≤ i → (pV (pastB p 16 ++ R, false) k).1 i = 0
  | 0, _ => ⟨by show (pastB p 16 ++ R, false) = _; rw [pastB_rest], fun i hi => by omega, fun i _ => rfl⟩
  | k + 1, hk => by
    obtain ⟨i1, i2, i3⟩ := pV_back p R hp k (by omega)
    have hr : rNum (pV (pastB p 16 ++ R, false) k).2 mx = (p k, (restB p (k + 1) (16 - (k + 1)) ++ R, false)) := by
      rw [i1, show 16 - k = (16 - (k + 1)) + 1 by omega, restB_cons, List.append_assoc]
      exact put_read _ _ (hp k (by omega))
    refine ⟨by show (rNum (pV (pastB p 16 ++ R, false) k).2 mx).2 = _; rw [hr], fun i hi => ?_, fun i hi => ?_⟩
    · show (if i = k then (rNum (pV (pastB p 16 ++ R, false) k).2 mx).1 else (pV (pastB p 16 ++ R, false) k).1 i) = p i
      by_cases e : i = k
      · rw [if_pos e, hr, e]
      · rw [if_neg e]; exact i2 i (by omega)
    · show (if i = k then (rNum (pV (pastB p 16 ++ R, false) k).2 mx).1 else (pV (pastB p 16 ++ R, false) k).1 i) = 0
      rw [if_neg (by omega)]; exact i3 i hi
theorem rdF_back (p : Nat → Int) (R : List UInt8) (hp : ∀ i, i < 16 → NumOk (p i)) (hc : CanonV p) : rdF (pastB p 16 ++ R, false) = (p, (R, false)) := by
  obtain ⟨i1, i2, i3⟩ := pV_back p R hp 16 (Nat.le_refl _)
  refine Prod.ext (funext fun i => ?_) i1
  by_cases hi : i < 16
  · exact i2 i hi
  · exact (i3 i (by omega)).trans (hc i (by omega)).symm
theorem rdD_back (r c : Int) (R : List UInt8) (hr : NumOk r) (hc : NumOk c) : rdD (putB r ++ (putB c ++ R), false) = (⟨r, c⟩, (R, false)) := by
  have q1 : d1 (putB r ++ (putB c ++ R), false) = (r, (putB c ++ R, false)) := put_read _ _ hr
  have q2 : d2 (putB r ++ (putB c ++ R), false) = (c, (R, false)) := by unfold d2; rw [q1]; exact put_read _ _ hc
  unfold rdD; rw [q1, q2]
/-- A value that has bytes. -/
def EncA (v : Va) : Prop := NumOk v.k ∧ (-1152921504606846976 ≤ v.n ∧ v.n ≤ 1152921504606846976) ∧ v.t.size ≤ 4294967280
theorem rdA_back (v : Va) (R : List UInt8) (h : EncA v) : rdA (putB v.k ++ (sigB v.n ++ (txtB v.t ++ R)), false) = (v, (R, false)) := by
  obtain ⟨h1, h2, h3⟩ := h
  have q1 : a1 (putB v.k ++ (sigB v.n ++ (txtB v.t ++ R)), false) = (v.k, (sigB v.n ++ (txtB v.t ++ R), false)) := put_read _ _ h1
  have q2 : a2 (putB v.k ++ (sigB v.n ++ (txtB v.t ++ R)), false) = (v.n, (txtB v.t ++ R, false)) := by unfold a2; rw [q1]; exact rSig_put _ _ h2.1 h2.2
  have q3 : a3 (putB v.k ++ (sigB v.n ++ (txtB v.t ++ R)), false) = (v.t.data.toList, (R, false)) := by unfold a3; rw [q2]; exact txt_read _ _ h3
  unfold rdA; rw [q1, q2, q3, ba_back]
theorem rdX_back (x : El) (R : List UInt8) (hk : NumOk x.k) (h : LenE x) : rdX (bytesX x ++ R, false) = (x, (R, false)) := by
  obtain ⟨h1, h2, h3, h4⟩ := h
  have e0 : bytesX x ++ R = putB x.k ++ (txtB x.a ++ (txtB x.b ++ (txtB x.c ++ (txtB x.d ++ R)))) := by simp only [bytesX, s4, s3, s2, s1, List.append_assoc, List.nil_append]
  rw [e0]
  generalize hs : (putB x.k ++ (txtB x.a ++ (txtB x.b ++ (txtB x.c ++ (txtB x.d ++ R)))), false) = s
  have q1 : x1 s = (x.k, (txtB x.a ++ (txtB x.b ++ (txtB x.c ++ (txtB x.d ++ R))), false)) := by unfold x1; rw [← hs]; exact put_read _ _ hk
  have q2 : x2 s = (x.a.data.toList, (txtB x.b ++ (txtB x.c ++ (txtB x.d ++ R)), false)) := by unfold x2; rw [q1]; exact txt_read _ _ h1
  have q3 : x3 s = (x.b.data.toList, (txtB x.c ++ (txtB x.d ++ R), false)) := by unfold x3; rw [q2]; exact txt_read _ _ h2
  have q4 : x4 s = (x.c.data.toList, (txtB x.d ++ R, false)) := by unfold x4; rw [q3]; exact txt_read _ _ h3
  have q5 : x5 s = (x.d.data.toList, (R, false)) := by unfold x5; rw [q4]; exact txt_read _ _ h4
  unfold rdX; rw [q1, q2, q3, q4, q5, ba_back, ba_back, ba_back, ba_back]
def EncN (q : Dt × Va) : Prop := NumOk q.1.r ∧ NumOk q.1.c ∧ EncA q.2
theorem rdN_back (q : Dt × Va) (R : List UInt8) (h : EncN q) : rdN (bytesN q ++ R, false) = (q, (R, false)) := by
  obtain ⟨h1, h2, h3⟩ := h
  have e0 : bytesN q ++ R = putB q.1.r ++ (putB q.1.c ++ (putB q.2.k ++ (sigB q.2.n ++ (txtB q.2.t ++ R)))) := by simp only [bytesN, t4, t3, t2, t1, List.append_assoc, List.nil_append]
  rw [e0]
  unfold rdN
  rw [rdD_back _ _ _ h1 h2]
  dsimp only
  rw [rdA_back _ _ h3]
theorem rowGo_back {α : Type} (rd : List UInt8 × Bool → α × (List UInt8 × Bool)) (by_ : α → List UInt8) : ∀ (l : List α) (R : List UInt8) (acc : List α), (∀ y ∈ l, ∀ R, rd (by_ y ++ R, false) = (y, (R, false))) → rowGo rd l.length ((l.map by_).flatten ++ R, false) acc = (acc ++ l, (R, false))
  | [], R, acc, _ => by simp [rowGo]
  | y :: l, R, acc, h => by
    have h1 : rd (by_ y ++ ((l.map by_).flatten ++ R), false) = (y, ((l.map by_).flatten ++ R, false)) := h y List.mem_cons_self _
    show (if (rd (((y :: l).map by_).flatten ++ R, false)).2.2 = true then _ else rowGo rd l.length (rd (((y :: l).map by_).flatten ++ R, false)).2 (acc ++ [(rd (((y :: l).map by_).flatten ++ R, false)).1])) = _
    rw [List.map_cons, List.flatten_cons, List.append_assoc, h1]
    dsimp only
    rw [if_neg Bool.false_ne_true, rowGo_back rd by_ l R _ (fun z hz => h z (List.mem_cons_of_mem _ hz))]
    simp
theorem rowR_back {α : Type} (rd : List UInt8 × Bool → α × (List UInt8 × Bool)) (by_ : α → List UInt8) (l : List α) (R : List UInt8) (hn : l.length < 4611686018427387904) (h : ∀ y ∈ l, ∀ R, rd (by_ y ++ R, false) = (y, (R, false))) : rowR rd ((putB l.length ++ (l.map by_).flatten) ++ R, false) = (l, (R, false)) := by
  unfold rowR
  rw [List.append_assoc, put_read _ _ ⟨by omega, by omega⟩]
  dsimp only
  rw [show ((l.length : Nat) : Int).toNat = l.length from by simp, rowGo_back rd by_ l R [] h]
  rfl
def EncI (q : El × List (Dt × Va)) : Prop := NumOk q.1.k ∧ LenE q.1 ∧ q.2.length ≤ 10000 ∧ ∀ r ∈ q.2, EncN r
theorem rdI_back (q : El × List (Dt × Va)) (R : List UInt8) (h : EncI q) : rdI (bytesI q.1 q.2 ++ R, false) = (q, (R, false)) := by
  obtain ⟨h1, h2, h3, h4⟩ := h
  unfold rdI bytesI
  rw [List.append_assoc, rdX_back _ _ h1 h2]
  dsimp only
  rw [rowR_back rdN bytesN q.2 R (by omega) (fun y hy R => rdN_back y R (h4 y hy))]
/-- An event that has bytes. -/
def EncE (e : Ev) : Prop := NumOk e.r ∧ NumOk e.c ∧ (∀ i, i < 16 → NumOk (e.p i)) ∧ NumOk e.op ∧ NumOk e.ek ∧ NumOk e.vk ∧ (-1152921504606846976 ≤ e.vn ∧ e.vn ≤ 1152921504606846976) ∧ Lens e ∧ CanonV e.p
theorem rdEv_back (e : Ev) (R : List UInt8) (h : EncE e) : rdEv (bytesE e ++ R, false) = (e, (R, false)) := by
  obtain ⟨hr, hc, hp, ho, hk, hv, hn, hl, hcv⟩ := h
  obtain ⟨l1, l2, l3, l4, l5⟩ := hl
  have e0 : bytesE e ++ R = putB e.r ++ (putB e.c ++ (pastB e.p 16 ++ (putB e.op ++ (bytesX ⟨e.ek, e.a, e.b, e.cc, e.d⟩ ++ (putB e.vk ++ (sigB e.vn ++ (txtB e.t ++ R))))))) := by
    simp only [bytesE, b11, b10, b9, b8, b7, b6, b5, b4, b3, b2, b1, bytesX, s4, s3, s2, s1, List.append_assoc, List.nil_append]
  rw [e0]
  generalize hs : (putB e.r ++ (putB e.c ++ (pastB e.p 16 ++ (putB e.op ++ (bytesX ⟨e.ek, e.a, e.b, e.cc, e.d⟩ ++ (putB e.vk ++ (sigB e.vn ++ (txtB e.t ++ R))))))), false) = s
  have q1 : rdD s = (⟨e.r, e.c⟩, (pastB e.p 16 ++ (putB e.op ++ (bytesX ⟨e.ek, e.a, e.b, e.cc, e.d⟩ ++ (putB e.vk ++ (sigB e.vn ++ (txtB e.t ++ R))))), false)) := by rw [← hs]; exact rdD_back _ _ _ hr hc
  have q2 : rdF (rdD s).2 = (e.p, (putB e.op ++ (bytesX ⟨e.ek, e.a, e.b, e.cc, e.d⟩ ++ (putB e.vk ++ (sigB e.vn ++ (txtB e.t ++ R)))), false)) := by rw [q1]; exact rdF_back _ _ hp hcv
  have q3 : e3 s = (e.op, (bytesX ⟨e.ek, e.a, e.b, e.cc, e.d⟩ ++ (putB e.vk ++ (sigB e.vn ++ (txtB e.t ++ R))), false)) := by unfold e3; rw [q2]; exact put_read _ _ ho
  have q4 : rdX (e3 s).2 = (⟨e.ek, e.a, e.b, e.cc, e.d⟩, (putB e.vk ++ (sigB e.vn ++ (txtB e.t ++ R)), false)) := by rw [q3]; exact rdX_back ⟨e.ek, e.a, e.b, e.cc, e.d⟩ _ hk ⟨l1, l2, l3, l4⟩
  have q5 : rdA (rdX (e3 s).2).2 = (⟨e.vk, e.vn, e.t⟩, (R, false)) := by rw [q4]; exact rdA_back ⟨e.vk, e.vn, e.t⟩ _ ⟨hv, hn, l5⟩
  unfold rdEv
  rw [q5, q4, q3, q2, q1]
/-- All of it. -/
theorem snap_back (f : Nat → Int) (I : List (El × List (Dt × Va))) (E : List Ev) (hf : ∀ i, i < 16 → NumOk (f i)) (hc : CanonV f) (hI : I.length ≤ 10000) (hi : ∀ q ∈ I, EncI q) (hE : E.length ≤ 10000) (he : ∀ e ∈ E, EncE e) :
    (sF (bytesS f I E)).1 = f ∧ (sI (bytesS f I E)).1 = I ∧ (sE (bytesS f I E)).1 = E ∧ (sE (bytesS f I E)).2 = ([], false) := by
  have q1 : sF (bytesS f I E) = (f, (rowIB I ++ rowEB E, false)) := rdF_back f _ hf hc
  have q2 : sI (bytesS f I E) = (I, (rowEB E, false)) := by
    unfold sI
    rw [q1]
    exact rowR_back rdI (fun q => bytesI q.1 q.2) I (rowEB E) (by omega) (fun y hy R => rdI_back y R (hi y hy))
  have q3 : sE (bytesS f I E) = (E, ([], false)) := by
    unfold sE
    rw [q2]
    have := rowR_back rdEv bytesE E [] (by omega) (fun y hy R => rdEv_back y R (he y hy))
    rw [List.append_nil] at this
    exact this
  rw [q1, q2, q3]
  exact ⟨rfl, rfl, rfl, rfl⟩

end Go.Proofs.YtejljikikhecnaaGreat
