/-
  Messages' bytes, there and back; the bytes of events that are short. Plain mathematics. Conditions: none.
-/
import Derived.Test.YtalaidlnhoonfaaQMf
import Derived.Test.YtalaidlnhoonfaaMgParse
import Derived.Test.YtalaidlnhoonfaaEvMath
namespace Go.Proofs.Ytalaidlnhoonfaa
open Go.RowKit

/-- No number beyond the sixteen. -/
def Canon (e : Ev) : Prop := ∀ i, 16 ≤ i → e.p i = 0
def CanonM (m : Mg) : Prop := ∀ i, 16 ≤ i → m.v i = 0
theorem same_eq {e f : Ev} (h : Same1 e f) (he : Canon e) (hf : Canon f) : e = f := by
  obtain ⟨r, c, p, op, ek, a, b, cc, d, vk, vn, t⟩ := e
  obtain ⟨r', c', p', op', ek', a', b', cc', d', vk', vn', t'⟩ := f
  obtain ⟨h1, h2, h3, h4, h5, h6, h7, h8, h9, h10, h11, h12⟩ := h
  dsimp only at *
  have hp : p = p' := by
    funext i
    by_cases hi : i < 16
    · exact h3 i hi
    · exact (he i (by omega)).trans (hf i (by omega)).symm
  subst h1 h2 hp h4 h5 h6 h7 h8 h9 h10 h11 h12
  rfl
theorem pN_canon (s : List UInt8 × Bool) : ∀ k i, k ≤ i → (pN s k).1 i = 0
  | 0, _, _ => rfl
  | k + 1, i, h => by
    show (if i = k then _ else (pN s k).1 i) = 0
    rw [if_neg (by omega)]
    exact pN_canon s k i (by omega)
theorem next_back (e : Ev) (h : okB e = true) (hl : Lens e) (hc : Canon e) (R : List UInt8) : readC (bytesE e ++ R, false) = true ∧ nextE (bytesE e ++ R, false) = e ∧ nextS (bytesE e ++ R, false) = (R, false) := by
  obtain ⟨hs, hn⟩ := back e (ok_enc e h) hl
  obtain ⟨a1, a2⟩ := next_add (bytesE e, false) R (by rw [hn])
  have e1 : addS (bytesE e, false) R = (bytesE e ++ R, false) := rfl
  rw [e1] at a1 a2
  have he : nextE (bytesE e, false) = e := same_eq hs (fun i hi => pN_canon _ 16 i hi) hc
  rw [he] at a1
  rw [hn] at a2
  have a3 : nextS (bytesE e ++ R, false) = (R, false) := a2
  refine ⟨?_, a1, a3⟩
  unfold readC
  rw [a1, a3, h]
  rfl
theorem rdE_back (l : List Ev) (R : List UInt8) (h : ∀ e ∈ l, okB e = true ∧ Lens e ∧ Canon e) : ∀ j, j ≤ l.length → rdE (l.flatMap bytesE ++ R, false) j = some (l.take j, ((l.drop j).flatMap bytesE ++ R, false))
  | 0, _ => by simp [rdE]
  | j + 1, hj => by
    have h1 := rdE_back l R h j (by omega)
    have hd : l.drop j = l[j] :: l.drop (j + 1) := List.drop_eq_getElem_cons (by omega)
    obtain ⟨g1, g2, g3⟩ := h l[j] (List.getElem_mem _)
    have hb : (l.drop j).flatMap bytesE ++ R = bytesE l[j] ++ ((l.drop (j + 1)).flatMap bytesE ++ R) := by rw [hd, List.flatMap_cons, List.append_assoc]
    rw [hb] at h1
    obtain ⟨b1, b2, b3⟩ := next_back l[j] g1 g2 g3 ((l.drop (j + 1)).flatMap bytesE ++ R)
    rw [rdE_yes h1 b1, b2, b3, List.take_add_one, List.getElem?_eq_getElem (by omega)]
    rfl
def restP (m : Mg) (k j : Nat) : List UInt8 := (List.range' k j).flatMap fun i => putB (m.p i)
theorem payP_rest (m : Mg) : payP m 19 = restP m 0 19 := by unfold payP restP; rw [List.range_eq_range']
theorem restP_cons (m : Mg) (k j : Nat) : restP m k (j + 1) = putB (m.p k) ++ restP m (k + 1) j := by simp [restP, List.range'_succ]
theorem put_far (m : Mg) (i : Nat) (x : Int) (hi : i < 19) (j : Nat) (hj : 16 ≤ j) : (m.put i x).v j = m.v j := by
  unfold Mg.put
  split
  · rfl
  · split
    · rfl
    · split
      · rfl
      · show (if j = i - 3 then x else m.v j) = _
        rw [if_neg (by omega)]
theorem rdP_back (m : Mg) (R : List UInt8) (hm : ∀ i, i < 19 → 0 ≤ m.p i ∧ m.p i ≤ 1048576) : ∀ k, k ≤ 19 → (rdP (payP m 19 ++ R, false) k).2 = (restP m k (19 - k) ++ R, false) ∧ (∀ i, i < k → (rdP (payP m 19 ++ R, false) k).1.p i = m.p i) ∧ CanonM (rdP (payP m 19 ++ R, false) k).1
  | 0, _ => ⟨by show (payP m 19 ++ R, false) = _; rw [payP_rest], fun i hi => by omega, fun i _ => rfl⟩
  | k + 1, hk => by
    obtain ⟨i1, i2, i3⟩ := rdP_back m R hm k (by omega)
    have hb := hm k (by omega)
    have hr : rNum (rdP (payP m 19 ++ R, false) k).2 1048576 = (m.p k, (restP m (k + 1) (19 - (k + 1)) ++ R, false)) := by
      rw [i1, show 19 - k = (19 - (k + 1)) + 1 by omega, restP_cons, List.append_assoc]
      exact rNum_put _ _ _ hb.1 (by omega) hb.2
    have e1 : rdP (payP m 19 ++ R, false) (k + 1) = ((rdP (payP m 19 ++ R, false) k).1.put k (rNum (rdP (payP m 19 ++ R, false) k).2 1048576).1, (rNum (rdP (payP m 19 ++ R, false) k).2 1048576).2) := rfl
    rw [e1, hr]
    refine ⟨rfl, fun i hi => ?_, fun i hi => ?_⟩
    · show ((rdP (payP m 19 ++ R, false) k).1.put k (m.p k)).p i = _
      rw [Mg.put_p]
      by_cases e : i = k
      · rw [if_pos e, e]
      · rw [if_neg e]; exact i2 i (by omega)
    · show ((rdP (payP m 19 ++ R, false) k).1.put k (m.p k)).v i = 0
      rw [put_far _ _ _ (by omega) i hi]; exact i3 i hi
theorem mg_eq {m m' : Mg} (h : ∀ i, i < 19 → m.p i = m'.p i) (c : CanonM m) (c' : CanonM m') : m = m' := by
  obtain ⟨k, f, t, v⟩ := m
  obtain ⟨k', f', t', v'⟩ := m'
  have h0 : k = k' := h 0 (by decide)
  have h1 : f = f' := h 1 (by decide)
  have h2 : t = t' := h 2 (by decide)
  have hv : v = v' := by
    funext i
    by_cases hi : i < 16
    · have := h (i + 3) (by omega)
      unfold Mg.p at this
      rw [if_neg (by omega), if_neg (by omega), if_neg (by omega), if_neg (by omega), if_neg (by omega), if_neg (by omega)] at this
      simpa using this
    · exact (c i (by omega)).trans (c' i (by omega)).symm
  subst h0 h1 h2 hv
  rfl
/-- What one that may be has. -/
theorem rightM_parts {m : Mg} {l : List Ev} (h : rightM m l = true) : (∀ i, i < 19 → 0 ≤ m.p i ∧ m.p i ≤ 1048576) ∧ l.length ≤ 200 ∧ ∀ e ∈ l, okB e = true := by
  have hx := h
  unfold rightM at h
  simp only [Bool.and_eq_true] at h
  obtain ⟨⟨⟨⟨h1, h2⟩, _⟩, h4⟩, h5⟩ := h
  unfold repB at h1 h2
  rw [decide_eq_true_eq] at h1 h2
  have hk : (m.k = 1 ∨ m.k = 2) ∧ l.length ≤ 200 := by
    unfold evsB at h5
    split at h5
    · rw [decide_eq_true_eq] at h5; exact ⟨.inl (by assumption), by omega⟩
    · split at h5
      · rw [Bool.and_eq_true, decide_eq_true_eq] at h5; exact ⟨.inr (by assumption), h5.1⟩
      · cases h5
  refine ⟨fun i hi => ?_, hk.2, fun e he => ?_⟩
  · unfold Mg.p
    split
    · omega
    · split
      · omega
      · split
        · omega
        · have := (eqV_iff _ _).1 h4 (i - 3) (by omega)
          unfold clampV at this
          omega
  · cases hq : okB e with
    | true => rfl
    | false => rw [rightM_wrong he hq] at hx; cases hx
theorem readM_back (m : Mg) (l : List Ev) (h : rightM m l = true) (hc : CanonM m) (hl : ∀ e ∈ l, Lens e ∧ Canon e) : readM (payB m l, false) = some (m, l) := by
  obtain ⟨hm, h200, hok⟩ := rightM_parts h
  have e0 : payB m l = payP m 19 ++ (putB l.length ++ (l.flatMap bytesE ++ [])) := by unfold payB payE; rw [List.append_nil, List.append_assoc]
  have h1 := rdP_back m (putB l.length ++ (l.flatMap bytesE ++ [])) hm 19 (Nat.le_refl _)
  rw [← e0] at h1
  obtain ⟨p1, p2, p3⟩ := h1
  have p1' : (rdP (payB m l, false) 19).2 = (putB l.length ++ (l.flatMap bytesE ++ []), false) := p1
  have hn : rNum (rdP (payB m l, false) 19).2 200 = ((l.length : Int), (l.flatMap bytesE ++ [], false)) := by
    rw [p1']; exact rNum_put _ _ _ (by omega) (by omega) (by omega)
  have hcnt : cntM (payB m l, false) = l.length := by unfold cntM; rw [hn]; simp
  have hst : stM (payB m l, false) = (l.flatMap bytesE ++ [], false) := by unfold stM; rw [hn]
  have hr := rdE_back l [] (fun e he => ⟨hok e he, hl e he⟩) l.length (Nat.le_refl _)
  rw [List.take_length, List.drop_length] at hr
  unfold readM
  rw [hcnt, hst, hr, mg_eq p2 p3 hc]
  rfl
theorem whole_back (p : List UInt8) (hp : p.length ≤ 1048576) : Fr.wholeF (Fr.frameB p) = (p, 0) := by
  have h := Fr.takeF_frame p [] hp
  rw [List.append_nil] at h
  unfold Fr.wholeF
  rw [h, if_neg (by simp), if_neg (by rw [Fr.frameB_length]; dsimp only; omega)]
theorem msg_back (m : Mg) (l : List Ev) (h : rightM m l = true) (hc : CanonM m) (hl : ∀ e ∈ l, Lens e ∧ Canon e) (hp : (payB m l).length ≤ 1048576) : msgC (bytesM m l) = 0 ∧ msgM (bytesM m l) = (m, l) := by
  have h1 : msgR (payB m l) = some (m, l) := by
    unfold msgR
    rw [readM_back m l h hc hl]
    dsimp only
    rw [if_pos h]
  unfold msgC msgM bytesM
  rw [whole_back _ hp]
  simp [h1]
/-- Short events, few of them. -/
theorem short_len (e : Ev) (h : shortB e = true) : (bytesE e).length ≤ 600 := by
  unfold shortB at h
  rw [decide_eq_true_eq] at h
  have t1 := txtB_len e.a
  have t2 := txtB_len e.b
  have t3 := txtB_len e.cc
  have t4 := txtB_len e.d
  have t5 := txtB_len e.t
  have p1 := putB_len e.r
  have p2 := putB_len e.c
  have p3 := pastB_len e.p 16
  have p4 := putB_len e.op
  have p5 := putB_len e.ek
  have p6 := putB_len e.vk
  have p7 := sigB_len e.vn
  have e0 : bytesE e = putB e.r ++ (putB e.c ++ (pastB e.p 16 ++ (putB e.op ++ (putB e.ek ++ (txtB e.a ++ (txtB e.b ++ (txtB e.cc ++ (txtB e.d ++ (putB e.vk ++ (sigB e.vn ++ (txtB e.t ++ []))))))))))) := by
    simp only [bytesE, b11, b10, b9, b8, b7, b6, b5, b4, b3, b2, b1, List.append_assoc, List.nil_append, List.append_nil]
  rw [e0]
  simp only [List.length_append, List.length_nil]
  omega
theorem flat_short : ∀ (l : List Ev), (∀ e ∈ l, shortB e = true) → (l.flatMap bytesE).length ≤ l.length * 600
  | [], _ => by simp
  | e :: l, h => by
    have h1 := flat_short l fun f hf => h f (List.mem_cons_of_mem _ hf)
    have h2 := short_len e (h e List.mem_cons_self)
    rw [List.flatMap_cons, List.length_append, List.length_cons, Nat.add_mul]
    omega
def fewM (l : List Ev) : Bool := l.all shortB && decide (l.length ≤ 30)
theorem few_pay (m : Mg) (l : List Ev) (h : fewM l = true) : (payB m l).length ≤ 20000 := by
  unfold fewM at h
  rw [Bool.and_eq_true, decide_eq_true_eq, List.all_eq_true] at h
  have h1 := payP_len m 19
  have h2 := putB_len l.length
  have h3 := flat_short l h.1
  unfold payB payE
  simp only [List.length_append]
  omega
theorem few_lens {l : List Ev} (h : fewM l = true) : (∀ e ∈ l, Lens e) ∧ l.length ≤ 30 := by
  unfold fewM at h
  rw [Bool.and_eq_true, decide_eq_true_eq, List.all_eq_true] at h
  exact ⟨fun e he => short_lens e (h.1 e he), h.2⟩
theorem few_tiny {l : List Ev} (h : fewM l = true) : ∀ e ∈ l, Tiny e := by
  unfold fewM at h
  rw [Bool.and_eq_true, decide_eq_true_eq, List.all_eq_true] at h
  intro e he
  have h1 := h.1 e he
  unfold shortB at h1
  rw [decide_eq_true_eq] at h1
  unfold Tiny
  omega

end Go.Proofs.Ytalaidlnhoonfaa
