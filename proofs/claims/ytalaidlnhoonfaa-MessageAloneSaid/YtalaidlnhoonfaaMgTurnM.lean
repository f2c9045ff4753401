/-
  Frames, and messages' bytes, that are cut, that have more behind, and of which a byte is turned: what is read. Plain mathematics. Conditions: none.
-/
import Derived.Test.YtalaidlnhoonfaaMgBack
import Derived.Test.YtalaidlnhoonfaaCrcTurned
namespace Go.Proofs.Ytalaidlnhoonfaa.Fr

theorem takeF_head (b : List UInt8) (h4 : 4 ≤ b.length) (h : headB (lenB b) ≠ b.take 4) : takeF b = ([], 0, 7) := by
  unfold takeF; rw [if_neg (by omega), if_pos h]
theorem takeF_sum (b : List UInt8) (n : Nat) (hn : lenB b = n) (h : headB n = b.take 4) (hbig : n ≤ 1048576) (hlen : n + 8 ≤ b.length) (hs : leB (crcOf ((b.drop 4).take n)) ≠ (b.drop (n + 4)).take 4) : takeF b = ([], 0, 7) := by
  unfold takeF; rw [hn, if_neg (by omega), if_neg (by simp [h]), if_neg (by omega), if_neg (by omega), if_pos hs]
theorem headB_lenB (a b c : UInt8) (t : List UInt8) : headB (lenB (a :: b :: c :: t)) = [a, b, c, 165 ^^^ a ^^^ b ^^^ c] := by
  have ha := a.toNat_lt
  have hb := b.toNat_lt
  have hc := c.toNat_lt
  have e1 : UInt8.ofNat (a.toNat + 256 * b.toNat + 65536 * c.toNat) = a := by
    apply UInt8.toNat_inj.1; simp only [UInt8.toNat_ofNat']; omega
  have e2 : UInt8.ofNat ((a.toNat + 256 * b.toNat + 65536 * c.toNat) / 256) = b := by
    apply UInt8.toNat_inj.1; simp only [UInt8.toNat_ofNat']; omega
  have e3 : UInt8.ofNat ((a.toNat + 256 * b.toNat + 65536 * c.toNat) / 65536) = c := by
    apply UInt8.toNat_inj.1; simp only [UInt8.toNat_ofNat']; omega
  show headB (a.toNat + 256 * b.toNat + 65536 * c.toNat) = _
  unfold headB
  rw [e1, e2, e3]
theorem xor_ne {a x : UInt8} (h : x ≠ 0) : a ^^^ x ≠ a := by
  intro e
  apply h
  have : a ^^^ (a ^^^ x) = a ^^^ a := by rw [e]
  rwa [← UInt8.xor_assoc, UInt8.xor_self, UInt8.zero_xor] at this
theorem leB_inj {r s : BitVec 32} (h : leB r = leB s) : r = s := by
  unfold leB at h
  simp only [List.cons.injEq, and_true] at h
  obtain ⟨h0, h1, h2, h3⟩ := h
  have e0 := congrArg UInt8.toNat h0
  have e1 := congrArg UInt8.toNat h1
  have e2 := congrArg UInt8.toNat h2
  have e3 := congrArg UInt8.toNat h3
  simp only [UInt8.toNat_ofNat'] at e0 e1 e2 e3
  have hr := r.isLt
  have hs := s.isLt
  exact BitVec.eq_of_toNat_eq (by omega)
theorem crc_set (p : List UInt8) (i : Nat) (hi : i < p.length) (x : UInt8) (hx : x ≠ 0) : crcOf (p.set i (p[i] ^^^ x)) ≠ crcOf p := by
  have hn : num (List.zipWith (· ^^^ ·) p (p.set i (p[i] ^^^ x))) = 2 ^ (8 * i) * x.toNat := by
    rw [zip_set p p rfl i hi, num_set _ _ (by simp; omega), num_same, Nat.zero_xor]
  have hx0 : x.toNat ≠ 0 := fun e => hx (UInt8.toNat_inj.1 (by simpa using e))
  exact fun e => crc_burst p _ (by simp) (8 * i) x.toNat (by omega) hx0 (by have := x.toNat_lt; omega) hn e.symm

/-- Bytes of which one is turned. -/
def tb : List UInt8 → Nat → UInt8 → List UInt8
  | [], _, _ => []
  | y :: l, 0, x => (y ^^^ x) :: l
  | y :: l, j + 1, x => y :: tb l j x
theorem tb_set (l : List UInt8) (j : Nat) (hj : j < l.length) (x : UInt8) : tb l j x = l.set j (l[j] ^^^ x) := by
  induction l generalizing j with
  | nil => simp at hj
  | cons y l ih =>
    cases j with
    | zero => rfl
    | succ j => simp only [tb, List.set_cons_succ, List.getElem_cons_succ]; rw [ih j (by simpa using hj)]
theorem tb_length (l : List UInt8) (j : Nat) (x : UInt8) : (tb l j x).length = l.length := by
  induction l generalizing j with
  | nil => rfl
  | cons y l ih =>
    cases j with
    | zero => rfl
    | succ j => simp [tb, ih j]
theorem tb_left (l m : List UInt8) (j : Nat) (hj : j < l.length) (x : UInt8) : tb (l ++ m) j x = tb l j x ++ m := by
  induction l generalizing j with
  | nil => simp at hj
  | cons y l ih =>
    cases j with
    | zero => rfl
    | succ j => simp only [List.cons_append, tb]; rw [ih j (by simpa using hj)]
theorem tb_right (l m : List UInt8) (j : Nat) (x : UInt8) : tb (l ++ m) (l.length + j) x = l ++ tb m j x := by
  induction l with
  | nil => simp
  | cons y l ih => rw [List.length_cons, show l.length + 1 + j = (l.length + j) + 1 by omega]; simp only [List.cons_append, tb]; rw [ih]
theorem tb_ne (l : List UInt8) (j : Nat) (hj : j < l.length) (x : UInt8) (hx : x ≠ 0) : tb l j x ≠ l := by
  induction l generalizing j with
  | nil => simp at hj
  | cons y l ih =>
    cases j with
    | zero => intro e; simp only [tb, List.cons.injEq, and_true] at e; exact xor_ne hx e
    | succ j => intro e; simp only [tb, List.cons.injEq, true_and] at e; exact ih j (by simpa using hj) e
theorem crc_tb (p : List UInt8) (i : Nat) (hi : i < p.length) (x : UInt8) (hx : x ≠ 0) : crcOf (tb p i x) ≠ crcOf p := by
  rw [tb_set p i hi x]; exact crc_set p i hi x hx
theorem x3a (a b c d x : UInt8) (h : d ^^^ (a ^^^ x) ^^^ b ^^^ c = d ^^^ a ^^^ b ^^^ c) : x = 0 := by
  have e : d ^^^ (a ^^^ x) ^^^ b ^^^ c = (d ^^^ a ^^^ b ^^^ c) ^^^ x := by ac_rfl
  rw [e] at h
  exact Decidable.byContradiction fun hx => xor_ne hx h
theorem x3b (a b c d x : UInt8) (h : d ^^^ a ^^^ (b ^^^ x) ^^^ c = d ^^^ a ^^^ b ^^^ c) : x = 0 := by
  have e : d ^^^ a ^^^ (b ^^^ x) ^^^ c = (d ^^^ a ^^^ b ^^^ c) ^^^ x := by ac_rfl
  rw [e] at h
  exact Decidable.byContradiction fun hx => xor_ne hx h
theorem x3c (a b c d x : UInt8) (h : d ^^^ a ^^^ b ^^^ (c ^^^ x) = d ^^^ a ^^^ b ^^^ c) : x = 0 := by
  have e : d ^^^ a ^^^ b ^^^ (c ^^^ x) = (d ^^^ a ^^^ b ^^^ c) ^^^ x := by ac_rfl
  rw [e] at h
  exact Decidable.byContradiction fun hx => xor_ne hx h
theorem head_turned (a b c x : UInt8) (t : List UInt8) (hx : x ≠ 0) (j : Nat) (hj : j < 4) : takeF (tb (a :: b :: c :: (165 ^^^ a ^^^ b ^^^ c) :: t) j x) = ([], 0, 7) := by
  have hj4 : j = 0 ∨ j = 1 ∨ j = 2 ∨ j = 3 := by omega
  rcases hj4 with rfl | rfl | rfl | rfl
  · refine takeF_head _ (by simp [tb]) ?_
    simp only [tb, headB_lenB, List.take_succ_cons, List.take_zero]
    intro e
    simp only [List.cons.injEq, and_true, true_and] at e
    exact hx (x3a _ _ _ _ _ e)
  · refine takeF_head _ (by simp [tb]) ?_
    simp only [tb, headB_lenB, List.take_succ_cons, List.take_zero]
    intro e
    simp only [List.cons.injEq, and_true, true_and] at e
    exact hx (x3b _ _ _ _ _ e)
  · refine takeF_head _ (by simp [tb]) ?_
    simp only [tb, headB_lenB, List.take_succ_cons, List.take_zero]
    intro e
    simp only [List.cons.injEq, and_true, true_and] at e
    exact hx (x3c _ _ _ _ _ e)
  · refine takeF_head _ (by simp [tb]) ?_
    simp only [tb, headB_lenB, List.take_succ_cons, List.take_zero]
    intro e
    simp only [List.cons.injEq, and_true, true_and] at e
    exact xor_ne hx e.symm
/-- What a head, a payload and a sum that isn't its own tell. -/
theorem sum_wrong (p s t : List UInt8) (n : Nat) (hn : n = p.length) (hp : n ≤ 1048576) (hs : s.length = 4) (hne : leB (crcOf p) ≠ s) : takeF (headB n ++ (p ++ (s ++ t))) = ([], 0, 7) := by
  have hl := headB_length n
  have hd : (headB n ++ (p ++ (s ++ t))).drop 4 = p ++ (s ++ t) := by rw [← hl]; exact List.drop_left ..
  refine takeF_sum _ n (lenB_head n _ (by omega)) ?_ hp (by simp only [List.length_append, hl, hs]; omega) ?_
  · rw [List.take_append_of_le_length (by omega)]; exact (List.take_of_length_le (by omega)).symm
  · rw [Nat.add_comm, ← List.drop_drop, hd, hn, List.take_left, List.drop_left, List.take_append_of_le_length (by omega), List.take_of_length_le (by omega : s.length ≤ 4)]
    exact hne

/-- A frame of which a byte is turned. -/
theorem takeF_turned (p t : List UInt8) (hp : p.length ≤ 1048576) (j : Nat) (hj : j < p.length + 8) (x : UInt8) (hx : x ≠ 0) : takeF (tb (frameB p ++ t) j x) = ([], 0, 7) := by
  have hl := headB_length p.length
  have hb : frameB p ++ t = headB p.length ++ (p ++ (leB (crcOf p) ++ t)) := by simp [frameB]
  rw [hb]
  by_cases h4 : j < 4
  · exact head_turned _ _ _ x _ hx j h4
  · obtain ⟨i, rfl⟩ : ∃ i, j = (headB p.length).length + i := ⟨j - 4, by omega⟩
    rw [tb_right]
    by_cases hi : i < p.length
    · rw [tb_left _ _ _ hi]
      exact sum_wrong _ _ _ _ (tb_length p i x).symm hp (leB_length _) fun e => crc_tb p i hi x hx (leB_inj e)
    · obtain ⟨m, rfl⟩ : ∃ m, i = p.length + m := ⟨i - p.length, by omega⟩
      rw [tb_right, tb_left _ _ _ (by rw [leB_length]; omega)]
      exact sum_wrong _ _ _ _ rfl hp (by rw [tb_length, leB_length]) fun e => tb_ne _ m (by rw [leB_length]; omega) x hx e.symm
/-- A part of a frame. -/
theorem takeF_part (p : List UInt8) (hp : p.length ≤ 1048576) (r : Nat) (hr : r < p.length + 8) : (takeF ((frameB p).take r)).2.2 ≠ 0 := by
  have hl := headB_length p.length
  have hlen : ((frameB p).take r).length = r := by rw [List.length_take, frameB_length]; omega
  by_cases h4 : r < 4
  · unfold takeF; rw [if_pos (by omega)]; decide
  · have hb : frameB p = headB p.length ++ (p ++ leB (crcOf p)) := by simp [frameB]
    have ht : (frameB p).take r = headB p.length ++ (p ++ leB (crcOf p)).take (r - 4) := by
      rw [hb, List.take_append, List.take_of_length_le (by omega), hl]
    have hn : lenB ((frameB p).take r) = p.length := by rw [ht]; exact lenB_head _ _ (by omega)
    have hh : headB p.length = ((frameB p).take r).take 4 := by
      rw [ht, List.take_append_of_le_length (by omega)]; exact (List.take_of_length_le (by omega)).symm
    unfold takeF
    rw [hn, hlen, if_neg h4, if_neg (by simp [← hh]), if_neg (by omega), if_pos hr]
    decide

/-- A part of a frame tells that it has no form. -/
theorem part_form (p : List UInt8) (hp : p.length ≤ 1048576) (r : Nat) (hr : r < p.length + 8) : takeF ((frameB p).take r) = ([], 0, 2) := by
  have hl := headB_length p.length
  have hlen : ((frameB p).take r).length = r := by rw [List.length_take, frameB_length]; omega
  by_cases h4 : r < 4
  · unfold takeF; rw [if_pos (by omega)]
  · have hb : frameB p = headB p.length ++ (p ++ leB (crcOf p)) := by simp [frameB]
    have ht : (frameB p).take r = headB p.length ++ (p ++ leB (crcOf p)).take (r - 4) := by
      rw [hb, List.take_append, List.take_of_length_le (by omega), hl]
    have hn : lenB ((frameB p).take r) = p.length := by rw [ht]; exact lenB_head _ _ (by omega)
    have hh : headB p.length = ((frameB p).take r).take 4 := by
      rw [ht, List.take_append_of_le_length (by omega)]; exact (List.take_of_length_le (by omega)).symm
    unfold takeF
    rw [hn, hlen, if_neg h4, if_neg (by simp [← hh]), if_neg (by omega), if_pos hr]
theorem whole_part (p : List UInt8) (hp : p.length ≤ 1048576) (r : Nat) (hr : r < p.length + 8) : wholeF ((frameB p).take r) = ([], 2) := by
  unfold wholeF
  rw [part_form p hp r hr]
  rfl
theorem whole_more (p t : List UInt8) (hp : p.length ≤ 1048576) (ht : t ≠ []) : wholeF (frameB p ++ t) = ([], 2) := by
  have hpos := List.length_pos_iff.2 ht
  unfold wholeF
  rw [takeF_frame p t hp, if_neg (by simp), if_pos (by rw [List.length_append, frameB_length]; dsimp only; omega)]
theorem whole_turned (p : List UInt8) (hp : p.length ≤ 1048576) (j : Nat) (hj : j < p.length + 8) (x : UInt8) (hx : x ≠ 0) : wholeF (tb (frameB p) j x) = ([], 7) := by
  have h := takeF_turned p [] hp j hj x hx
  rw [List.append_nil] at h
  unfold wholeF
  rw [h]
  rfl
theorem tb_zero : ∀ (l : List UInt8) (j : Nat), tb l j 0 = l
  | [], _ => rfl
  | y :: l, 0 => by simp [tb]
  | y :: l, j + 1 => by simp only [tb]; rw [tb_zero l j]
end Go.Proofs.Ytalaidlnhoonfaa.Fr
namespace Go.Proofs.Ytalaidlnhoonfaa
theorem msg_bad {l : List UInt8} {x : Nat} (h : Fr.wholeF l = ([], x)) (hx : x ≠ 0) : msgC l = x ∧ msgM l = (m0, []) := by
  unfold msgC msgM
  rw [h, if_pos hx, if_pos hx]
  exact ⟨rfl, rfl⟩
theorem msg_part (m : Mg) (l : List Ev) (hp : (payB m l).length ≤ 1048576) (r : Nat) (hr : r < (bytesM m l).length) : msgC ((bytesM m l).take r) = 2 := by
  unfold bytesM at hr ⊢
  rw [Fr.frameB_length] at hr
  exact (msg_bad (Fr.whole_part _ hp r hr) (by decide)).1
theorem msg_more (m : Mg) (l : List Ev) (hp : (payB m l).length ≤ 1048576) (t : List UInt8) (ht : t ≠ []) : msgC (bytesM m l ++ t) = 2 := by
  unfold bytesM
  exact (msg_bad (Fr.whole_more _ t hp ht) (by decide)).1
theorem msg_turned (m : Mg) (l : List Ev) (hp : (payB m l).length ≤ 1048576) (j : Nat) (hj : j < (bytesM m l).length) (x : UInt8) (hx : x ≠ 0) : msgC (Fr.tb (bytesM m l) j x) = 7 := by
  unfold bytesM at hj ⊢
  rw [Fr.frameB_length] at hj
  exact (msg_bad (Fr.whole_turned _ hp j hj x hx) (by decide)).1

end Go.Proofs.Ytalaidlnhoonfaa
