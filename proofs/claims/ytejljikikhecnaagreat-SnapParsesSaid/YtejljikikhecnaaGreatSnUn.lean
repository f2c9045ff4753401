/-
  WHAT IS READ HAS JUST THE BYTES THAT WERE READ: snapshots, backwards: plain mathematics.
-/
import Derived.Test.YtejljikikhecnaaGreatSnCutM
import Derived.Test.YtejljikikhecnaaGreatSnRb
import Derived.Test.YtejljikikhecnaaGreatSnLaw
namespace Go.Proofs.YtejljikikhecnaaGreat

theorem un_num (s : List UInt8 × Bool) (m : Int) (h : (rNum s m).2.2 = false) : s.2 = false ∧ s.1 = putB (rNum s m).1 ++ (rNum s m).2.1 := by
  obtain ⟨l, b⟩ := s
  cases b
  case true => unfold rNum at h; simp at h
  refine ⟨rfl, ?_⟩
  unfold rNum at h ⊢
  simp only [Bool.false_eq_true, if_false] at h ⊢
  cases hq : takeN l with
  | none => rw [hq] at h; simp at h
  | some p =>
    obtain ⟨n, k⟩ := p
    rw [hq] at h
    simp only at h ⊢
    by_cases hm : m < (n : Int)
    · rw [if_pos hm] at h; simp at h
    · rw [if_neg hm]
      obtain ⟨h1, h2, h3⟩ := takeN_some hq
      have : putB (n : Int) = enc n := by unfold putB; rw [if_neg (by omega)]; simp
      simp only [this]
      exact h3
theorem un_sig (s : List UInt8 × Bool) (h : (rSig s).2.2 = false) : s.2 = false ∧ s.1 = sigB (rSig s).1 ++ (rSig s).2.1 := by
  have h0 : (rNum s 2305843009213693952).2.2 = false := h
  obtain ⟨h1, h2⟩ := un_num s _ h0
  refine ⟨h1, h2.trans ?_⟩
  obtain ⟨r1, r2, r3⟩ := rNum_rng s 2305843009213693952
  have r4 : (rNum s 2305843009213693952).1 ≤ 2305843009213693952 := by
    rcases r3 with h | h
    · exact h
    · rw [h0] at h; cases h
  show putB (rNum s 2305843009213693952).1 ++ (rNum s 2305843009213693952).2.1 = sigB (unzig (rNum s 2305843009213693952).1) ++ (rNum s 2305843009213693952).2.1
  generalize (rNum s 2305843009213693952).1 = m at *
  congr 1
  unfold unzig
  by_cases ho : m % 2 = 1
  · rw [if_pos ho, ← sigB_neg _ (by omega) (by omega)]
    congr 1; omega
  · rw [if_neg ho, ← sigB_pos _ (by omega) (by omega)]
    congr 1; omega
theorem un_text (s : List UInt8 × Bool) (m : Int) (h : (rText s m).2.2 = false) : s.2 = false ∧ s.1 = txtB (ba (rText s m).1) ++ (rText s m).2.1 := by
  obtain ⟨h1, h2⟩ := rText_flag2 s m h
  obtain ⟨h3, h4⟩ := un_num s m h1
  refine ⟨h3, h4.trans ?_⟩
  have r1 := (rNum_rng s m).1
  unfold rText
  rw [if_neg (by rw [h1]; decide), if_neg h2]
  generalize (rNum s m).1 = n at *
  generalize (rNum s m).2.1 = r at *
  obtain ⟨k, rfl⟩ := Int.eq_ofNat_of_zero_le r1
  have hk : k ≤ r.length := by omega
  unfold txtB ba
  have e : (ByteArray.mk (r.take (Int.toNat (k : Int))).toArray).size = k := by
    show (r.take (Int.toNat (k : Int))).toArray.size = k
    rw [List.size_toArray, List.length_take]; simp; omega
  rw [e]
  simp
theorem un_vec (s : List UInt8 × Bool) : ∀ k, (pV s k).2.2 = false → s.2 = false ∧ s.1 = pastB (pV s k).1 k ++ (pV s k).2.1
  | 0, h => ⟨h, by simp [pV, pastB]⟩
  | k + 1, h => by
    obtain ⟨h1, h2⟩ := un_num (pV s k).2 mx h
    obtain ⟨h3, h4⟩ := un_vec s k h1
    refine ⟨h3, h4.trans ?_⟩
    rw [h2, pastB_succ]
    have e : pastB (pV s (k + 1)).1 k = pastB (pV s k).1 k := by
      unfold pastB
      rw [List.flatMap_def, List.flatMap_def]
      congr 1
      refine List.map_congr_left fun i hi => ?_
      have : i ≠ k := by have := List.mem_range.1 hi; omega
      simp [pV, this]
    rw [e, List.append_assoc]
    simp [pV]
theorem un_D (s : List UInt8 × Bool) (h : (rdD s).2.2 = false) : s.2 = false ∧ s.1 = putB (rdD s).1.r ++ (putB (rdD s).1.c ++ (rdD s).2.1) := by
  obtain ⟨f2, e2⟩ := un_num (d1 s).2 mx h
  obtain ⟨f1, e1⟩ := un_num s mx f2
  refine ⟨f1, e1.trans ?_⟩
  show putB (d1 s).1 ++ (d1 s).2.1 = _
  rw [e2]; rfl
theorem un_A (s : List UInt8 × Bool) (h : (rdA s).2.2 = false) : s.2 = false ∧ s.1 = putB (rdA s).1.k ++ (sigB (rdA s).1.n ++ (txtB (rdA s).1.t ++ (rdA s).2.1)) := by
  obtain ⟨f3, e3⟩ := un_text (a2 s).2 mx h
  obtain ⟨f2, e2⟩ := un_sig (a1 s).2 f3
  obtain ⟨f1, e1⟩ := un_num s mx f2
  refine ⟨f1, e1.trans ?_⟩
  show putB (a1 s).1 ++ (a1 s).2.1 = _
  rw [e2]
  show putB (a1 s).1 ++ (sigB (a2 s).1 ++ (a2 s).2.1) = _
  rw [e3]; rfl
theorem un_X (s : List UInt8 × Bool) (h : (rdX s).2.2 = false) : s.2 = false ∧ s.1 = putB (rdX s).1.k ++ (txtB (rdX s).1.a ++ (txtB (rdX s).1.b ++ (txtB (rdX s).1.c ++ (txtB (rdX s).1.d ++ (rdX s).2.1)))) := by
  obtain ⟨f5, e5⟩ := un_text (x4 s).2 mx h
  obtain ⟨f4, e4⟩ := un_text (x3 s).2 mx f5
  obtain ⟨f3, e3⟩ := un_text (x2 s).2 mx f4
  obtain ⟨f2, e2⟩ := un_text (x1 s).2 mx f3
  obtain ⟨f1, e1⟩ := un_num s mx f2
  refine ⟨f1, e1.trans ?_⟩
  show putB (x1 s).1 ++ (x1 s).2.1 = _
  rw [e2]
  show putB (x1 s).1 ++ (txtB (ba (x2 s).1) ++ (x2 s).2.1) = _
  rw [e3]
  show putB (x1 s).1 ++ (txtB (ba (x2 s).1) ++ (txtB (ba (x3 s).1) ++ (x3 s).2.1)) = _
  rw [e4]
  show putB (x1 s).1 ++ (txtB (ba (x2 s).1) ++ (txtB (ba (x3 s).1) ++ (txtB (ba (x4 s).1) ++ (x4 s).2.1))) = _
  rw [e5]; rfl
/-- Read, it has just these bytes. -/
def Un {α : Type} (rd : List UInt8 × Bool → α × (List UInt8 × Bool)) (by_ : α → List UInt8) : Prop := ∀ s, (rd s).2.2 = false → s.2 = false ∧ s.1 = by_ (rd s).1 ++ (rd s).2.1
theorem bytesN_is (q : Dt × Va) : bytesN q = putB q.1.r ++ (putB q.1.c ++ (putB q.2.k ++ (sigB q.2.n ++ txtB q.2.t))) := by
  simp only [bytesN, t4, t3, t2, t1, List.nil_append, List.append_assoc]
theorem bytesX_is (x : El) : bytesX x = putB x.k ++ (txtB x.a ++ (txtB x.b ++ (txtB x.c ++ txtB x.d))) := by
  simp only [bytesX, s4, s3, s2, s1, List.nil_append, List.append_assoc]
theorem bytesE_is (e : Ev) : bytesE e = putB e.r ++ (putB e.c ++ (pastB e.p 16 ++ (putB e.op ++ (putB e.ek ++ (txtB e.a ++ (txtB e.b ++ (txtB e.cc ++ (txtB e.d ++ (putB e.vk ++ (sigB e.vn ++ txtB e.t)))))))))) := by
  simp only [bytesE, b11, b10, b9, b8, b7, b6, b5, b4, b3, b2, b1, List.append_assoc, List.nil_append]
theorem un_N : Un rdN bytesN := fun s h => by
  obtain ⟨f2, e2⟩ := un_A (rdD s).2 h
  obtain ⟨f1, e1⟩ := un_D s f2
  refine ⟨f1, e1.trans ?_⟩
  rw [e2, bytesN_is]
  simp only [List.append_assoc]
  rfl
theorem un_go {α : Type} {rd : List UInt8 × Bool → α × (List UInt8 × Bool)} {by_ : α → List UInt8} (hu : Un rd by_) : ∀ (n : Nat) (s : List UInt8 × Bool) (acc : List α), (rowGo rd n s acc).2.2 = false → s.2 = false ∧ ∃ l, (rowGo rd n s acc).1 = acc ++ l ∧ l.length = n ∧ s.1 = (l.map by_).flatten ++ (rowGo rd n s acc).2.1
  | 0, s, acc, h => ⟨h, [], by simp [rowGo], rfl, by simp [rowGo]⟩
  | n + 1, s, acc, h => by
    unfold rowGo at h ⊢
    by_cases hf : (rd s).2.2 = true
    · rw [if_pos hf] at h
      rw [hf] at h; cases h
    · rw [if_neg hf] at h ⊢
      obtain ⟨h1, l, h2, h3, h4⟩ := un_go hu n _ _ h
      obtain ⟨h5, h6⟩ := hu s (by simpa using hf)
      refine ⟨h5, (rd s).1 :: l, by rw [h2]; simp, by simp [h3], ?_⟩
      rw [h6]
      simp only [List.map_cons, List.flatten_cons, List.append_assoc]
      rw [← h4]
theorem un_row {α : Type} {rd : List UInt8 × Bool → α × (List UInt8 × Bool)} {by_ : α → List UInt8} (hu : Un rd by_) : Un (rowR rd) (fun l => putB l.length ++ (l.map by_).flatten) := fun s h => by
  obtain ⟨h1, l, h2, h3, h4⟩ := un_go hu _ _ _ h
  obtain ⟨h5, h6⟩ := un_num s mx h1
  refine ⟨h5, h6.trans ?_⟩
  have e : (rowR rd s).1 = l := by unfold rowR; rw [h2]; simp
  rw [e]
  have e2 : ((l.length : Nat) : Int) = (rNum s mx).1 := by rw [h3]; have := (rNum_rng s mx).1; omega
  show _ = (putB ((l.length : Nat) : Int) ++ (l.map by_).flatten) ++ _
  rw [e2, h4, List.append_assoc]
  rfl
theorem un_I : Un rdI (fun q => bytesI q.1 q.2) := fun s h => by
  obtain ⟨f2, e2⟩ := un_row un_N (rdX s).2 h
  obtain ⟨f1, e1⟩ := un_X s f2
  refine ⟨f1, e1.trans ?_⟩
  rw [e2]
  show _ = bytesI (rdX s).1 (rowR rdN (rdX s).2).1 ++ (rowR rdN (rdX s).2).2.1
  unfold bytesI
  rw [bytesX_is]
  simp only [List.append_assoc]
theorem un_E : Un rdEv bytesE := fun s h => by
  obtain ⟨f5, e5⟩ := un_A (rdX (e3 s).2).2 h
  obtain ⟨f4, e4⟩ := un_X (e3 s).2 f5
  obtain ⟨f3, e3'⟩ := un_num (rdF (rdD s).2).2 mx f4
  obtain ⟨f2, e2⟩ := un_vec (rdD s).2 16 f3
  obtain ⟨f1, e1⟩ := un_D s f2
  refine ⟨f1, e1.trans ?_⟩
  rw [e2]
  show putB (rdD s).1.r ++ (putB (rdD s).1.c ++ (pastB (rdF (rdD s).2).1 16 ++ (rdF (rdD s).2).2.1)) = _
  rw [e3']
  show putB (rdD s).1.r ++ (putB (rdD s).1.c ++ (pastB (rdF (rdD s).2).1 16 ++ (putB (e3 s).1 ++ (e3 s).2.1))) = _
  rw [e4, e5, bytesE_is]
  simp only [List.append_assoc]
  rfl
theorem un_snap (l : List UInt8) (h : rDone (sE l).2 = true) : bytesS (sF l).1 (sI l).1 (sE l).1 = l := by
  unfold rDone at h
  rw [Bool.and_eq_true, Bool.not_eq_true', List.isEmpty_iff] at h
  obtain ⟨f3, e3⟩ := un_row un_E (sI l).2 h.1
  obtain ⟨f2, e2⟩ := un_row un_I (sF l).2 f3
  obtain ⟨f1, e1⟩ := un_vec (l, false) 16 f2
  have h2 : (rowR rdEv (sI l).2).2.1 = [] := h.2
  rw [h2, List.append_nil] at e3
  have e2' : (rdF (l, false)).2.1 = rowIB (sI l).1 ++ (sI l).2.1 := e2
  have e1' : l = pastB (sF l).1 16 ++ (rdF (l, false)).2.1 := e1
  unfold bytesS
  refine Eq.symm (e1'.trans ?_)
  rw [e2', e3]
  rfl
theorem txtB_pos (s : ByteArray) : 0 < (txtB s).length := by
  have h := Ot.txtB_size s
  by_cases h0 : s.size = 0
  · unfold txtB
    rw [h0, List.length_append]
    have : 0 < (putB ((0 : Nat) : Int)).length := by decide +kernel
    omega
  · omega
theorem flat_mem {α : Type} {by_ : α → List UInt8} : ∀ {l : List α} {y : α}, y ∈ l → (by_ y).length ≤ (l.map by_).flatten.length
  | [], _, h => by cases h
  | z :: l, y, h => by
    simp only [List.map_cons, List.flatten_cons, List.length_append]
    rcases List.mem_cons.1 h with rfl | h
    · omega
    · have := flat_mem (by_ := by_) h; omega
theorem flat_ge {α : Type} {by_ : α → List UInt8} (hp : ∀ y, 0 < (by_ y).length) : ∀ l : List α, l.length ≤ (l.map by_).flatten.length
  | [] => by simp
  | z :: l => by
    have := flat_ge hp l
    have := hp z
    simp only [List.map_cons, List.flatten_cons, List.length_append, List.length_cons]; omega
theorem bytesN_txt (q : Dt × Va) : q.2.t.size ≤ (bytesN q).length ∧ 0 < (bytesN q).length := by
  have := Ot.txtB_size q.2.t
  have := txtB_pos q.2.t
  rw [bytesN_is]; simp only [List.length_append]; omega
theorem bytesI_txt (x : El) (l : List (Dt × Va)) : x.a.size ≤ (bytesI x l).length ∧ x.b.size ≤ (bytesI x l).length ∧ x.c.size ≤ (bytesI x l).length ∧ x.d.size ≤ (bytesI x l).length ∧ l.length ≤ (bytesI x l).length ∧ (∀ r ∈ l, r.2.t.size ≤ (bytesI x l).length) ∧ 0 < (bytesI x l).length := by
  have h1 := Ot.txtB_size x.a
  have h2 := Ot.txtB_size x.b
  have h3 := Ot.txtB_size x.c
  have h4 := Ot.txtB_size x.d
  have h5 := txtB_pos x.a
  have h6 := flat_ge (fun y => (bytesN_txt y).2) l
  have h7 : ∀ r ∈ l, r.2.t.size ≤ (l.map bytesN).flatten.length := fun r hr => Nat.le_trans (bytesN_txt r).1 (flat_mem hr)
  unfold bytesI
  rw [bytesX_is]
  simp only [List.length_append]
  refine ⟨by omega, by omega, by omega, by omega, by omega, fun r hr => ?_, by omega⟩
  have := h7 r hr; omega
theorem bytesE_txt (e : Ev) : e.a.size ≤ (bytesE e).length ∧ e.b.size ≤ (bytesE e).length ∧ e.cc.size ≤ (bytesE e).length ∧ e.d.size ≤ (bytesE e).length ∧ e.t.size ≤ (bytesE e).length ∧ 0 < (bytesE e).length := by
  have h1 := Ot.txtB_size e.a
  have h2 := Ot.txtB_size e.b
  have h3 := Ot.txtB_size e.cc
  have h4 := Ot.txtB_size e.d
  have h5 := Ot.txtB_size e.t
  have h6 := txtB_pos e.t
  rw [bytesE_is]
  simp only [List.length_append]
  omega
/-- A snapshot that has few bytes has short parts. -/
theorem small_parts (f : Nat → Int) (I : List (El × List (Dt × Va))) (E : List Ev) (h : (bytesS f I E).length ≤ 600) : I.length ≤ 600 ∧ E.length ≤ 600 ∧ (∀ q ∈ I, TinyI q ∧ ItFits q) ∧ ∀ e ∈ E, Tiny e ∧ Lens e := by
  unfold bytesS rowIB rowEB at h
  simp only [List.length_append] at h
  have h1 := flat_ge (fun q : El × List (Dt × Va) => (bytesI_txt q.1 q.2).2.2.2.2.2.2) I
  have h2 := flat_ge (fun e => (bytesE_txt e).2.2.2.2.2) E
  refine ⟨by omega, by omega, fun q hq => ?_, fun e he => ?_⟩
  · have h3 := flat_mem (by_ := fun q : El × List (Dt × Va) => bytesI q.1 q.2) hq
    obtain ⟨i1, i2, i3, i4, i5, i6, _⟩ := bytesI_txt q.1 q.2
    refine ⟨⟨by omega, by omega, by omega, by omega, by omega, fun r hr => ?_⟩, ⟨⟨?_, ?_, ?_, ?_⟩, by omega, fun r hr => ?_⟩⟩
    · have := i6 r hr; omega
    · omega
    · omega
    · omega
    · omega
    · have := i6 r hr; omega
  · have h3 := flat_mem (by_ := bytesE) he
    obtain ⟨i1, i2, i3, i4, i5, _⟩ := bytesE_txt e
    exact ⟨⟨by omega, by omega, by omega, by omega, by omega⟩, ⟨by omega, by omega, by omega, by omega, by omega⟩⟩

end Go.Proofs.YtejljikikhecnaaGreat
