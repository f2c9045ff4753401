/-
  What a snapshot that may be has: it has bytes, and is read as it was. Plain mathematics. Conditions: none.
-/
import Derived.Test.YtejljikikhecnaaGreatSnBackB
namespace Go.Proofs.YtejljikikhecnaaGreat
open Go.RowKit Go.MapKept Go.Sort

theorem change_enc (e : Ev) (h : changeB e = true) : (1 ≤ e.ek ∧ e.ek ≤ 5) ∧ (0 ≤ e.op ∧ e.op ≤ 4) ∧ (0 ≤ e.vk ∧ e.vk ≤ 3) ∧ (-1152921504606846976 ≤ e.vn ∧ e.vn ≤ 1152921504606846976) := by
  unfold changeB at h
  rw [Bool.and_eq_true] at h
  obtain ⟨he, hf⟩ := h
  have hk : 1 ≤ e.ek ∧ e.ek ≤ 5 := by
    unfold elemB at he
    rw [Bool.and_eq_true, decide_eq_true_eq] at he
    exact he.1
  have hrest : (0 ≤ e.op ∧ e.op ≤ 4) ∧ (0 ≤ e.vk ∧ e.vk ≤ 3) ∧ (-1152921504606846976 ≤ e.vn ∧ e.vn ≤ 1152921504606846976) := by
    unfold fitsB at hf
    split at hf
    · rw [Bool.and_eq_true] at hf
      have := hf.2
      unfold noneB at this
      simp only [Bool.and_eq_true, beq_iff_eq] at this
      omega
    · split at hf
      · rw [Bool.and_eq_true] at hf
        have := hf.2
        unfold setB at this
        rw [Bool.and_eq_true, decide_eq_true_eq] at this
        obtain ⟨hv, hq⟩ := this
        have hvn : -1152921504606846976 ≤ e.vn ∧ e.vn ≤ 1152921504606846976 := by
          have h3 : e.vk = 1 ∨ e.vk = 2 ∨ e.vk = 3 := by omega
          rcases h3 with hv | hv | hv
          · rw [hv] at hq; simp [rightB] at hq; omega
          · rw [hv] at hq; simp [rightB] at hq; omega
          · rw [hv] at hq; simp [rightB] at hq; omega
        omega
      · split at hf
        · rw [Bool.and_eq_true] at hf
          have := hf.2
          unfold noneB at this
          simp only [Bool.and_eq_true, beq_iff_eq] at this
          omega
        · cases hf
  exact ⟨hk, hrest⟩
theorem ok_encE (e : Ev) (h : okB e = true) (hl : Lens e) (hc : CanonV e.p) : EncE e := by
  unfold okB at h
  simp only [Bool.and_eq_true] at h
  obtain ⟨⟨hn, hr⟩, hx⟩ := h
  obtain ⟨g1, g2, g3, g4⟩ := change_enc e hx
  unfold nextB at hn
  rw [Bool.and_eq_true] at hn
  have hd := hn.1
  unfold dotB at hd
  rw [decide_eq_true_eq] at hd
  have hp : ∀ i, i < 16 → NumOk (e.p i) := by
    intro i hi
    unfold rightV at hr
    have := (eqV_iff _ _).1 hr i hi
    unfold clampV at this
    unfold NumOk
    omega
  unfold EncE NumOk
  exact ⟨by omega, by omega, hp, by omega, by omega, by omega, g4, hl, hc⟩
theorem item_enc (f : Nat → Int) (q : El × List (Dt × Va)) (h : itemB f q.1 q.2 = true) (hf : ItFits q) : EncI q := by
  obtain ⟨h1, h2, h3⟩ := hf
  unfold itemB at h
  simp only [Bool.and_eq_true] at h
  obtain ⟨_, hr⟩ := h
  unfold rightI at hr
  rw [Bool.and_eq_true, List.all_eq_true] at hr
  obtain ⟨hx, hall⟩ := hr
  unfold elB elemB at hx
  rw [Bool.and_eq_true, decide_eq_true_eq] at hx
  refine ⟨by unfold NumOk; have := hx.1; omega, h1, h2, fun r hr => ?_⟩
  obtain ⟨i, hi⟩ := List.getElem?_of_mem hr
  have hil := (List.getElem?_eq_some_iff.1 hi).1
  have ho := hall i (List.mem_range.2 hil)
  unfold okE7 at ho
  rw [hi] at ho
  dsimp only at ho
  rw [Bool.and_eq_true, Bool.and_eq_true] at ho
  obtain ⟨⟨hd, hv⟩, _⟩ := ho
  unfold dotB at hd
  rw [decide_eq_true_eq] at hd
  obtain ⟨_, _, g3, g4⟩ := change_enc (evX q.1 r.2) hv
  have e1 : (evX q.1 r.2).vk = r.2.k := rfl
  have e2 : (evX q.1 r.2).vn = r.2.n := rfl
  rw [e1] at g3
  rw [e2] at g4
  exact ⟨by unfold NumOk; omega, by unfold NumOk; omega, by unfold NumOk; omega, g4, h3 r hr⟩
/-- What one that may be has. -/
theorem rightS_parts {f : Nat → Int} {I : List (El × List (Dt × Va))} {E : List Ev} (h : rightS f I E = true) : (∀ i, i < 16 → NumOk (f i)) ∧ (∀ q ∈ I, itemB f q.1 q.2 = true) ∧ ∀ e ∈ E, okB e = true := by
  unfold rightS at h
  simp only [Bool.and_eq_true] at h
  obtain ⟨⟨h1, h2⟩, h3⟩ := h
  refine ⟨fun i hi => ?_, fun q hq => ?_, fun e he => ?_⟩
  · unfold rightV at h1
    have := (eqV_iff _ _).1 h1 i hi
    unfold clampV at this
    unfold NumOk
    omega
  · obtain ⟨i, hi⟩ := List.getElem?_of_mem hq
    have hil := (List.getElem?_eq_some_iff.1 hi).1
    unfold itsB at h2
    have := List.all_eq_true.1 h2 i (List.mem_range.2 hil)
    unfold okI at this
    rw [hi] at this
    dsimp only at this
    rw [Bool.and_eq_true] at this
    exact this.2
  · unfold evsS at h3
    rw [Bool.and_eq_true] at h3
    have h4 : E.any (wrongB f) = false := by simpa using h3.2
    have h5 : wrongB f e = false := by
      cases hw : wrongB f e with
      | false => rfl
      | true => rw [List.any_eq_true.2 ⟨e, he, hw⟩] at h4; cases h4
    unfold wrongB at h5
    rw [Bool.or_eq_false_iff] at h5
    simpa using h5.1
theorem snap_read {f : Nat → Int} {I : List (El × List (Dt × Va))} {E : List Ev} (h : rightS f I E = true) (hc : CanonV f) (hI : I.length ≤ 10000) (hi : ∀ q ∈ I, ItFits q) (hE : E.length ≤ 10000) (he : ∀ e ∈ E, Lens e ∧ CanonV e.p) :
    snC (bytesS f I E) = 0 ∧ (sF (bytesS f I E)).1 = f ∧ (sI (bytesS f I E)).1 = I ∧ (sE (bytesS f I E)).1 = E ∧ (sE (bytesS f I E)).2 = ([], false) := by
  obtain ⟨h1, h2, h3⟩ := rightS_parts h
  obtain ⟨q1, q2, q3, q4⟩ := snap_back f I E h1 hc hI (fun q hq => item_enc f q (h2 q hq) (hi q hq)) hE (fun e hm => ok_encE e (h3 e hm) (he e hm).1 (he e hm).2)
  refine ⟨?_, q1, q2, q3, q4⟩
  unfold snC
  rw [q1, q2, q3, q4, h]
  rfl

end Go.Proofs.YtejljikikhecnaaGreat
