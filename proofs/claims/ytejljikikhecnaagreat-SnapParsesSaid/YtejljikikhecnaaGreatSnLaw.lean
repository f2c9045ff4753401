/-
  hedgerowlaw12.right: whether a snapshot may be, as the law reckons it, is what rightS tells: the contract, by a walk (written by gensn14.py). Conditions: lengths.
-/
import Derived.Test.YtejljikikhecnaaGreatNRb
import Derived.Test.YtejljikikhecnaaGreatNRl
import Derived.Test.YtejljikikhecnaaGreatSnCutM
import Derived.Deep.DeepCutAuto
namespace Go.Proofs.YtejljikikhecnaaGreat
open Go.RowKit Go.MapKept Go.Sort

/-- A value, if it is wanted. -/
def vB : Bool → Value → Value
  | true, v => v
  | false, _ => undef
theorem lt_isL (a b : Int) (q : Bool) (h : decide (a < b) = q) (w : World) : (binOp .lss 3 (.int .i64 a) (.int .i64 b)).run Tryz.prog w = .ok (.bool q) w := by
  subst h; go_simp
theorem gt_isL (a b : Int) (q : Bool) (h : decide (b < a) = q) (w : World) : (binOp .gtr 3 (.int .i64 a) (.int .i64 b)).run Tryz.prog w = .ok (.bool q) w := by
  subst h; go_simp
theorem eq_isL (a b : Int) (q : Bool) (h : (a == b) = q) (w : World) : (binOp .eql 3 (.int .i64 a) (.int .i64 b)).run Tryz.prog w = .ok (.bool q) w := by
  subst h; go_simp
theorem sub_isL (k : Nat) (h0 : 0 < k) (h : k ≤ 1000000) (w : World) : (binOp .sub 3 (.int .i64 (k : Nat)) (.int .i64 1)).run Tryz.prog w = .ok (.int .i64 ((k - 1 : Nat) : Int)) w := by
  obtain ⟨m, rfl⟩ : ∃ m, k = m + 1 := ⟨k - 1, by omega⟩
  have := sub1 m h w
  simpa using this
theorem at_xn0 (g q : Nat) (w : World) : (Instr.fieldAt 63 (.pointer (some ⟨g, q, none⟩)) 0).run Tryz.prog w = .ok (.pointer (some ⟨g, q, none⟩)) w := by go_simp
theorem at_xn1 (g q : Nat) (w : World) : (Instr.fieldAt 63 (.pointer (some ⟨g, q, none⟩)) 1).run Tryz.prog w = .ok (.pointer (some ⟨g, q + 2, none⟩)) w := by go_simp
theorem at_xd0 (g q : Nat) (w : World) : (Instr.fieldAt 43 (.pointer (some ⟨g, q, none⟩)) 0).run Tryz.prog w = .ok (.pointer (some ⟨g, q, none⟩)) w := by go_simp
theorem at_xd1 (g q : Nat) (w : World) : (Instr.fieldAt 43 (.pointer (some ⟨g, q, none⟩)) 1).run Tryz.prog w = .ok (.pointer (some ⟨g, q + 1, none⟩)) w := by go_simp
theorem at_xi0 (g q : Nat) (w : World) : (Instr.fieldAt 61 (.pointer (some ⟨g, q, none⟩)) 0).run Tryz.prog w = .ok (.pointer (some ⟨g, q, none⟩)) w := by go_simp
theorem at_xe0 (g : Nat) (w : World) : (Instr.fieldAt 49 (.pointer (some ⟨g, 0, none⟩)) 0).run Tryz.prog w = .ok (.pointer (some ⟨g, 0, none⟩)) w := by go_simp
theorem at_vecL (g : Nat) (r : Int) (h0 : 0 ≤ r) (h1 : r ≤ 15) (w : World) : (Instr.indexAt 23 (.pointer (some ⟨g, 0, none⟩)) (.int .i64 r)).run Tryz.prog w = .ok (.pointer (some ⟨g, r.toNat, none⟩)) w := by
  obtain ⟨n, rfl⟩ := Int.eq_ofNat_of_zero_le h0
  have h2 : (n : Int) < 16 := by omega
  go_simp
theorem sizeElL : (Tryz.prog.info? 45).map (·.size) = some 5 := by kernel_rfl
theorem sizeVaL : (Tryz.prog.info? 47).map (·.size) = some 3 := by kernel_rfl
theorem sizeDtL : (Tryz.prog.info? 43).map (·.size) = some 2 := by kernel_rfl
theorem SB.numL {w : World} {g : Nat} {f : Nat → Int} {si se : Value} (h : SB w g f si se) (n : Nat) (hn : n < 16) : w.cell? ⟨g, n, none⟩ = some (.int .i64 (f n)) := by
  refine (Blk.cell h n).trans ?_
  have : n = 0 ∨ n = 1 ∨ n = 2 ∨ n = 3 ∨ n = 4 ∨ n = 5 ∨ n = 6 ∨ n = 7 ∨ n = 8 ∨ n = 9 ∨ n = 10 ∨ n = 11 ∨ n = 12 ∨ n = 13 ∨ n = 14 ∨ n = 15 := by omega
  rcases this with rfl | rfl | rfl | rfl | rfl | rfl | rfl | rfl | rfl | rfl | rfl | rfl | rfl | rfl | rfl | rfl <;> rfl
/-- A change of an element's entry, whose Op is told apart by its Kind alone. -/
def evO (o : Int) (x : El) (v : Va) : Ev := ⟨0, 0, fun _ => 0, o, x.k, x.a, x.b, x.c, x.d, v.k, v.n, v.t⟩
theorem mkXL (o : Int) (x : El) (v : Va) (w : World) : (Instr.build 73 #[(0, .int .i64 o), (1, eE x), (2, eV v)]).run Tryz.prog w = .ok (chV (evO o x v)) w := by
  obtain ⟨k, a, b, c, d⟩ := x
  obtain ⟨k', n, t⟩ := v
  kernel_rfl
theorem evO_is (x : El) (v : Va) : changeB (evO (if 4 ≤ x.k then 3 else 1) x v) = fit7B x v := by
  unfold fit7B
  cases h : elemB x.k x.a.data.toList x.b.data.toList x.c.data.toList x.d.data.toList
  · have e1 : changeB (evO (if 4 ≤ x.k then 3 else 1) x v) = false := by unfold changeB evO; simp only; rw [h]; rfl
    have e2 : changeB (evX x v) = false := by unfold changeB evX; simp only; rw [h]; rfl
    rw [e1, e2]
  · have h2 := vald_ge x.k (elemB_kind _ _ _ _ _ h)
    have : (if 4 ≤ x.k then (3 : Int) else 1) = if valdB x.k then 3 else 1 := by rw [← h2]; simp
    rw [this]; rfl
/-- May the entry of that number stand there, by the law? -/
def lawN (f : Nat → Int) (x : El) (l : List (Dt × Va)) (i : Nat) : Bool :=
  match l[i]? with
  | none => true
  | some q => fit7B x q.2 && knowsB f q.1.r q.1.c && (match i with
    | 0 => true
    | i' + 1 => (match l[i']? with
      | none => true
      | some p => firstB p.1 q.1))
theorem unk_knows {f : Nat → Int} {l : List (Dt × Va)} (h : l.any (unkB f) = false) {i : Nat} {q : Dt × Va} (hi : l[i]? = some q) : knowsB f q.1.r q.1.c = true := by
  rw [List.any_eq_false] at h
  have := h q (List.mem_of_getElem? hi)
  unfold unkB at this
  simpa using this
theorem itemB_law {f : Nat → Int} {x : El} {l : List (Dt × Va)} (hp : 0 < l.length) : itemB f x l = (List.range l.length).all (lawN f x l) := by
  rw [Bool.eq_iff_iff]
  unfold itemB rightI
  simp only [Bool.and_eq_true, decide_eq_true_eq, List.all_eq_true, List.mem_range, Bool.not_eq_true']
  constructor
  · rintro ⟨⟨_, hu⟩, _, hok⟩ i hi
    have h1 := hok i hi
    have hq := List.getElem?_eq_getElem hi
    have hk := unk_knows hu hq
    unfold okE7 at h1
    unfold lawN
    rw [hq] at h1 ⊢
    simp only [Bool.and_eq_true] at h1 ⊢
    refine ⟨⟨h1.1.2, hk⟩, ?_⟩
    rcases i with _ | i'
    · rfl
    · have h2 := h1.2
      simp only at h2 ⊢
      cases hp : l[i']? with
      | none => rfl
      | some p => rw [hp] at h2; exact h2
  · intro h
    have hk : ∀ i (hi : i < l.length), fit7B x l[i].2 = true ∧ knowsB f l[i].1.r l[i].1.c = true := fun i hi => by
      have h1 := h i hi
      unfold lawN at h1
      rw [List.getElem?_eq_getElem hi] at h1
      simp only [Bool.and_eq_true] at h1
      exact h1.1
    refine ⟨⟨hp, ?_⟩, ?_, ?_⟩
    · rw [List.any_eq_false]
      intro q hq
      obtain ⟨i, hi, rfl⟩ := List.getElem_of_mem hq
      unfold unkB
      rw [(hk i hi).2]; decide
    · have h0 := (hk 0 hp).1
      unfold fit7B changeB at h0
      rw [Bool.and_eq_true] at h0
      exact h0.1
    · intro i hi
      have h1 := h i hi
      have h2 := hk i hi
      unfold lawN at h1
      unfold okE7
      rw [List.getElem?_eq_getElem hi] at h1 ⊢
      simp only [Bool.and_eq_true] at h1 ⊢
      refine ⟨⟨?_, h2.1⟩, ?_⟩
      · have := h2.2
        unfold knowsB at this
        rw [Bool.and_eq_true] at this
        exact this.1
      · rcases i with _ | i'
        · rfl
        · have h3 := h1.2
          simp only at h3 ⊢
          cases hp : l[i']? with
          | none => rfl
          | some p => rw [hp] at h3; exact h3
theorem itemB_bad {f : Nat → Int} {x : El} {l : List (Dt × Va)} {m : Nat} (hm : m < l.length) (h : lawN f x l m = false) : itemB f x l = false := by
  rw [itemB_law (by omega)]
  exact List.all_eq_false.2 ⟨m, List.mem_range.2 hm, by simp [h]⟩
theorem itemB_good {f : Nat → Int} {x : El} {l : List (Dt × Va)} (hp : 0 < l.length) (h : ∀ m, m < l.length → lawN f x l m = true) : itemB f x l = true := by
  rw [itemB_law hp, List.all_eq_true]
  exact fun m hm => h m (List.mem_range.1 hm)
theorem okI_bad {f : Nat → Int} {I : List (El × List (Dt × Va))} {j : Nat} {x : El} {l : List (Dt × Va)} (hq : I[j]? = some (x, l)) (h : itemB f x l = false) : okI f I j = false := by
  unfold okI; rw [hq]; simp [h]
theorem okI_prev {f : Nat → Int} {I : List (El × List (Dt × Va))} {j : Nat} {x px : El} {l pl : List (Dt × Va)} (hq : I[j]? = some (x, l)) (h0 : 0 < j) (hp : I[j - 1]? = some (px, pl)) (h : lessB px x = false) : okI f I j = false := by
  obtain ⟨k, rfl⟩ : ∃ k, j = k + 1 := ⟨j - 1, by omega⟩
  simp only [Nat.add_sub_cancel] at hp
  unfold okI
  rw [hq]
  simp only [hp]
  unfold lessB at h
  have : decide (0 ≤ cfE px x) = true := by simpa using h
  rw [this]; rfl
theorem okI_good {f : Nat → Int} {I : List (El × List (Dt × Va))} {j : Nat} {x px : El} {l : List (Dt × Va)} (hq : I[j]? = some (x, l)) (hp : 0 < j → ∃ pl, I[j - 1]? = some (px, pl)) (h : 0 < j → lessB px x = true) (hi : itemB f x l = true) : okI f I j = true := by
  unfold okI
  rw [hq]
  rcases j with _ | k
  · simpa using hi
  · obtain ⟨pl, hp⟩ := hp (by omega)
    simp only [Nat.add_sub_cancel] at hp
    have h1 := h (by omega)
    unfold lessB at h1
    have : decide (0 ≤ cfE px x) = false := by simpa using h1
    simp only [hp, this, hi]; rfl
theorem evsS_bad {f : Nat → Int} {E : List Ev} {j : Nat} {e : Ev} (he : E[j]? = some e) (h : wrongB f e = true) : evsS f E = false := by
  unfold evsS
  rw [List.any_eq_true.2 ⟨e, List.mem_of_getElem? he, h⟩]; simp
theorem evsS_good {f : Nat → Int} {E : List Ev} (hn : E.length ≤ 100000) (h : ∀ (j : Nat) (e : Ev), E[j]? = some e → wrongB f e = false) : evsS f E = true := by
  unfold evsS
  have h2 : E.any (wrongB f) = false := List.any_eq_false.2 (fun e he => by obtain ⟨j, hj⟩ := List.getElem?_of_mem he; simp [h j e hj])
  rw [decide_eq_true hn, h2]; rfl
/-- Texts that the reference asks. -/
def TinyI (q : El × List (Dt × Va)) : Prop := q.1.a.size ≤ 1000000 ∧ q.1.b.size ≤ 1000000 ∧ q.1.c.size ≤ 1000000 ∧ q.1.d.size ≤ 1000000 ∧ q.2.length ≤ 10000 ∧ ∀ r ∈ q.2, r.2.t.size ≤ 1000000
theorem refch_L (o : Int) (x : El) (v : Va) (b : Bool) (hb : changeB (evO o x v) = b) (h1 : x.a.size ≤ 1000000 ∧ x.b.size ≤ 1000000 ∧ x.c.size ≤ 1000000 ∧ x.d.size ≤ 1000000) (h2 : v.t.size ≤ 1000000) (w : World) :
    Calls Tryz.prog 28 #[chV (evO o x v)] w (Gives w (.bool b)) := by
  subst hb; exact refchange_is (evO o x v) ⟨h1.1, h1.2.1, h1.2.2.1, h1.2.2.2, h2⟩ w
theorem refrt_L (e : Ev) (b : Bool) (hb : okB e = b) (hl : Tiny e) (w : World) : Calls Tryz.prog 30 #[evV e] w (Gives w (.bool b)) := by
  subst hb; exact refright6_any e w hl
/-- What the law asks of an entry, test by test. -/
theorem lawN_is {f : Nat → Int} {x : El} {l : List (Dt × Va)} {m : Nat} {r : Dt × Va} {pv : Dt} (hr : l[m]? = some r) (hV : ∀ i, i < 16 → 0 ≤ f i ∧ f i ≤ 1048576) (hp : 0 < m → ∃ v, l[m - 1]? = some (pv, v)) {g8 d12 d18 d24 d36 q41 l52 : Bool}
    (h8 : fit7B x r.2 = !g8) (h12 : decide (r.1.r < 0) = d12) (h18 : decide (15 < r.1.r) = d18) (h24 : decide (r.1.c < 1) = d24) (h36 : decide (f r.1.r.toNat < r.1.c) = d36) (h41 : decide ((0 : Int) < (m : Nat)) = q41) (h52 : firstB pv r.1 = !l52) :
    lawN f x l m = !(g8 || d12 || d18 || d24 || d36 || (q41 && l52)) := by
  have hk : knowsB f r.1.r r.1.c = !(d12 || d18 || d24 || d36) := by
    subst h12 h18 h24 h36
    rw [Bool.eq_iff_iff]
    unfold knowsB dotB
    simp only [Bool.and_eq_true, decide_eq_true_eq, Bool.not_eq_true', Bool.or_eq_false_iff, decide_eq_false_iff_not]
    constructor
    · rintro ⟨⟨h1, h2, h3, h4⟩, h5⟩
      omega
    · rintro ⟨⟨⟨h1, h2⟩, h3⟩, h4⟩
      have := hV r.1.r.toNat (by omega)
      omega
  unfold lawN
  rw [hr]
  simp only [h8, hk]
  rcases m with _ | m'
  · have : q41 = false := by rw [← h41]; simp
    subst this
    simp
    cases g8 <;> cases d12 <;> cases d18 <;> cases d24 <;> cases d36 <;> rfl
  · have : q41 = true := by rw [← h41]; simp
    subst this
    obtain ⟨v, hp⟩ := hp (by omega)
    simp only [Nat.add_sub_cancel] at hp
    simp only [hp, h52]
    cases g8 <;> cases d12 <;> cases d18 <;> cases d24 <;> cases d36 <;> cases l52 <;> rfl
theorem wrong_is {f : Nat → Int} {e : Ev} {n3 d13 : Bool} (h3 : okB e = !n3) (h13 : decide (f e.r.toNat < e.c) = d13) : wrongB f e = (n3 || d13) := by
  subst h13
  unfold wrongB
  rw [h3]
  cases n3
  · have hd : dotB e.r e.c = true := by
      have h4 : okB e = true := h3
      unfold okB at h4
      rw [Bool.and_eq_true, Bool.and_eq_true] at h4
      have h5 := h4.1.1
      unfold nextB at h5
      rw [Bool.and_eq_true] at h5
      exact h5.1
    unfold knowsB
    rw [hd]
    simp only [Bool.not_false, Bool.not_true, Bool.true_and, Bool.false_or]
    rw [Bool.eq_iff_iff]
    simp
  · rfl
theorem ok_rep {e : Ev} (h : okB e = true) : 0 ≤ e.r ∧ e.r ≤ 15 := by
  unfold okB at h
  rw [Bool.and_eq_true, Bool.and_eq_true] at h
  have h5 := h.1.1
  unfold nextB at h5
  rw [Bool.and_eq_true] at h5
  have := h5.1
  unfold dotB at this
  rw [decide_eq_true_eq] at this
  omega

set_option maxRecDepth 100000 in
set_option maxHeartbeats 8000000 in
theorem lright_any (f : Nat → Int) (I : List (El × List (Dt × Va))) (E : List Ev) (A A2 : Option Addr) (N c N2 c2 : Nat) (w : World) (hi : ItsIs w (.slice A N c) I) (hN : I.length = N) (hN2 : N ≤ 10000) (hx : ∀ q ∈ I, TinyI q) (he : SlK encE 27 w (.slice A2 N2 c2) E) (hM : E.length = N2) (hM2 : N2 ≤ 10000) (hF : ∀ e ∈ E, Tiny e) :
    Calls Tryz.prog 9 #[sV f (.slice A N c) (.slice A2 N2 c2)] w (Gives w (.bool (rightS f I E))) := by
  obtain ⟨bb, hbb⟩ : ∃ bb, rightS f I E = bb := ⟨_, rfl⟩
  rw [hbb]
  obtain ⟨p, hp⟩ : ∃ p, w.heap.size = p := ⟨_, rfl⟩
  obtain ⟨X, hX⟩ : ∃ X, X = w.alloc (.cells (sC f (.slice A N c) (.slice A2 N2 c2)) 27) := ⟨_, rfl⟩
  have hbX : Below w.heap.size w X := by rw [hX]; exact (Below.refl _ _).alloc (Nat.le_refl _) _
  have hmb : SB X p f (.slice A N c) (.slice A2 N2 c2) := by rw [hX, ← hp]; exact SB.new_ w f _ _
  have HM := Lib.hid hmb
  have HI := Lib.hid (hi.below hbX)
  have HS := Lib.hid (he.below hbX)
  have HX := Lib.hid hX
  have HP := Lib.hid hp
  have HB := Lib.hid hbX
  have HBB := Lib.hid hbb
  have HN := Lib.hid hN
  have HN2 := Lib.hid hN2
  have HM2 := Lib.hid hM
  have HM3 := Lib.hid hM2
  have HFt := Lib.hid hx
  have HF := Lib.hid hF
  have HZe := Lib.hid (zero_of_info zeroE).1
  have HZi := Lib.hid (zero_of_info zeroI).1
  have HZn := Lib.hid (zero_of_info zeroN).1
  clear hbb hi hN hN2 hx he hM hM2 hF hX hbX hmb hp
  unfold sV
  go_enter Tryz.func9, Tryz.ntmps9
  go_upto_region 1 with fail
  rw [← HX.out, HP.out]
  go_wp2_with (first
    | (refine' wpList_load_midif ?q1 23 (.tmp 12) ?q2 p 0 ?q3 _ _ ?q4 Tryz.underlying23 ?q5 ?q6 ?_; (case q2 => rfl); (case q1 => rfl); (case q3 => rfl); (case q4 => exact HM.out.vec); (case q5 => rfl); (case q6 => kernel_rfl))
    | fail)
  go_loop [4, 14] (fun _ i => ∃ k : Nat, k ≤ 16 ∧ i = .int .i64 k ∧ ∀ j, j < k → 0 ≤ f j ∧ f j ≤ 1048576) (fun _ i => 16 - (intOf i).toNat)
  case atStart => exact ⟨0, by omega, rfl, fun j hj => by omega⟩
  case round =>
    obtain ⟨k, hk, rfl, hall⟩ := hrel
    have HA := Lib.hid hall
    clear hall
    by_cases hlt : k < 16
    · have hix := index_V f k hlt X
      by_cases d1 : f k < 0
      · have HR : Hid (bb = false) := Lib.hid (HBB.out.symm.trans (by
          unfold rightS
          have : rightV f = false := by
            cases hq : rightV f with
            | false => rfl
            | true => exfalso; have := (right_iff _).1 hq k hlt; omega
          rw [this]; rfl))
        generalize f k = x at *
        go_wp2
        go_ret
        exact ⟨by rw [HR.out]; rfl, HB.out⟩
      · by_cases d2 : 1048576 < f k
        · have HR : Hid (bb = false) := Lib.hid (HBB.out.symm.trans (by
            unfold rightS
            have : rightV f = false := by
              cases hq : rightV f with
              | false => rfl
              | true => exfalso; have := (right_iff _).1 hq k hlt; omega
            rw [this]; rfl))
          generalize f k = x at *
          go_wp2
          go_ret
          exact ⟨by rw [HR.out]; rfl, HB.out⟩
        · have HK := Lib.hid (show 0 ≤ f k ∧ f k ≤ 1048576 by omega)
          have hw := IntWalk.i64_in ((k : Int) + 1) (by omega)
          obtain ⟨x, hx⟩ : ∃ x, f k = x := ⟨_, rfl⟩
          have HXk := Lib.hid hx
          rw [hx] at d1 d2 hix
          clear hx
          go_wp2
          go_round
          case rel => exact ⟨k + 1, by omega, by go_num, fun j hj => by
            rcases Nat.lt_succ_iff_lt_or_eq.1 hj with h | h
            · exact HA.out j h
            · rw [h]; exact HK.out⟩
          case measure => simp [intOf] <;> omega
    · have hk16 : k = 16 := by omega
      subst hk16
      have HV16 := Lib.hid HA.out
      have HVt := Lib.hid ((right_iff f).2 HA.out)
      clear hlt hk HA
      have c16 := HM.out.its
      go_wp2_with fail
      clear c16
      go_loopw [27] (fun v27 wr => ∃ j : Nat, v27 = .int .i64 j ∧ j ≤ N ∧ (∀ k, k < j → okI f I k = true) ∧ Below X.heap.size X wr) (fun v27 _ => N - (intOf v27).toNat)
      case atStart => exact ⟨0, rfl, Nat.zero_le _, fun k hk => absurd hk (Nat.not_lt_zero _), Below.refl _ _⟩
      case round =>
        obtain ⟨j, rfl, hj, hall, hb⟩ := hrel
        obtain ⟨wi, rfl⟩ : ∃ wi, wi = wr := ⟨_, rfl⟩
        have HAll := Lib.hid hall
        have HBi := Lib.hid hb
        clear hall
        by_cases hlt : j < N
        case neg =>
          have hjN : N = j := by omega
          subst hjN
          have HIts := Lib.hid (itsB_yes (f := f) (I := I) fun k hk => HAll.out k (by rw [← HN.out]; exact hk))
          have c17 := (HM.out.keep HBi.out).evs
          clear hb hj hlt HAll
          go_wp2_with fail
          clear c17
          go_loopw [125] (fun v125 wr => ∃ j : Nat, v125 = .int .i64 j ∧ j ≤ N2 ∧ (∀ k e, k < j → E[k]? = some e → wrongB f e = false) ∧ Below X.heap.size X wr) (fun v125 _ => N2 - (intOf v125).toNat)
          case atStart => exact ⟨0, rfl, Nat.zero_le _, fun k e hk => absurd hk (Nat.not_lt_zero _), HBi.out⟩
          case round =>
            obtain ⟨j, rfl, hj, hok, hbw⟩ := hrel
            obtain ⟨we, rfl⟩ : ∃ we, we = wr := ⟨_, rfl⟩
            have HOk := Lib.hid hok
            have HBx := Lib.hid hbw
            have HBw := Lib.hid (HB.out.trans (hbw.mono HB.out.size))
            clear hok hbw
            by_cases hlt : j < N2
            case neg =>
              have hjN : j = N2 := by omega
              subst hjN
              have HR : Hid (bb = true) := Lib.hid (HBB.out.symm.trans (by
                unfold rightS
                rw [HVt.out, HIts.out, evsS_good (by rw [HM2.out]; have := HM3.out; omega) (fun k e hk => HOk.out k e (by rw [← HM2.out]; exact (List.getElem?_eq_some_iff.1 hk).1) hk)]; rfl))
              go_wp2
              go_ret
              exact ⟨by rw [HR.out]; rfl, HBw.out⟩
            obtain ⟨e, he⟩ : ∃ e, E[j]? = some e := ⟨E[j]'(by rw [HM2.out]; exact hlt), List.getElem?_eq_getElem _⟩
            obtain ⟨g, o, rfl, hgl, hce⟩ := (HS.out.below HBx.out).ev he
            have HCe := Lib.hid hce
            have HFe := Lib.hid (HF.out e (List.mem_of_getElem? he))
            have HAt := Lib.hid (at_Ev g o c2 N2 j hlt we)
            have He := Lib.hid he
            have HLt := Lib.hid hlt
            have HAl := Lib.hid fun c => World.setRow_alloc_new we (evC ev0) c 49
            have HZz := Lib.hid (show Blk (we.alloc (.cells (evC ev0) 49)) we.heap.size 49 (evC ev0) from Blk.new _ _ _)
            obtain ⟨Y, hY⟩ : ∃ Y, Y = we.alloc (.cells (evC e) 49) := ⟨_, rfl⟩
            have hbY : Below we.heap.size we Y := by rw [hY]; exact (Below.refl _ _).alloc (Nat.le_refl _) _
            have HBY := Lib.hid (show Blk Y we.heap.size 49 (evC e) by rw [hY]; exact Blk.new _ _ _)
            have HYe := Lib.hid hY
            have HbX := Lib.hid (HBx.out.trans (hbY.mono HBx.out.size))
            have HbY := Lib.hid (HBw.out.trans (hbY.mono HBw.out.size))
            clear hY hbY hce hgl he hlt hj
            have hz := HZe.out
            go_upto_region 25 with (first
              | (refine wpList_val (o := ⟨some 127, _, _, _, _, _⟩) rfl (.pointer (some ⟨g, o + j * 27, none⟩)) we (run_indexAddr_op rfl rfl rfl HAt.out) ?_)
              | (refine wpList_load_midif rfl 49 (.tmp 127) rfl g (o + j * 27) rfl (encE e) _ HCe.out Tryz.underlying49 rfl (sizeE e) ?_)
              | (refine wpList_store_row rfl 49 (.tmp 11) (.tmp 128) rfl we.heap.size (evC e) rfl rfl _ _ HZz.out (sizeE e) rfl (by kernel_rfl) ?_; rw [HAl.out, ← HYe.out])
              | fail)
            clear hz HZz HAl HYe HAt HCe
            obtain ⟨b11, hb11⟩ : ∃ b11, we.heap.size = b11 := ⟨_, rfl⟩
            rw [hb11] at HBY ⊢
            clear hb11
            try simp only [Act.put]
            have HB11 := Lib.hid HBY.out
            have HSB := Lib.hid (SB.keep HM.out HbX.out)
            obtain ⟨n3, hn3⟩ : ∃ n, okB e = !n := ⟨!okB e, by simp⟩
            obtain ⟨d13, hd13⟩ : ∃ d, decide (f e.r.toNat < e.c) = d := ⟨_, rfl⟩
            obtain ⟨g14, hg14⟩ : ∃ g, g = (n3 || d13) := ⟨_, rfl⟩
            have HWr := Lib.hid ((wrong_is hn3 hd13).trans hg14.symm)
            have HRr := Lib.hid (show n3 = false → 0 ≤ e.r ∧ e.r ≤ 15 from fun h => ok_rep (by rw [hn3, h]; rfl))
            have HRt := Lib.hid (fun W => refrt_L e (!n3) hn3 HFe.out W)
            have HD13 := Lib.hid hd13
            have HG14 := Lib.hid hg14
            clear hn3 hd13 hg14
            refine wp_region_any (by kernel_rfl) ?_
            refine wpAny_below (fun i uq _ => uq = ([(evV e : Value), .bool (!n3), .bool n3, .bool n3, vB (!n3) (.pointer (some ⟨b11, 0, none⟩)), vB (!n3) (.pointer (some ⟨b11, 0, none⟩)), vB (!n3) (.int .i64 e.r), vB (!n3) (.pointer (some ⟨p, 0, none⟩)), vB (!n3) (.pointer (some ⟨p, e.r.toNat, none⟩)), vB (!n3) (.int .i64 (f e.r.toNat)), vB (!n3) (.pointer (some ⟨b11, 0, none⟩)), vB (!n3) (.pointer (some ⟨b11, 1, none⟩)), vB (!n3) (.int .i64 e.c), vB (!n3) (.bool d13), .bool g14] : List Value).getD i undef) _ Y (by kernel_rfl) (by kernel_rfl) (by kernel_rfl) (fun i v w w' _ h => h) ?_ ?_
            · refine ⟨?_, ?_, ?_, ?_, ?_, ?_, ?_, ?_, ?_, ?_, ?_, ?_, ?_, ?_, ?_, trivial⟩
              · intro a W hI hun haft hi
                have e11 : a.eval (.tmp 11) = .pointer (some ⟨b11, 0, none⟩) := hun 11 (by kernel_rfl)
                exact b_same hi hI rfl _ (run_load_op rfl e11 (Blk.below HB11.out hI (Blk.lt HB11.out)) Tryz.underlying49 rfl (sizeE e)) rfl
              · intro a W hI hun haft hi
                have f0 : a.eval (.tmp 129) = evV e := haft ⟨0, .data⟩ (by simp) rfl _ _ rfl rfl
                refine b_call hi hI rfl _ _ (run_call_op (args := #[evV e]) rfl (by simp [f0]) (by kernel_rfl)) ?_
                exact (HRt.out W).mono fun e w' H => ⟨_, H.1, rfl, H.2⟩
              · intro a W hI hun haft hi
                have f1 : a.eval (.tmp 130) = .bool (!n3) := haft ⟨1, .data⟩ (by simp) rfl _ _ rfl rfl
                exact b_same hi hI rfl _ (run_not_op rfl f1) (by show Value.bool (!(!n3)) = Value.bool n3; rw [Bool.not_not])
              · intro a W hI hun haft hi
                have f2 : a.eval (.tmp 131) = .bool n3 := haft ⟨2, .data⟩ (by simp) rfl _ _ rfl rfl
                exact b_same hi hI rfl _ (run_move_op rfl f2) rfl
              · intro a W hI hun haft hi
                have fg : a.eval (.tmp 132) = .bool n3 := haft ⟨3, .guard⟩ (by simp) rfl _ _ rfl rfl
                have e11 : a.eval (.tmp 11) = .pointer (some ⟨b11, 0, none⟩) := hun 11 (by kernel_rfl)
                cases n3
                case true => exact b_skip hi hI (guard_no rfl rfl rfl (.inl fg)) rfl
                case false =>
                  exact b_same hi hI (guard_ok rfl rfl rfl fg) _ (run_fieldAddr_any rfl e11 (at_xe0 _ W)) rfl
              · intro a W hI hun haft hi
                have fg : a.eval (.tmp 132) = .bool n3 := haft ⟨3, .guard⟩ (by simp) rfl _ _ rfl rfl
                have f4 : a.eval (.tmp 133) = vB (!n3) (.pointer (some ⟨b11, 0, none⟩)) := haft ⟨4, .data⟩ (by simp) rfl _ _ rfl rfl
                cases n3
                case true => exact b_skip hi hI (guard_no rfl rfl rfl (.inl fg)) rfl
                case false =>
                  exact b_same hi hI (guard_ok rfl rfl rfl fg) _ (run_fieldAddr_any rfl f4 (at_xd0 _ _ W)) rfl
              · intro a W hI hun haft hi
                have fg : a.eval (.tmp 132) = .bool n3 := haft ⟨3, .guard⟩ (by simp) rfl _ _ rfl rfl
                have f5 : a.eval (.tmp 134) = vB (!n3) (.pointer (some ⟨b11, 0, none⟩)) := haft ⟨5, .data⟩ (by simp) rfl _ _ rfl rfl
                cases n3
                case true => exact b_skip hi hI (guard_no rfl rfl rfl (.inl fg)) rfl
                case false =>
                  exact b_same hi hI (guard_ok rfl rfl rfl fg) _ (run_loadint_op rfl f5 Tryz.underlying3 ((Blk.cell (Blk.below HB11.out hI (Blk.lt HB11.out)) 0).trans rfl)) rfl
              · intro a W hI hun haft hi
                have fg : a.eval (.tmp 132) = .bool n3 := haft ⟨3, .guard⟩ (by simp) rfl _ _ rfl rfl
                have e1 : a.eval (.tmp 1) = .pointer (some ⟨p, 0, none⟩) := hun 1 (by kernel_rfl)
                cases n3
                case true => exact b_skip hi hI (guard_no rfl rfl rfl (.inl fg)) rfl
                case false =>
                  exact b_same hi hI (guard_ok rfl rfl rfl fg) _ (run_fieldAddr_any rfl e1 (at_snS0 _ W)) rfl
              · intro a W hI hun haft hi
                have fg : a.eval (.tmp 132) = .bool n3 := haft ⟨3, .guard⟩ (by simp) rfl _ _ rfl rfl
                have f7 : a.eval (.tmp 136) = vB (!n3) (.pointer (some ⟨p, 0, none⟩)) := haft ⟨7, .data⟩ (by simp) rfl _ _ rfl rfl
                have f6 : a.eval (.tmp 135) = vB (!n3) (.int .i64 e.r) := haft ⟨6, .data⟩ (by simp) rfl _ _ rfl rfl
                cases n3
                case true => exact b_skip hi hI (guard_no rfl rfl rfl (.inl fg)) rfl
                case false =>
                  exact b_same hi hI (guard_ok rfl rfl rfl fg) _ (run_indexAddr_op rfl f7 f6 (at_vecL p e.r (HRr.out rfl).1 (HRr.out rfl).2 W)) rfl
              · intro a W hI hun haft hi
                have fg : a.eval (.tmp 132) = .bool n3 := haft ⟨3, .guard⟩ (by simp) rfl _ _ rfl rfl
                have f8 : a.eval (.tmp 137) = vB (!n3) (.pointer (some ⟨p, e.r.toNat, none⟩)) := haft ⟨8, .data⟩ (by simp) rfl _ _ rfl rfl
                cases n3
                case true => exact b_skip hi hI (guard_no rfl rfl rfl (.inl fg)) rfl
                case false =>
                  exact b_same hi hI (guard_ok rfl rfl rfl fg) _ (run_loadint_op rfl f8 Tryz.underlying3 (SB.numL (SB.keep HSB.out hI) _ (by have := HRr.out rfl; omega))) rfl
              · intro a W hI hun haft hi
                have fg : a.eval (.tmp 132) = .bool n3 := haft ⟨3, .guard⟩ (by simp) rfl _ _ rfl rfl
                have e11 : a.eval (.tmp 11) = .pointer (some ⟨b11, 0, none⟩) := hun 11 (by kernel_rfl)
                cases n3
                case true => exact b_skip hi hI (guard_no rfl rfl rfl (.inl fg)) rfl
                case false =>
                  exact b_same hi hI (guard_ok rfl rfl rfl fg) _ (run_fieldAddr_any rfl e11 (at_xe0 _ W)) rfl
              · intro a W hI hun haft hi
                have fg : a.eval (.tmp 132) = .bool n3 := haft ⟨3, .guard⟩ (by simp) rfl _ _ rfl rfl
                have f10 : a.eval (.tmp 139) = vB (!n3) (.pointer (some ⟨b11, 0, none⟩)) := haft ⟨10, .data⟩ (by simp) rfl _ _ rfl rfl
                cases n3
                case true => exact b_skip hi hI (guard_no rfl rfl rfl (.inl fg)) rfl
                case false =>
                  exact b_same hi hI (guard_ok rfl rfl rfl fg) _ (run_fieldAddr_any rfl f10 (at_xd1 _ _ W)) rfl
              · intro a W hI hun haft hi
                have fg : a.eval (.tmp 132) = .bool n3 := haft ⟨3, .guard⟩ (by simp) rfl _ _ rfl rfl
                have f11 : a.eval (.tmp 140) = vB (!n3) (.pointer (some ⟨b11, 1, none⟩)) := haft ⟨11, .data⟩ (by simp) rfl _ _ rfl rfl
                cases n3
                case true => exact b_skip hi hI (guard_no rfl rfl rfl (.inl fg)) rfl
                case false =>
                  exact b_same hi hI (guard_ok rfl rfl rfl fg) _ (run_loadint_op rfl f11 Tryz.underlying3 ((Blk.cell (Blk.below HB11.out hI (Blk.lt HB11.out)) 1).trans rfl)) rfl
              · intro a W hI hun haft hi
                have fg : a.eval (.tmp 132) = .bool n3 := haft ⟨3, .guard⟩ (by simp) rfl _ _ rfl rfl
                have f9 : a.eval (.tmp 138) = vB (!n3) (.int .i64 (f e.r.toNat)) := haft ⟨9, .data⟩ (by simp) rfl _ _ rfl rfl
                have f12 : a.eval (.tmp 141) = vB (!n3) (.int .i64 e.c) := haft ⟨12, .data⟩ (by simp) rfl _ _ rfl rfl
                cases n3
                case true => exact b_skip hi hI (guard_no rfl rfl rfl (.inl fg)) rfl
                case false =>
                  exact b_same hi hI (guard_ok rfl rfl rfl fg) _ (run_bin_op rfl f9 f12 (by kernel_rfl) (lt_isL _ _ _ HD13.out W)) rfl
              · intro a W hI hun haft hi
                have f3 : a.eval (.tmp 132) = .bool n3 := haft ⟨3, .data⟩ (by simp) rfl _ _ rfl rfl
                have f13 : a.eval (.tmp 142) = vB (!n3) (.bool d13) := haft ⟨13, .data⟩ (by simp) rfl _ _ rfl rfl
                cases n3
                case true => exact b_same hi hI rfl _ (run_pick_op (b := true) rfl f3 rfl f13) (by show _ = Value.bool g14; rw [HG14.out]; rfl)
                case false => exact b_same hi hI rfl _ (run_pick_op (b := false) rfl f3 rfl f13) (by show _ = Value.bool g14; rw [HG14.out]; rfl)
            · intro vals W hI hp
              have hl14 : vals 14 = .bool g14 := hp 14 (by decide)
              have HJ := Lib.hid hI
              clear hp hI
              simp only [layN, List.size_toArray, List.length_cons, List.length_nil, List.range, List.range.loop, if_true, List.getElem?_toArray, List.getElem?_cons_zero, List.getElem?_cons_succ, Act.put, List.setIfInBounds_toArray, List.set_cons_zero, List.set_cons_succ, Nat.zero_add, Nat.reduceAdd, hl14]
              clear hl14
              generalize W = W7 at *
              have HbW7 := Lib.hid (HbY.out.trans (HJ.out.mono HbY.out.size))
              have HbX7 := Lib.hid (HbX.out.trans (HJ.out.mono HbX.out.size))
              cases g14
              case true =>
                have HR : Hid (bb = false) := Lib.hid (HBB.out.symm.trans (by
                  unfold rightS
                  rw [evsS_bad He.out HWr.out]; simp))
                go_wp2_with fail
                go_ret
                exact ⟨by rw [HR.out]; rfl, HbW7.out⟩
              have hw := IntWalk.i64_in ((j : Int) + 1) (by have := HM3.out; have := HLt.out; omega)
              have hjm : ¬ 9223372036854775807 < j + 1 := by have := HM3.out; have := HLt.out; omega
              have hlt := HLt.out
              go_wp2_with fail
              go_roundw
              case rel => exact ⟨j + 1, by go_num, HLt.out, fun k e' hk hf => by
                rcases Nat.lt_succ_iff_lt_or_eq.1 hk with h | h
                · exact HOk.out k e' h hf
                · rw [h, He.out] at hf
                  rw [← Option.some.inj hf]; exact HWr.out, HbX7.out⟩
              case measure => simp [intOf] <;> omega
        obtain ⟨q, hq⟩ : ∃ q, I[j]? = some q := ⟨I[j]'(by rw [HN.out]; exact hlt), List.getElem?_eq_getElem _⟩
        obtain ⟨A3, c3, g, o, rfl, hgl, hce, hsl⟩ := (HI.out.below hb).at_ hq
        obtain ⟨x, l⟩ := q
        dsimp only at hce hsl
        obtain ⟨n2, hn2⟩ : ∃ n2, l.length = n2 := ⟨_, rfl⟩
        rw [hn2] at hce hsl
        have hft := HFt.out (x, l) (List.mem_of_getElem? hq)
        have HQ := Lib.hid hq
        have HFq := Lib.hid hft
        have HNq := Lib.hid hn2
        have HCe := Lib.hid hce
        have HAt := Lib.hid (at_It g o c N j hlt wi)
        have HLt := Lib.hid hlt
        have HAl := Lib.hid fun c => World.setRow_alloc_new wi (cI zI) c 61
        have HZz := Lib.hid (show Blk (wi.alloc (.cells (cI zI) 61)) wi.heap.size 61 (cI zI) from Blk.new _ _ _)
        obtain ⟨Y, hY⟩ : ∃ Y, Y = wi.alloc (.cells (cI (x, .slice A3 n2 c3)) 61) := ⟨_, rfl⟩
        have hbY : Below wi.heap.size wi Y := by rw [hY]; exact (Below.refl _ _).alloc (Nat.le_refl _) _
        have HBY := Lib.hid (show Blk Y wi.heap.size 61 (cI (x, .slice A3 n2 c3)) by rw [hY]; exact Blk.new _ _ _)
        have HYe := Lib.hid hY
        have HbY := Lib.hid (show Below X.heap.size X Y from hb.trans (hbY.mono hb.size))
        have HSl := Lib.hid (hsl.below hbY)
        have HW1 := Lib.hid (IntWalk.i64_in ((j : Int) + 1) (by have := HN2.out; omega))
        have HJ1 := Lib.hid (show ¬ 9223372036854775807 < j + 1 by have := HN2.out; omega)
        clear hq hn2 hgl hce hY hbY hb hsl hft
        have hz := HZi.out
        go_upto_region 10 with (first
          | (refine wpList_val (o := ⟨some 30, _, _, _, _, _⟩) rfl (.pointer (some ⟨g, o + j * 6, none⟩)) wi (run_indexAddr_op rfl rfl rfl HAt.out) ?_)
          | (refine' wpList_load_midif ?q1 61 (.tmp 30) ?q2 g (o + j * 6) ?q3 (enI (x, .slice A3 n2 c3)) _ ?q4 Tryz.underlying61 ?q5 ?q6 ?_; (case q2 => rfl); (case q1 => rfl); (case q3 => rfl); (case q4 => exact HCe.out); (case q5 => rfl); (case q6 => exact (sizeIi (x, .slice A3 n2 c3))))
          | (refine wpList_store_row (o := ⟨none, _, _, _, _, _⟩) rfl 61 (.tmp 6) (.tmp 31) rfl wi.heap.size (cI (x, .slice A3 n2 c3)) rfl rfl _ _ HZz.out (sizeIi _) rfl (by simp [cI, Value.oneCell']) ?_; rw [HAl.out, ← HYe.out])
          | fail)
        clear hz HZz HAl HYe HAt HCe
        obtain ⟨b6, hb6⟩ : ∃ b6, wi.heap.size = b6 := ⟨_, rfl⟩
        rw [hb6] at HBY ⊢
        clear hb6
        try simp only [Act.put]
        have HB6 := Lib.hid HBY.out
        have HSB := Lib.hid (SB.keep HM.out HbY.out)
        obtain ⟨e0, he0⟩ : ∃ e0, (((n2 : Nat) : Int) == 0) = e0 := ⟨_, rfl⟩
        obtain ⟨q7, hq7⟩ : ∃ q7, decide ((0 : Int) < (j : Nat)) = q7 := ⟨_, rfl⟩
        obtain ⟨px, hpx⟩ : ∃ px : El, 0 < j → ∃ pl, I[j - 1]? = some (px, pl) := by
          by_cases h0 : 0 < j
          · exact ⟨(I[j - 1]'(by rw [HN.out]; have := HLt.out; omega)).1, fun _ => ⟨_, List.getElem?_eq_getElem _⟩⟩
          · exact ⟨x, fun h => absurd h h0⟩
        obtain ⟨l18, hl18⟩ : ∃ l18, lessB px x = !l18 := ⟨!lessB px x, by simp⟩
        obtain ⟨q19, hq19⟩ : ∃ q19, q19 = (q7 && l18) := ⟨_, rfl⟩
        obtain ⟨g20, hg20⟩ : ∃ g20, g20 = (e0 || q19) := ⟨_, rfl⟩
        have HJ0 := Lib.hid (show q7 = true → 0 < j from fun h => by rw [← hq7, decide_eq_true_eq] at h; omega)
        have HE0 := Lib.hid he0
        have HQ7 := Lib.hid hq7
        have HPxI := Lib.hid hpx
        have HL18 := Lib.hid hl18
        have HQ19 := Lib.hid hq19
        have HG20 := Lib.hid hg20
        have HLess := Lib.hid (fun W => less_is px x (!l18) hl18 W)
        have HSub := Lib.hid (show q7 = true → ∀ W, _ from fun h W => sub_isL j (HJ0.out h) (by have := HLt.out; have := HN2.out; omega) W)
        have HJl := Lib.hid (show q7 = true → j - 1 < N from fun _ => by have := HLt.out; omega)
        have HPx := Lib.hid (show q7 = true → ∀ W, Below Y.heap.size Y W → W.rangeAt g (o + (j - 1) * 6) (enL px) from fun h W hI => by
          obtain ⟨pl, hpl⟩ := hpx (HJ0.out h)
          obtain ⟨_, _, g', o', e', _, hr, _⟩ := ((HI.out.below HbY.out).below hI).at_ hpl
          simp only [Option.some.injEq, Addr.mk.injEq, and_true] at e'
          obtain ⟨rfl, rfl⟩ := e'
          exact range_el hr)
        clear he0 hq7 hpx hl18 hq19 hg20
        refine wp_region_any (by kernel_rfl) ?_
        refine wpAny_below (fun i uq _ => uq = ([(.pointer (some ⟨b6, 5, none⟩) : Value), .slice A3 n2 c3, .int .i64 (n2 : Nat), .bool e0, .bool e0, vB (!e0) (.int .i64 (j : Nat)), vB (!e0) (.bool q7), vB (!e0) (.bool q7), vB (!e0 && q7) (.pointer (some ⟨p, 16, none⟩)), vB (!e0 && q7) (.slice (some ⟨g, o, none⟩) N c), vB (!e0 && q7) (.int .i64 (j : Nat)), vB (!e0 && q7) (.int .i64 ((j - 1 : Nat) : Int)), vB (!e0 && q7) (.pointer (some ⟨g, o + (j - 1) * 6, none⟩)), vB (!e0 && q7) (.pointer (some ⟨g, o + (j - 1) * 6, none⟩)), vB (!e0 && q7) (eE px), vB (!e0 && q7) (.pointer (some ⟨b6, 0, none⟩)), vB (!e0 && q7) (eE x), vB (!e0 && q7) (.bool (!l18)), vB (!e0 && q7) (.bool l18), vB (!e0) (.bool q19), .bool g20] : List Value).getD i undef) _ Y (by kernel_rfl) (by kernel_rfl) (by kernel_rfl) (fun i v w w' _ h => h) ?_ ?_
        · refine ⟨?_, ?_, ?_, ?_, ?_, ?_, ?_, ?_, ?_, ?_, ?_, ?_, ?_, ?_, ?_, ?_, ?_, ?_, ?_, ?_, ?_, trivial⟩
          · intro a W hI hun haft hi
            have e6 : a.eval (.tmp 6) = .pointer (some ⟨b6, 0, none⟩) := hun 6 (by kernel_rfl)
            exact b_same hi hI rfl _ (run_fieldAddr_any rfl e6 (at_snI1 _ W)) rfl
          · intro a W hI hun haft hi
            have f0 : a.eval (.tmp 32) = .pointer (some ⟨b6, 5, none⟩) := haft ⟨0, .data⟩ (by simp) rfl _ _ rfl rfl
            exact b_same hi hI rfl _ (run_loadsl_op rfl f0 Tryz.underlying59 ((Blk.cell (Blk.below HB6.out hI (Blk.lt HB6.out)) 5).trans rfl)) rfl
          · intro a W hI hun haft hi
            have f1 : a.eval (.tmp 33) = .slice A3 n2 c3 := haft ⟨1, .data⟩ (by simp) rfl _ _ rfl rfl
            exact b_same hi hI rfl _ (run_len_op Tryz.underlying59 rfl f1) rfl
          · intro a W hI hun haft hi
            have f2 : a.eval (.tmp 34) = .int .i64 (n2 : Nat) := haft ⟨2, .data⟩ (by simp) rfl _ _ rfl rfl
            exact b_same hi hI rfl _ (run_bin_op rfl f2 rfl (guardI _ _ _ _ _ _ _) (eq_isL _ _ _ HE0.out W)) rfl
          · intro a W hI hun haft hi
            have f3 : a.eval (.tmp 35) = .bool e0 := haft ⟨3, .data⟩ (by simp) rfl _ _ rfl rfl
            exact b_same hi hI rfl _ (run_move_op rfl f3) rfl
          · intro a W hI hun haft hi
            have fg : a.eval (.tmp 36) = .bool e0 := haft ⟨4, .guard⟩ (by simp) rfl _ _ rfl rfl
            have e5 : a.eval (.tmp 5) = .int .i64 (j : Nat) := hun 5 (by kernel_rfl)
            cases e0
            case true => exact b_skip hi hI (guard_no rfl rfl rfl (.inl fg)) rfl
            case false =>
              exact b_same hi hI (guard_ok rfl rfl rfl fg) _ (run_move_op rfl e5) rfl
          · intro a W hI hun haft hi
            have fg : a.eval (.tmp 36) = .bool e0 := haft ⟨4, .guard⟩ (by simp) rfl _ _ rfl rfl
            have f5 : a.eval (.tmp 37) = vB (!e0) (.int .i64 (j : Nat)) := haft ⟨5, .data⟩ (by simp) rfl _ _ rfl rfl
            cases e0
            case true => exact b_skip hi hI (guard_no rfl rfl rfl (.inl fg)) rfl
            case false =>
              exact b_same hi hI (guard_ok rfl rfl rfl fg) _ (run_bin_op rfl f5 rfl (by kernel_rfl) (gt_isL _ _ _ HQ7.out W)) rfl
          · intro a W hI hun haft hi
            have fg : a.eval (.tmp 36) = .bool e0 := haft ⟨4, .guard⟩ (by simp) rfl _ _ rfl rfl
            have f6 : a.eval (.tmp 38) = vB (!e0) (.bool q7) := haft ⟨6, .data⟩ (by simp) rfl _ _ rfl rfl
            cases e0
            case true => exact b_skip hi hI (guard_no rfl rfl rfl (.inl fg)) rfl
            case false =>
              exact b_same hi hI (guard_ok rfl rfl rfl fg) _ (run_move_op rfl f6) rfl
          · intro a W hI hun haft hi
            have fg : a.eval (.tmp 39) = vB (!e0) (.bool q7) := haft ⟨7, .guard⟩ (by simp) rfl _ _ rfl rfl
            have e1 : a.eval (.tmp 1) = .pointer (some ⟨p, 0, none⟩) := hun 1 (by kernel_rfl)
            cases e0
            case true => exact b_skip hi hI (guard_no rfl rfl rfl (.inr fg)) rfl
            case false =>
              cases q7
              case false => exact b_skip hi hI (guard_no rfl rfl rfl (.inl fg)) rfl
              case true =>
                exact b_same hi hI (guard_ok rfl rfl rfl fg) _ (run_fieldAddr_any rfl e1 (at_snS1 _ W)) rfl
          · intro a W hI hun haft hi
            have fg : a.eval (.tmp 39) = vB (!e0) (.bool q7) := haft ⟨7, .guard⟩ (by simp) rfl _ _ rfl rfl
            have f8 : a.eval (.tmp 40) = vB (!e0 && q7) (.pointer (some ⟨p, 16, none⟩)) := haft ⟨8, .data⟩ (by simp) rfl _ _ rfl rfl
            cases e0
            case true => exact b_skip hi hI (guard_no rfl rfl rfl (.inr fg)) rfl
            case false =>
              cases q7
              case false => exact b_skip hi hI (guard_no rfl rfl rfl (.inl fg)) rfl
              case true =>
                exact b_same hi hI (guard_ok rfl rfl rfl fg) _ (run_loadsl_op rfl f8 Tryz.underlying24 (SB.its (SB.keep HSB.out hI))) rfl
          · intro a W hI hun haft hi
            have fg : a.eval (.tmp 39) = vB (!e0) (.bool q7) := haft ⟨7, .guard⟩ (by simp) rfl _ _ rfl rfl
            have e5 : a.eval (.tmp 5) = .int .i64 (j : Nat) := hun 5 (by kernel_rfl)
            cases e0
            case true => exact b_skip hi hI (guard_no rfl rfl rfl (.inr fg)) rfl
            case false =>
              cases q7
              case false => exact b_skip hi hI (guard_no rfl rfl rfl (.inl fg)) rfl
              case true =>
                exact b_same hi hI (guard_ok rfl rfl rfl fg) _ (run_move_op rfl e5) rfl
          · intro a W hI hun haft hi
            have fg : a.eval (.tmp 39) = vB (!e0) (.bool q7) := haft ⟨7, .guard⟩ (by simp) rfl _ _ rfl rfl
            have f10 : a.eval (.tmp 42) = vB (!e0 && q7) (.int .i64 (j : Nat)) := haft ⟨10, .data⟩ (by simp) rfl _ _ rfl rfl
            cases e0
            case true => exact b_skip hi hI (guard_no rfl rfl rfl (.inr fg)) rfl
            case false =>
              cases q7
              case false => exact b_skip hi hI (guard_no rfl rfl rfl (.inl fg)) rfl
              case true =>
                exact b_same hi hI (guard_ok rfl rfl rfl fg) _ (run_bin_op rfl f10 rfl (guardI _ _ _ _ _ _ _) (HSub.out rfl W)) rfl
          · intro a W hI hun haft hi
            have fg : a.eval (.tmp 39) = vB (!e0) (.bool q7) := haft ⟨7, .guard⟩ (by simp) rfl _ _ rfl rfl
            have f9 : a.eval (.tmp 41) = vB (!e0 && q7) (.slice (some ⟨g, o, none⟩) N c) := haft ⟨9, .data⟩ (by simp) rfl _ _ rfl rfl
            have f11 : a.eval (.tmp 43) = vB (!e0 && q7) (.int .i64 ((j - 1 : Nat) : Int)) := haft ⟨11, .data⟩ (by simp) rfl _ _ rfl rfl
            cases e0
            case true => exact b_skip hi hI (guard_no rfl rfl rfl (.inr fg)) rfl
            case false =>
              cases q7
              case false => exact b_skip hi hI (guard_no rfl rfl rfl (.inl fg)) rfl
              case true =>
                exact b_same hi hI (guard_ok rfl rfl rfl fg) _ (run_indexAddr_op rfl f9 f11 (at_It g o c N (j - 1) (HJl.out rfl) W)) rfl
          · intro a W hI hun haft hi
            have fg : a.eval (.tmp 39) = vB (!e0) (.bool q7) := haft ⟨7, .guard⟩ (by simp) rfl _ _ rfl rfl
            have f12 : a.eval (.tmp 44) = vB (!e0 && q7) (.pointer (some ⟨g, o + (j - 1) * 6, none⟩)) := haft ⟨12, .data⟩ (by simp) rfl _ _ rfl rfl
            cases e0
            case true => exact b_skip hi hI (guard_no rfl rfl rfl (.inr fg)) rfl
            case false =>
              cases q7
              case false => exact b_skip hi hI (guard_no rfl rfl rfl (.inl fg)) rfl
              case true =>
                exact b_same hi hI (guard_ok rfl rfl rfl fg) _ (run_fieldAddr_any rfl f12 (at_xi0 _ _ W)) rfl
          · intro a W hI hun haft hi
            have fg : a.eval (.tmp 39) = vB (!e0) (.bool q7) := haft ⟨7, .guard⟩ (by simp) rfl _ _ rfl rfl
            have f13 : a.eval (.tmp 45) = vB (!e0 && q7) (.pointer (some ⟨g, o + (j - 1) * 6, none⟩)) := haft ⟨13, .data⟩ (by simp) rfl _ _ rfl rfl
            cases e0
            case true => exact b_skip hi hI (guard_no rfl rfl rfl (.inr fg)) rfl
            case false =>
              cases q7
              case false => exact b_skip hi hI (guard_no rfl rfl rfl (.inl fg)) rfl
              case true =>
                exact b_same hi hI (guard_ok rfl rfl rfl fg) _ (run_loadmid_op (cs := enL px) rfl f13 (HPx.out rfl W hI) Tryz.underlying45 rfl sizeElL) rfl
          · intro a W hI hun haft hi
            have fg : a.eval (.tmp 39) = vB (!e0) (.bool q7) := haft ⟨7, .guard⟩ (by simp) rfl _ _ rfl rfl
            have e6 : a.eval (.tmp 6) = .pointer (some ⟨b6, 0, none⟩) := hun 6 (by kernel_rfl)
            cases e0
            case true => exact b_skip hi hI (guard_no rfl rfl rfl (.inr fg)) rfl
            case false =>
              cases q7
              case false => exact b_skip hi hI (guard_no rfl rfl rfl (.inl fg)) rfl
              case true =>
                exact b_same hi hI (guard_ok rfl rfl rfl fg) _ (run_fieldAddr_any rfl e6 (at_snI0 _ W)) rfl
          · intro a W hI hun haft hi
            have fg : a.eval (.tmp 39) = vB (!e0) (.bool q7) := haft ⟨7, .guard⟩ (by simp) rfl _ _ rfl rfl
            have f15 : a.eval (.tmp 47) = vB (!e0 && q7) (.pointer (some ⟨b6, 0, none⟩)) := haft ⟨15, .data⟩ (by simp) rfl _ _ rfl rfl
            cases e0
            case true => exact b_skip hi hI (guard_no rfl rfl rfl (.inr fg)) rfl
            case false =>
              cases q7
              case false => exact b_skip hi hI (guard_no rfl rfl rfl (.inl fg)) rfl
              case true =>
                exact b_same hi hI (guard_ok rfl rfl rfl fg) _ (run_loadmid_op (cs := enL x) rfl f15 (World.rangeAt_of_block (C := cI (x, .slice A3 n2 c3)) (Blk.below HB6.out hI (Blk.lt HB6.out)) 0 5) Tryz.underlying45 rfl sizeElL) rfl
          · intro a W hI hun haft hi
            have fg : a.eval (.tmp 39) = vB (!e0) (.bool q7) := haft ⟨7, .guard⟩ (by simp) rfl _ _ rfl rfl
            have f14 : a.eval (.tmp 46) = vB (!e0 && q7) (eE px) := haft ⟨14, .data⟩ (by simp) rfl _ _ rfl rfl
            have f16 : a.eval (.tmp 48) = vB (!e0 && q7) (eE x) := haft ⟨16, .data⟩ (by simp) rfl _ _ rfl rfl
            cases e0
            case true => exact b_skip hi hI (guard_no rfl rfl rfl (.inr fg)) rfl
            case false =>
              cases q7
              case false => exact b_skip hi hI (guard_no rfl rfl rfl (.inl fg)) rfl
              case true =>
                refine b_call hi hI (guard_ok rfl rfl rfl fg) _ _ (run_call_op (args := #[eE px, eE x]) rfl (by simp [f14, f16, vB]) (by kernel_rfl)) ?_
                exact (HLess.out W).mono fun e w' H => ⟨_, H.1, rfl, H.2⟩
          · intro a W hI hun haft hi
            have fg : a.eval (.tmp 39) = vB (!e0) (.bool q7) := haft ⟨7, .guard⟩ (by simp) rfl _ _ rfl rfl
            have f17 : a.eval (.tmp 49) = vB (!e0 && q7) (.bool (!l18)) := haft ⟨17, .data⟩ (by simp) rfl _ _ rfl rfl
            cases e0
            case true => exact b_skip hi hI (guard_no rfl rfl rfl (.inr fg)) rfl
            case false =>
              cases q7
              case false => exact b_skip hi hI (guard_no rfl rfl rfl (.inl fg)) rfl
              case true =>
                exact b_same hi hI (guard_ok rfl rfl rfl fg) _ (run_not_op rfl f17) (by show Value.bool (!(!l18)) = Value.bool l18; rw [Bool.not_not])
          · intro a W hI hun haft hi
            have fg : a.eval (.tmp 36) = .bool e0 := haft ⟨4, .guard⟩ (by simp) rfl _ _ rfl rfl
            have f7 : a.eval (.tmp 39) = vB (!e0) (.bool q7) := haft ⟨7, .data⟩ (by simp) rfl _ _ rfl rfl
            have f18 : a.eval (.tmp 50) = vB (!e0 && q7) (.bool l18) := haft ⟨18, .data⟩ (by simp) rfl _ _ rfl rfl
            cases e0
            case true => exact b_skip hi hI (guard_no rfl rfl rfl (.inl fg)) rfl
            case false =>
              cases q7
              case true => exact b_same hi hI (guard_ok rfl rfl rfl fg) _ (run_pick_op (b := true) rfl f7 f18 rfl) (by show _ = Value.bool q19; rw [HQ19.out]; rfl)
              case false => exact b_same hi hI (guard_ok rfl rfl rfl fg) _ (run_pick_op (b := false) rfl f7 f18 rfl) (by show _ = Value.bool q19; rw [HQ19.out]; rfl)
          · intro a W hI hun haft hi
            have f4 : a.eval (.tmp 36) = .bool e0 := haft ⟨4, .data⟩ (by simp) rfl _ _ rfl rfl
            have f19 : a.eval (.tmp 51) = vB (!e0) (.bool q19) := haft ⟨19, .data⟩ (by simp) rfl _ _ rfl rfl
            cases e0
            case true => exact b_same hi hI rfl _ (run_pick_op (b := true) rfl f4 rfl f19) (by show _ = Value.bool g20; rw [HG20.out]; rfl)
            case false => exact b_same hi hI rfl _ (run_pick_op (b := false) rfl f4 rfl f19) (by show _ = Value.bool g20; rw [HG20.out]; rfl)
        · intro vals W hI hp
          have hl20 : vals 20 = .bool g20 := hp 20 (by decide)
          have HJ := Lib.hid hI
          clear hp hI
          simp only [layN, List.size_toArray, List.length_cons, List.length_nil, List.range, List.range.loop, if_true, List.getElem?_toArray, List.getElem?_cons_zero, List.getElem?_cons_succ, Act.put, List.setIfInBounds_toArray, List.set_cons_zero, List.set_cons_succ, Nat.zero_add, Nat.reduceAdd, hl20]
          clear hl20
          generalize W = W6 at *
          have HK6 := Lib.hid (Blk.below HBY.out HJ.out (Blk.lt HBY.out))
          have HS6 := Lib.hid (HSl.out.below HJ.out)
          have HbW := Lib.hid (HbY.out.trans (HJ.out.mono HbY.out.size))
          clear HB6 HSB
          have HSB := Lib.hid (SB.keep HM.out HbW.out)
          cases g20
          case true =>
            have HR : Hid (bb = false) := Lib.hid (HBB.out.symm.trans (by
              have hno : okI f I j = false := by
                have h1 := HG20.out.symm
                rw [Bool.or_eq_true] at h1
                rcases h1 with h1 | h1
                · refine okI_bad HQ.out ?_
                  have h2 := HE0.out.trans h1
                  have h3 : l.length = 0 := by rw [HNq.out]; simpa using h2
                  unfold itemB; rw [decide_eq_false (by omega)]; rfl
                · have h2 := HQ19.out.symm.trans h1
                  rw [Bool.and_eq_true] at h2
                  obtain ⟨pl, hpl⟩ := HPxI.out (HJ0.out h2.1)
                  exact okI_prev HQ.out (HJ0.out h2.1) hpl (by rw [HL18.out, h2.2]; rfl)
              unfold rightS
              rw [itsB_no (by rw [HN.out]; exact HLt.out) hno]; simp))
            go_wp2_with fail
            go_ret
            exact ⟨by rw [HR.out]; rfl, HB.out.trans (HbW.out.mono HB.out.size)⟩
          have HPos := Lib.hid (show 0 < n2 by
            have h1 := HG20.out.symm
            rw [Bool.or_eq_false_iff] at h1
            have h2 := HE0.out.trans h1.1
            have h3 : ¬ ((n2 : Nat) : Int) = 0 := by simpa using h2
            omega)
          have HPrev := Lib.hid (show 0 < j → lessB px x = true by
            intro h0
            have h1 := HG20.out.symm
            rw [Bool.or_eq_false_iff] at h1
            have h2 := HQ19.out.symm.trans h1.2
            have h3 : q7 = true := by rw [← HQ7.out, decide_eq_true_eq]; omega
            rw [h3, Bool.true_and] at h2
            rw [HL18.out, h2]; rfl)
          clear HG20 HE0 HQ19 HQ7 HL18 HLess HSub HJl HPx HJ0
          have HB6 := Lib.hid HK6.out
          have c5 := (Blk.cell HK6.out 5)
          rw [show (cI (x, .slice A3 n2 c3))[5]? = some (.slice A3 n2 c3) from rfl] at c5
          go_wp2_with fail
          clear c5
          go_loopw [56] (fun v56 wr => ∃ m : Nat, v56 = .int .i64 m ∧ m ≤ n2 ∧ (∀ i, i < m → lawN f x l i = true) ∧ Below W6.heap.size W6 wr) (fun v56 _ => n2 - (intOf v56).toNat)
          case atStart => exact ⟨0, rfl, Nat.zero_le _, fun k hk => absurd hk (Nat.not_lt_zero _), Below.refl _ _⟩
          case round =>
            obtain ⟨m, rfl, hm, hok, hbw⟩ := hrel
            obtain ⟨wo, rfl⟩ : ∃ wo, wo = wr := ⟨_, rfl⟩
            have HOk := Lib.hid hok
            have HBw := Lib.hid hbw
            have HbX := Lib.hid (HbW.out.trans (hbw.mono HbW.out.size))
            clear hok
            by_cases hmn : m < n2
            case neg =>
              have hmN : n2 = m := by omega
              subst hmN
              have HOkI := Lib.hid (okI_good (px := px) HQ.out HPxI.out HPrev.out (itemB_good (by rw [HNq.out]; exact HPos.out) fun i hi => HOk.out i (by rw [← HNq.out]; exact hi)))
              have hw := HW1.out
              have hjm := HJ1.out
              have hlt := HLt.out
              clear hbw hm hmn
              go_wp2
              go_roundw
              case rel => exact ⟨j + 1, by go_num, HLt.out, fun i hi => by
                rcases Nat.lt_succ_iff_lt_or_eq.1 hi with h | h
                · exact HAll.out i h
                · rw [h]; exact HOkI.out, HbX.out⟩
              case measure => simp [intOf] <;> omega
            obtain ⟨r, hr⟩ : ∃ r, l[m]? = some r := ⟨l[m]'(by rw [HNq.out]; exact hmn), List.getElem?_eq_getElem _⟩
            obtain ⟨g2, o2, rfl, hgl2, hce2⟩ := (HS6.out.below hbw).at_ hr
            have HCe := Lib.hid hce2
            have HAt := Lib.hid (at_En g2 o2 c3 n2 m hmn wo)
            have HRr2 := Lib.hid hr
            have HAl := Lib.hid fun c => World.setRow_alloc_new wo (cN zN) c 63
            have HZz := Lib.hid (show Blk (wo.alloc (.cells (cN zN) 63)) wo.heap.size 63 (cN zN) from Blk.new _ _ _)
            obtain ⟨V, hV⟩ : ∃ V, V = wo.alloc (.cells (cN r) 63) := ⟨_, rfl⟩
            have hbV : Below wo.heap.size wo V := by rw [hV]; exact (Below.refl _ _).alloc (Nat.le_refl _) _
            have HBV := Lib.hid (show Blk V wo.heap.size 63 (cN r) by rw [hV]; exact Blk.new _ _ _)
            have HVe := Lib.hid hV
            have HbV := Lib.hid (show Below X.heap.size X V from HbX.out.trans (hbV.mono HbX.out.size))
            have HbVW := Lib.hid (show Below W6.heap.size W6 V from hbw.trans (hbV.mono hbw.size))
            have HSV := Lib.hid (HS6.out.below HbVW.out)
            have HKn := Lib.hid hmn
            have HSv := Lib.hid (HSB.out.keep HbVW.out)
            have HBv := Lib.hid (Blk.below HB6.out HbVW.out (Blk.lt HB6.out))
            have hw := IntWalk.i64_in ((m : Int) + 1) (by have := HFq.out.2.2.2.2.1; have := HNq.out; dsimp only at *; omega)
            have HWm := Lib.hid hw
            have HFr := Lib.hid (show x.a.size ≤ 1000000 ∧ x.b.size ≤ 1000000 ∧ x.c.size ≤ 1000000 ∧ x.d.size ≤ 1000000 from ⟨HFq.out.1, HFq.out.2.1, HFq.out.2.2.1, HFq.out.2.2.2.1⟩)
            have HFv := Lib.hid (show r.2.t.size ≤ 1000000 from HFq.out.2.2.2.2.2 r (List.mem_of_getElem? hr))
            have HNm := Lib.hid (show n2 ≤ 10000 by have := HFq.out.2.2.2.2.1; have := HNq.out; dsimp only at *; omega)
            clear hr hgl2 hce2 hV hbV hbw hmn hm hw HSB HB6
            have HSB := Lib.hid HSv.out
            have HB6 := Lib.hid HBv.out
            have hz := HZn.out
            have n0 : V.cell? ⟨b6, 0, none⟩ = some (.int .i64 x.k) := (Blk.cell HB6.out 0).trans rfl
            go_upto_region 16 with (first
              | (refine wpList_val (o := ⟨some 59, _, _, _, _, _⟩) rfl (.pointer (some ⟨g2, o2 + m * 5, none⟩)) wo (run_indexAddr_op rfl rfl rfl HAt.out) ?_)
              | (refine' wpList_load_midif ?q1 63 (.tmp 59) ?q2 g2 (o2 + m * 5) ?q3 (enN r) _ ?q4 Tryz.underlying63 ?q5 ?q6 ?_; (case q2 => rfl); (case q1 => rfl); (case q3 => rfl); (case q4 => exact HCe.out); (case q5 => rfl); (case q6 => exact (sizeNn r)))
              | (refine wpList_store_row (o := ⟨none, _, _, _, _, _⟩) rfl 63 (.tmp 8) (.tmp 60) rfl wo.heap.size (cN r) rfl rfl _ _ HZz.out (sizeNn _) rfl (by simp [cN, Value.oneCell']) ?_; rw [HAl.out, ← HVe.out])
              | fail)
            clear hz HZz HAl HVe HAt HCe
            obtain ⟨b8, hb8⟩ : ∃ b8, wo.heap.size = b8 := ⟨_, rfl⟩
            rw [hb8] at HBV ⊢
            clear hb8
            try simp only [Act.put]
            have HB8 := Lib.hid HBV.out
            obtain ⟨g8, hg8⟩ : ∃ g8, fit7B x r.2 = !g8 := ⟨!fit7B x r.2, by simp⟩
            obtain ⟨d12, hd12⟩ : ∃ d, decide (r.1.r < 0) = d := ⟨_, rfl⟩
            obtain ⟨d18, hd18⟩ : ∃ d, decide (15 < r.1.r) = d := ⟨_, rfl⟩
            obtain ⟨d24, hd24⟩ : ∃ d, decide (r.1.c < 1) = d := ⟨_, rfl⟩
            obtain ⟨d36, hd36⟩ : ∃ d, decide (f r.1.r.toNat < r.1.c) = d := ⟨_, rfl⟩
            obtain ⟨q41, hq41⟩ : ∃ d, decide ((0 : Int) < (m : Nat)) = d := ⟨_, rfl⟩
            obtain ⟨pv, hpv⟩ : ∃ pv : Dt, 0 < m → ∃ v, l[m - 1]? = some (pv, v) := by
              by_cases h0 : 0 < m
              · exact ⟨(l[m - 1]'(by rw [HNq.out]; have := HKn.out; omega)).1, fun _ => ⟨_, List.getElem?_eq_getElem _⟩⟩
              · exact ⟨r.1, fun h => absurd h h0⟩
            obtain ⟨l52, hl52⟩ : ∃ b, firstB pv r.1 = !b := ⟨!firstB pv r.1, by simp⟩
            have hlaw := lawN_is HRr2.out HV16.out hpv hg8 hd12 hd18 hd24 hd36 hq41 hl52
            obtain ⟨g14, hg14⟩ : ∃ g, g = (g8 || d12) := ⟨_, rfl⟩
            obtain ⟨g20, hg20⟩ : ∃ g, g = (g14 || d18) := ⟨_, rfl⟩
            obtain ⟨g26, hg26⟩ : ∃ g, g = (g20 || d24) := ⟨_, rfl⟩
            obtain ⟨g38, hg38⟩ : ∃ g, g = (g26 || d36) := ⟨_, rfl⟩
            obtain ⟨q53, hq53⟩ : ∃ g, g = (q41 && l52) := ⟨_, rfl⟩
            obtain ⟨g54, hg54⟩ : ∃ g, g = (g38 || q53) := ⟨_, rfl⟩
            rw [← hg14, ← hg20, ← hg26, ← hg38, ← hq53, ← hg54] at hlaw
            have HLaw := Lib.hid hlaw
            have HRr := Lib.hid (show g26 = false → 0 ≤ r.1.r ∧ r.1.r ≤ 15 from fun h => by
              rw [h] at hg26
              have h1 := (Bool.or_eq_false_iff.1 hg26.symm).1
              rw [h1] at hg20
              have h2 := Bool.or_eq_false_iff.1 hg20.symm
              rw [h2.1] at hg14
              have h3 := (Bool.or_eq_false_iff.1 hg14.symm).2
              rw [h3, decide_eq_false_iff_not] at hd12
              have h4 := h2.2
              rw [h4, decide_eq_false_iff_not] at hd18
              omega)
            have HM0 := Lib.hid (show q41 = true → 0 < m from fun h => by rw [← hq41, decide_eq_true_eq] at h; omega)
            have HSub2 := Lib.hid (show q41 = true → ∀ W, _ from fun h W => sub_isL m (HM0.out h) (by have := HKn.out; have := HNm.out; omega) W)
            have HMl := Lib.hid (show q41 = true → m - 1 < n2 from fun _ => by have := HKn.out; omega)
            have HPv := Lib.hid (show q41 = true → ∀ W, Below V.heap.size V W → W.rangeAt g2 (o2 + (m - 1) * 5) [.int .i64 pv.r, .int .i64 pv.c] from fun h W hI => by
              obtain ⟨v, hv⟩ := hpv (HM0.out h)
              obtain ⟨g', o', e', _, hr⟩ := (HSV.out.below hI).at_ hv
              simp only [Option.some.injEq, Addr.mk.injEq, and_true] at e'
              obtain ⟨rfl, rfl⟩ := e'
              exact fun i u hu => hr i u (by
                have hi : i < 2 := (List.getElem?_eq_some_iff.1 hu).1
                rcases i with _ | _ | i
                · exact hu
                · exact hu
                · omega))
            have HFirst := Lib.hid (fun W => first_is pv r.1 (!l52) hl52 W)
            have HG8 := Lib.hid hg8
            have HD12 := Lib.hid hd12
            have HD18 := Lib.hid hd18
            have HD24 := Lib.hid hd24
            have HD36 := Lib.hid hd36
            have HQ41 := Lib.hid hq41
            have HG14 := Lib.hid hg14
            have HG20 := Lib.hid hg20
            have HG26 := Lib.hid hg26
            have HG38 := Lib.hid hg38
            have HQ53 := Lib.hid hq53
            have HG54 := Lib.hid hg54
            clear hg8 hd12 hd18 hd24 hd36 hq41 hpv hl52 hlaw hg14 hg20 hg26 hg38 hq53 hg54
            by_cases hk4 : 4 ≤ x.k
            case pos =>
              have HCh := Lib.hid (fun W => refch_L 3 x r.2 (!g8) (by have := evO_is x r.2; rw [if_pos hk4] at this; rw [this]; exact HG8.out) HFr.out HFv.out W)
              have hk4' : decide ((4 : Int) ≤ x.k) = true := by simpa using hk4
              clear hk4
              go_upto_region 18 with fail
              clear n0 hk4'
              refine wp_region_any (by kernel_rfl) ?_
              refine wpAny_below (fun i uq _ => uq = ([(.int .i64 3 : Value), .pointer (some ⟨b6, 0, none⟩), eE x, .pointer (some ⟨b8, 2, none⟩), eV r.2, chV (evO 3 x r.2), .bool (!g8), .bool g8, .bool g8, vB (!g8) (.pointer (some ⟨b8, 0, none⟩)), vB (!g8) (.pointer (some ⟨b8, 0, none⟩)), vB (!g8) (.int .i64 r.1.r), vB (!g8) (.bool d12), .bool g14, .bool g14, vB (!g14) (.pointer (some ⟨b8, 0, none⟩)), vB (!g14) (.pointer (some ⟨b8, 0, none⟩)), vB (!g14) (.int .i64 r.1.r), vB (!g14) (.bool d18), .bool g20, .bool g20, vB (!g20) (.pointer (some ⟨b8, 0, none⟩)), vB (!g20) (.pointer (some ⟨b8, 1, none⟩)), vB (!g20) (.int .i64 r.1.c), vB (!g20) (.bool d24), .bool g26, .bool g26, vB (!g26) (.pointer (some ⟨b8, 0, none⟩)), vB (!g26) (.pointer (some ⟨b8, 1, none⟩)), vB (!g26) (.int .i64 r.1.c), vB (!g26) (.pointer (some ⟨b8, 0, none⟩)), vB (!g26) (.pointer (some ⟨b8, 0, none⟩)), vB (!g26) (.int .i64 r.1.r), vB (!g26) (.pointer (some ⟨p, 0, none⟩)), vB (!g26) (.pointer (some ⟨p, r.1.r.toNat, none⟩)), vB (!g26) (.int .i64 (f r.1.r.toNat)), vB (!g26) (.bool d36), .bool g38, .bool g38, vB (!g38) (.int .i64 (m : Nat)), vB (!g38) (.bool q41), vB (!g38) (.bool q41), vB (!g38 && q41) (.pointer (some ⟨b6, 5, none⟩)), vB (!g38 && q41) (.slice (some ⟨g2, o2, none⟩) n2 c3), vB (!g38 && q41) (.int .i64 (m : Nat)), vB (!g38 && q41) (.int .i64 ((m - 1 : Nat) : Int)), vB (!g38 && q41) (.pointer (some ⟨g2, o2 + (m - 1) * 5, none⟩)), vB (!g38 && q41) (.pointer (some ⟨g2, o2 + (m - 1) * 5, none⟩)), vB (!g38 && q41) (eD pv), vB (!g38 && q41) (.pointer (some ⟨b8, 0, none⟩)), vB (!g38 && q41) (eD r.1), vB (!g38 && q41) (.bool (!l52)), vB (!g38 && q41) (.bool l52), vB (!g38) (.bool q53), .bool g54] : List Value).getD i undef) _ V (by kernel_rfl) (by kernel_rfl) (by kernel_rfl) (fun i v w w' _ h => h) ?_ ?_
              · refine ⟨?_, ?_, ?_, ?_, ?_, ?_, ?_, ?_, ?_, ?_, ?_, ?_, ?_, ?_, ?_, ?_, ?_, ?_, ?_, ?_, ?_, ?_, ?_, ?_, ?_, ?_, ?_, ?_, ?_, ?_, ?_, ?_, ?_, ?_, ?_, ?_, ?_, ?_, ?_, ?_, ?_, ?_, ?_, ?_, ?_, ?_, ?_, ?_, ?_, ?_, ?_, ?_, ?_, ?_, ?_, trivial⟩
                · intro a W hI hun haft hi
                  have e9 : a.eval (.tmp 9) = .int .i64 3 := hun 9 (by kernel_rfl)
                  exact b_same hi hI rfl _ (run_move_op rfl e9) rfl
                · intro a W hI hun haft hi
                  have e6 : a.eval (.tmp 6) = .pointer (some ⟨b6, 0, none⟩) := hun 6 (by kernel_rfl)
                  exact b_same hi hI rfl _ (run_fieldAddr_any rfl e6 (at_snI0 _ W)) rfl
                · intro a W hI hun haft hi
                  have f1 : a.eval (.tmp 66) = .pointer (some ⟨b6, 0, none⟩) := haft ⟨1, .data⟩ (by simp) rfl _ _ rfl rfl
                  exact b_same hi hI rfl _ (run_loadmid_op (cs := enL x) rfl f1 (World.rangeAt_of_block (C := cI (x, .slice (some ⟨g2, o2, none⟩) n2 c3)) (Blk.below HB6.out hI (Blk.lt HB6.out)) 0 5) Tryz.underlying45 rfl sizeElL) rfl
                · intro a W hI hun haft hi
                  have e8 : a.eval (.tmp 8) = .pointer (some ⟨b8, 0, none⟩) := hun 8 (by kernel_rfl)
                  exact b_same hi hI rfl _ (run_fieldAddr_any rfl e8 (at_xn1 _ _ W)) rfl
                · intro a W hI hun haft hi
                  have f3 : a.eval (.tmp 68) = .pointer (some ⟨b8, 2, none⟩) := haft ⟨3, .data⟩ (by simp) rfl _ _ rfl rfl
                  exact b_same hi hI rfl _ (run_loadmid_op (cs := [.int .i64 r.2.k, .int .i64 r.2.n, .string r.2.t]) rfl f3 (World.rangeAt_of_block (C := cN r) (Blk.below HB8.out hI (Blk.lt HB8.out)) 2 3) Tryz.underlying47 rfl sizeVaL) rfl
                · intro a W hI hun haft hi
                  have f0 : a.eval (.tmp 65) = .int .i64 3 := haft ⟨0, .data⟩ (by simp) rfl _ _ rfl rfl
                  have f2 : a.eval (.tmp 67) = eE x := haft ⟨2, .data⟩ (by simp) rfl _ _ rfl rfl
                  have f4 : a.eval (.tmp 69) = eV r.2 := haft ⟨4, .data⟩ (by simp) rfl _ _ rfl rfl
                  exact b_same hi hI rfl _ (run_build_rt rfl (by simp only [List.map_toArray, List.map_cons, List.map_nil, f0, f2, f4]) (mkXL 3 x r.2 W)) rfl
                · intro a W hI hun haft hi
                  have f5 : a.eval (.tmp 70) = chV (evO 3 x r.2) := haft ⟨5, .data⟩ (by simp) rfl _ _ rfl rfl
                  refine b_call hi hI rfl _ _ (run_call_op (args := #[chV (evO 3 x r.2)]) rfl (by simp [f5]) (by kernel_rfl)) ?_
                  exact (HCh.out W).mono fun e w' H => ⟨_, H.1, rfl, H.2⟩
                · intro a W hI hun haft hi
                  have f6 : a.eval (.tmp 71) = .bool (!g8) := haft ⟨6, .data⟩ (by simp) rfl _ _ rfl rfl
                  exact b_same hi hI rfl _ (run_not_op rfl f6) (by show Value.bool (!(!g8)) = Value.bool g8; rw [Bool.not_not])
                · intro a W hI hun haft hi
                  have f7 : a.eval (.tmp 72) = .bool g8 := haft ⟨7, .data⟩ (by simp) rfl _ _ rfl rfl
                  exact b_same hi hI rfl _ (run_move_op rfl f7) rfl
                · intro a W hI hun haft hi
                  have fg : a.eval (.tmp 73) = .bool g8 := haft ⟨8, .guard⟩ (by simp) rfl _ _ rfl rfl
                  have e8 : a.eval (.tmp 8) = .pointer (some ⟨b8, 0, none⟩) := hun 8 (by kernel_rfl)
                  cases g8
                  case true => exact b_skip hi hI (guard_no rfl rfl rfl (.inl fg)) rfl
                  case false =>
                    exact b_same hi hI (guard_ok rfl rfl rfl fg) _ (run_fieldAddr_any rfl e8 (at_xn0 _ _ W)) rfl
                · intro a W hI hun haft hi
                  have fg : a.eval (.tmp 73) = .bool g8 := haft ⟨8, .guard⟩ (by simp) rfl _ _ rfl rfl
                  have f9 : a.eval (.tmp 74) = vB (!g8) (.pointer (some ⟨b8, 0, none⟩)) := haft ⟨9, .data⟩ (by simp) rfl _ _ rfl rfl
                  cases g8
                  case true => exact b_skip hi hI (guard_no rfl rfl rfl (.inl fg)) rfl
                  case false =>
                    exact b_same hi hI (guard_ok rfl rfl rfl fg) _ (run_fieldAddr_any rfl f9 (at_xd0 _ _ W)) rfl
                · intro a W hI hun haft hi
                  have fg : a.eval (.tmp 73) = .bool g8 := haft ⟨8, .guard⟩ (by simp) rfl _ _ rfl rfl
                  have f10 : a.eval (.tmp 75) = vB (!g8) (.pointer (some ⟨b8, 0, none⟩)) := haft ⟨10, .data⟩ (by simp) rfl _ _ rfl rfl
                  cases g8
                  case true => exact b_skip hi hI (guard_no rfl rfl rfl (.inl fg)) rfl
                  case false =>
                    exact b_same hi hI (guard_ok rfl rfl rfl fg) _ (run_loadint_op rfl f10 Tryz.underlying3 ((Blk.cell (Blk.below HB8.out hI (Blk.lt HB8.out)) 0).trans rfl)) rfl
                · intro a W hI hun haft hi
                  have fg : a.eval (.tmp 73) = .bool g8 := haft ⟨8, .guard⟩ (by simp) rfl _ _ rfl rfl
                  have f11 : a.eval (.tmp 76) = vB (!g8) (.int .i64 r.1.r) := haft ⟨11, .data⟩ (by simp) rfl _ _ rfl rfl
                  cases g8
                  case true => exact b_skip hi hI (guard_no rfl rfl rfl (.inl fg)) rfl
                  case false =>
                    exact b_same hi hI (guard_ok rfl rfl rfl fg) _ (run_bin_op rfl f11 rfl (by kernel_rfl) (lt_isL _ _ _ HD12.out W)) rfl
                · intro a W hI hun haft hi
                  have f8 : a.eval (.tmp 73) = .bool g8 := haft ⟨8, .data⟩ (by simp) rfl _ _ rfl rfl
                  have f12 : a.eval (.tmp 77) = vB (!g8) (.bool d12) := haft ⟨12, .data⟩ (by simp) rfl _ _ rfl rfl
                  cases g8
                  case true => exact b_same hi hI rfl _ (run_pick_op (b := true) rfl f8 rfl f12) (by show _ = Value.bool g14; rw [HG14.out]; rfl)
                  case false => exact b_same hi hI rfl _ (run_pick_op (b := false) rfl f8 rfl f12) (by show _ = Value.bool g14; rw [HG14.out]; rfl)
                · intro a W hI hun haft hi
                  have f13 : a.eval (.tmp 78) = .bool g14 := haft ⟨13, .data⟩ (by simp) rfl _ _ rfl rfl
                  exact b_same hi hI rfl _ (run_move_op rfl f13) rfl
                · intro a W hI hun haft hi
                  have fg : a.eval (.tmp 79) = .bool g14 := haft ⟨14, .guard⟩ (by simp) rfl _ _ rfl rfl
                  have e8 : a.eval (.tmp 8) = .pointer (some ⟨b8, 0, none⟩) := hun 8 (by kernel_rfl)
                  cases g14
                  case true => exact b_skip hi hI (guard_no rfl rfl rfl (.inl fg)) rfl
                  case false =>
                    exact b_same hi hI (guard_ok rfl rfl rfl fg) _ (run_fieldAddr_any rfl e8 (at_xn0 _ _ W)) rfl
                · intro a W hI hun haft hi
                  have fg : a.eval (.tmp 79) = .bool g14 := haft ⟨14, .guard⟩ (by simp) rfl _ _ rfl rfl
                  have f15 : a.eval (.tmp 80) = vB (!g14) (.pointer (some ⟨b8, 0, none⟩)) := haft ⟨15, .data⟩ (by simp) rfl _ _ rfl rfl
                  cases g14
                  case true => exact b_skip hi hI (guard_no rfl rfl rfl (.inl fg)) rfl
                  case false =>
                    exact b_same hi hI (guard_ok rfl rfl rfl fg) _ (run_fieldAddr_any rfl f15 (at_xd0 _ _ W)) rfl
                · intro a W hI hun haft hi
                  have fg : a.eval (.tmp 79) = .bool g14 := haft ⟨14, .guard⟩ (by simp) rfl _ _ rfl rfl
                  have f16 : a.eval (.tmp 81) = vB (!g14) (.pointer (some ⟨b8, 0, none⟩)) := haft ⟨16, .data⟩ (by simp) rfl _ _ rfl rfl
                  cases g14
                  case true => exact b_skip hi hI (guard_no rfl rfl rfl (.inl fg)) rfl
                  case false =>
                    exact b_same hi hI (guard_ok rfl rfl rfl fg) _ (run_loadint_op rfl f16 Tryz.underlying3 ((Blk.cell (Blk.below HB8.out hI (Blk.lt HB8.out)) 0).trans rfl)) rfl
                · intro a W hI hun haft hi
                  have fg : a.eval (.tmp 79) = .bool g14 := haft ⟨14, .guard⟩ (by simp) rfl _ _ rfl rfl
                  have f17 : a.eval (.tmp 82) = vB (!g14) (.int .i64 r.1.r) := haft ⟨17, .data⟩ (by simp) rfl _ _ rfl rfl
                  cases g14
                  case true => exact b_skip hi hI (guard_no rfl rfl rfl (.inl fg)) rfl
                  case false =>
                    exact b_same hi hI (guard_ok rfl rfl rfl fg) _ (run_bin_op rfl f17 rfl (by kernel_rfl) (gt_isL _ _ _ HD18.out W)) rfl
                · intro a W hI hun haft hi
                  have f14 : a.eval (.tmp 79) = .bool g14 := haft ⟨14, .data⟩ (by simp) rfl _ _ rfl rfl
                  have f18 : a.eval (.tmp 83) = vB (!g14) (.bool d18) := haft ⟨18, .data⟩ (by simp) rfl _ _ rfl rfl
                  cases g14
                  case true => exact b_same hi hI rfl _ (run_pick_op (b := true) rfl f14 rfl f18) (by show _ = Value.bool g20; rw [HG20.out]; rfl)
                  case false => exact b_same hi hI rfl _ (run_pick_op (b := false) rfl f14 rfl f18) (by show _ = Value.bool g20; rw [HG20.out]; rfl)
                · intro a W hI hun haft hi
                  have f19 : a.eval (.tmp 84) = .bool g20 := haft ⟨19, .data⟩ (by simp) rfl _ _ rfl rfl
                  exact b_same hi hI rfl _ (run_move_op rfl f19) rfl
                · intro a W hI hun haft hi
                  have fg : a.eval (.tmp 85) = .bool g20 := haft ⟨20, .guard⟩ (by simp) rfl _ _ rfl rfl
                  have e8 : a.eval (.tmp 8) = .pointer (some ⟨b8, 0, none⟩) := hun 8 (by kernel_rfl)
                  cases g20
                  case true => exact b_skip hi hI (guard_no rfl rfl rfl (.inl fg)) rfl
                  case false =>
                    exact b_same hi hI (guard_ok rfl rfl rfl fg) _ (run_fieldAddr_any rfl e8 (at_xn0 _ _ W)) rfl
                · intro a W hI hun haft hi
                  have fg : a.eval (.tmp 85) = .bool g20 := haft ⟨20, .guard⟩ (by simp) rfl _ _ rfl rfl
                  have f21 : a.eval (.tmp 86) = vB (!g20) (.pointer (some ⟨b8, 0, none⟩)) := haft ⟨21, .data⟩ (by simp) rfl _ _ rfl rfl
                  cases g20
                  case true => exact b_skip hi hI (guard_no rfl rfl rfl (.inl fg)) rfl
                  case false =>
                    exact b_same hi hI (guard_ok rfl rfl rfl fg) _ (run_fieldAddr_any rfl f21 (at_xd1 _ _ W)) rfl
                · intro a W hI hun haft hi
                  have fg : a.eval (.tmp 85) = .bool g20 := haft ⟨20, .guard⟩ (by simp) rfl _ _ rfl rfl
                  have f22 : a.eval (.tmp 87) = vB (!g20) (.pointer (some ⟨b8, 1, none⟩)) := haft ⟨22, .data⟩ (by simp) rfl _ _ rfl rfl
                  cases g20
                  case true => exact b_skip hi hI (guard_no rfl rfl rfl (.inl fg)) rfl
                  case false =>
                    exact b_same hi hI (guard_ok rfl rfl rfl fg) _ (run_loadint_op rfl f22 Tryz.underlying3 ((Blk.cell (Blk.below HB8.out hI (Blk.lt HB8.out)) 1).trans rfl)) rfl
                · intro a W hI hun haft hi
                  have fg : a.eval (.tmp 85) = .bool g20 := haft ⟨20, .guard⟩ (by simp) rfl _ _ rfl rfl
                  have f23 : a.eval (.tmp 88) = vB (!g20) (.int .i64 r.1.c) := haft ⟨23, .data⟩ (by simp) rfl _ _ rfl rfl
                  cases g20
                  case true => exact b_skip hi hI (guard_no rfl rfl rfl (.inl fg)) rfl
                  case false =>
                    exact b_same hi hI (guard_ok rfl rfl rfl fg) _ (run_bin_op rfl f23 rfl (by kernel_rfl) (lt_isL _ _ _ HD24.out W)) rfl
                · intro a W hI hun haft hi
                  have f20 : a.eval (.tmp 85) = .bool g20 := haft ⟨20, .data⟩ (by simp) rfl _ _ rfl rfl
                  have f24 : a.eval (.tmp 89) = vB (!g20) (.bool d24) := haft ⟨24, .data⟩ (by simp) rfl _ _ rfl rfl
                  cases g20
                  case true => exact b_same hi hI rfl _ (run_pick_op (b := true) rfl f20 rfl f24) (by show _ = Value.bool g26; rw [HG26.out]; rfl)
                  case false => exact b_same hi hI rfl _ (run_pick_op (b := false) rfl f20 rfl f24) (by show _ = Value.bool g26; rw [HG26.out]; rfl)
                · intro a W hI hun haft hi
                  have f25 : a.eval (.tmp 90) = .bool g26 := haft ⟨25, .data⟩ (by simp) rfl _ _ rfl rfl
                  exact b_same hi hI rfl _ (run_move_op rfl f25) rfl
                · intro a W hI hun haft hi
                  have fg : a.eval (.tmp 91) = .bool g26 := haft ⟨26, .guard⟩ (by simp) rfl _ _ rfl rfl
                  have e8 : a.eval (.tmp 8) = .pointer (some ⟨b8, 0, none⟩) := hun 8 (by kernel_rfl)
                  cases g26
                  case true => exact b_skip hi hI (guard_no rfl rfl rfl (.inl fg)) rfl
                  case false =>
                    exact b_same hi hI (guard_ok rfl rfl rfl fg) _ (run_fieldAddr_any rfl e8 (at_xn0 _ _ W)) rfl
                · intro a W hI hun haft hi
                  have fg : a.eval (.tmp 91) = .bool g26 := haft ⟨26, .guard⟩ (by simp) rfl _ _ rfl rfl
                  have f27 : a.eval (.tmp 92) = vB (!g26) (.pointer (some ⟨b8, 0, none⟩)) := haft ⟨27, .data⟩ (by simp) rfl _ _ rfl rfl
                  cases g26
                  case true => exact b_skip hi hI (guard_no rfl rfl rfl (.inl fg)) rfl
                  case false =>
                    exact b_same hi hI (guard_ok rfl rfl rfl fg) _ (run_fieldAddr_any rfl f27 (at_xd1 _ _ W)) rfl
                · intro a W hI hun haft hi
                  have fg : a.eval (.tmp 91) = .bool g26 := haft ⟨26, .guard⟩ (by simp) rfl _ _ rfl rfl
                  have f28 : a.eval (.tmp 93) = vB (!g26) (.pointer (some ⟨b8, 1, none⟩)) := haft ⟨28, .data⟩ (by simp) rfl _ _ rfl rfl
                  cases g26
                  case true => exact b_skip hi hI (guard_no rfl rfl rfl (.inl fg)) rfl
                  case false =>
                    exact b_same hi hI (guard_ok rfl rfl rfl fg) _ (run_loadint_op rfl f28 Tryz.underlying3 ((Blk.cell (Blk.below HB8.out hI (Blk.lt HB8.out)) 1).trans rfl)) rfl
                · intro a W hI hun haft hi
                  have fg : a.eval (.tmp 91) = .bool g26 := haft ⟨26, .guard⟩ (by simp) rfl _ _ rfl rfl
                  have e8 : a.eval (.tmp 8) = .pointer (some ⟨b8, 0, none⟩) := hun 8 (by kernel_rfl)
                  cases g26
                  case true => exact b_skip hi hI (guard_no rfl rfl rfl (.inl fg)) rfl
                  case false =>
                    exact b_same hi hI (guard_ok rfl rfl rfl fg) _ (run_fieldAddr_any rfl e8 (at_xn0 _ _ W)) rfl
                · intro a W hI hun haft hi
                  have fg : a.eval (.tmp 91) = .bool g26 := haft ⟨26, .guard⟩ (by simp) rfl _ _ rfl rfl
                  have f30 : a.eval (.tmp 95) = vB (!g26) (.pointer (some ⟨b8, 0, none⟩)) := haft ⟨30, .data⟩ (by simp) rfl _ _ rfl rfl
                  cases g26
                  case true => exact b_skip hi hI (guard_no rfl rfl rfl (.inl fg)) rfl
                  case false =>
                    exact b_same hi hI (guard_ok rfl rfl rfl fg) _ (run_fieldAddr_any rfl f30 (at_xd0 _ _ W)) rfl
                · intro a W hI hun haft hi
                  have fg : a.eval (.tmp 91) = .bool g26 := haft ⟨26, .guard⟩ (by simp) rfl _ _ rfl rfl
                  have f31 : a.eval (.tmp 96) = vB (!g26) (.pointer (some ⟨b8, 0, none⟩)) := haft ⟨31, .data⟩ (by simp) rfl _ _ rfl rfl
                  cases g26
                  case true => exact b_skip hi hI (guard_no rfl rfl rfl (.inl fg)) rfl
                  case false =>
                    exact b_same hi hI (guard_ok rfl rfl rfl fg) _ (run_loadint_op rfl f31 Tryz.underlying3 ((Blk.cell (Blk.below HB8.out hI (Blk.lt HB8.out)) 0).trans rfl)) rfl
                · intro a W hI hun haft hi
                  have fg : a.eval (.tmp 91) = .bool g26 := haft ⟨26, .guard⟩ (by simp) rfl _ _ rfl rfl
                  have e1 : a.eval (.tmp 1) = .pointer (some ⟨p, 0, none⟩) := hun 1 (by kernel_rfl)
                  cases g26
                  case true => exact b_skip hi hI (guard_no rfl rfl rfl (.inl fg)) rfl
                  case false =>
                    exact b_same hi hI (guard_ok rfl rfl rfl fg) _ (run_fieldAddr_any rfl e1 (at_snS0 _ W)) rfl
                · intro a W hI hun haft hi
                  have fg : a.eval (.tmp 91) = .bool g26 := haft ⟨26, .guard⟩ (by simp) rfl _ _ rfl rfl
                  have f33 : a.eval (.tmp 98) = vB (!g26) (.pointer (some ⟨p, 0, none⟩)) := haft ⟨33, .data⟩ (by simp) rfl _ _ rfl rfl
                  have f32 : a.eval (.tmp 97) = vB (!g26) (.int .i64 r.1.r) := haft ⟨32, .data⟩ (by simp) rfl _ _ rfl rfl
                  cases g26
                  case true => exact b_skip hi hI (guard_no rfl rfl rfl (.inl fg)) rfl
                  case false =>
                    exact b_same hi hI (guard_ok rfl rfl rfl fg) _ (run_indexAddr_op rfl f33 f32 (at_vecL p r.1.r (HRr.out rfl).1 (HRr.out rfl).2 W)) rfl
                · intro a W hI hun haft hi
                  have fg : a.eval (.tmp 91) = .bool g26 := haft ⟨26, .guard⟩ (by simp) rfl _ _ rfl rfl
                  have f34 : a.eval (.tmp 99) = vB (!g26) (.pointer (some ⟨p, r.1.r.toNat, none⟩)) := haft ⟨34, .data⟩ (by simp) rfl _ _ rfl rfl
                  cases g26
                  case true => exact b_skip hi hI (guard_no rfl rfl rfl (.inl fg)) rfl
                  case false =>
                    exact b_same hi hI (guard_ok rfl rfl rfl fg) _ (run_loadint_op rfl f34 Tryz.underlying3 (SB.numL (SB.keep HSB.out hI) _ (by have := HRr.out rfl; omega))) rfl
                · intro a W hI hun haft hi
                  have fg : a.eval (.tmp 91) = .bool g26 := haft ⟨26, .guard⟩ (by simp) rfl _ _ rfl rfl
                  have f29 : a.eval (.tmp 94) = vB (!g26) (.int .i64 r.1.c) := haft ⟨29, .data⟩ (by simp) rfl _ _ rfl rfl
                  have f35 : a.eval (.tmp 100) = vB (!g26) (.int .i64 (f r.1.r.toNat)) := haft ⟨35, .data⟩ (by simp) rfl _ _ rfl rfl
                  cases g26
                  case true => exact b_skip hi hI (guard_no rfl rfl rfl (.inl fg)) rfl
                  case false =>
                    exact b_same hi hI (guard_ok rfl rfl rfl fg) _ (run_bin_op rfl f29 f35 (by kernel_rfl) (gt_isL _ _ _ HD36.out W)) rfl
                · intro a W hI hun haft hi
                  have f26 : a.eval (.tmp 91) = .bool g26 := haft ⟨26, .data⟩ (by simp) rfl _ _ rfl rfl
                  have f36 : a.eval (.tmp 101) = vB (!g26) (.bool d36) := haft ⟨36, .data⟩ (by simp) rfl _ _ rfl rfl
                  cases g26
                  case true => exact b_same hi hI rfl _ (run_pick_op (b := true) rfl f26 rfl f36) (by show _ = Value.bool g38; rw [HG38.out]; rfl)
                  case false => exact b_same hi hI rfl _ (run_pick_op (b := false) rfl f26 rfl f36) (by show _ = Value.bool g38; rw [HG38.out]; rfl)
                · intro a W hI hun haft hi
                  have f37 : a.eval (.tmp 102) = .bool g38 := haft ⟨37, .data⟩ (by simp) rfl _ _ rfl rfl
                  exact b_same hi hI rfl _ (run_move_op rfl f37) rfl
                · intro a W hI hun haft hi
                  have fg : a.eval (.tmp 103) = .bool g38 := haft ⟨38, .guard⟩ (by simp) rfl _ _ rfl rfl
                  have e7 : a.eval (.tmp 7) = .int .i64 (m : Nat) := hun 7 (by kernel_rfl)
                  cases g38
                  case true => exact b_skip hi hI (guard_no rfl rfl rfl (.inl fg)) rfl
                  case false =>
                    exact b_same hi hI (guard_ok rfl rfl rfl fg) _ (run_move_op rfl e7) rfl
                · intro a W hI hun haft hi
                  have fg : a.eval (.tmp 103) = .bool g38 := haft ⟨38, .guard⟩ (by simp) rfl _ _ rfl rfl
                  have f39 : a.eval (.tmp 104) = vB (!g38) (.int .i64 (m : Nat)) := haft ⟨39, .data⟩ (by simp) rfl _ _ rfl rfl
                  cases g38
                  case true => exact b_skip hi hI (guard_no rfl rfl rfl (.inl fg)) rfl
                  case false =>
                    exact b_same hi hI (guard_ok rfl rfl rfl fg) _ (run_bin_op rfl f39 rfl (by kernel_rfl) (gt_isL _ _ _ HQ41.out W)) rfl
                · intro a W hI hun haft hi
                  have fg : a.eval (.tmp 103) = .bool g38 := haft ⟨38, .guard⟩ (by simp) rfl _ _ rfl rfl
                  have f40 : a.eval (.tmp 105) = vB (!g38) (.bool q41) := haft ⟨40, .data⟩ (by simp) rfl _ _ rfl rfl
                  cases g38
                  case true => exact b_skip hi hI (guard_no rfl rfl rfl (.inl fg)) rfl
                  case false =>
                    exact b_same hi hI (guard_ok rfl rfl rfl fg) _ (run_move_op rfl f40) rfl
                · intro a W hI hun haft hi
                  have fg : a.eval (.tmp 106) = vB (!g38) (.bool q41) := haft ⟨41, .guard⟩ (by simp) rfl _ _ rfl rfl
                  have e6 : a.eval (.tmp 6) = .pointer (some ⟨b6, 0, none⟩) := hun 6 (by kernel_rfl)
                  cases g38
                  case true => exact b_skip hi hI (guard_no rfl rfl rfl (.inr fg)) rfl
                  case false =>
                    cases q41
                    case false => exact b_skip hi hI (guard_no rfl rfl rfl (.inl fg)) rfl
                    case true =>
                      exact b_same hi hI (guard_ok rfl rfl rfl fg) _ (run_fieldAddr_any rfl e6 (at_snI1 _ W)) rfl
                · intro a W hI hun haft hi
                  have fg : a.eval (.tmp 106) = vB (!g38) (.bool q41) := haft ⟨41, .guard⟩ (by simp) rfl _ _ rfl rfl
                  have f42 : a.eval (.tmp 107) = vB (!g38 && q41) (.pointer (some ⟨b6, 5, none⟩)) := haft ⟨42, .data⟩ (by simp) rfl _ _ rfl rfl
                  cases g38
                  case true => exact b_skip hi hI (guard_no rfl rfl rfl (.inr fg)) rfl
                  case false =>
                    cases q41
                    case false => exact b_skip hi hI (guard_no rfl rfl rfl (.inl fg)) rfl
                    case true =>
                      exact b_same hi hI (guard_ok rfl rfl rfl fg) _ (run_loadsl_op rfl f42 Tryz.underlying59 ((Blk.cell (Blk.below HB6.out hI (Blk.lt HB6.out)) 5).trans rfl)) rfl
                · intro a W hI hun haft hi
                  have fg : a.eval (.tmp 106) = vB (!g38) (.bool q41) := haft ⟨41, .guard⟩ (by simp) rfl _ _ rfl rfl
                  have e7 : a.eval (.tmp 7) = .int .i64 (m : Nat) := hun 7 (by kernel_rfl)
                  cases g38
                  case true => exact b_skip hi hI (guard_no rfl rfl rfl (.inr fg)) rfl
                  case false =>
                    cases q41
                    case false => exact b_skip hi hI (guard_no rfl rfl rfl (.inl fg)) rfl
                    case true =>
                      exact b_same hi hI (guard_ok rfl rfl rfl fg) _ (run_move_op rfl e7) rfl
                · intro a W hI hun haft hi
                  have fg : a.eval (.tmp 106) = vB (!g38) (.bool q41) := haft ⟨41, .guard⟩ (by simp) rfl _ _ rfl rfl
                  have f44 : a.eval (.tmp 109) = vB (!g38 && q41) (.int .i64 (m : Nat)) := haft ⟨44, .data⟩ (by simp) rfl _ _ rfl rfl
                  cases g38
                  case true => exact b_skip hi hI (guard_no rfl rfl rfl (.inr fg)) rfl
                  case false =>
                    cases q41
                    case false => exact b_skip hi hI (guard_no rfl rfl rfl (.inl fg)) rfl
                    case true =>
                      exact b_same hi hI (guard_ok rfl rfl rfl fg) _ (run_bin_op rfl f44 rfl (guardI _ _ _ _ _ _ _) (HSub2.out rfl W)) rfl
                · intro a W hI hun haft hi
                  have fg : a.eval (.tmp 106) = vB (!g38) (.bool q41) := haft ⟨41, .guard⟩ (by simp) rfl _ _ rfl rfl
                  have f43 : a.eval (.tmp 108) = vB (!g38 && q41) (.slice (some ⟨g2, o2, none⟩) n2 c3) := haft ⟨43, .data⟩ (by simp) rfl _ _ rfl rfl
                  have f45 : a.eval (.tmp 110) = vB (!g38 && q41) (.int .i64 ((m - 1 : Nat) : Int)) := haft ⟨45, .data⟩ (by simp) rfl _ _ rfl rfl
                  cases g38
                  case true => exact b_skip hi hI (guard_no rfl rfl rfl (.inr fg)) rfl
                  case false =>
                    cases q41
                    case false => exact b_skip hi hI (guard_no rfl rfl rfl (.inl fg)) rfl
                    case true =>
                      exact b_same hi hI (guard_ok rfl rfl rfl fg) _ (run_indexAddr_op rfl f43 f45 (at_En g2 o2 c3 n2 (m - 1) (HMl.out rfl) W)) rfl
                · intro a W hI hun haft hi
                  have fg : a.eval (.tmp 106) = vB (!g38) (.bool q41) := haft ⟨41, .guard⟩ (by simp) rfl _ _ rfl rfl
                  have f46 : a.eval (.tmp 111) = vB (!g38 && q41) (.pointer (some ⟨g2, o2 + (m - 1) * 5, none⟩)) := haft ⟨46, .data⟩ (by simp) rfl _ _ rfl rfl
                  cases g38
                  case true => exact b_skip hi hI (guard_no rfl rfl rfl (.inr fg)) rfl
                  case false =>
                    cases q41
                    case false => exact b_skip hi hI (guard_no rfl rfl rfl (.inl fg)) rfl
                    case true =>
                      exact b_same hi hI (guard_ok rfl rfl rfl fg) _ (run_fieldAddr_any rfl f46 (at_xn0 _ _ W)) rfl
                · intro a W hI hun haft hi
                  have fg : a.eval (.tmp 106) = vB (!g38) (.bool q41) := haft ⟨41, .guard⟩ (by simp) rfl _ _ rfl rfl
                  have f47 : a.eval (.tmp 112) = vB (!g38 && q41) (.pointer (some ⟨g2, o2 + (m - 1) * 5, none⟩)) := haft ⟨47, .data⟩ (by simp) rfl _ _ rfl rfl
                  cases g38
                  case true => exact b_skip hi hI (guard_no rfl rfl rfl (.inr fg)) rfl
                  case false =>
                    cases q41
                    case false => exact b_skip hi hI (guard_no rfl rfl rfl (.inl fg)) rfl
                    case true =>
                      exact b_same hi hI (guard_ok rfl rfl rfl fg) _ (run_loadmid_op (cs := [.int .i64 pv.r, .int .i64 pv.c]) rfl f47 (HPv.out rfl W hI) Tryz.underlying43 rfl sizeDtL) rfl
                · intro a W hI hun haft hi
                  have fg : a.eval (.tmp 106) = vB (!g38) (.bool q41) := haft ⟨41, .guard⟩ (by simp) rfl _ _ rfl rfl
                  have e8 : a.eval (.tmp 8) = .pointer (some ⟨b8, 0, none⟩) := hun 8 (by kernel_rfl)
                  cases g38
                  case true => exact b_skip hi hI (guard_no rfl rfl rfl (.inr fg)) rfl
                  case false =>
                    cases q41
                    case false => exact b_skip hi hI (guard_no rfl rfl rfl (.inl fg)) rfl
                    case true =>
                      exact b_same hi hI (guard_ok rfl rfl rfl fg) _ (run_fieldAddr_any rfl e8 (at_xn0 _ _ W)) rfl
                · intro a W hI hun haft hi
                  have fg : a.eval (.tmp 106) = vB (!g38) (.bool q41) := haft ⟨41, .guard⟩ (by simp) rfl _ _ rfl rfl
                  have f49 : a.eval (.tmp 114) = vB (!g38 && q41) (.pointer (some ⟨b8, 0, none⟩)) := haft ⟨49, .data⟩ (by simp) rfl _ _ rfl rfl
                  cases g38
                  case true => exact b_skip hi hI (guard_no rfl rfl rfl (.inr fg)) rfl
                  case false =>
                    cases q41
                    case false => exact b_skip hi hI (guard_no rfl rfl rfl (.inl fg)) rfl
                    case true =>
                      exact b_same hi hI (guard_ok rfl rfl rfl fg) _ (run_loadmid_op (cs := [.int .i64 r.1.r, .int .i64 r.1.c]) rfl f49 (World.rangeAt_of_block (C := cN r) (Blk.below HB8.out hI (Blk.lt HB8.out)) 0 2) Tryz.underlying43 rfl sizeDtL) rfl
                · intro a W hI hun haft hi
                  have fg : a.eval (.tmp 106) = vB (!g38) (.bool q41) := haft ⟨41, .guard⟩ (by simp) rfl _ _ rfl rfl
                  have f48 : a.eval (.tmp 113) = vB (!g38 && q41) (eD pv) := haft ⟨48, .data⟩ (by simp) rfl _ _ rfl rfl
                  have f50 : a.eval (.tmp 115) = vB (!g38 && q41) (eD r.1) := haft ⟨50, .data⟩ (by simp) rfl _ _ rfl rfl
                  cases g38
                  case true => exact b_skip hi hI (guard_no rfl rfl rfl (.inr fg)) rfl
                  case false =>
                    cases q41
                    case false => exact b_skip hi hI (guard_no rfl rfl rfl (.inl fg)) rfl
                    case true =>
                      refine b_call hi hI (guard_ok rfl rfl rfl fg) _ _ (run_call_op (args := #[eD pv, eD r.1]) rfl (by simp [f48, f50, vB]) (by kernel_rfl)) ?_
                      exact (HFirst.out W).mono fun e w' H => ⟨_, H.1, rfl, H.2⟩
                · intro a W hI hun haft hi
                  have fg : a.eval (.tmp 106) = vB (!g38) (.bool q41) := haft ⟨41, .guard⟩ (by simp) rfl _ _ rfl rfl
                  have f51 : a.eval (.tmp 116) = vB (!g38 && q41) (.bool (!l52)) := haft ⟨51, .data⟩ (by simp) rfl _ _ rfl rfl
                  cases g38
                  case true => exact b_skip hi hI (guard_no rfl rfl rfl (.inr fg)) rfl
                  case false =>
                    cases q41
                    case false => exact b_skip hi hI (guard_no rfl rfl rfl (.inl fg)) rfl
                    case true =>
                      exact b_same hi hI (guard_ok rfl rfl rfl fg) _ (run_not_op rfl f51) (by show Value.bool (!(!l52)) = Value.bool l52; rw [Bool.not_not])
                · intro a W hI hun haft hi
                  have fg : a.eval (.tmp 103) = .bool g38 := haft ⟨38, .guard⟩ (by simp) rfl _ _ rfl rfl
                  have f41 : a.eval (.tmp 106) = vB (!g38) (.bool q41) := haft ⟨41, .data⟩ (by simp) rfl _ _ rfl rfl
                  have f52 : a.eval (.tmp 117) = vB (!g38 && q41) (.bool l52) := haft ⟨52, .data⟩ (by simp) rfl _ _ rfl rfl
                  cases g38
                  case true => exact b_skip hi hI (guard_no rfl rfl rfl (.inl fg)) rfl
                  case false =>
                    cases q41
                    case true => exact b_same hi hI (guard_ok rfl rfl rfl fg) _ (run_pick_op (b := true) rfl f41 f52 rfl) (by show _ = Value.bool q53; rw [HQ53.out]; rfl)
                    case false => exact b_same hi hI (guard_ok rfl rfl rfl fg) _ (run_pick_op (b := false) rfl f41 f52 rfl) (by show _ = Value.bool q53; rw [HQ53.out]; rfl)
                · intro a W hI hun haft hi
                  have f38 : a.eval (.tmp 103) = .bool g38 := haft ⟨38, .data⟩ (by simp) rfl _ _ rfl rfl
                  have f53 : a.eval (.tmp 118) = vB (!g38) (.bool q53) := haft ⟨53, .data⟩ (by simp) rfl _ _ rfl rfl
                  cases g38
                  case true => exact b_same hi hI rfl _ (run_pick_op (b := true) rfl f38 rfl f53) (by show _ = Value.bool g54; rw [HG54.out]; rfl)
                  case false => exact b_same hi hI rfl _ (run_pick_op (b := false) rfl f38 rfl f53) (by show _ = Value.bool g54; rw [HG54.out]; rfl)
              · intro vals W hI hp
                have hl54 : vals 54 = .bool g54 := hp 54 (by decide)
                have HJ := Lib.hid hI
                clear hp hI
                simp only [layN, List.size_toArray, List.length_cons, List.length_nil, List.range, List.range.loop, if_true, List.getElem?_toArray, List.getElem?_cons_zero, List.getElem?_cons_succ, Act.put, List.setIfInBounds_toArray, List.set_cons_zero, List.set_cons_succ, Nat.zero_add, Nat.reduceAdd, hl54]
                clear hl54
                generalize W = W8 at *
                have HbW8 := Lib.hid (HbV.out.trans (HJ.out.mono HbV.out.size))
                have HbW9 := Lib.hid (HbVW.out.trans (HJ.out.mono HbVW.out.size))
                cases g54
                case true =>
                  have HR : Hid (bb = false) := Lib.hid (HBB.out.symm.trans (by
                    unfold rightS
                    rw [itsB_no (by rw [HN.out]; exact HLt.out) (okI_bad HQ.out (itemB_bad (by rw [HNq.out]; exact HKn.out) HLaw.out))]; simp))
                  go_wp2_with fail
                  go_ret
                  exact ⟨by rw [HR.out]; rfl, HB.out.trans (HbW8.out.mono HB.out.size)⟩
                have hw := HWm.out
                have hjm : ¬ 9223372036854775807 < m + 1 := by have := HNm.out; have := HKn.out; omega
                have hkn := HKn.out
                go_wp2_with fail
                go_roundw
                case rel => exact ⟨m + 1, by go_num, HKn.out, fun i hi => by
                  rcases Nat.lt_succ_iff_lt_or_eq.1 hi with h | h
                  · exact HOk.out i h
                  · rw [h]; exact HLaw.out, HbW9.out⟩
                case measure => simp [intOf] <;> omega
            case neg =>
              have HCh := Lib.hid (fun W => refch_L 1 x r.2 (!g8) (by have := evO_is x r.2; rw [if_neg hk4] at this; rw [this]; exact HG8.out) HFr.out HFv.out W)
              have hk4' : decide ((4 : Int) ≤ x.k) = false := by simpa using hk4
              clear hk4
              go_upto_region 18 with fail
              clear n0 hk4'
              refine wp_region_any (by kernel_rfl) ?_
              refine wpAny_below (fun i uq _ => uq = ([(.int .i64 1 : Value), .pointer (some ⟨b6, 0, none⟩), eE x, .pointer (some ⟨b8, 2, none⟩), eV r.2, chV (evO 1 x r.2), .bool (!g8), .bool g8, .bool g8, vB (!g8) (.pointer (some ⟨b8, 0, none⟩)), vB (!g8) (.pointer (some ⟨b8, 0, none⟩)), vB (!g8) (.int .i64 r.1.r), vB (!g8) (.bool d12), .bool g14, .bool g14, vB (!g14) (.pointer (some ⟨b8, 0, none⟩)), vB (!g14) (.pointer (some ⟨b8, 0, none⟩)), vB (!g14) (.int .i64 r.1.r), vB (!g14) (.bool d18), .bool g20, .bool g20, vB (!g20) (.pointer (some ⟨b8, 0, none⟩)), vB (!g20) (.pointer (some ⟨b8, 1, none⟩)), vB (!g20) (.int .i64 r.1.c), vB (!g20) (.bool d24), .bool g26, .bool g26, vB (!g26) (.pointer (some ⟨b8, 0, none⟩)), vB (!g26) (.pointer (some ⟨b8, 1, none⟩)), vB (!g26) (.int .i64 r.1.c), vB (!g26) (.pointer (some ⟨b8, 0, none⟩)), vB (!g26) (.pointer (some ⟨b8, 0, none⟩)), vB (!g26) (.int .i64 r.1.r), vB (!g26) (.pointer (some ⟨p, 0, none⟩)), vB (!g26) (.pointer (some ⟨p, r.1.r.toNat, none⟩)), vB (!g26) (.int .i64 (f r.1.r.toNat)), vB (!g26) (.bool d36), .bool g38, .bool g38, vB (!g38) (.int .i64 (m : Nat)), vB (!g38) (.bool q41), vB (!g38) (.bool q41), vB (!g38 && q41) (.pointer (some ⟨b6, 5, none⟩)), vB (!g38 && q41) (.slice (some ⟨g2, o2, none⟩) n2 c3), vB (!g38 && q41) (.int .i64 (m : Nat)), vB (!g38 && q41) (.int .i64 ((m - 1 : Nat) : Int)), vB (!g38 && q41) (.pointer (some ⟨g2, o2 + (m - 1) * 5, none⟩)), vB (!g38 && q41) (.pointer (some ⟨g2, o2 + (m - 1) * 5, none⟩)), vB (!g38 && q41) (eD pv), vB (!g38 && q41) (.pointer (some ⟨b8, 0, none⟩)), vB (!g38 && q41) (eD r.1), vB (!g38 && q41) (.bool (!l52)), vB (!g38 && q41) (.bool l52), vB (!g38) (.bool q53), .bool g54] : List Value).getD i undef) _ V (by kernel_rfl) (by kernel_rfl) (by kernel_rfl) (fun i v w w' _ h => h) ?_ ?_
              · refine ⟨?_, ?_, ?_, ?_, ?_, ?_, ?_, ?_, ?_, ?_, ?_, ?_, ?_, ?_, ?_, ?_, ?_, ?_, ?_, ?_, ?_, ?_, ?_, ?_, ?_, ?_, ?_, ?_, ?_, ?_, ?_, ?_, ?_, ?_, ?_, ?_, ?_, ?_, ?_, ?_, ?_, ?_, ?_, ?_, ?_, ?_, ?_, ?_, ?_, ?_, ?_, ?_, ?_, ?_, ?_, trivial⟩
                · intro a W hI hun haft hi
                  have e9 : a.eval (.tmp 9) = .int .i64 1 := hun 9 (by kernel_rfl)
                  exact b_same hi hI rfl _ (run_move_op rfl e9) rfl
                · intro a W hI hun haft hi
                  have e6 : a.eval (.tmp 6) = .pointer (some ⟨b6, 0, none⟩) := hun 6 (by kernel_rfl)
                  exact b_same hi hI rfl _ (run_fieldAddr_any rfl e6 (at_snI0 _ W)) rfl
                · intro a W hI hun haft hi
                  have f1 : a.eval (.tmp 66) = .pointer (some ⟨b6, 0, none⟩) := haft ⟨1, .data⟩ (by simp) rfl _ _ rfl rfl
                  exact b_same hi hI rfl _ (run_loadmid_op (cs := enL x) rfl f1 (World.rangeAt_of_block (C := cI (x, .slice (some ⟨g2, o2, none⟩) n2 c3)) (Blk.below HB6.out hI (Blk.lt HB6.out)) 0 5) Tryz.underlying45 rfl sizeElL) rfl
                · intro a W hI hun haft hi
                  have e8 : a.eval (.tmp 8) = .pointer (some ⟨b8, 0, none⟩) := hun 8 (by kernel_rfl)
                  exact b_same hi hI rfl _ (run_fieldAddr_any rfl e8 (at_xn1 _ _ W)) rfl
                · intro a W hI hun haft hi
                  have f3 : a.eval (.tmp 68) = .pointer (some ⟨b8, 2, none⟩) := haft ⟨3, .data⟩ (by simp) rfl _ _ rfl rfl
                  exact b_same hi hI rfl _ (run_loadmid_op (cs := [.int .i64 r.2.k, .int .i64 r.2.n, .string r.2.t]) rfl f3 (World.rangeAt_of_block (C := cN r) (Blk.below HB8.out hI (Blk.lt HB8.out)) 2 3) Tryz.underlying47 rfl sizeVaL) rfl
                · intro a W hI hun haft hi
                  have f0 : a.eval (.tmp 65) = .int .i64 1 := haft ⟨0, .data⟩ (by simp) rfl _ _ rfl rfl
                  have f2 : a.eval (.tmp 67) = eE x := haft ⟨2, .data⟩ (by simp) rfl _ _ rfl rfl
                  have f4 : a.eval (.tmp 69) = eV r.2 := haft ⟨4, .data⟩ (by simp) rfl _ _ rfl rfl
                  exact b_same hi hI rfl _ (run_build_rt rfl (by simp only [List.map_toArray, List.map_cons, List.map_nil, f0, f2, f4]) (mkXL 1 x r.2 W)) rfl
                · intro a W hI hun haft hi
                  have f5 : a.eval (.tmp 70) = chV (evO 1 x r.2) := haft ⟨5, .data⟩ (by simp) rfl _ _ rfl rfl
                  refine b_call hi hI rfl _ _ (run_call_op (args := #[chV (evO 1 x r.2)]) rfl (by simp [f5]) (by kernel_rfl)) ?_
                  exact (HCh.out W).mono fun e w' H => ⟨_, H.1, rfl, H.2⟩
                · intro a W hI hun haft hi
                  have f6 : a.eval (.tmp 71) = .bool (!g8) := haft ⟨6, .data⟩ (by simp) rfl _ _ rfl rfl
                  exact b_same hi hI rfl _ (run_not_op rfl f6) (by show Value.bool (!(!g8)) = Value.bool g8; rw [Bool.not_not])
                · intro a W hI hun haft hi
                  have f7 : a.eval (.tmp 72) = .bool g8 := haft ⟨7, .data⟩ (by simp) rfl _ _ rfl rfl
                  exact b_same hi hI rfl _ (run_move_op rfl f7) rfl
                · intro a W hI hun haft hi
                  have fg : a.eval (.tmp 73) = .bool g8 := haft ⟨8, .guard⟩ (by simp) rfl _ _ rfl rfl
                  have e8 : a.eval (.tmp 8) = .pointer (some ⟨b8, 0, none⟩) := hun 8 (by kernel_rfl)
                  cases g8
                  case true => exact b_skip hi hI (guard_no rfl rfl rfl (.inl fg)) rfl
                  case false =>
                    exact b_same hi hI (guard_ok rfl rfl rfl fg) _ (run_fieldAddr_any rfl e8 (at_xn0 _ _ W)) rfl
                · intro a W hI hun haft hi
                  have fg : a.eval (.tmp 73) = .bool g8 := haft ⟨8, .guard⟩ (by simp) rfl _ _ rfl rfl
                  have f9 : a.eval (.tmp 74) = vB (!g8) (.pointer (some ⟨b8, 0, none⟩)) := haft ⟨9, .data⟩ (by simp) rfl _ _ rfl rfl
                  cases g8
                  case true => exact b_skip hi hI (guard_no rfl rfl rfl (.inl fg)) rfl
                  case false =>
                    exact b_same hi hI (guard_ok rfl rfl rfl fg) _ (run_fieldAddr_any rfl f9 (at_xd0 _ _ W)) rfl
                · intro a W hI hun haft hi
                  have fg : a.eval (.tmp 73) = .bool g8 := haft ⟨8, .guard⟩ (by simp) rfl _ _ rfl rfl
                  have f10 : a.eval (.tmp 75) = vB (!g8) (.pointer (some ⟨b8, 0, none⟩)) := haft ⟨10, .data⟩ (by simp) rfl _ _ rfl rfl
                  cases g8
                  case true => exact b_skip hi hI (guard_no rfl rfl rfl (.inl fg)) rfl
                  case false =>
                    exact b_same hi hI (guard_ok rfl rfl rfl fg) _ (run_loadint_op rfl f10 Tryz.underlying3 ((Blk.cell (Blk.below HB8.out hI (Blk.lt HB8.out)) 0).trans rfl)) rfl
                · intro a W hI hun haft hi
                  have fg : a.eval (.tmp 73) = .bool g8 := haft ⟨8, .guard⟩ (by simp) rfl _ _ rfl rfl
                  have f11 : a.eval (.tmp 76) = vB (!g8) (.int .i64 r.1.r) := haft ⟨11, .data⟩ (by simp) rfl _ _ rfl rfl
                  cases g8
                  case true => exact b_skip hi hI (guard_no rfl rfl rfl (.inl fg)) rfl
                  case false =>
                    exact b_same hi hI (guard_ok rfl rfl rfl fg) _ (run_bin_op rfl f11 rfl (by kernel_rfl) (lt_isL _ _ _ HD12.out W)) rfl
                · intro a W hI hun haft hi
                  have f8 : a.eval (.tmp 73) = .bool g8 := haft ⟨8, .data⟩ (by simp) rfl _ _ rfl rfl
                  have f12 : a.eval (.tmp 77) = vB (!g8) (.bool d12) := haft ⟨12, .data⟩ (by simp) rfl _ _ rfl rfl
                  cases g8
                  case true => exact b_same hi hI rfl _ (run_pick_op (b := true) rfl f8 rfl f12) (by show _ = Value.bool g14; rw [HG14.out]; rfl)
                  case false => exact b_same hi hI rfl _ (run_pick_op (b := false) rfl f8 rfl f12) (by show _ = Value.bool g14; rw [HG14.out]; rfl)
                · intro a W hI hun haft hi
                  have f13 : a.eval (.tmp 78) = .bool g14 := haft ⟨13, .data⟩ (by simp) rfl _ _ rfl rfl
                  exact b_same hi hI rfl _ (run_move_op rfl f13) rfl
                · intro a W hI hun haft hi
                  have fg : a.eval (.tmp 79) = .bool g14 := haft ⟨14, .guard⟩ (by simp) rfl _ _ rfl rfl
                  have e8 : a.eval (.tmp 8) = .pointer (some ⟨b8, 0, none⟩) := hun 8 (by kernel_rfl)
                  cases g14
                  case true => exact b_skip hi hI (guard_no rfl rfl rfl (.inl fg)) rfl
                  case false =>
                    exact b_same hi hI (guard_ok rfl rfl rfl fg) _ (run_fieldAddr_any rfl e8 (at_xn0 _ _ W)) rfl
                · intro a W hI hun haft hi
                  have fg : a.eval (.tmp 79) = .bool g14 := haft ⟨14, .guard⟩ (by simp) rfl _ _ rfl rfl
                  have f15 : a.eval (.tmp 80) = vB (!g14) (.pointer (some ⟨b8, 0, none⟩)) := haft ⟨15, .data⟩ (by simp) rfl _ _ rfl rfl
                  cases g14
                  case true => exact b_skip hi hI (guard_no rfl rfl rfl (.inl fg)) rfl
                  case false =>
                    exact b_same hi hI (guard_ok rfl rfl rfl fg) _ (run_fieldAddr_any rfl f15 (at_xd0 _ _ W)) rfl
                · intro a W hI hun haft hi
                  have fg : a.eval (.tmp 79) = .bool g14 := haft ⟨14, .guard⟩ (by simp) rfl _ _ rfl rfl
                  have f16 : a.eval (.tmp 81) = vB (!g14) (.pointer (some ⟨b8, 0, none⟩)) := haft ⟨16, .data⟩ (by simp) rfl _ _ rfl rfl
                  cases g14
                  case true => exact b_skip hi hI (guard_no rfl rfl rfl (.inl fg)) rfl
                  case false =>
                    exact b_same hi hI (guard_ok rfl rfl rfl fg) _ (run_loadint_op rfl f16 Tryz.underlying3 ((Blk.cell (Blk.below HB8.out hI (Blk.lt HB8.out)) 0).trans rfl)) rfl
                · intro a W hI hun haft hi
                  have fg : a.eval (.tmp 79) = .bool g14 := haft ⟨14, .guard⟩ (by simp) rfl _ _ rfl rfl
                  have f17 : a.eval (.tmp 82) = vB (!g14) (.int .i64 r.1.r) := haft ⟨17, .data⟩ (by simp) rfl _ _ rfl rfl
                  cases g14
                  case true => exact b_skip hi hI (guard_no rfl rfl rfl (.inl fg)) rfl
                  case false =>
                    exact b_same hi hI (guard_ok rfl rfl rfl fg) _ (run_bin_op rfl f17 rfl (by kernel_rfl) (gt_isL _ _ _ HD18.out W)) rfl
                · intro a W hI hun haft hi
                  have f14 : a.eval (.tmp 79) = .bool g14 := haft ⟨14, .data⟩ (by simp) rfl _ _ rfl rfl
                  have f18 : a.eval (.tmp 83) = vB (!g14) (.bool d18) := haft ⟨18, .data⟩ (by simp) rfl _ _ rfl rfl
                  cases g14
                  case true => exact b_same hi hI rfl _ (run_pick_op (b := true) rfl f14 rfl f18) (by show _ = Value.bool g20; rw [HG20.out]; rfl)
                  case false => exact b_same hi hI rfl _ (run_pick_op (b := false) rfl f14 rfl f18) (by show _ = Value.bool g20; rw [HG20.out]; rfl)
                · intro a W hI hun haft hi
                  have f19 : a.eval (.tmp 84) = .bool g20 := haft ⟨19, .data⟩ (by simp) rfl _ _ rfl rfl
                  exact b_same hi hI rfl _ (run_move_op rfl f19) rfl
                · intro a W hI hun haft hi
                  have fg : a.eval (.tmp 85) = .bool g20 := haft ⟨20, .guard⟩ (by simp) rfl _ _ rfl rfl
                  have e8 : a.eval (.tmp 8) = .pointer (some ⟨b8, 0, none⟩) := hun 8 (by kernel_rfl)
                  cases g20
                  case true => exact b_skip hi hI (guard_no rfl rfl rfl (.inl fg)) rfl
                  case false =>
                    exact b_same hi hI (guard_ok rfl rfl rfl fg) _ (run_fieldAddr_any rfl e8 (at_xn0 _ _ W)) rfl
                · intro a W hI hun haft hi
                  have fg : a.eval (.tmp 85) = .bool g20 := haft ⟨20, .guard⟩ (by simp) rfl _ _ rfl rfl
                  have f21 : a.eval (.tmp 86) = vB (!g20) (.pointer (some ⟨b8, 0, none⟩)) := haft ⟨21, .data⟩ (by simp) rfl _ _ rfl rfl
                  cases g20
                  case true => exact b_skip hi hI (guard_no rfl rfl rfl (.inl fg)) rfl
                  case false =>
                    exact b_same hi hI (guard_ok rfl rfl rfl fg) _ (run_fieldAddr_any rfl f21 (at_xd1 _ _ W)) rfl
                · intro a W hI hun haft hi
                  have fg : a.eval (.tmp 85) = .bool g20 := haft ⟨20, .guard⟩ (by simp) rfl _ _ rfl rfl
                  have f22 : a.eval (.tmp 87) = vB (!g20) (.pointer (some ⟨b8, 1, none⟩)) := haft ⟨22, .data⟩ (by simp) rfl _ _ rfl rfl
                  cases g20
                  case true => exact b_skip hi hI (guard_no rfl rfl rfl (.inl fg)) rfl
                  case false =>
                    exact b_same hi hI (guard_ok rfl rfl rfl fg) _ (run_loadint_op rfl f22 Tryz.underlying3 ((Blk.cell (Blk.below HB8.out hI (Blk.lt HB8.out)) 1).trans rfl)) rfl
                · intro a W hI hun haft hi
                  have fg : a.eval (.tmp 85) = .bool g20 := haft ⟨20, .guard⟩ (by simp) rfl _ _ rfl rfl
                  have f23 : a.eval (.tmp 88) = vB (!g20) (.int .i64 r.1.c) := haft ⟨23, .data⟩ (by simp) rfl _ _ rfl rfl
                  cases g20
                  case true => exact b_skip hi hI (guard_no rfl rfl rfl (.inl fg)) rfl
                  case false =>
                    exact b_same hi hI (guard_ok rfl rfl rfl fg) _ (run_bin_op rfl f23 rfl (by kernel_rfl) (lt_isL _ _ _ HD24.out W)) rfl
                · intro a W hI hun haft hi
                  have f20 : a.eval (.tmp 85) = .bool g20 := haft ⟨20, .data⟩ (by simp) rfl _ _ rfl rfl
                  have f24 : a.eval (.tmp 89) = vB (!g20) (.bool d24) := haft ⟨24, .data⟩ (by simp) rfl _ _ rfl rfl
                  cases g20
                  case true => exact b_same hi hI rfl _ (run_pick_op (b := true) rfl f20 rfl f24) (by show _ = Value.bool g26; rw [HG26.out]; rfl)
                  case false => exact b_same hi hI rfl _ (run_pick_op (b := false) rfl f20 rfl f24) (by show _ = Value.bool g26; rw [HG26.out]; rfl)
                · intro a W hI hun haft hi
                  have f25 : a.eval (.tmp 90) = .bool g26 := haft ⟨25, .data⟩ (by simp) rfl _ _ rfl rfl
                  exact b_same hi hI rfl _ (run_move_op rfl f25) rfl
                · intro a W hI hun haft hi
                  have fg : a.eval (.tmp 91) = .bool g26 := haft ⟨26, .guard⟩ (by simp) rfl _ _ rfl rfl
                  have e8 : a.eval (.tmp 8) = .pointer (some ⟨b8, 0, none⟩) := hun 8 (by kernel_rfl)
                  cases g26
                  case true => exact b_skip hi hI (guard_no rfl rfl rfl (.inl fg)) rfl
                  case false =>
                    exact b_same hi hI (guard_ok rfl rfl rfl fg) _ (run_fieldAddr_any rfl e8 (at_xn0 _ _ W)) rfl
                · intro a W hI hun haft hi
                  have fg : a.eval (.tmp 91) = .bool g26 := haft ⟨26, .guard⟩ (by simp) rfl _ _ rfl rfl
                  have f27 : a.eval (.tmp 92) = vB (!g26) (.pointer (some ⟨b8, 0, none⟩)) := haft ⟨27, .data⟩ (by simp) rfl _ _ rfl rfl
                  cases g26
                  case true => exact b_skip hi hI (guard_no rfl rfl rfl (.inl fg)) rfl
                  case false =>
                    exact b_same hi hI (guard_ok rfl rfl rfl fg) _ (run_fieldAddr_any rfl f27 (at_xd1 _ _ W)) rfl
                · intro a W hI hun haft hi
                  have fg : a.eval (.tmp 91) = .bool g26 := haft ⟨26, .guard⟩ (by simp) rfl _ _ rfl rfl
                  have f28 : a.eval (.tmp 93) = vB (!g26) (.pointer (some ⟨b8, 1, none⟩)) := haft ⟨28, .data⟩ (by simp) rfl _ _ rfl rfl
                  cases g26
                  case true => exact b_skip hi hI (guard_no rfl rfl rfl (.inl fg)) rfl
                  case false =>
                    exact b_same hi hI (guard_ok rfl rfl rfl fg) _ (run_loadint_op rfl f28 Tryz.underlying3 ((Blk.cell (Blk.below HB8.out hI (Blk.lt HB8.out)) 1).trans rfl)) rfl
                · intro a W hI hun haft hi
                  have fg : a.eval (.tmp 91) = .bool g26 := haft ⟨26, .guard⟩ (by simp) rfl _ _ rfl rfl
                  have e8 : a.eval (.tmp 8) = .pointer (some ⟨b8, 0, none⟩) := hun 8 (by kernel_rfl)
                  cases g26
                  case true => exact b_skip hi hI (guard_no rfl rfl rfl (.inl fg)) rfl
                  case false =>
                    exact b_same hi hI (guard_ok rfl rfl rfl fg) _ (run_fieldAddr_any rfl e8 (at_xn0 _ _ W)) rfl
                · intro a W hI hun haft hi
                  have fg : a.eval (.tmp 91) = .bool g26 := haft ⟨26, .guard⟩ (by simp) rfl _ _ rfl rfl
                  have f30 : a.eval (.tmp 95) = vB (!g26) (.pointer (some ⟨b8, 0, none⟩)) := haft ⟨30, .data⟩ (by simp) rfl _ _ rfl rfl
                  cases g26
                  case true => exact b_skip hi hI (guard_no rfl rfl rfl (.inl fg)) rfl
                  case false =>
                    exact b_same hi hI (guard_ok rfl rfl rfl fg) _ (run_fieldAddr_any rfl f30 (at_xd0 _ _ W)) rfl
                · intro a W hI hun haft hi
                  have fg : a.eval (.tmp 91) = .bool g26 := haft ⟨26, .guard⟩ (by simp) rfl _ _ rfl rfl
                  have f31 : a.eval (.tmp 96) = vB (!g26) (.pointer (some ⟨b8, 0, none⟩)) := haft ⟨31, .data⟩ (by simp) rfl _ _ rfl rfl
                  cases g26
                  case true => exact b_skip hi hI (guard_no rfl rfl rfl (.inl fg)) rfl
                  case false =>
                    exact b_same hi hI (guard_ok rfl rfl rfl fg) _ (run_loadint_op rfl f31 Tryz.underlying3 ((Blk.cell (Blk.below HB8.out hI (Blk.lt HB8.out)) 0).trans rfl)) rfl
                · intro a W hI hun haft hi
                  have fg : a.eval (.tmp 91) = .bool g26 := haft ⟨26, .guard⟩ (by simp) rfl _ _ rfl rfl
                  have e1 : a.eval (.tmp 1) = .pointer (some ⟨p, 0, none⟩) := hun 1 (by kernel_rfl)
                  cases g26
                  case true => exact b_skip hi hI (guard_no rfl rfl rfl (.inl fg)) rfl
                  case false =>
                    exact b_same hi hI (guard_ok rfl rfl rfl fg) _ (run_fieldAddr_any rfl e1 (at_snS0 _ W)) rfl
                · intro a W hI hun haft hi
                  have fg : a.eval (.tmp 91) = .bool g26 := haft ⟨26, .guard⟩ (by simp) rfl _ _ rfl rfl
                  have f33 : a.eval (.tmp 98) = vB (!g26) (.pointer (some ⟨p, 0, none⟩)) := haft ⟨33, .data⟩ (by simp) rfl _ _ rfl rfl
                  have f32 : a.eval (.tmp 97) = vB (!g26) (.int .i64 r.1.r) := haft ⟨32, .data⟩ (by simp) rfl _ _ rfl rfl
                  cases g26
                  case true => exact b_skip hi hI (guard_no rfl rfl rfl (.inl fg)) rfl
                  case false =>
                    exact b_same hi hI (guard_ok rfl rfl rfl fg) _ (run_indexAddr_op rfl f33 f32 (at_vecL p r.1.r (HRr.out rfl).1 (HRr.out rfl).2 W)) rfl
                · intro a W hI hun haft hi
                  have fg : a.eval (.tmp 91) = .bool g26 := haft ⟨26, .guard⟩ (by simp) rfl _ _ rfl rfl
                  have f34 : a.eval (.tmp 99) = vB (!g26) (.pointer (some ⟨p, r.1.r.toNat, none⟩)) := haft ⟨34, .data⟩ (by simp) rfl _ _ rfl rfl
                  cases g26
                  case true => exact b_skip hi hI (guard_no rfl rfl rfl (.inl fg)) rfl
                  case false =>
                    exact b_same hi hI (guard_ok rfl rfl rfl fg) _ (run_loadint_op rfl f34 Tryz.underlying3 (SB.numL (SB.keep HSB.out hI) _ (by have := HRr.out rfl; omega))) rfl
                · intro a W hI hun haft hi
                  have fg : a.eval (.tmp 91) = .bool g26 := haft ⟨26, .guard⟩ (by simp) rfl _ _ rfl rfl
                  have f29 : a.eval (.tmp 94) = vB (!g26) (.int .i64 r.1.c) := haft ⟨29, .data⟩ (by simp) rfl _ _ rfl rfl
                  have f35 : a.eval (.tmp 100) = vB (!g26) (.int .i64 (f r.1.r.toNat)) := haft ⟨35, .data⟩ (by simp) rfl _ _ rfl rfl
                  cases g26
                  case true => exact b_skip hi hI (guard_no rfl rfl rfl (.inl fg)) rfl
                  case false =>
                    exact b_same hi hI (guard_ok rfl rfl rfl fg) _ (run_bin_op rfl f29 f35 (by kernel_rfl) (gt_isL _ _ _ HD36.out W)) rfl
                · intro a W hI hun haft hi
                  have f26 : a.eval (.tmp 91) = .bool g26 := haft ⟨26, .data⟩ (by simp) rfl _ _ rfl rfl
                  have f36 : a.eval (.tmp 101) = vB (!g26) (.bool d36) := haft ⟨36, .data⟩ (by simp) rfl _ _ rfl rfl
                  cases g26
                  case true => exact b_same hi hI rfl _ (run_pick_op (b := true) rfl f26 rfl f36) (by show _ = Value.bool g38; rw [HG38.out]; rfl)
                  case false => exact b_same hi hI rfl _ (run_pick_op (b := false) rfl f26 rfl f36) (by show _ = Value.bool g38; rw [HG38.out]; rfl)
                · intro a W hI hun haft hi
                  have f37 : a.eval (.tmp 102) = .bool g38 := haft ⟨37, .data⟩ (by simp) rfl _ _ rfl rfl
                  exact b_same hi hI rfl _ (run_move_op rfl f37) rfl
                · intro a W hI hun haft hi
                  have fg : a.eval (.tmp 103) = .bool g38 := haft ⟨38, .guard⟩ (by simp) rfl _ _ rfl rfl
                  have e7 : a.eval (.tmp 7) = .int .i64 (m : Nat) := hun 7 (by kernel_rfl)
                  cases g38
                  case true => exact b_skip hi hI (guard_no rfl rfl rfl (.inl fg)) rfl
                  case false =>
                    exact b_same hi hI (guard_ok rfl rfl rfl fg) _ (run_move_op rfl e7) rfl
                · intro a W hI hun haft hi
                  have fg : a.eval (.tmp 103) = .bool g38 := haft ⟨38, .guard⟩ (by simp) rfl _ _ rfl rfl
                  have f39 : a.eval (.tmp 104) = vB (!g38) (.int .i64 (m : Nat)) := haft ⟨39, .data⟩ (by simp) rfl _ _ rfl rfl
                  cases g38
                  case true => exact b_skip hi hI (guard_no rfl rfl rfl (.inl fg)) rfl
                  case false =>
                    exact b_same hi hI (guard_ok rfl rfl rfl fg) _ (run_bin_op rfl f39 rfl (by kernel_rfl) (gt_isL _ _ _ HQ41.out W)) rfl
                · intro a W hI hun haft hi
                  have fg : a.eval (.tmp 103) = .bool g38 := haft ⟨38, .guard⟩ (by simp) rfl _ _ rfl rfl
                  have f40 : a.eval (.tmp 105) = vB (!g38) (.bool q41) := haft ⟨40, .data⟩ (by simp) rfl _ _ rfl rfl
                  cases g38
                  case true => exact b_skip hi hI (guard_no rfl rfl rfl (.inl fg)) rfl
                  case false =>
                    exact b_same hi hI (guard_ok rfl rfl rfl fg) _ (run_move_op rfl f40) rfl
                · intro a W hI hun haft hi
                  have fg : a.eval (.tmp 106) = vB (!g38) (.bool q41) := haft ⟨41, .guard⟩ (by simp) rfl _ _ rfl rfl
                  have e6 : a.eval (.tmp 6) = .pointer (some ⟨b6, 0, none⟩) := hun 6 (by kernel_rfl)
                  cases g38
                  case true => exact b_skip hi hI (guard_no rfl rfl rfl (.inr fg)) rfl
                  case false =>
                    cases q41
                    case false => exact b_skip hi hI (guard_no rfl rfl rfl (.inl fg)) rfl
                    case true =>
                      exact b_same hi hI (guard_ok rfl rfl rfl fg) _ (run_fieldAddr_any rfl e6 (at_snI1 _ W)) rfl
                · intro a W hI hun haft hi
                  have fg : a.eval (.tmp 106) = vB (!g38) (.bool q41) := haft ⟨41, .guard⟩ (by simp) rfl _ _ rfl rfl
                  have f42 : a.eval (.tmp 107) = vB (!g38 && q41) (.pointer (some ⟨b6, 5, none⟩)) := haft ⟨42, .data⟩ (by simp) rfl _ _ rfl rfl
                  cases g38
                  case true => exact b_skip hi hI (guard_no rfl rfl rfl (.inr fg)) rfl
                  case false =>
                    cases q41
                    case false => exact b_skip hi hI (guard_no rfl rfl rfl (.inl fg)) rfl
                    case true =>
                      exact b_same hi hI (guard_ok rfl rfl rfl fg) _ (run_loadsl_op rfl f42 Tryz.underlying59 ((Blk.cell (Blk.below HB6.out hI (Blk.lt HB6.out)) 5).trans rfl)) rfl
                · intro a W hI hun haft hi
                  have fg : a.eval (.tmp 106) = vB (!g38) (.bool q41) := haft ⟨41, .guard⟩ (by simp) rfl _ _ rfl rfl
                  have e7 : a.eval (.tmp 7) = .int .i64 (m : Nat) := hun 7 (by kernel_rfl)
                  cases g38
                  case true => exact b_skip hi hI (guard_no rfl rfl rfl (.inr fg)) rfl
                  case false =>
                    cases q41
                    case false => exact b_skip hi hI (guard_no rfl rfl rfl (.inl fg)) rfl
                    case true =>
                      exact b_same hi hI (guard_ok rfl rfl rfl fg) _ (run_move_op rfl e7) rfl
                · intro a W hI hun haft hi
                  have fg : a.eval (.tmp 106) = vB (!g38) (.bool q41) := haft ⟨41, .guard⟩ (by simp) rfl _ _ rfl rfl
                  have f44 : a.eval (.tmp 109) = vB (!g38 && q41) (.int .i64 (m : Nat)) := haft ⟨44, .data⟩ (by simp) rfl _ _ rfl rfl
                  cases g38
                  case true => exact b_skip hi hI (guard_no rfl rfl rfl (.inr fg)) rfl
                  case false =>
                    cases q41
                    case false => exact b_skip hi hI (guard_no rfl rfl rfl (.inl fg)) rfl
                    case true =>
                      exact b_same hi hI (guard_ok rfl rfl rfl fg) _ (run_bin_op rfl f44 rfl (guardI _ _ _ _ _ _ _) (HSub2.out rfl W)) rfl
                · intro a W hI hun haft hi
                  have fg : a.eval (.tmp 106) = vB (!g38) (.bool q41) := haft ⟨41, .guard⟩ (by simp) rfl _ _ rfl rfl
                  have f43 : a.eval (.tmp 108) = vB (!g38 && q41) (.slice (some ⟨g2, o2, none⟩) n2 c3) := haft ⟨43, .data⟩ (by simp) rfl _ _ rfl rfl
                  have f45 : a.eval (.tmp 110) = vB (!g38 && q41) (.int .i64 ((m - 1 : Nat) : Int)) := haft ⟨45, .data⟩ (by simp) rfl _ _ rfl rfl
                  cases g38
                  case true => exact b_skip hi hI (guard_no rfl rfl rfl (.inr fg)) rfl
                  case false =>
                    cases q41
                    case false => exact b_skip hi hI (guard_no rfl rfl rfl (.inl fg)) rfl
                    case true =>
                      exact b_same hi hI (guard_ok rfl rfl rfl fg) _ (run_indexAddr_op rfl f43 f45 (at_En g2 o2 c3 n2 (m - 1) (HMl.out rfl) W)) rfl
                · intro a W hI hun haft hi
                  have fg : a.eval (.tmp 106) = vB (!g38) (.bool q41) := haft ⟨41, .guard⟩ (by simp) rfl _ _ rfl rfl
                  have f46 : a.eval (.tmp 111) = vB (!g38 && q41) (.pointer (some ⟨g2, o2 + (m - 1) * 5, none⟩)) := haft ⟨46, .data⟩ (by simp) rfl _ _ rfl rfl
                  cases g38
                  case true => exact b_skip hi hI (guard_no rfl rfl rfl (.inr fg)) rfl
                  case false =>
                    cases q41
                    case false => exact b_skip hi hI (guard_no rfl rfl rfl (.inl fg)) rfl
                    case true =>
                      exact b_same hi hI (guard_ok rfl rfl rfl fg) _ (run_fieldAddr_any rfl f46 (at_xn0 _ _ W)) rfl
                · intro a W hI hun haft hi
                  have fg : a.eval (.tmp 106) = vB (!g38) (.bool q41) := haft ⟨41, .guard⟩ (by simp) rfl _ _ rfl rfl
                  have f47 : a.eval (.tmp 112) = vB (!g38 && q41) (.pointer (some ⟨g2, o2 + (m - 1) * 5, none⟩)) := haft ⟨47, .data⟩ (by simp) rfl _ _ rfl rfl
                  cases g38
                  case true => exact b_skip hi hI (guard_no rfl rfl rfl (.inr fg)) rfl
                  case false =>
                    cases q41
                    case false => exact b_skip hi hI (guard_no rfl rfl rfl (.inl fg)) rfl
                    case true =>
                      exact b_same hi hI (guard_ok rfl rfl rfl fg) _ (run_loadmid_op (cs := [.int .i64 pv.r, .int .i64 pv.c]) rfl f47 (HPv.out rfl W hI) Tryz.underlying43 rfl sizeDtL) rfl
                · intro a W hI hun haft hi
                  have fg : a.eval (.tmp 106) = vB (!g38) (.bool q41) := haft ⟨41, .guard⟩ (by simp) rfl _ _ rfl rfl
                  have e8 : a.eval (.tmp 8) = .pointer (some ⟨b8, 0, none⟩) := hun 8 (by kernel_rfl)
                  cases g38
                  case true => exact b_skip hi hI (guard_no rfl rfl rfl (.inr fg)) rfl
                  case false =>
                    cases q41
                    case false => exact b_skip hi hI (guard_no rfl rfl rfl (.inl fg)) rfl
                    case true =>
                      exact b_same hi hI (guard_ok rfl rfl rfl fg) _ (run_fieldAddr_any rfl e8 (at_xn0 _ _ W)) rfl
                · intro a W hI hun haft hi
                  have fg : a.eval (.tmp 106) = vB (!g38) (.bool q41) := haft ⟨41, .guard⟩ (by simp) rfl _ _ rfl rfl
                  have f49 : a.eval (.tmp 114) = vB (!g38 && q41) (.pointer (some ⟨b8, 0, none⟩)) := haft ⟨49, .data⟩ (by simp) rfl _ _ rfl rfl
                  cases g38
                  case true => exact b_skip hi hI (guard_no rfl rfl rfl (.inr fg)) rfl
                  case false =>
                    cases q41
                    case false => exact b_skip hi hI (guard_no rfl rfl rfl (.inl fg)) rfl
                    case true =>
                      exact b_same hi hI (guard_ok rfl rfl rfl fg) _ (run_loadmid_op (cs := [.int .i64 r.1.r, .int .i64 r.1.c]) rfl f49 (World.rangeAt_of_block (C := cN r) (Blk.below HB8.out hI (Blk.lt HB8.out)) 0 2) Tryz.underlying43 rfl sizeDtL) rfl
                · intro a W hI hun haft hi
                  have fg : a.eval (.tmp 106) = vB (!g38) (.bool q41) := haft ⟨41, .guard⟩ (by simp) rfl _ _ rfl rfl
                  have f48 : a.eval (.tmp 113) = vB (!g38 && q41) (eD pv) := haft ⟨48, .data⟩ (by simp) rfl _ _ rfl rfl
                  have f50 : a.eval (.tmp 115) = vB (!g38 && q41) (eD r.1) := haft ⟨50, .data⟩ (by simp) rfl _ _ rfl rfl
                  cases g38
                  case true => exact b_skip hi hI (guard_no rfl rfl rfl (.inr fg)) rfl
                  case false =>
                    cases q41
                    case false => exact b_skip hi hI (guard_no rfl rfl rfl (.inl fg)) rfl
                    case true =>
                      refine b_call hi hI (guard_ok rfl rfl rfl fg) _ _ (run_call_op (args := #[eD pv, eD r.1]) rfl (by simp [f48, f50, vB]) (by kernel_rfl)) ?_
                      exact (HFirst.out W).mono fun e w' H => ⟨_, H.1, rfl, H.2⟩
                · intro a W hI hun haft hi
                  have fg : a.eval (.tmp 106) = vB (!g38) (.bool q41) := haft ⟨41, .guard⟩ (by simp) rfl _ _ rfl rfl
                  have f51 : a.eval (.tmp 116) = vB (!g38 && q41) (.bool (!l52)) := haft ⟨51, .data⟩ (by simp) rfl _ _ rfl rfl
                  cases g38
                  case true => exact b_skip hi hI (guard_no rfl rfl rfl (.inr fg)) rfl
                  case false =>
                    cases q41
                    case false => exact b_skip hi hI (guard_no rfl rfl rfl (.inl fg)) rfl
                    case true =>
                      exact b_same hi hI (guard_ok rfl rfl rfl fg) _ (run_not_op rfl f51) (by show Value.bool (!(!l52)) = Value.bool l52; rw [Bool.not_not])
                · intro a W hI hun haft hi
                  have fg : a.eval (.tmp 103) = .bool g38 := haft ⟨38, .guard⟩ (by simp) rfl _ _ rfl rfl
                  have f41 : a.eval (.tmp 106) = vB (!g38) (.bool q41) := haft ⟨41, .data⟩ (by simp) rfl _ _ rfl rfl
                  have f52 : a.eval (.tmp 117) = vB (!g38 && q41) (.bool l52) := haft ⟨52, .data⟩ (by simp) rfl _ _ rfl rfl
                  cases g38
                  case true => exact b_skip hi hI (guard_no rfl rfl rfl (.inl fg)) rfl
                  case false =>
                    cases q41
                    case true => exact b_same hi hI (guard_ok rfl rfl rfl fg) _ (run_pick_op (b := true) rfl f41 f52 rfl) (by show _ = Value.bool q53; rw [HQ53.out]; rfl)
                    case false => exact b_same hi hI (guard_ok rfl rfl rfl fg) _ (run_pick_op (b := false) rfl f41 f52 rfl) (by show _ = Value.bool q53; rw [HQ53.out]; rfl)
                · intro a W hI hun haft hi
                  have f38 : a.eval (.tmp 103) = .bool g38 := haft ⟨38, .data⟩ (by simp) rfl _ _ rfl rfl
                  have f53 : a.eval (.tmp 118) = vB (!g38) (.bool q53) := haft ⟨53, .data⟩ (by simp) rfl _ _ rfl rfl
                  cases g38
                  case true => exact b_same hi hI rfl _ (run_pick_op (b := true) rfl f38 rfl f53) (by show _ = Value.bool g54; rw [HG54.out]; rfl)
                  case false => exact b_same hi hI rfl _ (run_pick_op (b := false) rfl f38 rfl f53) (by show _ = Value.bool g54; rw [HG54.out]; rfl)
              · intro vals W hI hp
                have hl54 : vals 54 = .bool g54 := hp 54 (by decide)
                have HJ := Lib.hid hI
                clear hp hI
                simp only [layN, List.size_toArray, List.length_cons, List.length_nil, List.range, List.range.loop, if_true, List.getElem?_toArray, List.getElem?_cons_zero, List.getElem?_cons_succ, Act.put, List.setIfInBounds_toArray, List.set_cons_zero, List.set_cons_succ, Nat.zero_add, Nat.reduceAdd, hl54]
                clear hl54
                generalize W = W8 at *
                have HbW8 := Lib.hid (HbV.out.trans (HJ.out.mono HbV.out.size))
                have HbW9 := Lib.hid (HbVW.out.trans (HJ.out.mono HbVW.out.size))
                cases g54
                case true =>
                  have HR : Hid (bb = false) := Lib.hid (HBB.out.symm.trans (by
                    unfold rightS
                    rw [itsB_no (by rw [HN.out]; exact HLt.out) (okI_bad HQ.out (itemB_bad (by rw [HNq.out]; exact HKn.out) HLaw.out))]; simp))
                  go_wp2_with fail
                  go_ret
                  exact ⟨by rw [HR.out]; rfl, HB.out.trans (HbW8.out.mono HB.out.size)⟩
                have hw := HWm.out
                have hjm : ¬ 9223372036854775807 < m + 1 := by have := HNm.out; have := HKn.out; omega
                have hkn := HKn.out
                go_wp2_with fail
                go_roundw
                case rel => exact ⟨m + 1, by go_num, HKn.out, fun i hi => by
                  rcases Nat.lt_succ_iff_lt_or_eq.1 hi with h | h
                  · exact HOk.out i h
                  · rw [h]; exact HLaw.out, HbW9.out⟩
                case measure => simp [intOf] <;> omega

end Go.Proofs.YtejljikikhecnaaGreat
