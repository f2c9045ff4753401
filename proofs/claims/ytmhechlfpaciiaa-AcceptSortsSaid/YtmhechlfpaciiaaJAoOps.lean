/-
  accept.Sort at every row; a row of ints made anew, read and written. A REGION THAT DRAWS ITS ORDER, IN WHICH TWO NEW BLOCKS ARE LAID AND STORED INTO (d, f := x.f, y.f, where both are boxed), ALL OTHER OPERATIONS READ: the rule. Conditions: lengths.
-/
import Derived.Test.YtmhechlfpaciiaaJSoSort
import Derived.Test.YtmhechlfpaciiaaAcGC
import Derived.Laws.OwnMore
import Derived.Test.YtmhechlfpaciiaaOrderInv
import Derived.Test.YtmhechlfpaciiaaStGF
import Derived.Test.YtmhechlfpaciiaaJEvFits
namespace Go.Proofs.Ytmhechlfpaciiaa
open Go.RowKit Go.MapKept Go.Sort

/-- accept.Sort: a row of the same events, sorted; what was is as it was. -/
theorem sortW_any (l : List Ev) (A : Option Addr) (N c : Nat) (w : World) (hs : SlK encE 27 w (.slice A N c) l) (hN : l.length = N) (hN2 : N ≤ 100000) :
    Calls Try.prog 34 #[.slice A N c] w fun e w' => ∃ A' c', ∃ d : Array Ev, e = .returned (.slice A' N c') ∧ SlK encE 27 w' (.slice A' N c') d.toList ∧ d.size = N ∧ Below w.heap.size w w' ∧ PermIn 0 N l.toArray d ∧ SortedIn (ltOf cfP) 0 N d := by
  cases hl : l with
  | nil =>
    subst hl
    have h0 : N = 0 := hN.symm
    subst h0
    refine (sort_nil A c w hs).mono ?_
    rintro e w' ⟨A', c', rfl, hb⟩
    exact ⟨A', c', #[], rfl, ⟨A', c', rfl, Nat.zero_le _, fun h => absurd rfl h⟩, rfl, hb, permIn_refl _ 0 0, fun i j _ _ h3 => by omega⟩
  | cons x r =>
    have hne : l ≠ [] := by rw [hl]; simp
    rw [← hl]
    obtain ⟨A2, c2, h1, _, h2⟩ := id hs
    obtain ⟨b, o, h3, _⟩ := h2 hne
    injection h1 with h1 _ _
    subst h1
    subst h3
    refine (sortAll_any l b o N c w hs hN2 hne).mono ?_
    rintro e w' ⟨g, cap, d, rfl, ho, hb, hp, hso⟩
    have hsz : d.size = N := by rw [hp.1]; simpa using hN
    exact ⟨_, _, d, rfl, ho.read encE_len, hsz, hb, hp, hso⟩

def encN (x : Int) : List Value := [.int .i64 x]
theorem encN_len (x : Int) : (encN x).length = 1 := rfl
theorem infoInt : (Try.prog.info? 3).map (fun i => (i.zero, i.size, i.bytes)) = some (some (.int .i64 0), 1, 8) := by kernel_rfl
theorem zeros_flat : ∀ n : Nat, (List.replicate n (0 : Int)).flatMap encN = List.replicate n (Value.int .i64 0)
  | 0 => rfl
  | n + 1 => by rw [List.replicate_succ, List.replicate_succ, List.flatMap_cons, zeros_flat n]; rfl
theorem make_ints (w : World) (n : Nat) (hn : n ≤ 1000000) : ∃ w', (Instr.makeSlice 73 (.int .i64 (n : Int)) (.int .i64 (n : Int))).run Try.prog w = .ok (.slice (some ⟨w.heap.size, 0, none⟩) n n) w' ∧ OwnK encN w.heap.size 3 1 w' (.slice (some ⟨w.heap.size, 0, none⟩) n n) (List.replicate n 0) ∧ Below w.heap.size w w' := by
  obtain ⟨i, hi, hz0, hz1, hz2⟩ := info_parts infoInt
  obtain ⟨w', hr, ho, hg⟩ := run_makeSlice_full (P := Try.prog) (w := w) w.heap.size 73 3 i _ 1 Try.underlying73 hi hz0 hz1 .i64 .i64 n (by omega) (by rw [hz2]; omega) (by unfold maxLen; omega) (Nat.le_refl _)
  refine ⟨w', hr, ?_, ⟨hg.os, hg.tape, hg.output, hg.size, fun k hk => hg.block k hk (by simp)⟩⟩
  unfold OwnK
  rw [List.length_replicate, zeros_flat]
  have e : (madeCells (Value.int .i64 0).cells (n * 1)).toList = List.replicate n (Value.int .i64 0) := by
    rw [Nat.mul_one]
    exact toList_madeCells_one _ _
  rw [e] at ho
  exact ho
theorem run_makeI_op {P : Program} {o : Oper} {ρ : Operand → Value} {w w' : World} {t : TypeId} {x y : Operand} {vx vy v : Value} (ho : o.op = .makeSlice t x y) (hx : ρ x = vx) (hy : ρ y = vy) (hr : (Instr.makeSlice t vx vy).run P w = .ok v w') : (execOp ρ o).run P w = .ok (.value v) w' := by
  unfold execOp
  simp only [ho, hx, hy, Sem.run_bind, hr, Result.andThen_ok, Sem.run_pure]
theorem at_IN (g c N k : Nat) (h : k < N) (w : World) : (Instr.indexAt 73 (.slice (some ⟨g, 0, none⟩) N c) (.int .i64 ((k : Nat) : Int))).run Try.prog w = .ok (.pointer (some ⟨g, k, none⟩)) w := by
  have h2 : (k : Int) < N := by omega
  go_simp

end Go.Proofs.Ytmhechlfpaciiaa

namespace Go.Proofs.Ytmhechlfpaciiaa
open Go.RowKit

section
variable {P : Program} {ops : Array Oper} {Q : Exit → Act → World → Prop} {md : Region.Mode}
theorem wpAny_boxes (p : Nat → Value → Prop) (a0 : Act) (w1 : World) (s1 s2 s3 s4 : Nat) (o1 o2 o3 o4 : Oper) (d1 d2 : Tmp) (t1 t2 : TypeId) (z1 z2 c1 c2 : Array Value)
    (ho1 : ops[s1]? = some o1) (ho2 : ops[s2]? = some o2) (ho3 : ops[s3]? = some o3) (ho4 : ops[s4]? = some o4) (hd1 : o1.dst = some d1) (hd2 : o2.dst = some d2) (hd3 : o3.dst = none) (hd4 : o4.dst = none)
    (hne : s1 ≠ s2 ∧ s1 ≠ s3 ∧ s1 ≠ s4 ∧ s2 ≠ s3 ∧ s2 ≠ s4 ∧ s3 ≠ s4)
    (h31 : ∃ e ∈ o3.after, e.on = s1 ∧ Region.binds md e = true) (h42 : ∃ e ∈ o4.after, e.on = s2 ∧ Region.binds md e = true)
    (hap : apartB ops = true) (hah : aheadB md ops = true) (hin : (List.range ops.size).all (fun i => match ops[i]? with | some o => (match o.dst with | some d => decide (d < a0.tmps.size) | none => true) | none => true) = true)
    (hpt : ∀ v, p s1 v ∧ p s2 v ∧ p s3 v ∧ p s4 v)
    (hwt : ∀ a : Act, Region.wanted o1 (yielded ops a.tmps) = true ∧ Region.wanted o2 (yielded ops a.tmps) = true ∧ Region.wanted o3 (yielded ops a.tmps) = true ∧ Region.wanted o4 (yielded ops a.tmps) = true)
    (hal1 : ∀ (a : Act) (w : World), (execOp a.eval o1).run P w = .ok (.value (.pointer (some ⟨w.heap.size, 0, none⟩))) (w.alloc (.cells z1 t1)))
    (hal2 : ∀ (a : Act) (w : World), (execOp a.eval o2).run P w = .ok (.value (.pointer (some ⟨w.heap.size, 0, none⟩))) (w.alloc (.cells z2 t2)))
    (hst3 : ∀ (a : Act) (w : World) (g : Nat), a.eval (.tmp d1) = .pointer (some ⟨g, 0, none⟩) → (∀ e ∈ o3.after, Region.binds md e = true → ∀ oj d, ops[e.on]? = some oj → oj.dst = some d → p e.on (a.eval (.tmp d))) → Blk w g t1 z1 →
      (execOp a.eval o3).run P w = .ok .skip (w.setRow g c1))
    (hst4 : ∀ (a : Act) (w : World) (g : Nat), a.eval (.tmp d2) = .pointer (some ⟨g, 0, none⟩) → (∀ e ∈ o4.after, Region.binds md e = true → ∀ oj d, ops[e.on]? = some oj → oj.dst = some d → p e.on (a.eval (.tmp d))) → Blk w g t2 z2 →
      (execOp a.eval o4).run P w = .ok .skip (w.setRow g c2))
    (hop : AllIdx (fun i o => i ≠ s1 → i ≠ s2 → i ≠ s3 → i ≠ s4 → ∀ (a : Act) (w : World), Below w1.heap.size w1 w → (∀ d : Tmp, (ops.all fun o => o.dst != some d) = true → a.eval (.tmp d) = a0.eval (.tmp d)) →
      (∀ e ∈ o.after, Region.binds md e = true → ∀ oj d, ops[e.on]? = some oj → oj.dst = some d → p e.on (a.eval (.tmp d))) → ops[i]? = some o → wpOp P ops Q i (fun a' w' => (∃ v, a' = a.put o.dst v ∧ p i v) ∧ w' = w) a w) 0 ops.toList)
    (hend : ∀ vals w g1 g2, vals s1 = .pointer (some ⟨g1, 0, none⟩) → vals s2 = .pointer (some ⟨g2, 0, none⟩) → w1.heap.size ≤ g1 → w1.heap.size ≤ g2 → (∀ i, i < ops.size → p i (vals i)) → Below w1.heap.size w1 w → Blk w g1 t1 c1 → Blk w g2 t2 c2 →
      Q .normal (layN ops (fun _ => true) vals (List.range ops.size) a0) w) :
    wpAny P md ops Q ops.size (Array.replicate ops.size false) a0 w1.drew := by
  obtain ⟨n12, n13, n14, n23, n24, n34⟩ := hne
  obtain ⟨Inv, hInv⟩ : ∃ Inv : (Nat → Bool) → (Nat → Value) → World → Prop, Inv = fun L vals w => Below w1.heap.size w1 w ∧ (∀ i, L i = true → p i (vals i)) ∧
    (L s1 = true → ∃ g, w1.heap.size ≤ g ∧ vals s1 = .pointer (some ⟨g, 0, none⟩) ∧ Blk w g t1 (if L s3 = true then c1 else z1)) ∧
    (L s2 = true → ∃ g, w1.heap.size ≤ g ∧ vals s2 = .pointer (some ⟨g, 0, none⟩) ∧ Blk w g t2 (if L s4 = true then c2 else z2)) ∧ (L s1 = true → L s2 = true → vals s1 ≠ vals s2) := ⟨_, rfl⟩
  have ff : ¬ (false = true) := Bool.false_ne_true
  refine wpAny_inv Inv a0 w1.drew hap hah hin (fun L h => ?_) (Lt.allIdx_of _ _ fun i o hi => ?_) (fun L vals w hL hI => ?_)
  · rw [hInv]
    exact ⟨(Below.refl _ _).drew, (fun i hl => by rw [h i] at hl; cases hl), (fun hl => by rw [h] at hl; cases hl), (fun hl => by rw [h] at hl; cases hl), (fun hl => by rw [h] at hl; cases hl)⟩
  · rw [Nat.zero_add]
    intro L vals a w hF hI
    rw [hInv] at hI
    obtain ⟨hb, hp, hg1, hg2, hdis⟩ := hI
    have same : ∀ {k : Nat} {ok : Oper}, ops[k]? = some ok → i = k → o = ok := fun hk e => by subst e; exact Option.some.inj (hF.it.symm.trans hk)
    have dep : ∀ e ∈ o.after, Region.binds md e = true → ∀ oj d, ops[e.on]? = some oj → oj.dst = some d → p e.on (a.eval (.tmp d)) := fun e he hbi oj d hoj hd => by
      rw [hF.slot e.on oj d hoj hd (hF.ahead e he hbi)]
      exact hp e.on (hF.ahead e he hbi)
    have keep : ∀ (v : Value) (L' : Nat → Bool), (∀ j, j ≠ i → L' j = L j) → p i v → ∀ j, L' j = true → p j ((fun j => if j = i then v else vals j) j) := by
      intro v L' q1 hv j hl
      by_cases hji : j = i
      · subst hji; simpa using hv
      · simp only [hji, if_false]
        exact hp j (by rw [← q1 j hji]; exact hl)
    by_cases i1 : i = s1
    · have hoo := same ho1 i1
      subst hoo
      subst i1
      have l3 : L s3 = false := by
        cases hl : L s3 with
        | false => rfl
        | true =>
          obtain ⟨e, he, h3, h4⟩ := h31
          have := hF.closed s3 o3 ho3 hl e he h4
          rw [h3, hF.open_] at this
          cases this
      refine i_val hF (hwt a).1 _ _ (hal1 a w) fun L' q1 q2 => ?_
      rw [hInv]
      have e2 : s2 ≠ i := fun e => n12 e.symm
      have e3 : s3 ≠ i := fun e => n13 e.symm
      have e4 : s4 ≠ i := fun e => n14 e.symm
      have hal : Below w.heap.size w (w.alloc (.cells z1 t1)) := (Below.refl _ _).alloc (Nat.le_refl _) _
      refine ⟨hb.trans (hal.mono hb.size), keep _ L' q1 (hpt _).1, fun _ => ⟨w.heap.size, hb.size, by simp, ?_⟩, fun hl => ?_, fun _ hl => ?_⟩
      · rw [q1 s3 e3, if_neg (by rw [l3]; exact ff)]
        exact Blk.new _ _ _
      · rw [q1 s2 e2] at hl
        obtain ⟨g, k1, k2, k3⟩ := hg2 hl
        refine ⟨g, k1, by simpa only [e2, if_false] using k2, ?_⟩
        rw [q1 s4 e4]
        exact Blk.below k3 hal (Blk.lt k3)
      · rw [q1 s2 e2] at hl
        obtain ⟨g, k1, k2, k3⟩ := hg2 hl
        have hlt := Blk.lt k3
        simp only [e2, if_true, if_false, k2]
        intro h
        injection h with h
        injection h with h
        injection h with h
        omega
    by_cases i2 : i = s2
    · have hoo := same ho2 i2
      subst hoo
      subst i2
      have l4 : L s4 = false := by
        cases hl : L s4 with
        | false => rfl
        | true =>
          obtain ⟨e, he, h3, h4⟩ := h42
          have := hF.closed s4 o4 ho4 hl e he h4
          rw [h3, hF.open_] at this
          cases this
      refine i_val hF (hwt a).2.1 _ _ (hal2 a w) fun L' q1 q2 => ?_
      rw [hInv]
      have e1 : s1 ≠ i := n12
      have e3 : s3 ≠ i := fun e => n23 e.symm
      have e4 : s4 ≠ i := fun e => n24 e.symm
      have hal : Below w.heap.size w (w.alloc (.cells z2 t2)) := (Below.refl _ _).alloc (Nat.le_refl _) _
      refine ⟨hb.trans (hal.mono hb.size), keep _ L' q1 (hpt _).2.1, fun hl => ?_, fun _ => ⟨w.heap.size, hb.size, by simp, ?_⟩, fun hl _ => ?_⟩
      · rw [q1 s1 e1] at hl
        obtain ⟨g, k1, k2, k3⟩ := hg1 hl
        refine ⟨g, k1, by simpa only [e1, if_false] using k2, ?_⟩
        rw [q1 s3 e3]
        exact Blk.below k3 hal (Blk.lt k3)
      · rw [q1 s4 e4, if_neg (by rw [l4]; exact ff)]
        exact Blk.new _ _ _
      · rw [q1 s1 e1] at hl
        obtain ⟨g, k1, k2, k3⟩ := hg1 hl
        have hlt := Blk.lt k3
        simp only [e1, if_true, if_false, k2]
        intro h
        injection h with h
        injection h with h
        injection h with h
        omega
    by_cases i3 : i = s3
    · have hoo := same ho3 i3
      subst hoo
      subst i3
      have l1 : L s1 = true := by
        obtain ⟨e, he, h3, h4⟩ := h31
        rw [← h3]; exact hF.ahead e he h4
      obtain ⟨g, k1, k2, k3⟩ := hg1 l1
      rw [if_neg (by rw [hF.open_]; exact ff)] at k3
      refine i_skip hF hd3 (hwt a).2.2.1 _ (hst3 a w g ((hF.slot s1 o1 d1 ho1 hd1 l1).trans k2) dep k3) fun L' q1 q2 => ?_
      rw [hInv]
      have e1 : s1 ≠ i := n13
      have e2 : s2 ≠ i := n23
      have e4 : s4 ≠ i := fun e => n34 e.symm
      refine ⟨hb.trans (setRow_below w g _ _ k1), keep _ L' q1 (hpt _).2.2.1, fun _ => ⟨g, k1, by simpa only [e1, if_false] using k2, ?_⟩, fun hl => ?_, fun h1 h2 => ?_⟩
      · rw [if_pos q2]
        exact setRow_blk w g t1 z1 c1 k3
      · rw [q1 s2 e2] at hl
        obtain ⟨g', m1, m2, m3⟩ := hg2 hl
        refine ⟨g', m1, by simpa only [e2, if_false] using m2, ?_⟩
        rw [q1 s4 e4]
        refine (setRow_other w g g' c1 (fun e => hdis l1 hl ?_)).trans m3
        rw [k2, m2, e]
      · rw [q1 s1 e1] at h1
        rw [q1 s2 e2] at h2
        simp only [e1, e2, if_false]
        exact hdis h1 h2
    by_cases i4 : i = s4
    · have hoo := same ho4 i4
      subst hoo
      subst i4
      have l2 : L s2 = true := by
        obtain ⟨e, he, h3, h4⟩ := h42
        rw [← h3]; exact hF.ahead e he h4
      obtain ⟨g, k1, k2, k3⟩ := hg2 l2
      rw [if_neg (by rw [hF.open_]; exact ff)] at k3
      refine i_skip hF hd4 (hwt a).2.2.2 _ (hst4 a w g ((hF.slot s2 o2 d2 ho2 hd2 l2).trans k2) dep k3) fun L' q1 q2 => ?_
      rw [hInv]
      have e1 : s1 ≠ i := n14
      have e2 : s2 ≠ i := n24
      have e3 : s3 ≠ i := n34
      refine ⟨hb.trans (setRow_below w g _ _ k1), keep _ L' q1 (hpt _).2.2.2, fun hl => ?_, fun _ => ⟨g, k1, by simpa only [e2, if_false] using k2, ?_⟩, fun h1 h2 => ?_⟩
      · rw [q1 s1 e1] at hl
        obtain ⟨g', m1, m2, m3⟩ := hg1 hl
        refine ⟨g', m1, by simpa only [e1, if_false] using m2, ?_⟩
        rw [q1 s3 e3]
        refine (setRow_other w g g' c2 (fun e => hdis hl l2 ?_)).trans m3
        rw [k2, m2, e]
      · rw [if_pos q2]
        exact setRow_blk w g t2 z2 c2 k3
      · rw [q1 s1 e1] at h1
        rw [q1 s2 e2] at h2
        simp only [e1, e2, if_false]
        exact hdis h1 h2
    have hx := allIdx_get ops.toList 0 i o hop hi
    rw [Nat.zero_add] at hx
    refine wpOp_mono ?_ (hx i1 i2 i3 i4 a w hb hF.old dep hF.it)
    rintro a' w' ⟨⟨v, rfl, hv⟩, rfl⟩
    refine ⟨v, rfl, fun L' q1 q2 => ?_⟩
    rw [hInv]
    have e1 : s1 ≠ i := fun e => i1 e.symm
    have e2 : s2 ≠ i := fun e => i2 e.symm
    have e3 : s3 ≠ i := fun e => i3 e.symm
    have e4 : s4 ≠ i := fun e => i4 e.symm
    refine ⟨hb, keep v L' q1 hv, fun hl => ?_, fun hl => ?_, fun h1 h2 => ?_⟩
    · rw [q1 s1 e1] at hl
      rw [q1 s3 e3]
      simpa only [e1, if_false] using hg1 hl
    · rw [q1 s2 e2] at hl
      rw [q1 s4 e4]
      simpa only [e2, if_false] using hg2 hl
    · rw [q1 s1 e1] at h1
      rw [q1 s2 e2] at h2
      simp only [e1, e2, if_false]
      exact hdis h1 h2
  · rw [hInv] at hI
    obtain ⟨hb, hp, hg1, hg2, hdis⟩ := hI
    have lt1 := (Array.getElem?_eq_some_iff.1 ho1).1
    have lt2 := (Array.getElem?_eq_some_iff.1 ho2).1
    have lt3 := (Array.getElem?_eq_some_iff.1 ho3).1
    have lt4 := (Array.getElem?_eq_some_iff.1 ho4).1
    obtain ⟨g1, k1, k2, k3⟩ := hg1 (hL s1 lt1)
    obtain ⟨g2, m1, m2, m3⟩ := hg2 (hL s2 lt2)
    rw [if_pos (hL s3 lt3)] at k3
    rw [if_pos (hL s4 lt4)] at m3
    exact hend vals w g1 g2 k2 m2 k1 m1 (fun i hi => hp i (hL i hi)) hb k3 m3
end

end Go.Proofs.Ytmhechlfpaciiaa
