/-
  A region that draws its order, in which one operation turns memory, others read what it leaves alone, and the. The view turns. Conditions: lengths.
-/import Derived.Test.YtdgglhlofnigkaaGreatDoorGrIs
namespace Go.Proofs.YtdgglhlofnigkaaGreatDoor.Lt
open Go.RowKit
section
variable {P : Program} {ops : Array Oper} {Q : Exit → Act → World → Prop} {md : Region.Mode}
theorem wpAny_chg (pure : Nat → Bool) (p : Nat → Value → World → Prop) (a0 : Act) (w1 : World) (mid last : Nat) (om ol : Oper) (J : Value → World → Prop) (K : World → Prop)
  (hsz : ops.size = last + 1) (hml : mid < last) (hom : ops[mid]? = some om) (hol : ops[last]? = some ol) (hpm : pure mid = false)
  (hwm : (List.range last).all (fun i => pure i || i == mid || reachB md ops mid (aftB md om) i) = true) (hwl : (List.range last).all (reachB md ops last (aftB md ol)) = true)
  (hap : apartB ops = true) (hah : aheadB md ops = true) (hin : (List.range ops.size).all (fun i => match ops[i]? with | some o => (match o.dst with | some d => decide (d < a0.tmps.size) | none => true) | none => true) = true)
  (hst : ∀ i v w w', Below w.heap.size w w' → p i v w → p i v w') (hpw : ∀ i v w w', pure i = true → p i v w → p i v w')
  (hop : AllIdx (fun i o => i < last → i ≠ mid → pure i = false → ∀ (a : Act) (w : World), Below w1.heap.size w1 w → (∀ d : Tmp, (ops.all fun o => o.dst != some d) = true → a.eval (.tmp d) = a0.eval (.tmp d)) →
   (∀ e ∈ o.after, Region.binds md e = true → ∀ oj d, ops[e.on]? = some oj → oj.dst = some d → p e.on (a.eval (.tmp d)) w) → ops[i]? = some o → wpOp P ops Q i (Step1 w1 p i a o w) a w) 0 ops.toList)
  (hpu : AllIdx (fun i o => i < last → pure i = true → ∀ (a : Act) (w : World), (Below w1.heap.size w1 w ∨ ∃ v, J v w) → (∀ d : Tmp, (ops.all fun o => o.dst != some d) = true → a.eval (.tmp d) = a0.eval (.tmp d)) →
   (∀ e ∈ o.after, Region.binds md e = true → pure e.on = true → ∀ oj d, ops[e.on]? = some oj → oj.dst = some d → p e.on (a.eval (.tmp d)) w) → ops[i]? = some o → wpOp P ops Q i (fun a' w' => ∃ v, a' = a.put o.dst v ∧ p i v w ∧ w' = w) a w) 0 ops.toList)
  (hmid : ∀ (a : Act) (w : World), Below w1.heap.size w1 w → (∀ d : Tmp, (ops.all fun o => o.dst != some d) = true → a.eval (.tmp d) = a0.eval (.tmp d)) →
   (∀ e ∈ om.after, Region.binds md e = true → ∀ oj d, ops[e.on]? = some oj → oj.dst = some d → p e.on (a.eval (.tmp d)) w) →
   wpOp P ops Q mid (fun a' w' => ∃ v, a' = a.put om.dst v ∧ J v w') a w)
  (hlast : ∀ (vals : Nat → Value) (a : Act) (w : World), J (vals mid) w →
   (∀ (j : Nat) (oj : Oper) (d : Tmp), ops[j]? = some oj → j < last → oj.dst = some d → a.eval (.tmp d) = vals j) → (∀ j, j < last → pure j = true → p j (vals j) w) →
   wpOp P ops Q last (fun a' w' => ∃ v, a' = a.put ol.dst v ∧ K w') a w)
  (hend : ∀ vals w, K w → Q .normal (layN ops (fun _ => true) vals (List.range ops.size) a0) w) :
  wpAny P md ops Q ops.size (Array.replicate ops.size false) a0 w1.drew := by
 obtain ⟨Inv, hInv⟩ : ∃ Inv : (Nat → Bool) → (Nat → Value) → World → Prop, Inv = fun L vals w => if L last = true then K w else if L mid = true then (∀ i, i < last → pure i = false → L i = true) ∧ J (vals mid) w ∧ (∀ i, i < last → pure i = true → L i = true → p i (vals i) w)
  else Below w1.heap.size w1 w ∧ ∀ i, i < last → L i = true → p i (vals i) w := ⟨_, rfl⟩
 refine wpAny_inv Inv a0 w1.drew hap hah hin (fun L h => ?_) (allIdx_of _ _ fun i o hi => ?_) (fun L vals w hL hI => ?_)
 ·rw [hInv]
  show if L last = true then _ else if L mid = true then _ else _
  rw [if_neg (by rw [h]; exact Bool.false_ne_true), if_neg (by rw [h]; exact Bool.false_ne_true)]
  exact ⟨(Below.refl _ _).drew, fun i _ hl => by rw [h i] at hl; cases hl⟩
 ·rw [Nat.zero_add]
  intro L vals a w hF hI
  have hil : i < ops.size := (Array.getElem?_eq_some_iff.1 hF.it).1
  have hnl : ¬ L last = true := by
   intro h
   by_cases hlt : i < last
   ·have h1 := hF.closed last ol hol h
    simp only [List.all_eq_true, List.mem_range] at hwl
    have h2 := reachB_spec hF.closed last _ (fun k hk => by
     unfold aftB at hk
     rw [Array.any_eq_true'] at hk
     obtain ⟨e, he, h3⟩ := hk
     simp only [Bool.and_eq_true, beq_iff_eq] at h3
     rw [← h3.1]
     exact h1 e he h3.2) i (hwl i hlt)
    rw [hF.open_] at h2; cases h2
   ·have : i = last := by omega
    subst this
    rw [hF.open_] at h; cases h
  rw [hInv] at hI
  replace hI : if L mid = true then (∀ i, i < last → pure i = false → L i = true) ∧ J (vals mid) w ∧ (∀ i, i < last → pure i = true → L i = true → p i (vals i) w)
   else Below w1.heap.size w1 w ∧ ∀ i, i < last → L i = true → p i (vals i) w := by
   have h : (if L last = true then _ else _) := hI
   rw [if_neg hnl] at h
   exact h
  have hsl : ∀ e ∈ o.after, Region.binds md e = true → ∀ oj d, ops[e.on]? = some oj → oj.dst = some d → a.eval (.tmp d) = vals e.on ∧ e.on < last ∧ L e.on = true := by
   intro e he hb oj d hoj hd
   have hl := hF.ahead e he hb
   have hel : e.on < ops.size := (Array.getElem?_eq_some_iff.1 hoj).1
   have hne : e.on ≠ last := fun h => hnl (by rw [← h]; exact hl)
   exact ⟨hF.slot e.on oj d hoj hd hl, by omega, hl⟩
  by_cases hlt : i < last
  ·have hkeep : ∀ L' : Nat → Bool, (∀ j, j ≠ i → L' j = L j) → ¬ L' last = true := fun L' h h2 => hnl (by rw [← h last (by omega)]; exact h2)
   cases hpi : pure i
   ·by_cases him : i = mid
    ·subst him
     have hoo : o = om := by
      have := hF.it
      rw [hom] at this; exact (Option.some.inj this).symm
     subst hoo
     rw [if_neg (by rw [hF.open_]; exact Bool.false_ne_true)] at hI
     refine wpOp_mono ?_ (hmid a w hI.1 hF.old (fun e he hb oj d hoj hd => ?_))
     ·rintro a' w' ⟨v, rfl, hJ⟩
      refine ⟨v, rfl, fun L' h2 h3 => ?_⟩
      rw [hInv]
      show if L' last = true then _ else if L' i = true then _ else _
      rw [if_neg (hkeep L' h2), if_pos h3]
      refine ⟨fun j hj hpj => ?_, by simpa using hJ, fun j hj hpj hl => ?_⟩
      ·by_cases hji : j = i
       ·subst hji; exact h3
       ·rw [h2 j hji]
        simp only [List.all_eq_true, List.mem_range, Bool.or_eq_true, beq_iff_eq] at hwm
        rcases hwm j hj with (h | h) | h
        ·rw [hpj] at h; cases h
        ·exact absurd h hji
        ·refine reachB_spec hF.closed i _ (fun k hk => ?_) j h
         unfold aftB at hk
         rw [Array.any_eq_true'] at hk
         obtain ⟨e, he, h4⟩ := hk
         simp only [Bool.and_eq_true, beq_iff_eq] at h4
         rw [← h4.1]
         exact hF.ahead e he h4.2
      ·have hji : j ≠ i := fun e => by rw [e, hpi] at hpj; cases hpj
       simp only [hji, if_false]
       exact hpw j _ w w' hpj (hI.2 j hj (by rw [← h2 j hji]; exact hl))
     ·obtain ⟨h1, h2, h3⟩ := hsl e he hb oj d hoj hd
      rw [h1]; exact hI.2 e.on h2 h3
    ·have hnm : ¬ L mid = true := by
      intro h
      rw [if_pos h] at hI
      have := hI.1 i hlt hpi
      rw [hF.open_] at this; cases this
     rw [if_neg hnm] at hI
     have h1 := allIdx_get ops.toList 0 i o hop hi
     rw [Nat.zero_add] at h1
     refine wpOp_mono ?_ (h1 hlt him hpi a w hI.1 hF.old (fun e he hb oj d hoj hd => ?_) hF.it)
     ·rintro a' w' ⟨⟨v, rfl, hp⟩, hb, hI'⟩
      refine ⟨v, rfl, fun L' h2 h3 => ?_⟩
      rw [hInv]
      show if L' last = true then _ else if L' mid = true then _ else _
      rw [if_neg (hkeep L' h2), if_neg (by rw [h2 mid (fun e => him e.symm)]; exact hnm)]
      refine ⟨hI', fun j hj hl => ?_⟩
      by_cases hji : j = i
      ·subst hji; simpa using hp
      ·simp only [hji, if_false]
       exact hst j _ w w' hb (hI.2 j hj (by rw [← h2 j hji]; exact hl))
     ·obtain ⟨h2, h3, h4⟩ := hsl e he hb oj d hoj hd
      rw [h2]; exact hI.2 e.on h3 h4
   ·have him : i ≠ mid := fun e => by rw [e, hpm] at hpi; cases hpi
    have h1 := allIdx_get ops.toList 0 i o hpu hi
    rw [Nat.zero_add] at h1
    have hpd : ∀ j, j < last → pure j = true → L j = true → p j (vals j) w := by
     intro j hj hpj hl
     by_cases hm : L mid = true
     ·rw [if_pos hm] at hI; exact hI.2.2 j hj hpj hl
     ·rw [if_neg hm] at hI; exact hI.2 j hj hl
    have hor : Below w1.heap.size w1 w ∨ ∃ v, J v w := by
     by_cases hm : L mid = true
     ·rw [if_pos hm] at hI; exact .inr ⟨_, hI.2.1⟩
     ·rw [if_neg hm] at hI; exact .inl hI.1
    refine wpOp_mono ?_ (h1 hlt hpi a w hor hF.old (fun e he hb hpe oj d hoj hd => ?_) hF.it)
    ·rintro a' w' ⟨v, rfl, hp, rfl⟩
     refine ⟨v, rfl, fun L' h2 h3 => ?_⟩
     rw [hInv]
     show if L' last = true then _ else if L' mid = true then _ else _
     rw [if_neg (hkeep L' h2), h2 mid (fun e => him e.symm)]
     by_cases hm : L mid = true
     ·rw [if_pos hm] at hI ⊢
      refine ⟨fun j hj hpj => ?_, ?_, fun j hj hpj hl => ?_⟩
      ·have hji : j ≠ i := fun e => by rw [e, hpi] at hpj; cases hpj
       rw [h2 j hji]; exact hI.1 j hj hpj
      ·simp only [Ne.symm him, if_false]; exact hI.2.1
      ·by_cases hji : j = i
       ·subst hji; simpa using hp
       ·simp only [hji, if_false]
        exact hI.2.2 j hj hpj (by rw [← h2 j hji]; exact hl)
     ·rw [if_neg hm] at hI ⊢
      refine ⟨hI.1, fun j hj hl => ?_⟩
      by_cases hji : j = i
      ·subst hji; simpa using hp
      ·simp only [hji, if_false]
       exact hI.2 j hj (by rw [← h2 j hji]; exact hl)
    ·obtain ⟨h2, h3, h4⟩ := hsl e he hb oj d hoj hd
     rw [h2]; exact hpd e.on h3 hpe h4
  ·have hie : i = last := by omega
   subst hie
   have hoo : o = ol := by
    have := hF.it
    rw [hol] at this; exact (Option.some.inj this).symm
   subst hoo
   have hall : ∀ j, j < i → L j = true := by
    intro j hj
    simp only [List.all_eq_true, List.mem_range] at hwl
    refine reachB_spec hF.closed i _ (fun k hk => ?_) j (hwl j hj)
    unfold aftB at hk
    rw [Array.any_eq_true'] at hk
    obtain ⟨e, he, h3⟩ := hk
    simp only [Bool.and_eq_true, beq_iff_eq] at h3
    rw [← h3.1]
    exact hF.ahead e he h3.2
   rw [if_pos (hall mid hml)] at hI
   refine wpOp_mono ?_ (hlast vals a w hI.2.1 (fun j oj d hoj hj hd => hF.slot j oj d hoj hd (hall j hj)) (fun j hj hpj => hI.2.2 j hj hpj (hall j hj)))
   rintro a' w' ⟨v, rfl, hK⟩
   refine ⟨v, rfl, fun L' h2 h3 => ?_⟩
   rw [hInv]
   show if L' i = true then _ else _
   rw [if_pos h3]
   exact hK
 ·rw [hInv] at hI
  have h : (if L last = true then _ else _) := hI
  rw [if_pos (hL last (by omega))] at h
  exact hend vals w h
end
end Go.Proofs.YtdgglhlofnigkaaGreatDoor.Lt
namespace Go.Proofs.YtdgglhlofnigkaaGreatDoor
open Go.RowKit Go.MapKept Go.Sort
structure ApT (P : Program) {α : Type} (enc : α → List Value) (k : Nat) (e st : TypeId) (bytes : Nat) : Prop where
 len : ∀ x, (enc x).length = k
 pos : 0 < k
 under : P.underlying st = some (.slice e)
 info : ∃ i z, P.info? e = some i ∧ i.zero = some z ∧ i.size = k ∧ i.bytes = bytes ∧ z.cells.size = k
 one : ∀ x, ∀ u ∈ enc x, u.oneCell' = true
theorem OwnT.app {P : Program} {α : Type} {enc : α → List Value} {k bytes : Nat} {e st ty : TypeId} (T : ApT P enc k e st bytes) {own : Nat → Option Tg} {t : Tg} {R : Nat} {w W : World} {v v2 : Value} {l l2 : List α}
  (h : OwnT own t enc R e k w v l) (hl : ∀ g, own g ≠ none → g < w.heap.size) (hR : R ≤ w.heap.size) (hb : Below w.heap.size w W) (hs : SlK enc k W v2 l2) (hy : (l.length + l2.length) * bytes ≤ 140737488355328) (hn : l.length + l2.length ≤ 140737488355328) :
  ∃ v' w', (Builtin.append_ #[st, st] ty #[v, v2]).run P W = .ok v' w' ∧ OwnK enc R e k w' v' (l ++ l2) ∧ (∃ own', OwnT own' t enc R e k w' v' (l ++ l2) ∧ Turns own own' (fun u => u = t) w w') ∧ (∀ g, g < W.heap.size → own g ≠ some t → w'.heap[g]? = W.heap[g]?) := by
 obtain ⟨i, z, h1, h2, h3, h4, h5⟩ := T.info
 obtain ⟨v', w', hr, ho, hg, hloc⟩ := run_append_at (P := P) (ty := ty) T.len T.pos R W st e i z bytes T.under h1 h2 h3 h4 h5 v l (h.1.keep hb) v2 l2 hs T.one hy hn (Nat.le_trans hR hb.size)
 exact ⟨v', w', hr, ho, h.turn hl hb ho hg hloc, fun g hlt hne => hg.block g hlt fun e2 => hne (h.2 g e2.symm)⟩
theorem apS : ApT Tryz.prog enS 1 9 32 16 := ⟨enS_len, by decide, Tryz.underlying32, by obtain ⟨i, h, h1, h2, h3⟩ := info_parts infoS; exact ⟨i, _, h, h1, h2, h3, rfl⟩, enS_one⟩
theorem apK : ApT Tryz.prog enK 3 36 53 48 := ⟨enK_len, by decide, Tryz.underlying53, by obtain ⟨i, h, h1, h2, h3⟩ := info_parts infoK; exact ⟨i, _, h, h1, h2, h3, rfl⟩, enK_one⟩
theorem apE : ApT Tryz.prog enL 5 38 80 72 := ⟨enL_len, by decide, Tryz.underlying80, by obtain ⟨i, h, h1, h2, h3⟩ := info_parts infoL; exact ⟨i, _, h, h1, h2, h3, rfl⟩, enL_one⟩
theorem apV : ApT Tryz.prog enW 3 43 39 32 := ⟨enW_len, by decide, Tryz.underlying39, by obtain ⟨i, h, h1, h2, h3⟩ := info_parts infoW; exact ⟨i, _, h, h1, h2, h3, rfl⟩, enW_one⟩
section
variable {P : Program}
theorem run_lookok_op {o : Oper} {ρ : Operand → Value} {w : World} {t : TypeId} {m x : Operand} {vm vx v : Value} (ho : o.op = .lookup t m x true) (hm : ρ m = vm) (hx : ρ x = vx) (hr : (Instr.lookup t vm vx true).run P w = .ok v w) : (execOp ρ o).run P w = .ok (.value v) w := by
 unfold execOp
 simp [ho, hm, hx, hr]
theorem run_extract2_op {o : Oper} {ρ : Operand → Value} {w : World} {x : Operand} {k : Nat} {u v y : Value} (ho : o.op = .extract x k) (hx : ρ x = .tuple #[u, v]) (hk : (#[u, v] : Array Value)[k]? = some y) : (execOp ρ o).run P w = .ok (.value y) w := by
 unfold execOp
 simp [ho, hx, Instr.extract, hk]
theorem run_store1_op {o : Oper} {ρ : Operand → Value} {w : World} {ty : TypeId} {x y : Operand} {ad : Addr} {u v : Value} (ho : o.op = .store ty x y) (hx : ρ x = .pointer (some ad)) (hy : ρ y = v) (hv : v.oneCell' = true) (hcs : v.cells = #[v]) (hi : (P.info? ty).map (·.size) = some 1) (hc : w.cell? ad = some u) (hf : w.frozen? ad = false) :
  (execOp ρ o).run P w = .ok .skip (w.setCell ad v) := by
 cases hq : P.info? ty with
 | none => simp [hq] at hi
 | some i =>
  have hs : i.size = 1 := by simpa [hq] using hi
  have h2 : (storeVar ty ad v).run P w = .ok () (w.setCell ad v) := by
   simp [storeVar, hcs, sizeOf, typeInfo, hq, hs, storeCells, run_store P _ _ v _ hv, Addr.add_zero', hc, hf, Result.andThen]
  unfold execOp
  simp only [ho, hx, hy, Instr.storeAt, Instr.sureAddr, Sem.run_bind, Sem.run_pure, Result.andThen_ok, h2]
end
theorem at_view0 (g q : Nat) (w : World) : (Instr.fieldAt 78 (.pointer (some ⟨g, q, none⟩)) 0).run Tryz.prog w = .ok (.pointer (some ⟨g, q, none⟩)) w := by go_simp
theorem at_view1 (g q : Nat) (w : World) : (Instr.fieldAt 78 (.pointer (some ⟨g, q, none⟩)) 1).run Tryz.prog w = .ok (.pointer (some ⟨g, q + 1, none⟩)) w := by go_simp
theorem at_view2 (g q : Nat) (w : World) : (Instr.fieldAt 78 (.pointer (some ⟨g, q, none⟩)) 2).run Tryz.prog w = .ok (.pointer (some ⟨g, q + 2, none⟩)) w := by go_simp
theorem at_view3 (g q : Nat) (w : World) : (Instr.fieldAt 78 (.pointer (some ⟨g, q, none⟩)) 3).run Tryz.prog w = .ok (.pointer (some ⟨g, q + 3, none⟩)) w := by go_simp
theorem at_view4 (g q : Nat) (w : World) : (Instr.fieldAt 78 (.pointer (some ⟨g, q, none⟩)) 4).run Tryz.prog w = .ok (.pointer (some ⟨g, q + 4, none⟩)) w := by go_simp
theorem at_view5 (g q : Nat) (w : World) : (Instr.fieldAt 78 (.pointer (some ⟨g, q, none⟩)) 5).run Tryz.prog w = .ok (.pointer (some ⟨g, q + 5, none⟩)) w := by go_simp
theorem at_view6 (g q : Nat) (w : World) : (Instr.fieldAt 78 (.pointer (some ⟨g, q, none⟩)) 6).run Tryz.prog w = .ok (.pointer (some ⟨g, q + 6, none⟩)) w := by go_simp
theorem at_link0 (g q : Nat) (w : World) : (Instr.fieldAt 36 (.pointer (some ⟨g, q, none⟩)) 0).run Tryz.prog w = .ok (.pointer (some ⟨g, q, none⟩)) w := by go_simp
theorem at_link1 (g q : Nat) (w : World) : (Instr.fieldAt 36 (.pointer (some ⟨g, q, none⟩)) 1).run Tryz.prog w = .ok (.pointer (some ⟨g, q + 1, none⟩)) w := by go_simp
theorem at_link2 (g q : Nat) (w : World) : (Instr.fieldAt 36 (.pointer (some ⟨g, q, none⟩)) 2).run Tryz.prog w = .ok (.pointer (some ⟨g, q + 2, none⟩)) w := by go_simp
theorem bs_S (a : ByteArray) (w : World) : (Instr.buildSlice 32 1 #[(0, .string a)]).run Tryz.prog w = .ok (.slice (some ⟨w.heap.size, 0, none⟩) 1 1) (w.alloc (.cells #[.string a] 9)) := by go_simp
theorem bs_K (x : Lk) (w : World) : (Instr.buildSlice 53 1 #[(0, eK x)]).run Tryz.prog w = .ok (.slice (some ⟨w.heap.size, 0, none⟩) 1 1) (w.alloc (.cells (lkC x) 36)) := by unfold eK lkC; go_simp
theorem sl_S (a : ByteArray) (w : World) : SlK enS 1 (w.alloc (.cells #[.string a] 9)) (.slice (some ⟨w.heap.size, 0, none⟩) 1 1) [a] := ⟨_, _, rfl, Nat.le_refl _, fun _ => ⟨w.heap.size, 0, rfl, by simp, fun q y hq => by
 cases q with
 | zero =>
  have : y = a := by simpa using hq.symm
  subst this
  simpa [enS] using World.rangeAt_of_block (heap_alloc_new w (.cells #[.string y] 9)) 0 1
 | succ q => simp at hq⟩⟩
theorem sl_Kn (x : Lk) (w : World) : SlK enK 3 (w.alloc (.cells (lkC x) 36)) (.slice (some ⟨w.heap.size, 0, none⟩) 1 1) [x] := ⟨_, _, rfl, Nat.le_refl _, fun _ => ⟨w.heap.size, 0, rfl, by simp, fun q y hq => by
 cases q with
 | zero =>
  have : y = x := by simpa using hq.symm
  subst this
  simpa [enK, lkC] using World.rangeAt_of_block (heap_alloc_new w (.cells (lkC y) 36)) 0 3
 | succ q => simp at hq⟩⟩
theorem sizeRowS : (Tryz.prog.info? 32).map (·.size) = some 1 := by kernel_rfl
theorem sizeRowK : (Tryz.prog.info? 53).map (·.size) = some 1 := by kernel_rfl
section
variable {own own' : Nat → Option Tg} {R vb b1 b2 b3 b4 b5 : Nat} {X W : World} {V : Vw} {nv lv v : Value}
theorem VIs.above (h : VIs own R X vb V nv lv b1 b2 b3 b4 b5) : R ≤ X.heap.size := by
 have := h.lt vb (by rw [h.self]; simp)
 omega
theorem VIs.newlt (h : VIs own R X vb V nv lv b1 b2 b3 b4 b5) {S : Tg → Prop} (hT : Turns own own' S X W) : ∀ g, own' g ≠ none → R ≤ g ∧ g < W.heap.size := fun g e =>
 ⟨(hT.new g e).elim (fun e2 => (h.lt g e2).1) fun e2 => Nat.le_trans h.above e2, hT.lt h.bound g e⟩
theorem VIs.setNodes {l' : List ByteArray} (h : VIs own R X vb V nv lv b1 b2 b3 b4 b5) (hT : Turns own own' (fun u => u = .nodes) X W) (ho : OwnT own' .nodes enS R 9 1 W v l') :
  VIs own' R (W.setCell ⟨vb, 0, none⟩ v) vb { V with nodes := l' } v lv b1 b2 b3 b4 b5 ∧ Turns own own' (fun u => u = .nodes ∨ u = .self) X (W.setCell ⟨vb, 0, none⟩ v) := by
 have hs := hT.keep _ _ h.self
 have hB : Blk W vb 78 _ := (hT.same vb .self h.self (by simp)).trans h.blk
 have hT2 := Turns.but hs (hT.lt h.bound) (But.setCell W vb 0 v)
 have hT3 := hT.trans hT2
 refine ⟨⟨hs, by simpa using Blk.set_ hB 0 v, ho.turned hT2 (by simp), h.links.turned hT3 (by simp), ?_, ?_, ?_, ?_, ?_, h.newlt hT3⟩, hT3⟩
 ·obtain ⟨f, a, r⟩ := h.lab; exact ⟨f, a, r.turned hT3 (by simp) (by simp)⟩
 ·obtain ⟨f, a, r⟩ := h.out; exact ⟨f, a, r.turned hT3 (by simp) (by simp)⟩
 ·obtain ⟨f, a, r⟩ := h.inn; exact ⟨f, a, r.turned hT3 (by simp) (by simp)⟩
 ·exact h.part.turned hT3 (by simp) (by simp)
 ·obtain ⟨f, a, r⟩ := h.val; exact ⟨f, a, r.turned hT3 (by simp) (by simp)⟩
theorem VIs.setLinks {l' : List Lk} (h : VIs own R X vb V nv lv b1 b2 b3 b4 b5) (hT : Turns own own' (fun u => u = .links) X W) (ho : OwnT own' .links enK R 36 3 W v l') :
  VIs own' R (W.setCell ⟨vb, 1, none⟩ v) vb { V with links := l' } nv v b1 b2 b3 b4 b5 ∧ Turns own own' (fun u => u = .links ∨ u = .self) X (W.setCell ⟨vb, 1, none⟩ v) := by
 have hs := hT.keep _ _ h.self
 have hB : Blk W vb 78 _ := (hT.same vb .self h.self (by simp)).trans h.blk
 have hT2 := Turns.but hs (hT.lt h.bound) (But.setCell W vb 1 v)
 have hT3 := hT.trans hT2
 refine ⟨⟨hs, by simpa using Blk.set_ hB 1 v, h.nodes.turned hT3 (by simp), ho.turned hT2 (by simp), ?_, ?_, ?_, ?_, ?_, h.newlt hT3⟩, hT3⟩
 ·obtain ⟨f, a, r⟩ := h.lab; exact ⟨f, a, r.turned hT3 (by simp) (by simp)⟩
 ·obtain ⟨f, a, r⟩ := h.out; exact ⟨f, a, r.turned hT3 (by simp) (by simp)⟩
 ·obtain ⟨f, a, r⟩ := h.inn; exact ⟨f, a, r.turned hT3 (by simp) (by simp)⟩
 ·exact h.part.turned hT3 (by simp) (by simp)
 ·obtain ⟨f, a, r⟩ := h.val; exact ⟨f, a, r.turned hT3 (by simp) (by simp)⟩
theorem VIs.putLab {x : ByteArray} {l' : List ByteArray} (h : VIs own R X vb V nv lv b1 b2 b3 b4 b5) (hT : Turns own own' (fun u => u = .lab x) X W) (ho : OwnT own' (.lab x) enS R 9 1 W v l') :
  ∃ w2, (Instr.mapUpdate 73 (.map (some b1)) (eS x) v).run Tryz.prog W = .ok () w2 ∧ VIs own' R w2 vb { V with lab := updG V.lab x l' } nv lv b1 b2 b3 b4 b5 ∧ Turns own own' (fun u => u = .lab x ∨ u = .mlab) X w2 ∧ But b1 W w2 := by
 obtain ⟨f, ha, hr0⟩ := h.lab
 obtain ⟨w2, hr, hR2, hT3, hbut⟩ := hr0.put h.bound hT ho (by simp) (fun y z e => by cases e; rfl) keyS Tryz.underlying73
 refine ⟨w2, hr, ⟨hT3.keep _ _ h.self, (hT3.same vb .self h.self (by simp)).trans h.blk, h.nodes.turned hT3 (by simp), h.links.turned hT3 (by simp), ?_, ?_, ?_, ?_, ?_, h.newlt hT3⟩, hT3, hbut⟩
 ·refine ⟨_, fun y => ?_, hR2⟩
  unfold updG
  by_cases hy : y = x
  ·rw [if_pos hy]; exact (if_pos hy).symm
  ·rw [if_neg hy]; exact (ha y).trans (if_neg hy).symm
 ·obtain ⟨f, a, r⟩ := h.out; exact ⟨f, a, r.turned hT3 (by simp) (by simp)⟩
 ·obtain ⟨f, a, r⟩ := h.inn; exact ⟨f, a, r.turned hT3 (by simp) (by simp)⟩
 ·exact h.part.turned hT3 (by simp) (by simp)
 ·obtain ⟨f, a, r⟩ := h.val; exact ⟨f, a, r.turned hT3 (by simp) (by simp)⟩
theorem VIs.putOut {x : ByteArray} {l' : List Lk} (h : VIs own R X vb V nv lv b1 b2 b3 b4 b5) (hT : Turns own own' (fun u => u = .out x) X W) (ho : OwnT own' (.out x) enK R 36 3 W v l') :
  ∃ w2, (Instr.mapUpdate 74 (.map (some b2)) (eS x) v).run Tryz.prog W = .ok () w2 ∧ VIs own' R w2 vb { V with out := updG V.out x l' } nv lv b1 b2 b3 b4 b5 ∧ Turns own own' (fun u => u = .out x ∨ u = .mout) X w2 ∧ But b2 W w2 := by
 obtain ⟨f, ha, hr0⟩ := h.out
 obtain ⟨w2, hr, hR2, hT3, hbut⟩ := hr0.put h.bound hT ho (by simp) (fun y z e => by cases e; rfl) keyS Tryz.underlying74
 refine ⟨w2, hr, ⟨hT3.keep _ _ h.self, (hT3.same vb .self h.self (by simp)).trans h.blk, h.nodes.turned hT3 (by simp), h.links.turned hT3 (by simp), ?_, ?_, ?_, ?_, ?_, h.newlt hT3⟩, hT3, hbut⟩
 ·obtain ⟨f, a, r⟩ := h.lab; exact ⟨f, a, r.turned hT3 (by simp) (by simp)⟩
 ·refine ⟨_, fun y => ?_, hR2⟩
  unfold updG
  by_cases hy : y = x
  ·rw [if_pos hy]; exact (if_pos hy).symm
  ·rw [if_neg hy]; exact (ha y).trans (if_neg hy).symm
 ·obtain ⟨f, a, r⟩ := h.inn; exact ⟨f, a, r.turned hT3 (by simp) (by simp)⟩
 ·exact h.part.turned hT3 (by simp) (by simp)
 ·obtain ⟨f, a, r⟩ := h.val; exact ⟨f, a, r.turned hT3 (by simp) (by simp)⟩
theorem VIs.putInn {x : ByteArray} {l' : List Lk} (h : VIs own R X vb V nv lv b1 b2 b3 b4 b5) (hT : Turns own own' (fun u => u = .inn x) X W) (ho : OwnT own' (.inn x) enK R 36 3 W v l') :
  ∃ w2, (Instr.mapUpdate 74 (.map (some b3)) (eS x) v).run Tryz.prog W = .ok () w2 ∧ VIs own' R w2 vb { V with inn := updG V.inn x l' } nv lv b1 b2 b3 b4 b5 ∧ Turns own own' (fun u => u = .inn x ∨ u = .minn) X w2 ∧ But b3 W w2 := by
 obtain ⟨f, ha, hr0⟩ := h.inn
 obtain ⟨w2, hr, hR2, hT3, hbut⟩ := hr0.put h.bound hT ho (by simp) (fun y z e => by cases e; rfl) keyS Tryz.underlying74
 refine ⟨w2, hr, ⟨hT3.keep _ _ h.self, (hT3.same vb .self h.self (by simp)).trans h.blk, h.nodes.turned hT3 (by simp), h.links.turned hT3 (by simp), ?_, ?_, ?_, ?_, ?_, h.newlt hT3⟩, hT3, hbut⟩
 ·obtain ⟨f, a, r⟩ := h.lab; exact ⟨f, a, r.turned hT3 (by simp) (by simp)⟩
 ·obtain ⟨f, a, r⟩ := h.out; exact ⟨f, a, r.turned hT3 (by simp) (by simp)⟩
 ·refine ⟨_, fun y => ?_, hR2⟩
  unfold updG
  by_cases hy : y = x
  ·rw [if_pos hy]; exact (if_pos hy).symm
  ·rw [if_neg hy]; exact (ha y).trans (if_neg hy).symm
 ·exact h.part.turned hT3 (by simp) (by simp)
 ·obtain ⟨f, a, r⟩ := h.val; exact ⟨f, a, r.turned hT3 (by simp) (by simp)⟩
theorem VIs.putPart {x : El} {l' : List El} (h : VIs own R X vb V nv lv b1 b2 b3 b4 b5) (hT : Turns own own' (fun u => u = .part x) X W) (ho : OwnT own' (.part x) enL R 38 5 W v l') :
  ∃ w2, (Instr.mapUpdate 75 (.map (some b4)) (eE x) v).run Tryz.prog W = .ok () w2 ∧ VIs own' R w2 vb { V with part := updG V.part x (some l') } nv lv b1 b2 b3 b4 b5 ∧ Turns own own' (fun u => u = .part x ∨ u = .mpart) X w2 ∧ But b4 W w2 := by
 obtain ⟨w2, hr, hR2, hT3, hbut⟩ := h.part.put h.bound hT ho (by simp) (fun y z e => by cases e; rfl) keyE.toF Tryz.underlying75
 refine ⟨w2, hr, ⟨hT3.keep _ _ h.self, (hT3.same vb .self h.self (by simp)).trans h.blk, h.nodes.turned hT3 (by simp), h.links.turned hT3 (by simp), ?_, ?_, ?_, ?_, ?_, h.newlt hT3⟩, hT3, hbut⟩
 ·obtain ⟨f, a, r⟩ := h.lab; exact ⟨f, a, r.turned hT3 (by simp) (by simp)⟩
 ·obtain ⟨f, a, r⟩ := h.out; exact ⟨f, a, r.turned hT3 (by simp) (by simp)⟩
 ·obtain ⟨f, a, r⟩ := h.inn; exact ⟨f, a, r.turned hT3 (by simp) (by simp)⟩
 ·exact hR2
 ·obtain ⟨f, a, r⟩ := h.val; exact ⟨f, a, r.turned hT3 (by simp) (by simp)⟩
theorem VIs.putVal {x : El} {l' : List Va} (h : VIs own R X vb V nv lv b1 b2 b3 b4 b5) (hT : Turns own own' (fun u => u = .val x) X W) (ho : OwnT own' (.val x) enW R 43 3 W v l') :
  ∃ w2, (Instr.mapUpdate 76 (.map (some b5)) (eE x) v).run Tryz.prog W = .ok () w2 ∧ VIs own' R w2 vb { V with val := updG V.val x l' } nv lv b1 b2 b3 b4 b5 ∧ Turns own own' (fun u => u = .val x ∨ u = .mval) X w2 ∧ But b5 W w2 := by
 obtain ⟨f, ha, hr0⟩ := h.val
 obtain ⟨w2, hr, hR2, hT3, hbut⟩ := hr0.put h.bound hT ho (by simp) (fun y z e => by cases e; rfl) keyE.toF Tryz.underlying76
 refine ⟨w2, hr, ⟨hT3.keep _ _ h.self, (hT3.same vb .self h.self (by simp)).trans h.blk, h.nodes.turned hT3 (by simp), h.links.turned hT3 (by simp), ?_, ?_, ?_, ?_, ?_, h.newlt hT3⟩, hT3, hbut⟩
 ·obtain ⟨f, a, r⟩ := h.lab; exact ⟨f, a, r.turned hT3 (by simp) (by simp)⟩
 ·obtain ⟨f, a, r⟩ := h.out; exact ⟨f, a, r.turned hT3 (by simp) (by simp)⟩
 ·obtain ⟨f, a, r⟩ := h.inn; exact ⟨f, a, r.turned hT3 (by simp) (by simp)⟩
 ·exact h.part.turned hT3 (by simp) (by simp)
 ·refine ⟨_, fun y => ?_, hR2⟩
  unfold updG
  by_cases hy : y = x
  ·rw [if_pos hy]; exact (if_pos hy).symm
  ·rw [if_neg hy]; exact (ha y).trans (if_neg hy).symm
theorem VIs.lookLab (h : VIs own R X vb V nv lv b1 b2 b3 b4 b5) (x : ByteArray) : ∃ v, OwnT own (.lab x) enS R 9 1 X v (V.lab x) ∧ ∀ W, Below X.heap.size X W → (Instr.lookup 73 (.map (some b1)) (eS x) false).run Tryz.prog W = .ok v W := by
 obtain ⟨f, a, r⟩ := h.lab
 obtain ⟨v, h1, h2⟩ := r.look keyS Tryz.underlying73 zero_Ss x
 rw [a x] at h1
 exact ⟨v, h1, h2⟩
theorem VIs.lookOut (h : VIs own R X vb V nv lv b1 b2 b3 b4 b5) (x : ByteArray) : ∃ v, OwnT own (.out x) enK R 36 3 X v (V.out x) ∧ ∀ W, Below X.heap.size X W → (Instr.lookup 74 (.map (some b2)) (eS x) false).run Tryz.prog W = .ok v W := by
 obtain ⟨f, a, r⟩ := h.out
 obtain ⟨v, h1, h2⟩ := r.look keyS Tryz.underlying74 zero_Ks x
 rw [a x] at h1
 exact ⟨v, h1, h2⟩
theorem VIs.lookInn (h : VIs own R X vb V nv lv b1 b2 b3 b4 b5) (x : ByteArray) : ∃ v, OwnT own (.inn x) enK R 36 3 X v (V.inn x) ∧ ∀ W, Below X.heap.size X W → (Instr.lookup 74 (.map (some b3)) (eS x) false).run Tryz.prog W = .ok v W := by
 obtain ⟨f, a, r⟩ := h.inn
 obtain ⟨v, h1, h2⟩ := r.look keyS Tryz.underlying74 zero_Ks x
 rw [a x] at h1
 exact ⟨v, h1, h2⟩
theorem VIs.lookVal (h : VIs own R X vb V nv lv b1 b2 b3 b4 b5) (x : El) : ∃ v, OwnT own (.val x) enW R 43 3 X v (V.val x) ∧ ∀ W, Below X.heap.size X W → (Instr.lookup 76 (.map (some b5)) (eE x) false).run Tryz.prog W = .ok v W := by
 obtain ⟨f, a, r⟩ := h.val
 obtain ⟨v, h1, h2⟩ := r.look keyE.toF Tryz.underlying76 zero_Vs x
 rw [a x] at h1
 exact ⟨v, h1, h2⟩
theorem VIs.lookPart (h : VIs own R X vb V nv lv b1 b2 b3 b4 b5) (x : El) : ∃ v, OwnT own (.part x) enL R 38 5 X v ((V.part x).getD []) ∧ ∀ W, Below X.heap.size X W → (Instr.lookup 75 (.map (some b4)) (eE x) false).run Tryz.prog W = .ok v W :=
 h.part.look keyE.toF Tryz.underlying75 zero_Es x
end
end Go.Proofs.YtdgglhlofnigkaaGreatDoor
