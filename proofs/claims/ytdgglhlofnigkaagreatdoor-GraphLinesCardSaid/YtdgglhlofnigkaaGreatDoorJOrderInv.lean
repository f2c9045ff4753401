/-
  A REGION THAT DRAWS ITS ORDER, ITS OPERATIONS WRITING TO MEMORY. hedgerowref01.Elem. Conditions: lengths.
-/import Derived.Test.YtdgglhlofnigkaaGreatDoorOrder
import Derived.Test.YtdgglhlofnigkaaGreatDoorJValRefLink
namespace Go.Proofs.YtdgglhlofnigkaaGreatDoor
open Go.RowKit
section
variable {P : Program} {ops : Array Oper} {Q : Exit → Act → World → Prop} {md : Region.Mode}
structure Finds (md : Region.Mode) (ops : Array Oper) (a0 : Act) (i : Nat) (o : Oper) (L : Nat → Bool) (vals : Nat → Value) (a : Act) : Prop where
 it : ops[i]? = some o
 open_ : L i = false
 ahead : ∀ e ∈ o.after, Region.binds md e = true → L e.on = true
 closed : ∀ (j : Nat) (oj : Oper), ops[j]? = some oj → L j = true → ∀ e ∈ oj.after, Region.binds md e = true → L e.on = true
 slot : ∀ (j : Nat) (oj : Oper) (d : Tmp), ops[j]? = some oj → oj.dst = some d → L j = true → a.eval (.tmp d) = vals j
 old : ∀ d : Tmp, (ops.all fun o => o.dst != some d) = true → a.eval (.tmp d) = a0.eval (.tmp d)
def Leaves (Inv : (Nat → Bool) → (Nat → Value) → World → Prop) (i : Nat) (o : Oper) (L : Nat → Bool) (vals : Nat → Value) (a a' : Act) (w' : World) : Prop :=
 ∃ v, a' = a.put o.dst v ∧ ∀ L' : Nat → Bool, (∀ j, j ≠ i → L' j = L j) → L' i = true → Inv L' (fun j => if j = i then v else vals j) w'
theorem wpAny_inv (Inv : (Nat → Bool) → (Nat → Value) → World → Prop) (a0 : Act) (w0 : World)
  (hap : apartB ops = true) (hah : aheadB md ops = true) (hin : (List.range ops.size).all (fun i => match ops[i]? with | some o => (match o.dst with | some d => decide (d < a0.tmps.size) | none => true) | none => true) = true)
  (h0 : ∀ L : Nat → Bool, (∀ i, L i = false) → Inv L (fun _ => undef) w0)
  (hop : AllIdx (fun i o => ∀ (L : Nat → Bool) (vals : Nat → Value) (a : Act) (w : World), Finds md ops a0 i o L vals a → Inv L vals w → wpOp P ops Q i (Leaves Inv i o L vals a) a w) 0 ops.toList)
  (hend : ∀ L vals w, (∀ i, i < ops.size → L i = true) → Inv L vals w → Q .normal (layN ops (fun _ => true) vals (List.range ops.size) a0) w) :
  wpAny P md ops Q ops.size (Array.replicate ops.size false) a0 w0 := by
 have hap' := apartB_spec hap
 have hin' : ∀ (i : Nat) (o : Oper) (d : Tmp), ops[i]? = some o → o.dst = some d → d < a0.tmps.size := by
  intro i o d hi hd
  have hil : i < ops.size := (Array.getElem?_eq_some_iff.1 hi).1
  simp only [List.all_eq_true, List.mem_range] at hin
  have := hin i hil
  simpa [hi, hd] using this
 have hah' : ∀ (i : Nat) (o : Oper), ops[i]? = some o → ∀ e ∈ o.after, Region.binds md e = true → e.on < i := by
  intro i o hi e he hb
  have hil : i < ops.size := (Array.getElem?_eq_some_iff.1 hi).1
  simp only [aheadB, List.all_eq_true, List.mem_range] at hah
  have := hah i hil
  simp only [hi, Array.all_eq_true'] at this
  have := this e he
  simpa [hb] using this
 have fin : ∀ (listed : Array Bool) (vals : Nat → Value) (w : World), Inv (fun i => listed.getD i false) vals w → (∀ i, i < ops.size → listed.getD i false = true) →
   Q .normal (layN ops (fun i => listed.getD i false) vals (List.range ops.size) a0) w := by
  intro listed vals w hI hall
  have e : layN ops (fun i => listed.getD i false) vals (List.range ops.size) a0 = layN ops (fun _ => true) vals (List.range ops.size) a0 := by
   have : ∀ (is : List Nat) (a : Act), (∀ i ∈ is, i < ops.size) → layN ops (fun i => listed.getD i false) vals is a = layN ops (fun _ => true) vals is a := by
    intro is
    induction is with
    | nil => intro a _; rfl
    | cons i is ih =>
     intro a hm
     simp only [layN, hall i (hm i (by simp)), if_true]
     exact ih _ (fun j hj => hm j (List.mem_cons_of_mem _ hj))
   exact this _ _ (fun i hi => List.mem_range.1 hi)
  rw [e]
  exact hend _ vals w hall hI
 have none_ready : ∀ (listed : Array Bool), listed.size = ops.size → Region.ready md ops listed = [] → ∀ i, i < ops.size → listed.getD i false = true := by
  intro listed hls hr i
  induction i using Nat.strongRecOn with
  | ind i ih =>
   intro hi
   cases hl : listed.getD i false with
   | true => rfl
   | false =>
    exfalso
    have hm : i ∈ Region.ready md ops listed := by
     refine mem_ready.2 ⟨?_, ops[i], Array.getElem?_eq_getElem hi, fun e he hb => ?_⟩
     ·have : i < listed.size := by omega
      simp only [Array.getD, this] at hl ⊢
      simpa using hl
     ·have hlt := hah' i ops[i] (Array.getElem?_eq_getElem hi) e he hb
      exact ih e.on hlt (by omega)
    rw [hr] at hm
    cases hm
 have main : ∀ (fuel : Nat) (listed : Array Bool) (vals : Nat → Value) (w : World), listed.size = ops.size → Inv (fun i => listed.getD i false) vals w →
   (∀ (j : Nat) (oj : Oper), ops[j]? = some oj → listed.getD j false = true → ∀ e ∈ oj.after, Region.binds md e = true → listed.getD e.on false = true) →
   ((List.range ops.size).filter fun i => !listed.getD i false).length ≤ fuel → wpAny P md ops Q fuel listed (layN ops (fun i => listed.getD i false) vals (List.range ops.size) a0) w := by
  intro fuel
  induction fuel with
  | zero =>
   intro listed vals w hls hI hcl hc
   have hall : ∀ i, i < ops.size → listed.getD i false = true := by
    intro i hi
    cases hl : listed.getD i false with
    | true => rfl
    | false =>
     have : i ∈ (List.range ops.size).filter fun i => !listed.getD i false := List.mem_filter.2 ⟨List.mem_range.2 hi, by rw [hl]; rfl⟩
     have hpos := List.length_pos_of_mem this
     omega
   refine ⟨?_, fin listed vals w hI hall⟩
   cases hr : Region.ready md ops listed with
   | nil => rfl
   | cons j js =>
    exfalso
    have hj : j ∈ Region.ready md ops listed := by rw [hr]; simp
    obtain ⟨h1, o, ho, _⟩ := mem_ready.1 hj
    have hjl : j < ops.size := (Array.getElem?_eq_some_iff.1 ho).1
    have := hall j hjl
    have hjs : j < listed.size := by omega
    simp only [Array.getD, hjs] at h1 this
    simp_all
  | succ fuel ih =>
   intro listed vals w hls hI hcl hc
   refine ⟨fun hr => fin listed vals w hI (none_ready listed hls hr), fun i hi => ?_⟩
   obtain ⟨hun, o, ho, haft⟩ := mem_ready.1 hi
   have hil : i < ops.size := (Array.getElem?_eq_some_iff.1 ho).1
   have hil' : i < listed.size := by omega
   have hun' : listed.getD i false = false := by
    simp only [Array.getD, hil'] at hun ⊢
    simpa using hun
   have h1 := allIdx_get ops.toList 0 i o hop (by simpa using ho)
   rw [Nat.zero_add] at h1
   have hF : Finds md ops a0 i o (fun i => listed.getD i false) vals (layN ops (fun i => listed.getD i false) vals (List.range ops.size) a0) := by
    refine ⟨ho, hun', haft, hcl, ?_, ?_⟩
    ·intro j oj d hj hd hl
     have hjl : j < ops.size := (Array.getElem?_eq_some_iff.1 hj).1
     exact layN_at hap' hj hd hl (List.range ops.size) a0 (List.mem_range.2 hjl) List.nodup_range (hin' j oj d hj hd)
    ·intro d hd
     refine layN_other _ _ (fun j _ oj hoj _ => ?_)
     have hjl := (Array.getElem?_eq_some_iff.1 hoj)
     obtain ⟨hjl, rfl⟩ := hjl
     rw [Array.all_eq_true] at hd
     simpa using hd j hjl
   refine wpOp_mono ?_ (h1 _ vals _ w hF hI)
   rintro a' w' ⟨v, rfl, hI'⟩
   have e := lay_step (ops := ops) hap' (L := fun i => listed.getD i false) (L' := fun j => (listed.setIfInBounds i true).getD j false) (vals := vals) (vals' := fun j => if j = i then v else vals j) ho
    (fun j hj => by simp [Ne.symm hj]) (fun j hj => by simp [hj]) hun' (by simp [hil']) (List.range ops.size) a0 (List.mem_range.2 hil) List.nodup_range
   simp only [if_true] at e
   rw [e]
   refine ih (listed.setIfInBounds i true) (fun j => if j = i then v else vals j) w' (by simpa using hls) (hI' _ (fun j hj => by simp [Ne.symm hj]) (by simp [hil'])) ?_ ?_
   ·intro j oj hj hl e' he hb
    have step : ∀ k, listed.getD k false = true → (listed.setIfInBounds i true).getD k false = true := by
     intro k hk
     by_cases hki : k = i
     ·subst hki; simp [hil']
     ·simpa [Array.getElem?_setIfInBounds, Ne.symm hki] using hk
    by_cases hji : j = i
    ·subst hji
     have : oj = o := by rw [hj] at ho; exact Option.some.inj ho
     subst this
     exact step _ (haft e' he hb)
    ·refine step _ (hcl j oj hj ?_ e' he hb)
     simpa [Array.getElem?_setIfInBounds, Ne.symm hji] using hl
   ·have hsub : ((List.range ops.size).filter fun j => !(listed.setIfInBounds i true).getD j false).length < ((List.range ops.size).filter fun j => !listed.getD j false).length := by
     have h1 : ∀ (is : List Nat), is.Nodup → (is.filter fun j => !(listed.setIfInBounds i true).getD j false).length ≤ (is.filter fun j => !listed.getD j false).length ∧
       (i ∈ is → (is.filter fun j => !(listed.setIfInBounds i true).getD j false).length < (is.filter fun j => !listed.getD j false).length) := by
      intro is
      induction is with
      | nil => intro _; exact ⟨Nat.le_refl _, fun h => by simp at h⟩
      | cons j js ihs =>
       intro hnd
       rw [List.nodup_cons] at hnd
       obtain ⟨hle, hlt⟩ := ihs hnd.2
       by_cases hji : j = i
       ·subst hji
        have e1 : (!(listed.setIfInBounds j true).getD j false) = false := by simp [hil']
        have e2 : (!listed.getD j false) = true := by rw [hun']; rfl
        rw [List.filter_cons, List.filter_cons, if_neg (by rw [e1]; simp), if_pos e2]
        simp only [List.length_cons]
        exact ⟨by omega, fun _ => by omega⟩
       ·have e1 : (listed.setIfInBounds i true).getD j false = listed.getD j false := by simp [Ne.symm hji]
        rw [List.filter_cons, List.filter_cons, e1]
        split
        ·simp only [List.length_cons]
         refine ⟨by omega, fun hm => ?_⟩
         have : i ∈ js := by
          rcases List.mem_cons.1 hm with e | e
          ·exact absurd e.symm hji
          ·exact e
         have := hlt this
         omega
        ·refine ⟨hle, fun hm => ?_⟩
         rcases List.mem_cons.1 hm with e | e
         ·exact absurd e.symm hji
         ·exact hlt e
     exact (h1 _ List.nodup_range).2 (List.mem_range.2 hil)
    omega
 have := main ops.size (Array.replicate ops.size false) (fun _ => undef) w0 (by simp) (h0 _ (fun i => by by_cases hi : i < ops.size <;> simp [Array.getD, hi])) (fun j oj _ hl => by
   exfalso
   by_cases hi : j < ops.size <;> simp [Array.getD, hi] at hl) (Nat.le_trans (List.length_filter_le _ _) (by simp))
 rw [layN_none _ (fun i => by
  by_cases hi : i < ops.size <;> simp [Array.getD, hi])] at this
 exact this
theorem run_storerow_op {o : Oper} {ρ : Operand → Value} {w : World} {ty : TypeId} {x y : Operand} {g : Nat} {t : TypeId} {cs cs' : Array Value} (ho : o.op = .store ty x y) (hx : ρ x = .pointer (some ⟨g, 0, none⟩)) (hy : ρ y = .agg cs') (hb : w.heap[g]? = some (.cells cs t (0, 0)))
  (hi : (P.info? ty).map (·.size) = some cs'.size) (hs : cs.size = cs'.size) (h1 : cs'.all (·.oneCell') = true) : (execOp ρ o).run P w = .ok .skip (w.setRow g cs') := by
 unfold execOp
 simp only [ho, hx, hy, Instr.storeAt, Instr.sureAddr, Sem.run_bind, Sem.run_pure, Result.andThen_ok, run_storeVar_row w g t ty cs cs' hb hi hs h1]
end
open Lib (hid)
def elemN (k : Int) (na nb nc nd eb ec ed : Bool) : Bool := decide (1 ≤ k ∧ k ≤ 5) && (na && (if edgeB k then nb else eb) && (if edgeB k then nc else ec) && (if moreB k then nd else ed))
theorem elemB_N (k : Int) (a b c d : ByteArray) : elemB k a.data.toList b.data.toList c.data.toList d.data.toList = elemN k (nameB a.data.toList) (nameB b.data.toList) (nameB c.data.toList) (nameB d.data.toList) b.toList.isEmpty c.toList.isEmpty d.toList.isEmpty := by
 rw [Lib.toList_data b, Lib.toList_data c, Lib.toList_data d]; rfl
theorem run_loadstr_op {P : Program} {o : Oper} {ρ : Operand → Value} {w : World} {ty : TypeId} {x : Operand} {ad : Addr} {n : ByteArray} (ho : o.op = .load ty x) (hx : ρ x = .pointer (some ad)) (hu : P.underlying ty = some .string) (hc : w.cell? ad = some (.string n)) :
  (execOp ρ o).run P w = .ok (.value (.string n)) w := by
 unfold execOp
 have ha : (isAgg ty).run P w = .ok false w := by unfold isAgg; rw [Sem.run_bind, run_underlying hu w]; simp
 simp [ho, hx, Instr.loadAt, Instr.sureAddr, loadVar, ha, hc, go_sem]
theorem run_fieldAddr_any {P : Program} {o : Oper} {ρ : Operand → Value} {w : World} {ty : TypeId} {x : Operand} {ad : Addr} {k : Nat} {v : Value} (ho : o.op = .fieldAddr ty x k) (hx : ρ x = .pointer (some ad))
  (hr : (Instr.fieldAt ty (.pointer (some ad)) k).run P w = .ok v w) : (execOp ρ o).run P w = .ok (.value v) w := by
 unfold execOp
 simp [ho, hx, hr]
theorem refname_is (s : ByteArray) (hs : s.size ≤ 9223372036854775806) (w : World) : Calls Tryz.prog 112 #[.string s] w (Gives w (.bool (nameB s.data.toList))) :=
 (refname_any s w hs).mono fun _ _ ⟨h, hw⟩ => ⟨h, hw ▸ Below.refl _ _⟩
set_option maxRecDepth 100000 in
set_option maxHeartbeats 2000000 in
theorem refelem_any (k : Int) (sa sb sc sd : ByteArray) (w : World) (ha : sa.size ≤ 9223372036854775806) (hb : sb.size ≤ 9223372036854775806) (hc : sc.size ≤ 9223372036854775806) (hd : sd.size ≤ 9223372036854775806) :
  Calls Tryz.prog 80 #[elV k sa sb sc sd] w (Gives w (.bool (elemB k sa.data.toList sb.data.toList sc.data.toList sd.data.toList))) := by
 rw [elemB_N]
 obtain ⟨X, hX⟩ : ∃ X, X = w.alloc (.cells #[.int .i64 k, .string sa, .string sb, .string sc, .string sd] 38) := ⟨_, rfl⟩
 have hk : Blk X w.heap.size 38 #[.int .i64 k, .string sa, .string sb, .string sc, .string sd] := by rw [hX]; exact Blk.new _ _ _
 have hy : Below w.heap.size w X := by rw [hX]; exact (Below.refl _ _).alloc (Nat.le_refl _) _
 have HX := hid hX
 have K := hid hk
 have HY := hid hy
 have NA := hid (refname_is sa ha)
 have NB := hid (refname_is sb hb)
 have NC := hid (refname_is sc hc)
 have ND := hid (refname_is sd hd)
 clear hX hk hy ha hb hc hd
 generalize nameB sa.data.toList = na at *
 generalize nameB sb.data.toList = nb at *
 generalize nameB sc.data.toList = nc at *
 generalize nameB sd.data.toList = nd at *
 unfold elV
 go_enter Tryz.func80, Tryz.ntmps80
 go_upto_region 1 with fail
 rw [← HX.out]
 go_cut [3, 4, 5, 6] (fun x y z u W => x = .bool na ∧ y = .bool nb ∧ z = .bool nc ∧ u = .bool nd ∧ Below X.heap.size X W)
 case first =>
  refine wp_region_any (by kernel_rfl) ?_
  refine wpAny_below (fun i v _ => v = ([.pointer (some ⟨w.heap.size, 1, none⟩), .string sa, .bool na, .pointer (some ⟨w.heap.size, 2, none⟩), .string sb, .bool nb, .pointer (some ⟨w.heap.size, 3, none⟩), .string sc, .bool nc, .pointer (some ⟨w.heap.size, 4, none⟩), .string sd, .bool nd, .bool na, .bool nb, .bool nc, .bool nd] : List Value).getD i undef) _ X (by kernel_rfl) (by kernel_rfl) (by kernel_rfl) (fun i v w w' _ h => h) ?_ ?_
  ·refine ⟨?_, ?_, ?_, ?_, ?_, ?_, ?_, ?_, ?_, ?_, ?_, ?_, ?_, ?_, ?_, ?_, trivial⟩
   ·intro a W hI hun haft hi
    have e1 : a.eval (.tmp 1) = .pointer (some ⟨w.heap.size, 0, none⟩) := hun 1 (by kernel_rfl)
    exact b_same hi hI rfl _ (run_fieldAddr_any rfl e1 (by go_simp)) rfl
   ·intro a W hI hun haft hi
    have f0 : a.eval (.tmp 7) = .pointer (some ⟨w.heap.size, 1, none⟩) := haft ⟨0, .data⟩ (by simp) rfl _ _ rfl rfl
    exact b_same hi hI rfl _ (run_loadstr_op rfl f0 Tryz.underlying9 ((Blk.cell (Blk.below K.out hI (Blk.lt K.out)) 1).trans rfl)) rfl
   ·intro a W hI hun haft hi
    have f1 : a.eval (.tmp 8) = .string sa := haft ⟨1, .data⟩ (by simp) rfl _ _ rfl rfl
    refine b_call hi hI rfl _ _ (run_call_op (args := #[.string sa]) rfl (by simp [f1]) (by kernel_rfl)) ?_
    exact (NA.out W).mono fun e w' H => ⟨_, H.1, rfl, H.2⟩
   ·intro a W hI hun haft hi
    have e1 : a.eval (.tmp 1) = .pointer (some ⟨w.heap.size, 0, none⟩) := hun 1 (by kernel_rfl)
    exact b_same hi hI rfl _ (run_fieldAddr_any rfl e1 (by go_simp)) rfl
   ·intro a W hI hun haft hi
    have f3 : a.eval (.tmp 10) = .pointer (some ⟨w.heap.size, 2, none⟩) := haft ⟨3, .data⟩ (by simp) rfl _ _ rfl rfl
    exact b_same hi hI rfl _ (run_loadstr_op rfl f3 Tryz.underlying9 ((Blk.cell (Blk.below K.out hI (Blk.lt K.out)) 2).trans rfl)) rfl
   ·intro a W hI hun haft hi
    have f4 : a.eval (.tmp 11) = .string sb := haft ⟨4, .data⟩ (by simp) rfl _ _ rfl rfl
    refine b_call hi hI rfl _ _ (run_call_op (args := #[.string sb]) rfl (by simp [f4]) (by kernel_rfl)) ?_
    exact (NB.out W).mono fun e w' H => ⟨_, H.1, rfl, H.2⟩
   ·intro a W hI hun haft hi
    have e1 : a.eval (.tmp 1) = .pointer (some ⟨w.heap.size, 0, none⟩) := hun 1 (by kernel_rfl)
    exact b_same hi hI rfl _ (run_fieldAddr_any rfl e1 (by go_simp)) rfl
   ·intro a W hI hun haft hi
    have f6 : a.eval (.tmp 13) = .pointer (some ⟨w.heap.size, 3, none⟩) := haft ⟨6, .data⟩ (by simp) rfl _ _ rfl rfl
    exact b_same hi hI rfl _ (run_loadstr_op rfl f6 Tryz.underlying9 ((Blk.cell (Blk.below K.out hI (Blk.lt K.out)) 3).trans rfl)) rfl
   ·intro a W hI hun haft hi
    have f7 : a.eval (.tmp 14) = .string sc := haft ⟨7, .data⟩ (by simp) rfl _ _ rfl rfl
    refine b_call hi hI rfl _ _ (run_call_op (args := #[.string sc]) rfl (by simp [f7]) (by kernel_rfl)) ?_
    exact (NC.out W).mono fun e w' H => ⟨_, H.1, rfl, H.2⟩
   ·intro a W hI hun haft hi
    have e1 : a.eval (.tmp 1) = .pointer (some ⟨w.heap.size, 0, none⟩) := hun 1 (by kernel_rfl)
    exact b_same hi hI rfl _ (run_fieldAddr_any rfl e1 (by go_simp)) rfl
   ·intro a W hI hun haft hi
    have f9 : a.eval (.tmp 16) = .pointer (some ⟨w.heap.size, 4, none⟩) := haft ⟨9, .data⟩ (by simp) rfl _ _ rfl rfl
    exact b_same hi hI rfl _ (run_loadstr_op rfl f9 Tryz.underlying9 ((Blk.cell (Blk.below K.out hI (Blk.lt K.out)) 4).trans rfl)) rfl
   ·intro a W hI hun haft hi
    have f10 : a.eval (.tmp 17) = .string sd := haft ⟨10, .data⟩ (by simp) rfl _ _ rfl rfl
    refine b_call hi hI rfl _ _ (run_call_op (args := #[.string sd]) rfl (by simp [f10]) (by kernel_rfl)) ?_
    exact (ND.out W).mono fun e w' H => ⟨_, H.1, rfl, H.2⟩
   ·intro a W hI hun haft hi
    have f2 := haft ⟨2, .data⟩ (by simp) rfl _ _ rfl rfl
    exact b_same hi hI rfl _ (run_assign_op rfl f2) rfl
   ·intro a W hI hun haft hi
    have f5 := haft ⟨5, .data⟩ (by simp) rfl _ _ rfl rfl
    exact b_same hi hI rfl _ (run_assign_op rfl f5) rfl
   ·intro a W hI hun haft hi
    have f8 := haft ⟨8, .data⟩ (by simp) rfl _ _ rfl rfl
    exact b_same hi hI rfl _ (run_assign_op rfl f8) rfl
   ·intro a W hI hun haft hi
    have f11 := haft ⟨11, .data⟩ (by simp) rfl _ _ rfl rfl
    exact b_same hi hI rfl _ (run_assign_op rfl f11) rfl
  ·intro vals W hI hp
   have hl12 : vals 12 = .bool na := hp 12 (by decide)
   have hl13 : vals 13 = .bool nb := hp 13 (by decide)
   have hl14 : vals 14 = .bool nc := hp 14 (by decide)
   have hl15 : vals 15 = .bool nd := hp 15 (by decide)
   have HI := hid hI
   clear hp hI
   simp only [layN, layS, List.range, List.range.loop, if_true, Act.put, Nat.zero_add, Nat.reduceAdd, hl12, hl13, hl14, hl15]
   clear hl12 hl13 hl14 hl15
   go_wp2_with fail
   go_meet
   exact ⟨rfl, rfl, rfl, rfl, HI.out⟩
 case rest =>
  obtain ⟨rfl, rfl, rfl, rfl, hb⟩ := hcut
  have K2 := hid (Blk.below K.out hb (Blk.lt K.out))
  have Y2 := hid (HY.out.trans (hb.mono HY.out.size))
  clear hb K HY HX NA NB NC ND
  have c0 := Blk.cell K2.out 0
  have c2 := Blk.cell K2.out 2
  have c3 := Blk.cell K2.out 3
  have c4 := Blk.cell K2.out 4
  simp at c0 c2 c3 c4
  obtain ⟨eb, hb⟩ : ∃ q, sb.toList.isEmpty = q := ⟨_, rfl⟩
  obtain ⟨ec, hc⟩ : ∃ q, sc.toList.isEmpty = q := ⟨_, rfl⟩
  obtain ⟨ed, hd⟩ : ∃ q, sd.toList.isEmpty = q := ⟨_, rfl⟩
  have HE : Hid (elemN k na nb nc nd sb.toList.isEmpty sc.toList.isEmpty sd.toList.isEmpty = elemN k na nb nc nd eb ec ed) := hid (by rw [hb, hc, hd])
  by_cases hk : 1 ≤ k ∧ k ≤ 5
  ·have hk5 : k = 1 ∨ k = 2 ∨ k = 3 ∨ k = 4 ∨ k = 5 := by omega
   clear hk
   rcases hk5 with rfl | rfl | rfl | rfl | rfl
   ·cases na
    ·go_wp2
     go_ret
     exact ⟨by rw [HE.out]; first | rfl | (cases ed <;> rfl) | (cases nd <;> rfl), Y2.out⟩
    ·cases eb
     ·go_wp2
      go_ret
      exact ⟨by rw [HE.out]; first | rfl | (cases ed <;> rfl) | (cases nd <;> rfl), Y2.out⟩
     ·cases ec
      ·go_wp2
       go_ret
       exact ⟨by rw [HE.out]; first | rfl | (cases ed <;> rfl) | (cases nd <;> rfl), Y2.out⟩
      ·go_wp2
       go_ret
       exact ⟨by rw [HE.out]; first | rfl | (cases ed <;> rfl) | (cases nd <;> rfl), Y2.out⟩
   ·cases na
    ·go_wp2
     go_ret
     exact ⟨by rw [HE.out]; first | rfl | (cases ed <;> rfl) | (cases nd <;> rfl), Y2.out⟩
    ·cases eb
     ·go_wp2
      go_ret
      exact ⟨by rw [HE.out]; first | rfl | (cases ed <;> rfl) | (cases nd <;> rfl), Y2.out⟩
     ·cases ec
      ·go_wp2
       go_ret
       exact ⟨by rw [HE.out]; first | rfl | (cases ed <;> rfl) | (cases nd <;> rfl), Y2.out⟩
      ·go_wp2
       go_ret
       exact ⟨by rw [HE.out]; first | rfl | (cases ed <;> rfl) | (cases nd <;> rfl), Y2.out⟩
   ·cases na
    ·go_wp2
     go_ret
     exact ⟨by rw [HE.out]; first | rfl | (cases ed <;> rfl) | (cases nd <;> rfl), Y2.out⟩
    ·cases nb
     ·go_wp2
      go_ret
      exact ⟨by rw [HE.out]; first | rfl | (cases ed <;> rfl) | (cases nd <;> rfl), Y2.out⟩
     ·cases nc
      ·go_wp2
       go_ret
       exact ⟨by rw [HE.out]; first | rfl | (cases ed <;> rfl) | (cases nd <;> rfl), Y2.out⟩
      ·go_wp2
       go_ret
       exact ⟨by rw [HE.out]; first | rfl | (cases ed <;> rfl) | (cases nd <;> rfl), Y2.out⟩
   ·cases na
    ·go_wp2
     go_ret
     exact ⟨by rw [HE.out]; first | rfl | (cases ed <;> rfl) | (cases nd <;> rfl), Y2.out⟩
    ·cases eb
     ·go_wp2
      go_ret
      exact ⟨by rw [HE.out]; first | rfl | (cases ed <;> rfl) | (cases nd <;> rfl), Y2.out⟩
     ·cases ec
      ·go_wp2
       go_ret
       exact ⟨by rw [HE.out]; first | rfl | (cases ed <;> rfl) | (cases nd <;> rfl), Y2.out⟩
      ·go_wp2
       go_ret
       exact ⟨by rw [HE.out]; first | rfl | (cases ed <;> rfl) | (cases nd <;> rfl), Y2.out⟩
   ·cases na
    ·go_wp2
     go_ret
     exact ⟨by rw [HE.out]; first | rfl | (cases ed <;> rfl) | (cases nd <;> rfl), Y2.out⟩
    ·cases nb
     ·go_wp2
      go_ret
      exact ⟨by rw [HE.out]; first | rfl | (cases ed <;> rfl) | (cases nd <;> rfl), Y2.out⟩
     ·cases nc
      ·go_wp2
       go_ret
       exact ⟨by rw [HE.out]; first | rfl | (cases ed <;> rfl) | (cases nd <;> rfl), Y2.out⟩
      ·go_wp2
       go_ret
       exact ⟨by rw [HE.out]; first | rfl | (cases ed <;> rfl) | (cases nd <;> rfl), Y2.out⟩
  ·have g1 : (k == 1) = false := beq_eq_false_iff_ne.2 (by omega)
   have g2 : (k == 2) = false := beq_eq_false_iff_ne.2 (by omega)
   have g3 : (k == 3) = false := beq_eq_false_iff_ne.2 (by omega)
   have g4 : (k == 4) = false := beq_eq_false_iff_ne.2 (by omega)
   have g5 : (k == 5) = false := beq_eq_false_iff_ne.2 (by omega)
   have HF : Hid (elemN k na nb nc nd eb ec ed = false) := hid (by unfold elemN; rw [decide_eq_false hk]; rfl)
   clear hk
   go_wp2
   go_ret
   exact ⟨by rw [HE.out, HF.out]; rfl, Y2.out⟩
end Go.Proofs.YtdgglhlofnigkaaGreatDoor
