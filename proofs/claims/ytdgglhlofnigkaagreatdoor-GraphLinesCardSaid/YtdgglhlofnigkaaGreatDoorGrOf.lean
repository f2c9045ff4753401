/- graph.Of. -/import Derived.Test.YtdgglhlofnigkaaGreatDoorGrCmp
import Derived.Deep.CutBlock
namespace Go.Proofs.YtdgglhlofnigkaaGreatDoor
open Lib (hid)
open Go.RowKit Go.MapKept Go.Sort
def SizeV (V : Vw) (n : Nat) : Prop := V.nodes.length ≤ n ∧ V.links.length ≤ n ∧ (∀ key, (V.lab key).length ≤ n) ∧ ∀ x l, V.part x = some l → l.length ≤ n
theorem SizeV.up {V : Vw} {n m : Nat} (h : SizeV V n) (hm : n ≤ m) : SizeV V m := ⟨Nat.le_trans h.1 hm, Nat.le_trans h.2.1 hm, fun k => Nat.le_trans (h.2.2.1 k) hm, fun x l e => Nat.le_trans (h.2.2.2 x l e) hm⟩
theorem size_part {vals : El → List Va} {V : Vw} {n : Nat} (h : SizeV V n) (x y : El) : SizeV (partW vals V x y) (n + 1) := by
 unfold partW
 split
 ·exact h.up (by omega)
 ·rename_i ps hps
  refine ⟨by have := h.1; dsimp only; omega, by have := h.2.1; dsimp only; omega, fun k => by have := h.2.2.1 k; dsimp only; omega, fun z l e => ?_⟩
  dsimp only [updG] at e
  split at e
  ·have := Option.some.inj e
   rw [← this, List.length_append]
   have := h.2.2.2 _ _ hps
   simp only [List.length_cons, List.length_nil]; omega
  ·have := h.2.2.2 z l e; omega
theorem size_see {vals : El → List Va} {V : Vw} {n : Nat} (h : SizeV V n) (x : El) : SizeV (seeV vals V x) (n + 1) := by
 have h0 := h.up (Nat.le_succ n)
 have hnil : ∀ z l, updG V.part x (some []) z = some l → l.length ≤ n + 1 := fun z l e => by
  dsimp only [updG] at e
  split at e
  ·rw [← Option.some.inj e]; simp
  ·have := h.2.2.2 z l e; omega
 unfold seeV
 split
 ·exact ⟨by have := h.1; simp only [List.length_append, List.length_cons, List.length_nil]; omega, h0.2.1, h0.2.2.1, hnil⟩
 split
 ·split
  ·refine ⟨h0.1, h0.2.1, fun k => ?_, h0.2.2.2⟩
   dsimp only [updG]
   split
   ·have := h.2.2.1 x.a; simp only [List.length_append, List.length_cons, List.length_nil]; omega
   ·have := h.2.2.1 k; omega
  ·exact h0
 split
 ·split
  ·exact ⟨h0.1, by have := h.2.1; simp only [List.length_append, List.length_cons, List.length_nil]; omega, h0.2.2.1, hnil⟩
  ·exact h0
 split
 ·exact size_part h _ _
 split
 ·exact size_part h _ _
 ·exact h0
theorem size_no : SizeV noV 0 := ⟨Nat.le_refl _, Nat.le_refl _, fun _ => Nat.le_refl _, fun _ _ e => by cases e⟩
def foldV (vals : El → List Va) (es : List El) : Vw := es.foldl (seeV vals) noV
theorem foldV_next {vals : El → List Va} {es : List El} {j : Nat} {x : El} (h : es[j]? = some x) : foldV vals (es.take (j + 1)) = seeV vals (foldV vals (es.take j)) x := by
 unfold foldV
 rw [List.take_add_one, h, List.foldl_append]
 rfl
theorem size_fold (vals : El → List Va) (es : List El) : ∀ j, j ≤ es.length → SizeV (foldV vals (es.take j)) j
 | 0, _ => by rw [List.take_zero]; exact size_no
 | j + 1, h => by
  have hj : es[j]? = some (es[j]'h) := List.getElem?_eq_getElem h
  rw [foldV_next hj]
  exact size_see (size_fold vals es j (by omega)) _
def finV (V : Vw) : Vw := { V with links := sortK V.links, out := outL (sortK V.links), inn := innL (sortK V.links) }
def ViewOk (w w' : World) (vb : Nat) (V : Vw) : Prop := ∃ own nv lv b1 b2 b3 b4 b5, VIs own w.heap.size w' vb V nv lv b1 b2 b3 b4 b5 ∧ Below w.heap.size w w'
def madeW (w : World) : World := ((((w.alloc (.map #[] 0)).alloc (.map #[] 0)).alloc (.map #[] 0)).alloc (.map #[] 0)).alloc (.map #[] 0)
def viewW (w : World) : World := (madeW w).alloc (.cells #[.slice none 0 0, .slice none 0 0, .map (some w.heap.size), .map (some (w.heap.size + 1)), .map (some (w.heap.size + 2)), .map (some (w.heap.size + 3)), .map (some (w.heap.size + 4))] 78)
def ownV (p : Nat) (g : Nat) : Option Tg := if g = p then some .mlab else if g = p + 1 then some .mout else if g = p + 2 then some .minn else if g = p + 3 then some .mpart else if g = p + 4 then some .mval else if g = p + 5 then some .self else none
theorem madeW_size (w : World) : (madeW w).heap.size = w.heap.size + 5 := by simp [madeW]
theorem viewW_size (w : World) : (viewW w).heap.size = w.heap.size + 6 := by unfold viewW; simp [madeW_size]
theorem viewW_below (w : World) : Below w.heap.size w (viewW w) := by
 unfold viewW madeW
 refine Below.alloc ?_ (by simp; omega) _
 refine Below.alloc ?_ (by simp; omega) _
 refine Below.alloc ?_ (by simp; omega) _
 refine Below.alloc ?_ (by simp; omega) _
 refine Below.alloc ?_ (by simp) _
 exact (Below.refl _ _).alloc (Nat.le_refl _) _
theorem MapIs.up {α β : Type} {eK : α → Value} {eU : β → Value} {w : World} {b : Nat} {L : List (α × β)} (h : MapIs eK eU w b L) (o : Obj) : MapIs eK eU (w.alloc o) b L := h.same (heap_alloc_old w o h.lt)
theorem viewW_map (w : World) (k : Nat) (hk : k < 5) {α β : Type} (eK : α → Value) (eU : β → Value) : MapIs eK eU (viewW w) (w.heap.size + k) [] := by
 have : k = 0 ∨ k = 1 ∨ k = 2 ∨ k = 3 ∨ k = 4 := by omega
 unfold viewW madeW
 rcases this with rfl | rfl | rfl | rfl | rfl
 ·exact (((((MapIs.made eK eU w).up _).up _).up _).up _).up _
 ·have h := MapIs.made eK eU (w.alloc (.map #[] 0))
  rw [show (w.alloc (.map #[] 0)).heap.size = w.heap.size + 1 by simp] at h
  exact (((h.up _).up _).up _).up _
 ·have h := MapIs.made eK eU ((w.alloc (.map #[] 0)).alloc (.map #[] 0))
  rw [show ((w.alloc (.map #[] 0)).alloc (.map #[] 0)).heap.size = w.heap.size + 2 by simp] at h
  exact ((h.up _).up _).up _
 ·have h := MapIs.made eK eU (((w.alloc (.map #[] 0)).alloc (.map #[] 0)).alloc (.map #[] 0))
  rw [show (((w.alloc (.map #[] 0)).alloc (.map #[] 0)).alloc (.map #[] 0)).heap.size = w.heap.size + 3 by simp] at h
  exact (h.up _).up _
 ·have h := MapIs.made eK eU ((((w.alloc (.map #[] 0)).alloc (.map #[] 0)).alloc (.map #[] 0)).alloc (.map #[] 0))
  rw [show ((((w.alloc (.map #[] 0)).alloc (.map #[] 0)).alloc (.map #[] 0)).alloc (.map #[] 0)).heap.size = w.heap.size + 4 by simp] at h
  exact h.up _
theorem view_made (w : World) : VIs (ownV w.heap.size) w.heap.size (viewW w) (w.heap.size + 5) noV (.slice none 0 0) (.slice none 0 0) w.heap.size (w.heap.size + 1) (w.heap.size + 2) (w.heap.size + 3) (w.heap.size + 4) where
 self := by simp [ownV]
 blk := by
  have := Blk.new (madeW w) 78 #[.slice none 0 0, .slice none 0 0, .map (some w.heap.size), .map (some (w.heap.size + 1)), .map (some (w.heap.size + 2)), .map (some (w.heap.size + 3)), .map (some (w.heap.size + 4))]
  rw [madeW_size] at this
  exact this
 nodes := OwnT.nil_ _ _ _ _ _ _ _
 links := OwnT.nil_ _ _ _ _ _ _ _
 lab := ⟨_, fun _ => rfl, RowsIs.made _ _ (by simp [ownV]) (viewW_map w 0 (by decide) _ _)⟩
 out := ⟨_, fun _ => rfl, RowsIs.made _ _ (by simp [ownV]) (viewW_map w 1 (by decide) _ _)⟩
 inn := ⟨_, fun _ => rfl, RowsIs.made _ _ (by simp [ownV]) (viewW_map w 2 (by decide) _ _)⟩
 part := RowsIs.made _ _ (by simp [ownV]) (viewW_map w 3 (by decide) _ _)
 val := ⟨_, fun _ => rfl, RowsIs.made _ _ (by simp [ownV]) (viewW_map w 4 (by decide) _ _)⟩
 lt := fun g h => by
  rw [viewW_size]
  unfold ownV at h
  repeat' split at h
  all_goals first | exact absurd rfl h | omega
structure OfI (w : World) (sb : Nat) (F : Nat → Prop) (σ : List (El × List (Dt × Va))) (p vb b1 b2 b3 b4 b5 B : Nat) (v : Value) (acc : List (El × Value)) (V : Vw) (own : Nat → Option Tg) (nv lv : Value) (wr : World) : Prop where
 view : VIs own p wr vb V nv lv b1 b2 b3 b4 b5
 apart : ∀ i, F i → own i = none
 items : OwnK enI B 100 6 wr v acc
 far : ∀ g, v.ownBlock = some g → own g = none
 store : StoreIs wr sb F σ
 below : Below p w wr
section
variable {w w' wr X W : World} {sb p vb b1 b2 b3 b4 b5 B R : Nat} {F : Nat → Prop} {σ : List (El × List (Dt × Va))} {v nv lv : Value} {acc : List (El × Value)} {V V' : Vw} {own : Nat → Option Tg}
theorem OfI.keep (h : OfI w sb F σ p vb b1 b2 b3 b4 b5 B v acc V own nv lv wr) (hb : Below wr.heap.size wr w') : OfI w sb F σ p vb b1 b2 b3 b4 b5 B v acc V own nv lv w' :=
 ⟨h.view.keep hb, h.apart, h.items.keep hb, h.far, h.store.below hb, h.below.trans (hb.mono (h.view.above))⟩
theorem OfI.step (h : OfI w sb F σ p vb b1 b2 b3 b4 b5 B v acc V own nv lv wr) (hT : ViewT own p vb V' b1 b2 b3 b4 b5 wr w') : ∃ own' nv' lv', OfI w sb F σ p vb b1 b2 b3 b4 b5 B v acc V' own' nv' lv' w' := by
 obtain ⟨own', nv', lv', hV', hT⟩ := hT
 refine ⟨own', nv', lv', hV', fun i hi => (hT.other (h.store.2.1 i hi) (h.apart i hi)).2, h.items.same fun g hg => (hT.other (h.items.lt g hg).2 (h.far g hg)).1, fun g hg => (hT.other (h.items.lt g hg).2 (h.far g hg)).2,
  h.store.kept hT.out.size fun i hi => (hT.other (h.store.2.1 i hi) (h.apart i hi)).1, h.below.trans (hT.out.below h.view.above fun g hg => (h.view.lt g hg).1)⟩
theorem VIs.resort {l' : List Lk} (h : VIs own R X vb V nv lv b1 b2 b3 b4 b5) (ho : OwnK enK R 36 3 W lv l') (hO : Out (fun i => lv.ownBlock = some i) X W) : VIs own R W vb { V with links := l' } nv lv b1 b2 b3 b4 b5 ∧ Turns own own (fun u => u = .links) X W := by
 have hT : Turns own own (fun u => u = .links) X W := ⟨fun _ _ e => e, fun g u e hu => hO.block g (h.bound g (by rw [e]; simp)) fun e2 => hu (by have := h.links.2 g e2; rw [this] at e; exact (Option.some.inj e).symm), fun _ e => .inl e, fun hl g e => Nat.lt_of_lt_of_le (hl g e) hO.size,
  hO.mono fun i hi => by rw [h.links.2 i hi]; simp⟩
 refine ⟨⟨h.self, (hT.same vb .self h.self (by simp)).trans h.blk, h.nodes.turned hT (by simp), ⟨ho, h.links.2⟩, ?_, ?_, ?_, ?_, ?_, h.newlt hT⟩, hT⟩
 ·obtain ⟨f, a, r⟩ := h.lab; exact ⟨f, a, r.turned hT (by simp) (by simp)⟩
 ·obtain ⟨f, a, r⟩ := h.out; exact ⟨f, a, r.turned hT (by simp) (by simp)⟩
 ·obtain ⟨f, a, r⟩ := h.inn; exact ⟨f, a, r.turned hT (by simp) (by simp)⟩
 ·exact h.part.turned hT (by simp) (by simp)
 ·obtain ⟨f, a, r⟩ := h.val; exact ⟨f, a, r.turned hT (by simp) (by simp)⟩
end
theorem at_It0 (g c n k : Nat) (h : k < n) (w : World) : (Instr.indexAt 96 (.slice (some ⟨g, 0, none⟩) n c) (.int .i64 k)).run Tryz.prog w = .ok (.pointer (some ⟨g, k * 6, none⟩)) w := by
 have h2 : (k : Int) < n := by omega
 go_simp
theorem at_Lk0 (g c n k : Nat) (h : k < n) (w : World) : (Instr.indexAt 53 (.slice (some ⟨g, 0, none⟩) n c) (.int .i64 k)).run Tryz.prog w = .ok (.pointer (some ⟨g, k * 3, none⟩)) w := by
 have h2 : (k : Int) < n := by omega
 go_simp
theorem infoIz : (Tryz.prog.info? 100).map (fun i => (i.zero, i.size)) = some (some (.agg #[.int .i64 0, .string ⟨#[]⟩, .string ⟨#[]⟩, .string ⟨#[]⟩, .string ⟨#[]⟩, .slice none 0 0]), 6) := by kernel_rfl
theorem foldV_val (vals : El → List Va) (es : List El) : (foldV vals es).out = (fun _ => []) ∧ (foldV vals es).inn = fun _ => [] := by
 unfold foldV
 suffices h : ∀ (es : List El) (V : Vw), V.out = (fun _ => []) ∧ V.inn = (fun _ => []) → (es.foldl (seeV vals) V).out = (fun _ => []) ∧ (es.foldl (seeV vals) V).inn = fun _ => [] from h es noV ⟨rfl, rfl⟩
 intro es
 induction es with
 | nil => intro V h; exact h
 | cons x es ih =>
  intro V h
  refine ih _ ?_
  have hp : ∀ W y, (partW vals V W y).out = V.out ∧ (partW vals V W y).inn = V.inn := fun W y => by unfold partW; split <;> exact ⟨rfl, rfl⟩
  unfold seeV
  split
  ·exact h
  split
  ·split <;> exact h
  split
  ·split <;> exact h
  split
  ·rw [(hp _ _).1, (hp _ _).2]; exact h
  split
  ·rw [(hp _ _).1, (hp _ _).2]; exact h
  ·exact h
set_option maxRecDepth 100000 in
set_option maxHeartbeats 8000000 in
theorem ofP_any (sb : Nat) (F : Nat → Prop) (σ : List (El × List (Dt × Va))) (w : World) (hS : StoreIs w sb F σ) (hl : σ.length ≤ 1000000) (hr : ∀ x, (entS x σ).length ≤ 1000000) (hk : ∀ x ∈ keysL σ, 1 ≤ x.k ∧ x.k ≤ 5) :
  Calls Tryz.prog 32 #[.pointer (some ⟨sb, 0, none⟩)] w fun e w' => ∃ es vb, e = .returned (.pointer (some ⟨vb, 0, none⟩)) ∧ es.Perm (keysL σ) ∧ (es.Pairwise fun x y => ltOf cfE y x = false) ∧ ViewOk w w' vb (finV (foldV (valsS σ) es)) := by
 have HVm := hid (view_made w)
 have HBm := hid (viewW_below w)
 have HSm := hid (hS.below (viewW_below w))
 have HFa := hid (fun i (hi : F i) => show ownV w.heap.size i = none from by
  have h := hS.2.1 i hi
  unfold ownV
  rw [if_neg (by omega), if_neg (by omega), if_neg (by omega), if_neg (by omega), if_neg (by omega), if_neg (by omega)])
 obtain ⟨p, hp⟩ : ∃ p, w.heap.size = p := ⟨_, rfl⟩
 obtain ⟨M, hM⟩ : ∃ M, M = viewW w := ⟨_, rfl⟩
 rw [hp, ← hM] at HVm
 rw [← hM] at HBm HSm
 rw [hp] at HFa
 have HP := hid hp
 have HMM := hid (show M = (((((w.alloc (.map #[] 0)).alloc (.map #[] 0)).alloc (.map #[] 0)).alloc (.map #[] 0)).alloc (.map #[] 0)).alloc (.cells #[.slice none 0 0, .slice none 0 0, .map (some p), .map (some (p + 1)), .map (some (p + 2)), .map (some (p + 3)), .map (some (p + 4))] 78) from by rw [hM, ← hp]; rfl)
 have HL := hid hl
 have HR := hid hr
 have HK := hid hk
 clear hS hl hr hk hp hM
 go_enter Tryz.func32, Tryz.ntmps32
 have hmk := fun t w => run_makeMap (P := Tryz.prog) t w
 go_upto_region 2 with fail
 rw [HP.out]
 simp only [Nat.add_assoc, Nat.reduceAdd]
 rw [← HMM.out]
 clear hmk HMM
 generalize p + 1 = b2 at HVm ⊢
 generalize p + 2 = b3 at HVm ⊢
 generalize p + 3 = b4 at HVm ⊢
 generalize p + 4 = b5 at HVm ⊢
 generalize p + 5 = vb at HVm ⊢
 go_wp2_with fail
 refine (all_any sb F σ M HSm.out HL.out HR.out).mono ?_
 rintro e W1 ⟨v16, es, rfl, hes, hsrt, ⟨acc, hacc, hmap, hrows⟩, hb1⟩
 have hal : acc.length = es.length := by rw [← hmap, List.length_map]
 have hell : es.length ≤ 1000000 := by
  have h1 := hes.length_eq
  have h2 := HL.out
  simp [keysL] at h1
  omega
 obtain ⟨A16, c16, rfl, _, _⟩ := hacc.read enI_len
 obtain ⟨B, hB⟩ : ∃ B, M.heap.size = B := ⟨_, rfl⟩
 have HI0 := hid (show OfI w sb F σ p vb p b2 b3 b4 b5 B (.slice A16 acc.length c16) acc noV (ownV p) (.slice none 0 0) (.slice none 0 0) W1 from
  ⟨HVm.out.keep hb1, HFa.out, hB ▸ hacc, fun g hg => Classical.byContradiction fun e => by have h1 := HVm.out.bound g e; have h2 := (hacc.lt g hg).1; omega, HSm.out.below hb1, by have := HBm.out; rw [HP.out] at this; exact this.trans (hb1.mono HVm.out.above)⟩)
 obtain ⟨N, hN⟩ : ∃ N, acc.length = N := ⟨_, rfl⟩
 have hesN : es.length = N := by rw [← hal, hN]
 have HRw := hid (fun x rv (h : (x, rv) ∈ acc) => RowIs.slice (hrows (x, rv) h))
 have HEs := hid hes
 have HSr := hid hsrt
 have HMp := hid hmap
 have HAl := hid hN
 have HEN := hid hesN
 have hN6 : N ≤ 1000000 := by omega
 have HN6 := hid hN6
 rw [hN] at HI0
 rw [hN]
 clear hes hsrt hmap hrows hacc hb1 hal hell hB HVm HSm HFa HBm hN hesN hN6
 go_wp2_with fail
 go_loopw [18] (fun v18 wr => ∃ j : Nat, v18 = .int .i64 j ∧ j ≤ N ∧ ∃ own nv lv, OfI w sb F σ p vb p b2 b3 b4 b5 B (.slice A16 N c16) acc (foldV (valsS σ) (es.take j)) own nv lv wr) (fun v18 _ => N - (intOf v18).toNat)
 case atStart => exact ⟨0, rfl, Nat.zero_le _, _, _, _, HI0.out⟩
 case round =>
  obtain ⟨j, rfl, hj, own, nv, lv, hI⟩ := hrel
  obtain ⟨wp, rfl⟩ : ∃ wp, wp = wr := ⟨_, rfl⟩
  by_cases hlt : j < N
  ·obtain ⟨⟨x, rv⟩, hxr⟩ : ∃ y, acc[j]? = some y := ⟨acc[j]'(by rw [HAl.out]; exact hlt), List.getElem?_eq_getElem _⟩
   have hxe : es[j]? = some x := by
    have := congrArg (fun t => t[j]?) HMp.out
    simp only [List.getElem?_map, hxr, Option.map_some] at this
    exact this.symm
   obtain ⟨Ar, nr, cr, rfl⟩ := HRw.out x rv (List.mem_of_getElem? hxr)
   obtain ⟨g, rfl, _, _, hce⟩ := hI.items.at_ enI_len hxr
   have HAt := hid (at_It0 g c16 N j hlt wp)
   have HCe := hid (show wp.rangeAt g (j * 6) [.int .i64 x.k, .string x.a, .string x.b, .string x.c, .string x.d, .slice Ar nr cr] from hce)
   obtain ⟨X, hX⟩ : ∃ X, X = wp.alloc (.cells #[.int .i64 x.k, .string x.a, .string x.b, .string x.c, .string x.d, .slice Ar nr cr] 100) := ⟨_, rfl⟩
   have hbX : Below wp.heap.size wp X := by rw [hX]; exact (Below.refl _ _).alloc (Nat.le_refl _) _
   obtain ⟨q, hq⟩ : ∃ q, wp.heap.size = q := ⟨_, rfl⟩
   have hEX : Blk X q 100 #[.int .i64 x.k, .string x.a, .string x.b, .string x.c, .string x.d, .slice Ar nr cr] := by rw [hX, ← hq]; exact Blk.new _ _ _
   have HCx := hid (show X.rangeAt q 0 [.int .i64 x.k, .string x.a, .string x.b, .string x.c, .string x.d] from by
    have h := World.rangeAt_of_block hEX 0 5
    simpa using h)
   have HIX := hid (hI.keep hbX)
   have hsz := (size_fold (valsS σ) es j (by rw [HEN.out]; exact hj)).up (m := 1000000) (by have := HN6.out; omega)
   have hkx := HK.out x (HEs.out.mem_iff.1 (List.mem_of_getElem? hxe))
   have HSee := hid (see_any x hkx.1 hkx.2 sb F σ X HIX.out.view HIX.out.store HIX.out.apart (HR.out x) hsz)
   have HNx := hid (foldV_next (vals := valsS σ) hxe)
   unfold SeeQ eE elV at HSee
   have HXe := hid hX
   have HQ := hid hq
   have hz := (zero_of_info infoIz).1
   have hw := IntWalk.i64_in ((j : Int) + 1) (by have := HN6.out; omega)
   have hjm : ¬ 9223372036854775807 < j + 1 := by have := HN6.out; omega
   have HJ1 := hid hjm
   have HW1 := hid hw
   clear hX hbX hEX hce hxe hxr hsz hkx hI hq hw hjm
   go_upto_region 5 with (first
    | (refine wpList_val (o := ⟨some 20, _, _, _, _, _⟩) rfl (.pointer (some ⟨g, j * 6, none⟩)) wp (run_indexAddr_op rfl rfl rfl HAt.out) ?_)
    | (refine wpList_load_midif rfl 100 (.tmp 20) rfl g (j * 6) rfl [.int .i64 x.k, .string x.a, .string x.b, .string x.c, .string x.d, .slice Ar nr cr] _ HCe.out Tryz.underlying100 rfl (by kernel_rfl) ?_)
    | fail)
   clear hz
   rw [HQ.out, ← HXe.out]
   go_wp2_with (first
    | (refine wpList_load_midif rfl 38 (.tmp 23) rfl q 0 rfl [.int .i64 x.k, .string x.a, .string x.b, .string x.c, .string x.d] _ HCx.out Tryz.underlying38 rfl (by kernel_rfl) ?_)
    | fail)
   refine HSee.out.mono ?_
   rintro e W2 ⟨rfl, hvt⟩
   obtain ⟨own', nv', lv', hI'⟩ := HIX.out.step hvt
   have HI' := hid hI'
   clear hvt hI'
   have hw := HW1.out
   have hjm := HJ1.out
   go_wp2
   go_roundw
   case rel => exact ⟨j + 1, by go_num, by omega, own', nv', lv', by rw [HNx.out]; exact HI'.out⟩
   case measure => simp [intOf] <;> omega
  ·have hjN : N = j := by omega
   subst hjN
   have hes0 : es.take N = es := by rw [← HEN.out, List.take_length]
   rw [hes0] at hI
   have hszv := size_fold (valsS σ) es N (by rw [HEN.out]; exact Nat.le_refl _)
   rw [hes0] at hszv
   have HFv := hid (foldV_val (valsS σ) es)
   obtain ⟨V0, hV0⟩ : ∃ V0, foldV (valsS σ) es = V0 := ⟨_, rfl⟩
   rw [hV0] at hI hszv HFv
   have HV0e := hid hV0
   obtain ⟨A, c, rfl, _, _⟩ := hI.view.links.1.read enK_len
   obtain ⟨n, hn⟩ : ∃ n, V0.links.length = n := ⟨_, rfl⟩
   have HVv := hid hI.view
   have HBv := hid hI.below
   have HSrt := hid (sortK_any V0.links (.slice A V0.links.length c) p wp hI.view.links.1 (by have h1 := hszv.2.1; have h2 := HN6.out; omega))
   rw [hn] at HVv HSrt
   have HNn := hid hn
   have HNl := hid (show n ≤ 1000000 by have h1 := hszv.2.1; have h2 := HN6.out; omega)
   have c1 : wp.cell? ⟨vb, 1, none⟩ = some (.slice A n c) := (Blk.cell HVv.out.blk 1).trans rfl
   clear hI hszv hes0 hV0 hn hj hlt
   go_wp2_with fail
   refine HSrt.out.mono ?_
   rintro e W3 ⟨rfl, ls, hpm, hst, hol, hout⟩
   have hls : ls = sortK V0.links := sortK_unique hpm hst
   obtain ⟨hV3, hT3⟩ := HVv.out.resort hol hout
   have hln : ls.length = n := by rw [hpm.length_eq]; exact HNn.out
   have HLn := hid hln
   have HLs := hid hls
   have HV3 := hid hV3
   have HB3 := hid (HBv.out.trans (hT3.out.below HVv.out.above fun g hg => (HVv.out.lt g hg).1))
   have c1' : W3.cell? ⟨vb, 1, none⟩ = some (.slice A n c) := (Blk.cell hV3.blk 1).trans rfl
   clear c1 hpm hst hol hout hls hV3 hT3 hln HSrt HVv HBv
   go_wp2_with fail
   clear c1'
   go_loopw [38] (fun v38 wr => ∃ k : Nat, v38 = .int .i64 k ∧ k ≤ n ∧ ∃ own nv, VIs own p wr vb { V0 with links := ls, out := outL (ls.take k), inn := innL (ls.take k) } nv (.slice A n c) p b2 b3 b4 b5 ∧ Below p w wr) (fun v38 _ => n - (intOf v38).toNat)
   case atStart => exact ⟨0, rfl, Nat.zero_le _, _, _, by
    have h := HV3.out
    have he : ({ V0 with links := ls, out := outL (ls.take 0), inn := innL (ls.take 0) } : Vw) = { V0 with links := ls } := by
     rw [List.take_zero]
     refine Vw.ext' rfl rfl (fun _ => rfl) (fun y => ?_) (fun y => ?_) (fun _ => rfl) (fun _ => rfl)
     ·dsimp only; rw [HFv.out.1]; rfl
     ·dsimp only; rw [HFv.out.2]; rfl
    rw [he]; exact h, HB3.out⟩
   case round =>
    obtain ⟨k, rfl, hk, own, nv, hV, hB⟩ := hrel
    obtain ⟨wp, rfl⟩ : ∃ wp, wp = wr := ⟨_, rfl⟩
    by_cases hlt : k < n
    ·obtain ⟨x, hx⟩ : ∃ x, ls[k]? = some x := ⟨ls[k]'(by rw [HLn.out]; exact hlt), List.getElem?_eq_getElem _⟩
     obtain ⟨g, rfl, _, _, hce⟩ := hV.links.1.at_ enK_len hx
     obtain ⟨A, hA⟩ : ∃ A : Option Addr, A = some ⟨g, 0, none⟩ := ⟨_, rfl⟩
     have HAt := hid (at_Lk0 g c n k hlt wp)
     rw [← hA] at HAt
     have HCe := hid (show wp.rangeAt g (k * 3) [.string x.f, .string x.t, .string x.y] from hce)
     have hou : (outL (ls.take k) x.f).length ≤ 1000000 := by
      have h1 := List.length_filter_le (fun y : Lk => decide (y.f = x.f)) (ls.take k)
      have h2 := List.length_take_le k ls
      have h3 := HNl.out
      unfold outL; omega
     have hin : (innL (ls.take k) x.t).length ≤ 1000000 := by
      have h1 := List.length_filter_le (fun y : Lk => decide (y.t = x.t)) (ls.take k)
      have h2 := List.length_take_le k ls
      have h3 := HNl.out
      unfold innL; omega
     have htk : ls.take (k + 1) = ls.take k ++ [x] := by rw [List.take_add_one, hx]; rfl
     have HNext := hid (show ({ V0 with links := ls, out := outL (ls.take (k + 1)), inn := innL (ls.take (k + 1)) } : Vw) = { V0 with links := ls, out := updG (outL (ls.take k)) x.f (outL (ls.take k) x.f ++ [x]), inn := updG (innL (ls.take k)) x.t (innL (ls.take k) x.t ++ [x]) } by rw [htk, outL_snoc, innL_snoc])
     obtain ⟨V, hVd⟩ : ∃ V : Vw, V = { V0 with links := ls, out := outL (ls.take k), inn := innL (ls.take k) } := ⟨_, rfl⟩
     rw [← hVd, ← hA] at hV
     have HSz := hid (show (V.out x.f).length ≤ 1000000 by rw [hVd]; exact hou)
     have HSzi := hid (show (V.inn x.t).length ≤ 1000000 by rw [hVd]; exact hin)
     have HVd := hid hVd
     have HNext2 := hid (show ({ V0 with links := ls, out := outL (ls.take (k + 1)), inn := innL (ls.take (k + 1)) } : Vw) = { V with out := updG V.out x.f (V.out x.f ++ [x]), inn := updG V.inn x.t (V.inn x.t ++ [x]) } by rw [HNext.out, hVd])
     obtain ⟨X, hX⟩ : ∃ X, X = wp.alloc (.cells #[.string x.f, .string x.t, .string x.y] 36) := ⟨_, rfl⟩
     have hbX : Below wp.heap.size wp X := by rw [hX]; exact (Below.refl _ _).alloc (Nat.le_refl _) _
     obtain ⟨q, hq⟩ : ∃ q, wp.heap.size = q := ⟨_, rfl⟩
     have HE := hid (show Blk X q 36 #[.string x.f, .string x.t, .string x.y] by rw [hX, ← hq]; exact Blk.new _ _ _)
     have HNq := hid (show own q = none from Classical.byContradiction fun e => by have := hV.bound q e; omega)
     have HV := hid (hV.keep hbX)
     have HBX := hid (hB.trans (hbX.mono hV.above))
     have HXe := hid hX
     have HQ := hid hq
     have HAe := hid hA
     have hz := (zero_of_info infoKz).1
     have hw := IntWalk.i64_in ((k : Int) + 1) (by have := HNl.out; omega)
     have hjm : ¬ 9223372036854775807 < k + 1 := by have := HNl.out; omega
     have HJ1 := hid hjm
     have HW1 := hid hw
     clear hX hbX hce hx hV hB hq hw hjm hou hin htk hVd HNext hA
     rw [← HAe.out]
     go_upto_region 11 with (first
      | (refine wpList_val (o := ⟨some 40, _, _, _, _, _⟩) rfl (.pointer (some ⟨g, k * 3, none⟩)) wp (run_indexAddr_op rfl rfl rfl HAt.out) ?_)
      | (refine wpList_load_midif rfl 36 (.tmp 40) rfl g (k * 3) rfl [.string x.f, .string x.t, .string x.y] _ HCe.out Tryz.underlying36 rfl (by kernel_rfl) ?_)
      | fail)
     clear hz
     rw [HQ.out, ← HXe.out]
     obtain ⟨vo, hvo, hlk⟩ := HV.out.lookOut x.f
     obtain ⟨A2, c2, rfl, _⟩ := hvo.1.read enK_len
     obtain ⟨n2, hn2⟩ : ∃ n2, (V.out x.f).length = n2 := ⟨_, rfl⟩
     rw [hn2] at hvo hlk
     have HLk := hid hlk
     have HO := hid hvo
     clear hvo hlk hn2
     have HC := hid (show ∀ W, (Below X.heap.size X W ∨ ∃ v, (fun v W => (Blk W vb 78 #[nv, .slice A n c, .map (some p), .map (some b2), .map (some b3), .map (some b4), .map (some b5)] ∧ Blk W q 36 #[.string x.f, .string x.t, .string x.y]) ∧ ∃ own', OwnT own' (.out x.f) enK p 36 3 W v (V.out x.f ++ [x]) ∧ Turns own own' (fun u => u = .out x.f) X W) v W) → Blk W vb 78 #[nv, .slice A n c, .map (some p), .map (some b2), .map (some b3), .map (some b4), .map (some b5)] ∧ Blk W q 36 #[.string x.f, .string x.t, .string x.y] from fun W hW => hW.elim (fun h => ⟨HV.out.blk.below h HV.out.blk.lt, HE.out.below h HE.out.lt⟩) fun ⟨_, h, _⟩ => h)
     refine wp_region_any (by kernel_rfl) ?_
     refine Lt.wpAny_chg (fun i => [0, 1, 2, 3, 4, 5].contains i) (fun i uq wq => if i = 14 then SlK enK 3 wq uq [x] else uq = ([.pointer (some ⟨vb, 0, none⟩), .pointer (some ⟨vb, 0, none⟩), .pointer (some ⟨vb, 3, none⟩), .map (some b2), .pointer (some ⟨q, 0, none⟩), .string x.f, .pointer (some ⟨vb, 0, none⟩), .pointer (some ⟨vb, 0, none⟩), .pointer (some ⟨vb, 3, none⟩), .map (some b2), .pointer (some ⟨q, 0, none⟩), .string x.f, .slice A2 n2 c2, .agg #[.string x.f, .string x.t, .string x.y], undef, undef, undef] : List Value).getD i undef) _ X 15 16 _ _ (fun v W => (Blk W vb 78 #[nv, .slice A n c, .map (some p), .map (some b2), .map (some b3), .map (some b4), .map (some b5)] ∧ Blk W q 36 #[.string x.f, .string x.t, .string x.y]) ∧ ∃ own', OwnT own' (.out x.f) enK p 36 3 W v (V.out x.f ++ [x]) ∧ Turns own own' (fun u => u = .out x.f) X W) (fun W => ∃ own', VIs own' p W vb { V with out := updG V.out x.f (V.out x.f ++ [x]) } nv (.slice A n c) p b2 b3 b4 b5 ∧ Turns own own' (fun u => u = .out x.f ∨ u = .mout) X W ∧ Blk W q 36 #[.string x.f, .string x.t, .string x.y]) (by kernel_rfl) (by decide) rfl rfl rfl (by kernel_rfl) (by kernel_rfl) (by kernel_rfl) (by kernel_rfl) (by kernel_rfl) (fun i v w w' hb h => by
       by_cases h14 : i = 14
       ·rw [if_pos h14] at h ⊢; exact SlK.below h hb
       rw [if_neg h14] at h ⊢
       exact h) (fun i v w w' hp h => ?_) ?_ ?_ ?_ ?_ ?_
     ·have : i = 0 ∨ i = 1 ∨ i = 2 ∨ i = 3 ∨ i = 4 ∨ i = 5 := by simpa using hp
      rcases this with rfl | rfl | rfl | rfl | rfl | rfl <;> exact h
     ·refine ⟨?_, ?_, ?_, ?_, ?_, ?_, ?_, ?_, ?_, ?_, ?_, ?_, ?_, ?_, ?_, ?_, ?_, trivial⟩
      ·exact fun _ _ h => absurd h (by decide)
      ·exact fun _ _ h => absurd h (by decide)
      ·exact fun _ _ h => absurd h (by decide)
      ·exact fun _ _ h => absurd h (by decide)
      ·exact fun _ _ h => absurd h (by decide)
      ·exact fun _ _ h => absurd h (by decide)
      ·intro _ _ _ a W hI hun haft hi
       have e3 := hun 3 (by kernel_rfl)
       exact b_same hi hI rfl _ (run_move_op rfl e3) rfl
      ·intro _ _ _ a W hI hun haft hi
       have f6 := haft ⟨6, .data⟩ (by simp) rfl _ _ rfl rfl
       exact b_same hi hI rfl _ (run_nilCheck_op rfl f6) rfl
      ·intro _ _ _ a W hI hun haft hi
       have f7 := haft ⟨7, .data⟩ (by simp) rfl _ _ rfl rfl
       exact b_same hi hI rfl _ (run_fieldAddr_any rfl f7 (at_view3 _ 0 _)) rfl
      ·intro _ _ _ a W hI hun haft hi
       obtain ⟨kv, ke⟩ := HC.out W (.inl hI)
       have f8 : a.eval (.tmp 50) = .pointer (some ⟨vb, 3, none⟩) := haft ⟨8, .data⟩ (by simp) rfl _ _ rfl rfl
       exact b_same hi hI rfl _ (run_loadmap_op rfl f8 Tryz.underlying74 ((Blk.cell kv 3).trans rfl)) rfl
      ·intro _ _ _ a W hI hun haft hi
       have e7 := hun 7 (by kernel_rfl)
       exact b_same hi hI rfl _ (run_fieldAddr_any rfl e7 (at_link0 _ 0 _)) rfl
      ·intro _ _ _ a W hI hun haft hi
       obtain ⟨kv, ke⟩ := HC.out W (.inl hI)
       have f10 : a.eval (.tmp 52) = .pointer (some ⟨q, 0, none⟩) := haft ⟨10, .data⟩ (by simp) rfl _ _ rfl rfl
       exact b_same hi hI rfl _ (run_loadstr_op rfl f10 Tryz.underlying9 ((Blk.cell ke 0).trans rfl)) rfl
      ·intro _ _ _ a W hI hun haft hi
       obtain ⟨kv, ke⟩ := HC.out W (.inl hI)
       have f9 := haft ⟨9, .data⟩ (by simp) rfl _ _ rfl rfl
       have f11 := haft ⟨11, .data⟩ (by simp) rfl _ _ rfl rfl
       exact b_same hi hI rfl _ (run_lookup_op rfl f9 f11 (HLk.out W hI)) rfl
      ·intro _ _ _ a W hI hun haft hi
       obtain ⟨kv, ke⟩ := HC.out W (.inl hI)
       have e7 := hun 7 (by kernel_rfl)
       exact b_same hi hI rfl _ (run_load_op rfl e7 (ke) Tryz.underlying36 rfl (by kernel_rfl)) rfl
      ·intro _ _ _ a W hI hun haft hi
       have f13 : a.eval (.tmp 55) = .agg #[.string x.f, .string x.t, .string x.y] := haft ⟨13, .data⟩ (by simp) rfl _ _ rfl rfl
       exact b_val hi hI rfl _ _ (run_buildSlice_op (vs := #[(0, .agg #[.string x.f, .string x.t, .string x.y])]) rfl (by simp only [List.map_toArray, List.map_cons, List.map_nil, f13]) (bs_K _ W)) ((Below.refl _ _).alloc (Nat.le_refl _) _) (sl_Kn _ W)
      ·exact fun _ h => absurd rfl h
      ·exact fun h => absurd h (Nat.lt_irrefl _)
     ·refine ⟨?_, ?_, ?_, ?_, ?_, ?_, ?_, ?_, ?_, ?_, ?_, ?_, ?_, ?_, ?_, ?_, ?_, trivial⟩
      ·intro _ _ a W hor hun haft hi
       have e3 := hun 3 (by kernel_rfl)
       exact wpOp_val hi rfl _ _ (run_move_op rfl e3) ⟨_, rfl, rfl, rfl⟩
      ·intro _ _ a W hor hun haft hi
       have f0 := haft ⟨0, .data⟩ (by simp) rfl rfl _ _ rfl rfl
       exact wpOp_val hi rfl _ _ (run_nilCheck_op rfl f0) ⟨_, rfl, rfl, rfl⟩
      ·intro _ _ a W hor hun haft hi
       have f1 := haft ⟨1, .data⟩ (by simp) rfl rfl _ _ rfl rfl
       exact wpOp_val hi rfl _ _ (run_fieldAddr_any rfl f1 (at_view3 _ 0 _)) ⟨_, rfl, rfl, rfl⟩
      ·intro _ _ a W hor hun haft hi
       obtain ⟨kv, ke⟩ := HC.out W hor
       have f2 : a.eval (.tmp 44) = .pointer (some ⟨vb, 3, none⟩) := haft ⟨2, .data⟩ (by simp) rfl rfl _ _ rfl rfl
       exact wpOp_val hi rfl _ _ (run_loadmap_op rfl f2 Tryz.underlying74 ((Blk.cell kv 3).trans rfl)) ⟨_, rfl, rfl, rfl⟩
      ·intro _ _ a W hor hun haft hi
       have e7 := hun 7 (by kernel_rfl)
       exact wpOp_val hi rfl _ _ (run_fieldAddr_any rfl e7 (at_link0 _ 0 _)) ⟨_, rfl, rfl, rfl⟩
      ·intro _ _ a W hor hun haft hi
       obtain ⟨kv, ke⟩ := HC.out W hor
       have f4 : a.eval (.tmp 46) = .pointer (some ⟨q, 0, none⟩) := haft ⟨4, .data⟩ (by simp) rfl rfl _ _ rfl rfl
       exact wpOp_val hi rfl _ _ (run_loadstr_op rfl f4 Tryz.underlying9 ((Blk.cell ke 0).trans rfl)) ⟨_, rfl, rfl, rfl⟩
      ·exact fun _ h => absurd h (by decide)
      ·exact fun _ h => absurd h (by decide)
      ·exact fun _ h => absurd h (by decide)
      ·exact fun _ h => absurd h (by decide)
      ·exact fun _ h => absurd h (by decide)
      ·exact fun _ h => absurd h (by decide)
      ·exact fun _ h => absurd h (by decide)
      ·exact fun _ h => absurd h (by decide)
      ·exact fun _ h => absurd h (by decide)
      ·exact fun _ h => absurd h (by decide)
      ·exact fun h => absurd h (Nat.lt_irrefl _)
     ·intro a W hI hun haft
      have f12 : a.eval (.tmp 54) = .slice A2 n2 c2 := haft ⟨12, .data⟩ (by simp) rfl _ _ rfl rfl
      have f14 : SlK enK 3 W (a.eval (.tmp 56)) [x] := haft ⟨14, .data⟩ (by simp) rfl _ _ rfl rfl
      obtain ⟨kv, ke⟩ := HC.out W (.inl hI)
      obtain ⟨v', w', hr, _, ⟨own', h1, h2⟩, hk⟩ := HO.out.app (ty := 53) apK HV.out.bound HV.out.above hI f14 (by have := HSz.out; simp only [List.length_cons, List.length_nil]; omega) (by have := HSz.out; simp only [List.length_cons, List.length_nil]; omega)
      exact wpOp_val rfl rfl v' w' (run_append_op rfl f12 rfl hr) ⟨_, rfl, ⟨(hk vb kv.lt (by rw [HV.out.self]; simp)).trans kv, (hk q ke.lt (by rw [HNq.out]; simp)).trans ke⟩, own', h1, h2⟩
     ·intro vals a W hJ hsl hp
      obtain ⟨⟨kv, ke⟩, own', h1, h2⟩ := hJ
      have f3 : a.eval (.tmp 45) = .map (some b2) := (hsl 3 _ _ rfl (by decide) rfl).trans (hp 3 (by decide) (by decide))
      have f5 : a.eval (.tmp 47) = eS x.f := (hsl 5 _ _ rfl (by decide) rfl).trans (hp 5 (by decide) (by decide))
      have f15 : a.eval (.tmp 57) = vals 15 := hsl 15 _ _ rfl (by decide) rfl
      obtain ⟨w2, hr, hV2, hT2, hbut⟩ := HV.out.putOut h2 h1
      have hm : own b2 = some .mout := by obtain ⟨_, _, r⟩ := HV.out.out; exact r.1
      exact l_skip rfl rfl w2 (run_mapUpdate_op rfl f3 f5 f15 hr) ⟨_, rfl, own', hV2, hT2, hbut.blk ke fun e => by rw [← e, HNq.out] at hm; cases hm⟩
     ·intro vals W hK
      have HK := hid hK
      clear hK
      simp only [layN, layS, List.range, List.range.loop, if_true, Act.put, Nat.zero_add, Nat.reduceAdd]
      obtain ⟨own1, hV4, hT4, he4⟩ := HK.out
      obtain ⟨X2, rfl⟩ : ∃ X2, X2 = W := ⟨_, rfl⟩
      have HNq2 := hid ((hT4.other (HE.out.lt) HNq.out).2)
      have HB4 := hid (HBX.out.trans (hT4.out.below HV.out.above fun g hg => (HV.out.lt g hg).1))
      obtain ⟨V2, hV2⟩ : ∃ V2 : Vw, V2 = { V with out := updG V.out x.f (V.out x.f ++ [x]) } := ⟨_, rfl⟩
      rw [← hV2] at hV4
      have HSz2 := hid (show (V2.inn x.t).length ≤ 1000000 by rw [hV2]; exact HSzi.out)
      have HNext3 := hid (show ({ V0 with links := ls, out := outL (ls.take (k + 1)), inn := innL (ls.take (k + 1)) } : Vw) = { V2 with inn := updG V2.inn x.t (V2.inn x.t ++ [x]) } by rw [HNext2.out, hV2])
      have HV2 := hid hV4
      have HE2 := hid he4
      clear hV4 hT4 he4 hV2 HK HC HO HLk HV HE HNext2
      obtain ⟨vo, hvo, hlk⟩ := HV2.out.lookInn x.t
      obtain ⟨A2, c2, rfl, _⟩ := hvo.1.read enK_len
      obtain ⟨n2, hn2⟩ : ∃ n2, (V2.inn x.t).length = n2 := ⟨_, rfl⟩
      rw [hn2] at hvo hlk
      have HLk2 := hid hlk
      have HO2 := hid hvo
      clear hvo hlk hn2
      go_upto_region 12 with fail
      have HC2 := hid (show ∀ W, (Below X2.heap.size X2 W ∨ ∃ v, (fun v W => (Blk W vb 78 #[nv, .slice A n c, .map (some p), .map (some b2), .map (some b3), .map (some b4), .map (some b5)] ∧ Blk W q 36 #[.string x.f, .string x.t, .string x.y]) ∧ ∃ own', OwnT own' (.inn x.t) enK p 36 3 W v (V2.inn x.t ++ [x]) ∧ Turns own1 own' (fun u => u = .inn x.t) X2 W) v W) → Blk W vb 78 #[nv, .slice A n c, .map (some p), .map (some b2), .map (some b3), .map (some b4), .map (some b5)] ∧ Blk W q 36 #[.string x.f, .string x.t, .string x.y] from fun W hW => hW.elim (fun h => ⟨HV2.out.blk.below h HV2.out.blk.lt, HE2.out.below h HE2.out.lt⟩) fun ⟨_, h, _⟩ => h)
      refine wp_region_any (by kernel_rfl) ?_
      refine Lt.wpAny_chg (fun i => [0, 1, 2, 3, 4, 5].contains i) (fun i uq wq => if i = 14 then SlK enK 3 wq uq [x] else uq = ([.pointer (some ⟨vb, 0, none⟩), .pointer (some ⟨vb, 0, none⟩), .pointer (some ⟨vb, 4, none⟩), .map (some b3), .pointer (some ⟨q, 1, none⟩), .string x.t, .pointer (some ⟨vb, 0, none⟩), .pointer (some ⟨vb, 0, none⟩), .pointer (some ⟨vb, 4, none⟩), .map (some b3), .pointer (some ⟨q, 1, none⟩), .string x.t, .slice A2 n2 c2, .agg #[.string x.f, .string x.t, .string x.y], undef, undef, undef] : List Value).getD i undef) _ X2 15 16 _ _ (fun v W => (Blk W vb 78 #[nv, .slice A n c, .map (some p), .map (some b2), .map (some b3), .map (some b4), .map (some b5)] ∧ Blk W q 36 #[.string x.f, .string x.t, .string x.y]) ∧ ∃ own', OwnT own' (.inn x.t) enK p 36 3 W v (V2.inn x.t ++ [x]) ∧ Turns own1 own' (fun u => u = .inn x.t) X2 W) (fun W => ∃ own', VIs own' p W vb { V2 with inn := updG V2.inn x.t (V2.inn x.t ++ [x]) } nv (.slice A n c) p b2 b3 b4 b5 ∧ Turns own1 own' (fun u => u = .inn x.t ∨ u = .minn) X2 W ∧ Blk W q 36 #[.string x.f, .string x.t, .string x.y]) (by kernel_rfl) (by decide) rfl rfl rfl (by kernel_rfl) (by kernel_rfl) (by kernel_rfl) (by kernel_rfl) (by kernel_rfl) (fun i v w w' hb h => by
        by_cases h14 : i = 14
        ·rw [if_pos h14] at h ⊢; exact SlK.below h hb
        rw [if_neg h14] at h ⊢
        exact h) (fun i v w w' hp h => ?_) ?_ ?_ ?_ ?_ ?_
      ·have : i = 0 ∨ i = 1 ∨ i = 2 ∨ i = 3 ∨ i = 4 ∨ i = 5 := by simpa using hp
       rcases this with rfl | rfl | rfl | rfl | rfl | rfl <;> exact h
      ·refine ⟨?_, ?_, ?_, ?_, ?_, ?_, ?_, ?_, ?_, ?_, ?_, ?_, ?_, ?_, ?_, ?_, ?_, trivial⟩
       ·exact fun _ _ h => absurd h (by decide)
       ·exact fun _ _ h => absurd h (by decide)
       ·exact fun _ _ h => absurd h (by decide)
       ·exact fun _ _ h => absurd h (by decide)
       ·exact fun _ _ h => absurd h (by decide)
       ·exact fun _ _ h => absurd h (by decide)
       ·intro _ _ _ a W hI hun haft hi
        have e3 := hun 3 (by kernel_rfl)
        exact b_same hi hI rfl _ (run_move_op rfl e3) rfl
       ·intro _ _ _ a W hI hun haft hi
        have f6 := haft ⟨6, .data⟩ (by simp) rfl _ _ rfl rfl
        exact b_same hi hI rfl _ (run_nilCheck_op rfl f6) rfl
       ·intro _ _ _ a W hI hun haft hi
        have f7 := haft ⟨7, .data⟩ (by simp) rfl _ _ rfl rfl
        exact b_same hi hI rfl _ (run_fieldAddr_any rfl f7 (at_view4 _ 0 _)) rfl
       ·intro _ _ _ a W hI hun haft hi
        obtain ⟨kv, ke⟩ := HC2.out W (.inl hI)
        have f8 : a.eval (.tmp 66) = .pointer (some ⟨vb, 4, none⟩) := haft ⟨8, .data⟩ (by simp) rfl _ _ rfl rfl
        exact b_same hi hI rfl _ (run_loadmap_op rfl f8 Tryz.underlying74 ((Blk.cell kv 4).trans rfl)) rfl
       ·intro _ _ _ a W hI hun haft hi
        have e7 := hun 7 (by kernel_rfl)
        exact b_same hi hI rfl _ (run_fieldAddr_any rfl e7 (at_link1 _ 0 _)) rfl
       ·intro _ _ _ a W hI hun haft hi
        obtain ⟨kv, ke⟩ := HC2.out W (.inl hI)
        have f10 : a.eval (.tmp 68) = .pointer (some ⟨q, 1, none⟩) := haft ⟨10, .data⟩ (by simp) rfl _ _ rfl rfl
        exact b_same hi hI rfl _ (run_loadstr_op rfl f10 Tryz.underlying9 ((Blk.cell ke 1).trans rfl)) rfl
       ·intro _ _ _ a W hI hun haft hi
        obtain ⟨kv, ke⟩ := HC2.out W (.inl hI)
        have f9 := haft ⟨9, .data⟩ (by simp) rfl _ _ rfl rfl
        have f11 := haft ⟨11, .data⟩ (by simp) rfl _ _ rfl rfl
        exact b_same hi hI rfl _ (run_lookup_op rfl f9 f11 (HLk2.out W hI)) rfl
       ·intro _ _ _ a W hI hun haft hi
        obtain ⟨kv, ke⟩ := HC2.out W (.inl hI)
        have e7 := hun 7 (by kernel_rfl)
        exact b_same hi hI rfl _ (run_load_op rfl e7 (ke) Tryz.underlying36 rfl (by kernel_rfl)) rfl
       ·intro _ _ _ a W hI hun haft hi
        have f13 : a.eval (.tmp 71) = .agg #[.string x.f, .string x.t, .string x.y] := haft ⟨13, .data⟩ (by simp) rfl _ _ rfl rfl
        exact b_val hi hI rfl _ _ (run_buildSlice_op (vs := #[(0, .agg #[.string x.f, .string x.t, .string x.y])]) rfl (by simp only [List.map_toArray, List.map_cons, List.map_nil, f13]) (bs_K _ W)) ((Below.refl _ _).alloc (Nat.le_refl _) _) (sl_Kn _ W)
       ·exact fun _ h => absurd rfl h
       ·exact fun h => absurd h (Nat.lt_irrefl _)
      ·refine ⟨?_, ?_, ?_, ?_, ?_, ?_, ?_, ?_, ?_, ?_, ?_, ?_, ?_, ?_, ?_, ?_, ?_, trivial⟩
       ·intro _ _ a W hor hun haft hi
        have e3 := hun 3 (by kernel_rfl)
        exact wpOp_val hi rfl _ _ (run_move_op rfl e3) ⟨_, rfl, rfl, rfl⟩
       ·intro _ _ a W hor hun haft hi
        have f0 := haft ⟨0, .data⟩ (by simp) rfl rfl _ _ rfl rfl
        exact wpOp_val hi rfl _ _ (run_nilCheck_op rfl f0) ⟨_, rfl, rfl, rfl⟩
       ·intro _ _ a W hor hun haft hi
        have f1 := haft ⟨1, .data⟩ (by simp) rfl rfl _ _ rfl rfl
        exact wpOp_val hi rfl _ _ (run_fieldAddr_any rfl f1 (at_view4 _ 0 _)) ⟨_, rfl, rfl, rfl⟩
       ·intro _ _ a W hor hun haft hi
        obtain ⟨kv, ke⟩ := HC2.out W hor
        have f2 : a.eval (.tmp 60) = .pointer (some ⟨vb, 4, none⟩) := haft ⟨2, .data⟩ (by simp) rfl rfl _ _ rfl rfl
        exact wpOp_val hi rfl _ _ (run_loadmap_op rfl f2 Tryz.underlying74 ((Blk.cell kv 4).trans rfl)) ⟨_, rfl, rfl, rfl⟩
       ·intro _ _ a W hor hun haft hi
        have e7 := hun 7 (by kernel_rfl)
        exact wpOp_val hi rfl _ _ (run_fieldAddr_any rfl e7 (at_link1 _ 0 _)) ⟨_, rfl, rfl, rfl⟩
       ·intro _ _ a W hor hun haft hi
        obtain ⟨kv, ke⟩ := HC2.out W hor
        have f4 : a.eval (.tmp 62) = .pointer (some ⟨q, 1, none⟩) := haft ⟨4, .data⟩ (by simp) rfl rfl _ _ rfl rfl
        exact wpOp_val hi rfl _ _ (run_loadstr_op rfl f4 Tryz.underlying9 ((Blk.cell ke 1).trans rfl)) ⟨_, rfl, rfl, rfl⟩
       ·exact fun _ h => absurd h (by decide)
       ·exact fun _ h => absurd h (by decide)
       ·exact fun _ h => absurd h (by decide)
       ·exact fun _ h => absurd h (by decide)
       ·exact fun _ h => absurd h (by decide)
       ·exact fun _ h => absurd h (by decide)
       ·exact fun _ h => absurd h (by decide)
       ·exact fun _ h => absurd h (by decide)
       ·exact fun _ h => absurd h (by decide)
       ·exact fun _ h => absurd h (by decide)
       ·exact fun h => absurd h (Nat.lt_irrefl _)
      ·intro a W hI hun haft
       have f12 : a.eval (.tmp 70) = .slice A2 n2 c2 := haft ⟨12, .data⟩ (by simp) rfl _ _ rfl rfl
       have f14 : SlK enK 3 W (a.eval (.tmp 72)) [x] := haft ⟨14, .data⟩ (by simp) rfl _ _ rfl rfl
       obtain ⟨kv, ke⟩ := HC2.out W (.inl hI)
       obtain ⟨v', w', hr, _, ⟨own', h1, h2⟩, hk⟩ := HO2.out.app (ty := 53) apK HV2.out.bound HV2.out.above hI f14 (by have := HSz2.out; simp only [List.length_cons, List.length_nil]; omega) (by have := HSz2.out; simp only [List.length_cons, List.length_nil]; omega)
       exact wpOp_val rfl rfl v' w' (run_append_op rfl f12 rfl hr) ⟨_, rfl, ⟨(hk vb kv.lt (by rw [HV2.out.self]; simp)).trans kv, (hk q ke.lt (by rw [HNq2.out]; simp)).trans ke⟩, own', h1, h2⟩
      ·intro vals a W hJ hsl hp
       obtain ⟨⟨kv, ke⟩, own', h1, h2⟩ := hJ
       have f3 : a.eval (.tmp 61) = .map (some b3) := (hsl 3 _ _ rfl (by decide) rfl).trans (hp 3 (by decide) (by decide))
       have f5 : a.eval (.tmp 63) = eS x.t := (hsl 5 _ _ rfl (by decide) rfl).trans (hp 5 (by decide) (by decide))
       have f15 : a.eval (.tmp 73) = vals 15 := hsl 15 _ _ rfl (by decide) rfl
       obtain ⟨w2, hr, hV2, hT2, hbut⟩ := HV2.out.putInn h2 h1
       have hm : own1 b3 = some .minn := by obtain ⟨_, _, r⟩ := HV2.out.inn; exact r.1
       exact l_skip rfl rfl w2 (run_mapUpdate_op rfl f3 f5 f15 hr) ⟨_, rfl, own', hV2, hT2, hbut.blk ke fun e => by rw [← e, HNq2.out] at hm; cases hm⟩
      ·intro vals W hK
       have HK := hid hK
       clear hK
       simp only [layN, layS, List.range, List.range.loop, if_true, Act.put, Nat.zero_add, Nat.reduceAdd]
       obtain ⟨own2, hV5, hT5, _⟩ := HK.out
       have HV5 := hid hV5
       have HB5 := hid (HB4.out.trans (hT5.out.below HV2.out.above fun g hg => (HV2.out.lt g hg).1))
       clear hV5 hT5 HK
       have hw := HW1.out
       have hjm := HJ1.out
       go_wp2
       go_roundw
       case rel => exact ⟨k + 1, by go_num, by omega, own2, nv, by rw [HNext3.out]; exact HV5.out, HB5.out⟩
       case measure => simp [intOf] <;> omega
    ·have hkn : n = k := by omega
     subst hkn
     have hls0 : ls.take n = ls := by rw [← HLn.out, List.take_length]
     rw [hls0] at hV
     have HV := hid hV
     have HB := hid hB
     clear hV hB hls0 hlt hk
     go_wp2_with fail
     go_ret
     refine ⟨es, vb, rfl, HEs.out, HSr.out, own, nv, .slice A n c, p, b2, b3, b4, b5, ?_, by rw [HP.out]; exact HB.out⟩
     rw [HP.out, HV0e.out]
     unfold finV
     rw [← HLs.out]
     exact HV.out
end Go.Proofs.YtdgglhlofnigkaaGreatDoor
