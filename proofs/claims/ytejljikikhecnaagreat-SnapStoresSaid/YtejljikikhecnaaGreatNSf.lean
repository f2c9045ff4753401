/-
  Slices of the call's own; a past's parts. Slices of structs: of the call's own, read, sorted. slices.SortFunc at entries, at elements: the contracts. (*store.Store).of, store.held.row, Entries, Has: the contracts, by walks. (*store.Store).Has, Len: the contracts, by walks. Conditions: lengths.
-/
import Derived.Test.YtejljikikhecnaaGreatNSe
import Derived.Deep.DeepCutAuto
import Derived.Shelf.SlSortCmp.NoneTotal
import Derived.Test.YtejljikikhecnaaGreatSorts
namespace Go.Proofs.YtejljikikhecnaaGreat
open Go.RowKit

end Go.Proofs.YtejljikikhecnaaGreat

namespace Go.Proofs.YtejljikikhecnaaGreat
open Go.RowKit Go.Sort

section
variable {α : Type} {enc : α → List Value} {k : Nat}
variable {w w' : World} {v : Value} {l : List α} {base : Nat} {e : TypeId}
end

section
variable {α : Type} [Inhabited α] {enc : α → List Value} {k : Nat} {w w' : World} {v : Value} {l : List α} {base : Nat} {e : TypeId}
theorem flatK_list (hk : ∀ x, (enc x).length = k) (h0 : 0 < k) (l : List α) : (flatK enc k l.toArray).toList = l.flatMap enc := by
  apply List.ext_getElem?
  intro t
  by_cases ht : t < l.length * k
  · have hj : t / k < l.length := (Nat.div_lt_iff_lt_mul h0).2 ht
    have hi : t % k < k := Nat.mod_lt _ h0
    have h1 := flat_at hk l (t / k) (t % k) l[t / k] (List.getElem?_eq_getElem hj) hi
    rw [show t / k * k + t % k = t from by rw [Nat.mul_comm]; exact Nat.div_add_mod t k] at h1
    rw [h1, Array.getElem?_toList]
    have hsz : t < (flatK enc k l.toArray).size := by simpa using ht
    have h2 := get_flatK enc k l.toArray t (by simpa using ht)
    rw [getElem!_pos (flatK enc k l.toArray) t hsz] at h2
    rw [Array.getElem?_eq_getElem hsz, h2]
    have h3 : (l.toArray)[t / k]! = l[t / k] := by simp [hj]
    have h4 : t % k < (enc l[t / k]).length := by rw [hk]; exact hi
    rw [h3, getElem!_pos (enc l[t / k]) (t % k) h4, List.getElem?_eq_getElem h4]
  · rw [List.getElem?_eq_none (by simp; omega), List.getElem?_eq_none (by rw [flat_length hk]; omega)]

theorem holdsK_of (hk : ∀ x, (enc x).length = k) (h0 : 0 < k) {g : Nat} {cur : Array Value} {fr : TypeId} (hb : w.heap[g]? = some (.cells cur fr (0, 0))) (ht : cur.toList.take (l.length * k) = l.flatMap enc) : HoldsK enc k w g 0 l.toArray := by
  intro j hj
  have hj' : j < l.length * k := by simpa using hj
  refine ⟨?_, by simp [World.frozen?, hb]⟩
  have h1 : (cur.toList.take (l.length * k))[j]? = (flatK enc k l.toArray).toList[j]? := by rw [ht, flatK_list hk h0]
  rw [List.getElem?_take_of_lt hj'] at h1
  simp only [World.cell?, hb, Nat.zero_add]
  simp only [Option.isSome_none, Bool.false_eq_true, if_false]
  rw [← Array.getElem?_toList, h1, Array.getElem?_toList]
  have hsz : j < (flatK enc k l.toArray).size := by simpa using hj'
  rw [getElem!_pos _ j hsz, Array.getElem?_eq_getElem hsz]
  rfl
theorem heap_sortedK {g n : Nat} {os : Array Obj} {cur : Array Value} {fr : Nat × Nat} (d : Array α) (hb : w.heap[g]? = some (.cells cur e fr)) :
    (sortWorldK enc k w g 0 n d os).heap[g]? = some (.cells (putCells id 0 (flatK enc k d) cur) e fr) := by
  have hg : g < w.heap.size := (Array.getElem?_eq_some_iff.1 hb).1
  unfold sortWorldK putRowK
  rw [heap_grow_old _ _ (by simpa using hg)]
  simp [putRow, mapBlock, Sort.ahead, Array.getElem?_modify, hb, onCells]
theorem but_sortedK {g n : Nat} {os : Array Obj} (d : Array α) : But g w (sortWorldK enc k w g 0 n d os) := by
  refine ⟨rfl, rfl, rfl, by unfold sortWorldK putRowK; simp, fun j hj hne => ?_⟩
  unfold sortWorldK putRowK
  rw [heap_grow_old _ _ (by simpa using hj)]
  have : g ≠ j := fun e => hne (by rw [e])
  simp [putRow, mapBlock, Sort.ahead, Array.getElem?_modify, this]
theorem take_putK (hk : ∀ x, (enc x).length = k) (h0 : 0 < k) (cur : Array Value) (d : Array α) (h : d.size * k ≤ cur.size) : (putCells id 0 (flatK enc k d) cur).toList.take (d.size * k) = d.toList.flatMap enc := by
  have hf := flatK_list hk h0 d.toList
  simp only [Array.toArray_toList] at hf
  rw [← hf]
  apply List.ext_getElem?
  intro j
  by_cases hj : j < d.size * k
  · rw [List.getElem?_take_of_lt hj, Array.getElem?_toList, Array.getElem?_toList]
    have hc : j < cur.size := by omega
    simp [putCells, hj, hc]
  · rw [List.getElem?_take_eq_none (by omega), List.getElem?_eq_none (by simp; omega)]
theorem OwnK.sorted (hk : ∀ x, (enc x).length = k) (h0 : 0 < k) {g cap n : Nat} {os : Array Obj} {cur : Array Value} {d : Array α} (hd : d.size = l.length) (hbase : base ≤ g) (hb : w.heap[g]? = some (.cells cur e (0, 0))) (h1 : l.length ≤ cap) (h2 : cap ≤ maxLen) (h3 : cur.size = cap * k) :
    OwnK enc base e k (sortWorldK enc k w g 0 n d os) (.slice (some ⟨g, 0, none⟩) l.length cap) d.toList := by
  have hdl : d.toList.length = l.length := by rw [Array.length_toList, hd]
  refine ⟨by rw [flat_length hk], .inr ⟨g, cap, _, by rw [hdl], hbase, heap_sortedK d hb, by rw [hdl]; exact h1, h2, by simp [putCells, h3], ?_⟩⟩
  rw [Array.length_toList]
  exact take_putK hk h0 cur d (by rw [h3, hd]; exact Nat.mul_le_mul_right k h1)
/-- What a permutation of all of an array is, as a list. -/
theorem perm_all {d d' : Array α} (h : PermIn 0 d.size d d') : d'.toList.Perm d.toList := by
  obtain ⟨hsz, _, hperm⟩ := h
  have e1 : d'.extract 0 d.size = d' := by rw [← hsz]; exact Array.extract_size
  rw [e1, Array.extract_size] at hperm
  exact hperm
theorem sorted_all {lt : α → α → Bool} {d d' : Array α} (hs : d'.size = d.size) (h : SortedIn lt 0 d.size d') : d'.toList.Pairwise fun x y => lt y x = false := by
  rw [List.pairwise_iff_getElem]
  intro i j hi hj hij
  have hi' : i < d'.size := by simpa using hi
  have hj' : j < d'.size := by simpa using hj
  have := h i j (Nat.zero_le _) hij (by omega)
  rw [getElem!_pos d' j hj', getElem!_pos d' i hi'] at this
  simpa using this
end
/-- One order, where it parts all members. -/
theorem sort_unique {α : Type} {lt : α → α → Bool} (hS : SWO lt) {l l' : List α} (hp : l'.Perm l) (hs : l'.Pairwise fun x y => lt y x = false) (hT : ∀ x ∈ l, ∀ y ∈ l, lt x y = false → lt y x = false → x = y) : l' = l.mergeSort fun x y => !lt y x := by
  refine List.Perm.eq_of_pairwise (le := fun x y => (!lt y x) = true) ?_ ?_ ?_ (hp.trans (List.mergeSort_perm _ _).symm)
  · intro a b ha hb h1 h2
    simp only [Bool.not_eq_true'] at h1 h2
    exact hT a (hp.mem_iff.1 ha) b ((List.mergeSort_perm _ _).mem_iff.1 hb) h2 h1
  · exact hs.imp fun h => by simpa using h
  · refine List.pairwise_mergeSort ?_ ?_ _
    · intro a b c h1 h2
      simp only [Bool.not_eq_true'] at h1 h2 ⊢
      exact hS.ntrans c b a h2 h1
    · intro a b
      cases h : lt b a with
      | false => simp
      | true =>
        cases h2 : lt a b with
        | false => simp
        | true => have := hS.trans _ _ _ h h2; rw [hS.irrefl] at this; cases this

end Go.Proofs.YtejljikikhecnaaGreat

namespace Go.Proofs.YtejljikikhecnaaGreat
open Go.RowKit Go.Sort

theorem laysN (blk off size : Nat) (w : World) : CmpLays Tryz.prog 88 #[] enN 5 cfN blk off size w := fun _ _ _ _ x y =>
  (byDot_any x y _).mono fun _ _ ⟨he, hg⟩ => ⟨he, hg.grow_⟩
theorem laysE (blk off size : Nat) (w : World) : CmpLays Tryz.prog 53 #[] enL 5 cfE blk off size w := fun _ _ _ _ x y =>
  (order_any x y _).mono fun _ _ ⟨he, hg⟩ => ⟨he, hg.grow_⟩

theorem sortN_any (l : List (Dt × Va)) (v : Value) (base : Nat) (w : World) (h : OwnK enN base 63 5 w v l) (hl : l.length ≤ 1000000) :
    Calls Tryz.prog 87 #[v, .func (.func 88) #[] #[]] w fun e w' =>
      e = .returned (.tuple #[]) ∧ ∃ l' : List (Dt × Va), l'.Perm l ∧ (l'.Pairwise fun x y => ltOf cfN y x = false) ∧ OwnK enN base 63 5 w' v l' ∧ Out (fun i => v.ownBlock = some i) w w' := by
  by_cases hn : l = []
  · subst hn
    have hv : ∃ p c, v = .slice p 0 c := by
      rcases h.2 with ⟨rfl, _⟩ | ⟨g, cap, cur, rfl, _⟩
      · exact ⟨none, 0, rfl⟩
      · exact ⟨_, cap, rfl⟩
    obtain ⟨p, c, rfl⟩ := hv
    have hc := AnyF.slices_SortFunc_none (P := Tryz.prog) (ρ := Tryz.sortN_ren) { Tryz.sortN with } p c (.func (.func 88) #[] #[]) w
    exact hc.mono fun e w' ⟨he, hw⟩ => ⟨he, [], List.Perm.refl _, List.Pairwise.nil, hw ▸ h, hw ▸ Out.refl _ _⟩
  · obtain ⟨g, cap, cur, rfl, hb, hg, h1, h2, h3, h4⟩ := h.block hn
    have eg : ∀ args w, (callFunc 88 args).run Tryz.prog w = .ok (.enter 88 args) w := enters_of Tryz.func88 (by kernel_rfl) rfl
    have hsz : l.toArray.size = l.length := by simp
    have hc := AnyQ.slices_SortFunc (P := Tryz.prog) (ρ := Tryz.sortN_ren) Tryz.sortN 5 Tryz.isAgg63 Tryz.sizeOf63 enN enN_len enN_one cfN cfN_ok.swo 88 #[] g 0 cap l.toArray w eg (laysN g 0 _ w) (holdsK_of enN_len (by decide) hg h4) (Array.getElem?_eq_some_iff.1 hg).1 (by rw [hsz]; omega)
    rw [hsz] at hc
    refine hc.mono ?_
    rintro e w' ⟨he, d', n, os, hp, hs, rfl⟩
    have hd : d'.size = l.length := hp.1.trans hsz
    refine ⟨he, d'.toList, by simpa using perm_all (by rw [hsz]; exact hp), sorted_all (d := l.toArray) hp.1 (by rw [hsz]; exact hs), OwnK.sorted enN_len (by decide) hd hb hg h1 h2 h3, Out.of_but (but_sortedK d') rfl⟩
theorem sortE_any (l : List El) (v : Value) (base : Nat) (w : World) (h : OwnK enL base 45 5 w v l) (hl : l.length ≤ 1000000) :
    Calls Tryz.prog 82 #[v, .func (.func 53) #[] #[]] w fun e w' =>
      e = .returned (.tuple #[]) ∧ ∃ l' : List El, l'.Perm l ∧ (l'.Pairwise fun x y => ltOf cfE y x = false) ∧ OwnK enL base 45 5 w' v l' ∧ Out (fun i => v.ownBlock = some i) w w' := by
  by_cases hn : l = []
  · subst hn
    have hv : ∃ p c, v = .slice p 0 c := by
      rcases h.2 with ⟨rfl, _⟩ | ⟨g, cap, cur, rfl, _⟩
      · exact ⟨none, 0, rfl⟩
      · exact ⟨_, cap, rfl⟩
    obtain ⟨p, c, rfl⟩ := hv
    have hc := AnyF.slices_SortFunc_none (P := Tryz.prog) (ρ := Tryz.sortE_ren) { Tryz.sortE with } p c (.func (.func 53) #[] #[]) w
    exact hc.mono fun e w' ⟨he, hw⟩ => ⟨he, [], List.Perm.refl _, List.Pairwise.nil, hw ▸ h, hw ▸ Out.refl _ _⟩
  · obtain ⟨g, cap, cur, rfl, hb, hg, h1, h2, h3, h4⟩ := h.block hn
    have eg : ∀ args w, (callFunc 53 args).run Tryz.prog w = .ok (.enter 53 args) w := enters_of Tryz.func53 (by kernel_rfl) rfl
    have hsz : l.toArray.size = l.length := by simp
    have hc := AnyQ.slices_SortFunc (P := Tryz.prog) (ρ := Tryz.sortE_ren) Tryz.sortE 5 Tryz.isAgg45 Tryz.sizeOf45 enL enL_len enL_one cfE cfE_ok.swo 53 #[] g 0 cap l.toArray w eg (laysE g 0 _ w) (holdsK_of enL_len (by decide) hg h4) (Array.getElem?_eq_some_iff.1 hg).1 (by rw [hsz]; omega)
    rw [hsz] at hc
    refine hc.mono ?_
    rintro e w' ⟨he, d', n, os, hp, hs, rfl⟩
    have hd : d'.size = l.length := hp.1.trans hsz
    refine ⟨he, d'.toList, by simpa using perm_all (by rw [hsz]; exact hp), sorted_all (d := l.toArray) hp.1 (by rw [hsz]; exact hs), OwnK.sorted enL_len (by decide) hd hb hg h1 h2 h3, Out.of_but (but_sortedK d') rfl⟩

end Go.Proofs.YtejljikikhecnaaGreat

namespace Go.Proofs.YtejljikikhecnaaGreat
open Go.RowKit Go.MapKept

/-- An element's entries, in memory or nowhere. -/
def HeldIs (w : World) (F : Nat → Prop) (m : Option Nat) (l : List (Dt × Va)) : Prop := (m = none ∧ l = []) ∨ ∃ n, m = some n ∧ F n ∧ MapIs eD eV w n l
theorem HeldIs.keep {w w' : World} {F : Nat → Prop} {m : Option Nat} {l : List (Dt × Va)} (h : HeldIs w F m l) (hb : Below w.heap.size w w') : HeldIs w' F m l := by
  rcases h with h | ⟨n, h1, h2, h3⟩
  · exact Or.inl h
  · exact Or.inr ⟨n, h1, h2, h3.same (hb.block n h3.lt)⟩
def entS (x : El) (σ : List (El × List (Dt × Va))) : List (Dt × Va) := (getL x σ).getD []

theorem st_infoN : (Tryz.prog.info? 63).map (fun i => (i.zero, i.size, i.bytes)) = some (some (.agg #[.int .i64 0, .int .i64 0, .int .i64 0, .int .i64 0, .string ⟨#[]⟩]), 5, 48) := by kernel_rfl
theorem own_ne_map {α β γ : Type} {enc : γ → List Value} {base k : Nat} {e : TypeId} {w : World} {v : Value} {l : List γ} {eK : α → Value} {eU : β → Value} {b : Nat} {L : List (α × β)} (h : OwnK enc base e k w v l) (hm : MapIs eK eU w b L) : v.ownBlock ≠ some b := by
  intro e
  obtain ⟨es, c, ho, _⟩ := hm
  rcases h.2 with ⟨rfl, _⟩ | ⟨g, cap, cur, rfl, _, hg, _⟩
  · cases e
  · have : g = b := Option.some.inj e
    rw [this, ho] at hg
    cases hg
theorem own_ne_iter {α β γ : Type} {enc : γ → List Value} {base k : Nat} {e : TypeId} {w : World} {v : Value} {l : List γ} {eK : α → Value} {eU : β → Value} {b r : Nat} {L R : List (α × β)} (h : OwnK enc base e k w v l) (hm : Ranging eK eU w b r L R) : v.ownBlock ≠ some r := by
  intro e
  obtain ⟨es, c, _, _, _, _, _, _, ho, _⟩ := hm
  rcases h.2 with ⟨rfl, _⟩ | ⟨g, cap, cur, rfl, _, hg, _⟩
  · cases e
  · have : g = r := Option.some.inj e
    rw [this, ho] at hg
    cases hg
/-- The row that entries make, by dots. -/
def RowIs (w : World) (base : Nat) (v : Value) (l : List (Dt × Va)) : Prop := ∃ l' : List (Dt × Va), l'.Perm l ∧ (l'.Pairwise fun x y => ltOf cfN y x = false) ∧ OwnK enN base 63 5 w v l'

set_option maxRecDepth 100000 in
set_option maxHeartbeats 2000000 in
theorem row_nil (w : World) : Calls Tryz.prog 54 #[.map none] w fun e w' => ∃ v, e = .returned v ∧ RowIs w' w.heap.size v [] ∧ Below w.heap.size w w' := by
  obtain ⟨r, hr⟩ : ∃ r, w.heap.size = r := ⟨_, rfl⟩
  obtain ⟨V, hV⟩ : ∃ V, V = w.alloc (.mapIter none 0 #[] 0) := ⟨_, rfl⟩
  have hrg : (Instr.range 107 (.map none)).run Tryz.prog w = .ok (.pointer (some ⟨r, 0, none⟩)) V := by rw [hV, ← hr]; exact run_range_nilMap w _ _ _ Tryz.underlying107
  have hnx : ∀ ty, (Instr.next (.pointer (some ⟨r, 0, none⟩)) false ty).run Tryz.prog V = .ok (.tuple #[.bool false]) V := fun ty => run_next_nil_at V ty r 0 0 #[] (by rw [hV, ← hr]; exact heap_alloc_new w _)
  have HB := Lib.hid (show Below w.heap.size w V by rw [hV]; exact (Below.refl _ _).alloc (Nat.le_refl _) _)
  clear hV hr
  go_enter Tryz.func54, Tryz.ntmps54
  go_wp2
  refine wp_loop_rounds 1 ?_
  rw [rounds_succ]
  go_wp2_with fail
  refine (sortN_any [] (.slice none 0 0) w.heap.size V (OwnK.nil_ _ _ _ _ _) (by simp)).mono ?_
  rintro e w1 ⟨rfl, l', hp, hs, ho, hout⟩
  have HP := Lib.hid hp
  have HS := Lib.hid hs
  have HO := Lib.hid ho
  have HU := Lib.hid hout
  clear hp hs ho hout
  go_wp2
  go_ret
  exact ⟨_, rfl, ⟨l', HP.out, HS.out, HO.out⟩, HB.out.trans (HU.out.below HB.out.size (fun i hi => by cases hi))⟩

set_option maxRecDepth 100000 in
set_option maxHeartbeats 4000000 in
theorem row_some (n : Nat) (l : List (Dt × Va)) (w : World) (hm : MapIs eD eV w n l) (hl : l.length ≤ 1000000) : Calls Tryz.prog 54 #[.map (some n)] w fun e w' => ∃ v, e = .returned v ∧ RowIs w' w.heap.size v l ∧ Below w.heap.size w w' := by
  have HM := Lib.hid hm
  have HL := Lib.hid hl
  obtain ⟨i0, hi, hz0, hz1, hz2⟩ := info_parts st_infoN
  obtain ⟨r, hr⟩ : ∃ r, w.heap.size = r := ⟨_, rfl⟩
  have HR := Lib.hid hr
  clear hm hl
  go_enter Tryz.func54, Tryz.ntmps54
  go_wp2_with (first
    | (at_range; refine wpList_range_is _ rfl _ 107 43 47 rfl Tryz.underlying107 n l rfl HM.out ?_; intro V hrg hal)
    | go_in)
  go_frame
  rw [hr] at hrg ⊢
  have HV := Lib.hid (show Below r w V by
    obtain ⟨o, rfl⟩ := hal
    exact (Below.refl _ _).alloc (by rw [hr]; exact Nat.le_refl _) _)
  have HRg0 := Lib.hid hrg
  clear hal hr hrg
  go_loopw [3] (fun v wr => ∃ (R acc : List (Dt × Va)), Ranging eD eV wr n r l R ∧ OwnK enN r 63 5 wr v acc ∧ (acc ++ R).Perm l ∧ Below r w wr) (fun _ wr => wr.rangeLeft n r)
  case atStart => exact ⟨l, [], HRg0.out, OwnK.nil_ _ _ _ _ _, List.Perm.refl _, HV.out⟩
  case round =>
    obtain ⟨R, acc, hrg, how, hpm, hbw⟩ := hrel
    have HRg := Lib.hid hrg
    have HOw := Lib.hid how
    have HPm := Lib.hid hpm
    have HBw := Lib.hid hbw
    clear hrg how hpm hbw HRg0 HV
    go_wp2_with (first
      | (at_next; refine wpList_next_is _ rfl _ rfl n r _ _ rfl HRg.out ?_ ?_)
      | go_in)
    · intro hR
      subst hR
      have hlen : acc.length ≤ 1000000 := by
        have := HPm.out.length_eq
        simp at this
        have := HL.out
        omega
      have HLn := Lib.hid hlen
      clear hlen
      go_wp2_with fail
      refine (sortN_any acc _ r _ HOw.out HLn.out).mono ?_
      rintro e w1 ⟨rfl, l', hp, hs, ho, hout⟩
      have HP := Lib.hid (hp.trans (by simpa using HPm.out))
      have HS := Lib.hid hs
      have HO := Lib.hid ho
      have HU := Lib.hid (HBw.out.trans (hout.below (by have := HBw.out.size; rw [HR.out] at this; exact this) (fun i hi => (HOw.out.lt i hi).1)))
      clear hp hs ho hout
      go_wp2
      go_ret
      exact ⟨_, rfl, ⟨l', HP.out, HS.out, by rw [HR.out]; exact HO.out⟩, by rw [HR.out]; exact HU.out⟩
    · intro pd pv R1 V1 hp hrg1 hb1 hs1 hen
      obtain ⟨rr, cc⟩ := pd
      obtain ⟨kk, nn, tt⟩ := pv
      have hwr : r ≤ wr.heap.size := by have := HBw.out.size; rw [HR.out] at this; exact this
      have hV1 : Below r w V1 := HBw.out.trans ⟨hb1.os, hb1.tape, hb1.output, hb1.size, fun j hj => hb1.block j (Nat.lt_of_lt_of_le hj hwr) (fun e => by have := Option.some.inj e; omega)⟩
      have hO1 := HOw.out.same (w' := V1) (fun g hg => hb1.block g (HOw.out.lt g hg).2 (fun e => own_ne_iter HOw.out HRg.out (by rw [hg, Option.some.inj e])))
      have hl1 : wr.rangeLeft n r = R.length := HRg.out.left_eq
      have hlen : acc.length + 1 ≤ 1000000 := by
        have := HPm.out.length_eq
        have h2 := hp.length_eq
        simp at this h2
        have := HL.out
        omega
      have HP := Lib.hid hp
      have HR1 := Lib.hid hrg1
      have HL1 := Lib.hid hl1
      have HLn := Lib.hid hlen
      clear hp hl1 hlen HRg HOw hwr hs1 hb1 hrg1
      obtain ⟨X, hX⟩ : ∃ X, X = (((V1.alloc (.cells #[.int .i64 0, .int .i64 0] 43)).alloc (.cells #[.int .i64 0, .int .i64 0, .string ⟨#[]⟩] 47)).setRow V1.heap.size #[.int .i64 rr, .int .i64 cc]).setRow (V1.heap.size + 1) #[.int .i64 kk, .int .i64 nn, .string tt] := ⟨_, rfl⟩
      have hB0 : Blk ((V1.alloc (.cells #[.int .i64 0, .int .i64 0] 43)).alloc (.cells #[.int .i64 0, .int .i64 0, .string ⟨#[]⟩] 47)) V1.heap.size 43 #[.int .i64 0, .int .i64 0] := (Blk.new V1 _ _).alloc _
      have hB1 : Blk (((V1.alloc (.cells #[.int .i64 0, .int .i64 0] 43)).alloc (.cells #[.int .i64 0, .int .i64 0, .string ⟨#[]⟩] 47)).setRow V1.heap.size #[.int .i64 rr, .int .i64 cc]) (V1.heap.size + 1) 47 #[.int .i64 0, .int .i64 0, .string ⟨#[]⟩] := by
        have := Blk.new (V1.alloc (.cells #[.int .i64 0, .int .i64 0] 43)) 47 #[.int .i64 0, .int .i64 0, .string ⟨#[]⟩]
        rw [World.size_alloc] at this
        exact (setRow_other _ _ _ _ (by omega)).trans this
      have hBX0 : Blk X V1.heap.size 43 #[.int .i64 rr, .int .i64 cc] := by
        rw [hX]
        exact (setRow_other _ _ _ _ (by omega)).trans (setRow_blk _ _ _ _ _ hB0)
      have hBX1 : Blk X (V1.heap.size + 1) 47 #[.int .i64 kk, .int .i64 nn, .string tt] := by rw [hX]; exact setRow_blk _ _ _ _ _ hB1
      have hbX : Below V1.heap.size V1 X := by
        rw [hX]
        exact ((((Below.refl _ _).alloc (Nat.le_refl _) _).alloc (by simp) _).trans (setRow_below _ _ _ _ (Nat.le_refl _))).trans (setRow_below _ _ _ _ (Nat.le_succ _))
      have HX := Lib.hid hX
      have HBX0 := Lib.hid hBX0
      have HBX1 := Lib.hid hBX1
      have HbX := Lib.hid hbX
      have hO2 := (hO1.keep hbX).keep (w' := X.alloc (.cells #[.int .i64 rr, .int .i64 cc, .int .i64 kk, .int .i64 nn, .string tt] 63)) ((Below.refl _ _).alloc (Nat.le_refl _) _)
      have HO2 := Lib.hid hO2
      have HVX := Lib.hid (hV1.trans (hbX.mono (by have := hV1.size; rw [HR.out] at this; exact this)))
      have hNC : ∀ j u, [Value.int .i64 rr, .int .i64 cc, .int .i64 kk, .int .i64 nn, .string tt][j]? = some u → (X.alloc (.cells #[.int .i64 rr, .int .i64 cc, .int .i64 kk, .int .i64 nn, .string tt] 63)).cell? ((⟨X.heap.size, 0, none⟩ : Addr).add j) = some u := fun j u hu => by
        rw [Addr.add_lit, Blk.cell (Blk.new X _ _)]
        simpa using hu
      have HNC := Lib.hid hNC
      clear hX hBX0 hBX1 hbX hO1 hO2 hV1 hNC
      simp only [eD, dv, eV, valV] at hen ⊢
      go_upto_region 5 with (first
        | (refine wpList_store_row rfl 43 (.tmp 4) (.tmp 11) rfl V1.heap.size #[.int .i64 rr, .int .i64 cc] rfl rfl _ _ hB0 (by kernel_rfl) rfl (by kernel_rfl) ?_)
        | (refine wpList_store_row rfl 47 (.tmp 5) (.tmp 12) rfl (V1.heap.size + 1) #[.int .i64 kk, .int .i64 nn, .string tt] rfl rfl _ _ hB1 (by kernel_rfl) rfl (by kernel_rfl) ?_))
      rw [← HX.out]
      clear hB0 hB1 hen
      go_wp2_with (first
        | (refine wpList_load_if rfl 43 (.tmp 4) rfl V1.heap.size rfl _ _ _ _ HBX0.out Tryz.underlying43 rfl (by kernel_rfl) ?_)
        | (refine wpList_load_if rfl 47 (.tmp 5) rfl (V1.heap.size + 1) rfl _ _ _ _ HBX1.out Tryz.underlying47 rfl (by kernel_rfl) ?_)
        | (refine wpList_val (o := ⟨some 16, _, _, _, _, _⟩) rfl (.agg #[.int .i64 rr, .int .i64 cc, .int .i64 kk, .int .i64 nn, .string tt]) X (by kernel_rfl) ?_)
        | (at_builtin; refine wpList_append_own _ rfl _ _ 59 rfl r 63 i0 _ 5 48 Tryz.underlying59 hi hz0 hz1 hz2 rfl (by decide) _ _ _ rfl HO2.out ⟨X.heap.size, 0, none⟩ 1 1 [.int .i64 rr, .int .i64 cc, .int .i64 kk, .int .i64 nn, .string tt] rfl rfl HNC.out (enN_one (⟨rr, cc⟩, ⟨kk, nn, tt⟩)) (by have := HLn.out; unfold maxLen; omega) (by have := HLn.out; omega) (by have := HVX.out.size; have := HR.out; simp; omega) ?_; intro v' W6 hown' hgrow hnil')
        | go_in)
      have hR6 : Ranging eD eV W6 n r l R1 := by
        have h1 := HR1.out.below HbX.out
        have h2 := h1.below (w' := X.alloc (.cells #[.int .i64 rr, .int .i64 cc, .int .i64 kk, .int .i64 nn, .string tt] 63)) ((Below.refl _ _).alloc (Nat.le_refl _) _)
        exact h2.same (hgrow.block n h2.owns.lt (fun e => own_ne_map HO2.out h2.owns e.symm)) (hgrow.block r h2.lt (fun e => own_ne_iter HO2.out h2 e.symm))
      have hO6 : OwnK enN r 63 5 W6 v' (acc ++ [(⟨rr, cc⟩, ⟨kk, nn, tt⟩)]) := by
        unfold OwnK
        rw [List.length_append, List.flatMap_append]
        exact hown'
      have hb6 : Below r w W6 := (HVX.out.alloc (by have := HVX.out.size; have := HR.out; omega) _).trans ⟨hgrow.os, hgrow.tape, hgrow.output, hgrow.size, fun j hj => hgrow.block j (by have := HVX.out.size; have := HR.out; simp; omega) (fun e => by have := (HO2.out.lt j e.symm).1; omega)⟩
      have HR6 := Lib.hid hR6
      have HO6 := Lib.hid hO6
      have HB6 := Lib.hid hb6
      clear hR6 hO6 hb6 hown' hgrow hnil'
      go_roundw
      case rel => exact ⟨R1, acc ++ [(⟨rr, cc⟩, ⟨kk, nn, tt⟩)], HR6.out, HO6.out, (by
        rw [List.append_assoc]
        exact (List.Perm.append_left acc HP.out.symm).trans HPm.out), HB6.out⟩
      case measure =>
        rw [HR6.out.left_eq, HL1.out, HP.out.length_eq]
        exact Nat.lt_succ_self _
theorem row_any (m : Option Nat) (F : Nat → Prop) (l : List (Dt × Va)) (w : World) (hm : HeldIs w F m l) (hl : l.length ≤ 1000000) : Calls Tryz.prog 54 #[.map m] w fun e w' => ∃ v, e = .returned v ∧ RowIs w' w.heap.size v l ∧ Below w.heap.size w w' := by
  rcases hm with ⟨rfl, rfl⟩ | ⟨n, rfl, _, h⟩
  · exact row_nil w
  · exact row_some n l w h hl

end Go.Proofs.YtejljikikhecnaaGreat

namespace Go.Proofs.YtejljikikhecnaaGreat
open Go.RowKit Go.MapKept

def totS (σ : List (El × List (Dt × Va))) : Nat := (σ.map fun p => p.2.length).sum
theorem tot_mapS {h : Nat → List (Dt × Va)} (I : List (El × Nat)) : totS (mapS h I) = (I.map fun p => (h p.2).length).sum := by simp [totS, mapS, Function.comp_def]

end Go.Proofs.YtejljikikhecnaaGreat
