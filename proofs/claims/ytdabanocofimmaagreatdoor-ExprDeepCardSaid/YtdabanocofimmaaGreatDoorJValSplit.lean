/-
  hedgerowref01.Split: the contract, by a walk. PARTS BETWEEN SIGNS, AND A TEXT CUT TWICE: plain mathematics on bytes; nothing of the program. Conditions: lengths.
-/
import Derived.Test.YtdabanocofimmaaGreatDoorJWords
import Derived.Test.YtdabanocofimmaaGreatDoorChecked
import Derived.WalkKit
import Derived.RegionTactic
import Derived.Laws.OwnMore
import Derived.Lib.AppendZeros
import Derived.Deep.DeepCutAuto
import Derived.Test.YtdabanocofimmaaGreatDoorJValOf
namespace Go.Proofs.YtdabanocofimmaaGreatDoor
open Go.RowKit

def stv (l : List UInt8) : Value := .string ⟨l.toArray⟩
/-- The parts so far, and the one that is being read. -/
def splS (b : UInt8) (p : List (List UInt8) × List UInt8) (x : UInt8) : List (List UInt8) × List UInt8 := if x = b then (p.1 ++ [p.2], []) else (p.1, p.2 ++ [x])
def spl (b : UInt8) (l : List UInt8) : List (List UInt8) × List UInt8 := l.foldl (splS b) ([], [])
theorem spl_snoc (b : UInt8) (l : List UInt8) (k : Nat) (h : k < l.length) : spl b (l.take (k + 1)) = splS b (spl b (l.take k)) l[k] := by
  unfold spl
  rw [List.take_succ_eq_append_getElem h, List.foldl_append]; rfl
theorem spl_len (b : UInt8) (l : List UInt8) : (spl b l).1.length ≤ l.length := by
  have : ∀ (l : List UInt8) (p : List (List UInt8) × List UInt8), (l.foldl (splS b) p).1.length ≤ p.1.length + l.length := by
    intro l
    induction l with
    | nil => intro p; simp
    | cons x l ih =>
      intro p
      rw [List.foldl_cons]
      have := ih (splS b p x)
      have h2 : (splS b p x).1.length ≤ p.1.length + 1 := by unfold splS; split <;> simp
      rw [List.length_cons]; omega
  have h := this l ([], [])
  simpa [spl] using h
theorem spl_cur (b : UInt8) (l : List UInt8) : (spl b l).2.length ≤ l.length := by
  have : ∀ (l : List UInt8) (p : List (List UInt8) × List UInt8), (l.foldl (splS b) p).2.length ≤ p.2.length + l.length := by
    intro l
    induction l with
    | nil => intro p; simp
    | cons x l ih =>
      intro p
      rw [List.foldl_cons]
      have := ih (splS b p x)
      have h2 : (splS b p x).2.length ≤ p.2.length + 1 := by unfold splS; split <;> simp
      rw [List.length_cons]; omega
  have h := this l ([], [])
  simpa [spl] using h
theorem str_eq' {b : ByteArray} {l : List UInt8} (h : b.data.toList = l) : b = ⟨l.toArray⟩ := by
  obtain ⟨⟨k⟩⟩ := b
  simp at h
  subst h
  rfl
theorem ext_one (s : ByteArray) (k : Nat) (h : k < s.size) (c : List UInt8) : (⟨c.toArray⟩ : ByteArray) ++ s.extract k (k + 1) = ⟨(c ++ [s[k]'h]).toArray⟩ := by
  apply str_eq'
  have hl : k < s.data.toList.length := by rw [Array.length_toList]; exact h
  have e : (s.data.extract k (k + 1)).toList = [s[k]'h] := by
    rw [Array.toList_extract, List.extract_eq_take_drop, Nat.add_sub_cancel_left, List.drop_eq_getElem_cons hl]
    rfl
  rw [ByteArray.data_append, ByteArray.data_extract, Array.toList_append, e]
theorem infoT : (Tryz.prog.info? 9).map (fun i => (i.zero, i.size, i.bytes)) = some (some (.string ⟨#[]⟩), 1, 16) := by kernel_rfl
theorem append_str (w0 w : World) (v : Value) (xs : List (List UInt8)) (n : Nat) (ho : w.ownsRow w0.heap.size 9 1 v n (xs.map stv)) (hb : Below w0.heap.size w0 w) (hlen : n + 1 ≤ 10000000) :
    ∃ v' w', (Builtin.append_ #[30, 30] 30 #[v, .slice (some ⟨w.heap.size, 0, none⟩) 1 1]).run Tryz.prog (w.alloc (.cells #[.string ⟨#[]⟩] 9)) = .ok v' w' ∧ w'.ownsRow w0.heap.size 9 1 v' (n + 1) ((xs ++ [[]]).map stv) ∧ Below w0.heap.size w0 w' := by
  obtain ⟨i0, hi, hz0, hz1, hz2⟩ := info_parts infoT
  have ho' := ho.alloc (.cells #[.string ⟨#[]⟩] 9)
  have hx : Sl stv (w.alloc (.cells #[.string ⟨#[]⟩] 9)) (.slice (some ⟨w.heap.size, 0, none⟩) 1 1) [[]] := by
    refine ⟨_, _, rfl, Nat.le_refl _, fun _ => ⟨w.heap.size, 0, rfl, by simp, fun j u hu => ?_⟩⟩
    rw [(Blk.new w _ _).cell (0 + j)]
    have hj : j = 0 := by have := (List.getElem?_eq_some_iff.1 hu).1; simp at this; exact this
    subst hj
    simp at hu
    subst hu
    rfl
  obtain ⟨v', w2, hr, ho2, hg2⟩ := run_append_sl (P := Tryz.prog) (w.alloc (.cells #[.string ⟨#[]⟩] 9)) w0.heap.size 30 30 9 i0 (.string ⟨#[]⟩) 16 Tryz.underlying30 hi hz0 hz1 hz2 rfl _ _ _ ho' _ _ hx (fun _ => rfl) (by simp; omega) (by simp; omega) (by have := hb.size; simp; omega)
  exact ⟨v', w2, hr, by rw [List.map_append]; exact ho2, (hb.alloc hb.size _).grown hg2 (by have := hb.size; simp; omega) (fun k hk => (ho'.lt k hk).1)⟩

set_option maxHeartbeats 4000000 in
theorem split_any (b : UInt8) (s : ByteArray) (w : World) (hs : s.size ≤ 1000000) : Calls Tryz.prog 94 #[.string s, .int .u8 (b.toNat : Int)] w fun e w' => ∃ v, e = .returned v ∧ w'.ownsRow w.heap.size 9 1 v ((spl b s.data.toList).1.length + 1) (((spl b s.data.toList).1 ++ [(spl b s.data.toList).2]).map stv) ∧ Below w.heap.size w w' := by
  obtain ⟨i0, hi, hz0, hz1, hz2⟩ := info_parts infoT
  have hlen : s.data.toList.length = s.size := by rw [Array.length_toList]; rfl
  have hown0 := World.ownsRow_lit (base := w.heap.size) (e := 9) (size := 1) w #[.string ⟨#[]⟩] 1 (Nat.le_refl _) (by unfold maxLen; omega) rfl
  have HO0 := Lib.hid hown0
  have HLEN := Lib.hid hlen
  obtain ⟨y, hy⟩ : ∃ y, y = b.toNat := ⟨_, rfl⟩
  rw [← hy]
  have HY := Lib.hid hy
  clear hown0 hlen hy
  go_enter Tryz.func94, Tryz.ntmps94
  go_wp2
  go_loopw [5, 6] (fun v i wr => ∃ k : Nat, k ≤ s.size ∧ i = .int .i64 k ∧ wr.ownsRow w.heap.size 9 1 v ((spl b (s.data.toList.take k)).1.length + 1) (((spl b (s.data.toList.take k)).1 ++ [(spl b (s.data.toList.take k)).2]).map stv) ∧ Below w.heap.size w wr) (fun _ i _ => s.size - (intOf i).toNat)
  case atStart => exact ⟨0, by omega, rfl, HO0.out, (Below.refl _ _).alloc (Nat.le_refl _) _⟩
  case round =>
    obtain ⟨k, hk, rfl, ho, hb⟩ := hrel
    by_cases hlt : k < s.size
    · have hsn := spl_snoc b s.data.toList k (by have := HLEN.out; omega)
      have hbl := spl_len b (s.data.toList.take k)
      have hcu := spl_cur b (s.data.toList.take k)
      rw [List.length_take] at hbl hcu
      have hget : s.data.toList[k]'(by have := HLEN.out; omega) = s[k]'hlt := rfl
      rw [hget] at hsn
      have hext := ext_one s k hlt (spl b (s.data.toList.take k)).2
      generalize hD : (spl b (s.data.toList.take k)).1 = D at *
      generalize hC : (spl b (s.data.toList.take k)).2 = C at *
      obtain ⟨g, c, hv⟩ : ∃ g c, u5 = .slice (some ⟨g, 0, none⟩) (D.length + 1) c := by
        rcases ho.2 with ⟨_, h⟩ | ⟨g, cap, cur, h, _⟩
        · omega
        · exact ⟨g, cap, h⟩
      subst hv
      have hDl : D.length ≤ 1000000 := by omega
      by_cases hc : s[k]'hlt = b
      · obtain ⟨v7, w7, hr7, ho7, hb7⟩ := append_str w wr _ (D ++ [C]) (D.length + 1) ho hb (by omega)
        have hnew : spl b (s.data.toList.take (k + 1)) = (D ++ [C], []) := by rw [hsn]; unfold splS; rw [if_pos hc]; simp only [hD, hC]
        have HNW := Lib.hid hnew
        have HR7 := Lib.hid hr7
        have HO7 := Lib.hid ho7
        have HB7 := Lib.hid hb7
        have ht : (((s[k]'hlt).toNat : Int) == (y : Int)) = true := by rw [beq_iff_eq, HY.out, hc]
        clear hnew hr7 ho7 hb7 hsn hext hget hD hC ho hc
        go_wp2_with (at_builtin; refine Lib.wpList_append_run (o := ⟨some 21, _, _, _, _, _⟩) _ rfl _ _ _ _ rfl _ _ rfl rfl _ _ HR7.out ?_)
        go_roundw
        case rel => exact ⟨k + 1, by omega, by go_num, by rw [HNW.out]; simpa using HO7.out, HB7.out⟩
        case measure => simp [intOf]; omega
      · have hnew : spl b (s.data.toList.take (k + 1)) = (D, C ++ [s[k]'hlt]) := by rw [hsn]; unfold splS; rw [if_neg hc]; simp only [hD, hC]
        have HNW := Lib.hid hnew
        have ht : (((s[k]'hlt).toNat : Int) == (y : Int)) = false := by
          rw [beq_eq_false_iff_ne]; intro e; exact hc (UInt8.toNat_inj.1 (by rw [HY.out] at e; omega))
        have hcl := ho.cellAt D.length (by omega)
        have hcl2 : ((D ++ [C]).map stv)[D.length]? = some (stv C) := by simp
        rw [hcl2] at hcl
        have hfz := ho.frozenAt D.length
        have hst := ho.stored D.length (stv (C ++ [s[k]'hlt]))
        have hst2 : ((D ++ [C]).map stv).set D.length (stv (C ++ [s[k]'hlt])) = (D ++ [C ++ [s[k]'hlt]]).map stv := by
          rw [List.map_append, List.map_append, List.set_append_right _ _ (by simp)]; simp
        rw [hst2] at hst
        have hgB := (ho.lt g rfl).1
        have hb7 := hb.setCell (p := ⟨g, D.length, none⟩) hgB (stv (C ++ [s[k]'hlt]))
        rw [← hext] at hext
        unfold stv at hcl
        have HST := Lib.hid hst
        have HB7 := Lib.hid hb7
        have HEX := Lib.hid (ext_one s k hlt C)
        have hCl : (ByteArray.mk C.toArray).size ≤ 1000000 := by rw [show (ByteArray.mk C.toArray).size = C.length by simp [ByteArray.size]]; omega
        have hEl : (s.extract k (k + 1)).size ≤ 1000000 := by rw [ByteArray.size_extract]; omega
        have hsum : ¬ 9223372036854775807 < (ByteArray.mk C.toArray).size + (s.extract k (k + 1)).size := by omega
        have hD1 : IntKind.i64.wrap (D.length : Int) = D.length := IntWalk.i64_in _ (by omega)
        have hk1 : IntKind.i64.wrap ((k : Int) + 1) = k + 1 := IntWalk.i64_in _ (by omega)
        clear hnew hsn hext hget hD hC ho hc hcl2 hst hst2 hb7
        go_wp2
        go_region
        all_goals clear hD1 hk1
        all_goals go_wp2
        all_goals go_roundw
        case rel =>
          rw [HEX.out]
          exact ⟨k + 1, by omega, by go_num, by rw [HNW.out]; exact HST.out.1, HB7.out.drew⟩
        case measure => simp [intOf]; omega
    · have hkk : k = s.size := by omega
      subst hkk
      have hall : s.data.toList.take s.size = s.data.toList := by rw [← HLEN.out]; exact List.take_length
      rw [hall] at ho
      have HO := Lib.hid ho
      clear ho hall
      go_wp2
      go_ret
      exact ⟨_, rfl, HO.out, hb⟩

end Go.Proofs.YtdabanocofimmaaGreatDoor

namespace Go.Proofs.YtdabanocofimmaaGreatDoor
open Go.RowKit

def spR (b : UInt8) : List UInt8 → List (List UInt8)
  | [] => [[]]
  | x :: l => if x = b then [] :: spR b l else (x :: (spR b l).headD []) :: (spR b l).tail
theorem spR_ne (b : UInt8) : ∀ l : List UInt8, spR b l = (spR b l).headD [] :: (spR b l).tail
  | [] => rfl
  | x :: l => by unfold spR; split <;> rfl
theorem spl_spR (b : UInt8) : ∀ (l : List UInt8) (D : List (List UInt8)) (C : List UInt8), (l.foldl (splS b) (D, C)).1 ++ [(l.foldl (splS b) (D, C)).2] = D ++ (C ++ (spR b l).headD []) :: (spR b l).tail
  | [], D, C => by simp [spR]
  | x :: l, D, C => by
    rw [List.foldl_cons]
    by_cases h : x = b
    · have e : splS b (D, C) x = (D ++ [C], []) := by unfold splS; rw [if_pos h]
      rw [e, spl_spR b l]
      have e2 : spR b (x :: l) = [] :: spR b l := by rw [spR, if_pos h]
      rw [e2]
      have e3 := spR_ne b l
      simp only [List.headD_cons, List.tail_cons, List.append_nil, List.nil_append, List.append_assoc, List.cons_append]
      rw [← e3]
    · have e : splS b (D, C) x = (D, C ++ [x]) := by unfold splS; rw [if_neg h]
      rw [e, spl_spR b l]
      have e2 : spR b (x :: l) = (x :: (spR b l).headD []) :: (spR b l).tail := by rw [spR, if_neg h]
      rw [e2]
      simp
theorem spl_parts (b : UInt8) (l : List UInt8) : (spl b l).1 ++ [(spl b l).2] = spR b l := by
  have := spl_spR b l [] []
  simp only [List.nil_append] at this
  rw [← spR_ne] at this
  exact this

theorem index_hit (l : List UInt8) : Lib.index (62 :: l) [62] = 0 := by simp [Lib.index, List.isPrefixOf]
theorem index_ge : ∀ l : List UInt8, -1 ≤ Lib.index l [62]
  | [] => by simp [Lib.index]
  | x :: l => by
    have := index_ge l
    rw [Lib.index]
    split
    · omega
    · split <;> omega
theorem index_miss (x : UInt8) (l : List UInt8) (h : x ≠ 62) : Lib.index (x :: l) [62] = if Lib.index l [62] = -1 then -1 else Lib.index l [62] + 1 := by
  rw [Lib.index]
  have : ([62] : List UInt8).isPrefixOf (x :: l) = false := by
    simp only [List.isPrefixOf, Bool.and_true, beq_eq_false_iff_ne]; exact fun e => h e.symm
  rw [this]
  simp
theorem cut_nil : Lib.cut [] [62] = ([], [], false) := by kernel_rfl
theorem cut_hit (l : List UInt8) : Lib.cut (62 :: l) [62] = ([], l, true) := by
  unfold Lib.cut; rw [index_hit]; simp
theorem cut_miss (x : UInt8) (l : List UInt8) (h : x ≠ 62) : Lib.cut (x :: l) [62] = (x :: (Lib.cut l [62]).1, (Lib.cut l [62]).2.1, (Lib.cut l [62]).2.2) := by
  have hge := index_ge l
  unfold Lib.cut
  rw [index_miss x l h]
  by_cases h1 : Lib.index l [62] = -1
  · simp [h1]
  · have e : (Lib.index l [62] + 1).toNat = (Lib.index l [62]).toNat + 1 := by omega
    rw [if_neg h1, if_pos (show 0 ≤ Lib.index l [62] + 1 by omega), if_pos (show 0 ≤ Lib.index l [62] by omega), e]
    rfl
/-- The parts of a text, by its first cut. -/
theorem spR_cut : ∀ l : List UInt8, spR 62 l = if (Lib.cut l [62]).2.2 = true then (Lib.cut l [62]).1 :: spR 62 (Lib.cut l [62]).2.1 else [l]
  | [] => by rw [cut_nil]; rfl
  | x :: l => by
    by_cases h : x = 62
    · subst h; rw [cut_hit, spR, if_pos rfl]; rfl
    · rw [cut_miss x l h, spR, if_neg h, spR_cut l]
      by_cases h2 : (Lib.cut l [62]).2.2 = true
      · simp only [h2, if_true]; rfl
      · simp only [h2]; rfl
theorem cut_none (l : List UInt8) (h : ¬ (Lib.cut l [62]).2.2 = true) : (Lib.cut l [62]).2.1 = [] := by
  unfold Lib.cut at *
  split <;> simp_all
theorem name_sign (l : List UInt8) (h : nameB l = true) : ∀ x ∈ l, x ≠ 62 := by
  intro x hx e
  subst e
  obtain ⟨i, hi, he⟩ := List.getElem_of_mem hx
  unfold nameB at h
  simp only [Bool.and_eq_true, List.all_eq_true, List.mem_range] at h
  have := h.2 i hi
  unfold okAt at this
  rw [show l.getD i 0 = 62 by rw [← he]; simp [hi]] at this
  simp [okR, lettB, digI] at this
theorem spR_one : ∀ (l : List UInt8), (∀ x ∈ l, x ≠ 62) → spR 62 l = [l]
  | [], _ => rfl
  | x :: l, h => by
    rw [spR, if_neg (h x (by simp)), spR_one l (fun y hy => h y (by simp [hy]))]; rfl
theorem spR_sole : ∀ (l r : List UInt8), spR 62 l = [r] → l = r := by
  intro l r h
  rw [spR_cut] at h
  split at h
  · rename_i h2
    have := spR_ne 62 (Lib.cut l [62]).2.1
    rw [this] at h
    simp at h
  · simpa using h

/-- Three parts: the names that the two cuts give. -/
theorem three_parts (l p q r : List UInt8) (h : spR 62 l = [p, q, r]) : nmA l = p ∧ nmK l = q ∧ nmT l = r := by
  unfold nmA nmK nmT
  rw [spR_cut] at h
  split at h
  · simp only [List.cons.injEq] at h
    obtain ⟨h1, h2⟩ := h
    rw [spR_cut] at h2
    split at h2
    · simp only [List.cons.injEq] at h2
      exact ⟨h1, h2.1, spR_sole _ _ h2.2⟩
    · simp at h2
  · simp at h
theorem not_three (l : List UInt8) (h : (spR 62 l).length ≠ 3) : nmB l = false := by
  cases hn : nmB l with
  | false => rfl
  | true =>
    exfalso
    apply h
    unfold nmB at hn
    simp only [Bool.and_eq_true] at hn
    obtain ⟨⟨h1, h2⟩, h3⟩ := hn
    unfold nmK at h2
    unfold nmT at h3
    rw [spR_cut]
    by_cases c1 : (Lib.cut l [62]).2.2 = true
    · rw [if_pos c1, spR_cut (Lib.cut l [62]).2.1]
      by_cases c2 : (Lib.cut (Lib.cut l [62]).2.1 [62]).2.2 = true
      · rw [if_pos c2, spR_one _ (name_sign _ h3)]; rfl
      · rw [cut_none _ c2] at h3
        cases h3
    · rw [cut_none _ c1, cut_nil] at h2
      cases h2
/-- What the reference asks of an edge's text. -/
theorem nmB_len (l : List UInt8) (h : nmB l = true) : l.length ≤ 50 := by
  have hne : (spR 62 l).length = 3 := by
    apply Decidable.byContradiction
    intro hc
    rw [not_three l hc] at h
    cases h
  obtain ⟨p, q, r, he⟩ : ∃ p q r, spR 62 l = [p, q, r] := by
    match hs : spR 62 l, hne with
    | [p, q, r], _ => exact ⟨p, q, r, rfl⟩
  have hsum : ∀ l : List UInt8, l.length + 1 = ((spR 62 l).map fun p => p.length + 1).sum := by
    intro l
    induction l with
    | nil => rfl
    | cons x l ih =>
      rw [spR]
      split
      · simp only [List.map_cons, List.sum_cons, List.length_cons, List.length_nil]; omega
      · rw [spR_ne] at ih
        simp only [List.map_cons, List.sum_cons, List.length_cons] at ih ⊢; omega
  have h2 := hsum l
  rw [he] at h2
  obtain ⟨e1, e2, e3⟩ := three_parts l p q r he
  have hl : ∀ m : List UInt8, nameB m = true → m.length ≤ 16 := by
    intro m hm
    unfold nameB at hm
    simp only [Bool.and_eq_true, decide_eq_true_eq] at hm
    exact hm.1.2
  unfold nmB at h
  simp only [Bool.and_eq_true] at h
  have a1 := hl _ h.1.1
  have a2 := hl _ h.1.2
  have a3 := hl _ h.2
  rw [e1] at a1; rw [e2] at a2; rw [e3] at a3
  simp at h2
  omega

end Go.Proofs.YtdabanocofimmaaGreatDoor
