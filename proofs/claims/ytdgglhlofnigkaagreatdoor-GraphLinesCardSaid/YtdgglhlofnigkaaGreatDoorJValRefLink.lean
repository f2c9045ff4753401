/-
  hedgerowref01.Link. hedgerowref01.Right. Events, elements, values, changes as cells. event.settable, fits, Change. Conditions: lengths.
-/import Derived.Test.YtdgglhlofnigkaaGreatDoorJValSplit
import Derived.Test.YtdgglhlofnigkaaGreatDoorJValName
import Derived.Deep.DeepCutAuto
import Derived.Test.YtdgglhlofnigkaaGreatDoorJEVOps
import Derived.Test.YtdgglhlofnigkaaGreatDoorEvElem
set_option maxHeartbeats 4000000
set_option maxRecDepth 100000
namespace Go.Proofs.YtdgglhlofnigkaaGreatDoor
open Lib (hid)
open Go.RowKit
theorem size_mk' (l : List UInt8) : (ByteArray.mk l.toArray).size = l.length := by simp [ByteArray.size]
theorem refname_l (l : List UInt8) (w : World) (h : (ByteArray.mk l.toArray).size ≤ 9223372036854775806) : Calls Tryz.prog 112 #[.string ⟨l.toArray⟩] w (SameV w (.bool (nameB l))) := refname_any ⟨l.toArray⟩ w h
set_option maxHeartbeats 4000000 in
theorem reflink_any (s : ByteArray) (w : World) (hs : s.size ≤ 1000000) : Calls Tryz.prog 114 #[.string s] w (Gives w (nmV s.data.toList)) := by
 have hlen : s.data.toList.length = s.size := by rw [Array.length_toList]; rfl
 have hVF : nmB s.data.toList = false → Hid (.tuple #[lkV [] [] [], .bool false] = nmV s.data.toList) := fun h => hid (by unfold nmV; rw [h]; rfl)
 by_cases h60 : 60 < s.size
 ·have HF := hVF (by
   cases hq : nmB s.data.toList with
   | false => rfl
   | true => have := nmB_len _ hq; omega)
  clear hVF hlen
  go_enter Tryz.func114, Tryz.ntmps114
  go_wp2
  refine bodyPost_ret (ret_cell rfl _ _ _ _ _ _ (.bool false) rfl (Blk.new w _ _) Tryz.underlying36 rfl (by kernel_rfl) rfl) rfl ?_
  exact ⟨by rw [← HF.out]; rfl, alloc_below _ _⟩
 ·have hsp := fun W => split_any 62 s W hs
  have HSP := hid hsp
  obtain ⟨n, hn⟩ : ∃ n, n = (spR 62 s.data.toList).length := ⟨_, rfl⟩
  have hn2 : (spl 62 s.data.toList).1.length + 1 = n := by rw [hn, ← spl_parts]; simp
  have HN2 := hid hn2
  have hn9 : n ≤ 1000001 := by
   have := spl_len 62 s.data.toList
   omega
  have HN := hid hn
  have hn1 : 0 < n := by omega
  clear hsp hn2 hn hlen
  go_enter Tryz.func114, Tryz.ntmps114
  go_wp2_with fail
  refine (HSP.out _).mono ?_
  rintro e w1 ⟨v, rfl, ho1, hb1⟩
  rw [spl_parts, HN2.out] at ho1
  have k1 := In1.of hb1
  have HB := hid k1.below
  obtain ⟨g, c, hv⟩ : ∃ g c, v = .slice (some ⟨g, 0, none⟩) n c := by
   rcases ho1.2 with ⟨_, h⟩ | ⟨g, cap, cur, h, _⟩
   ·omega
   ·exact ⟨g, cap, h⟩
  subst hv
  obtain ⟨c0, c1, c2, f0, f1, f2, hlt⟩ := k1.three
  have K1 := hid k1
  clear k1 hb1
  by_cases h3 : n = 3
  ·subst h3
   obtain ⟨p, q, r, hp⟩ : ∃ p q r, spR 62 s.data.toList = [p, q, r] := by
    have hne := HN.out
    match hs : spR 62 s.data.toList, hne with
    | [p, q, r], _ => exact ⟨p, q, r, rfl⟩
   rw [hp] at ho1
   obtain ⟨e1, e2, e3⟩ := three_parts _ _ _ _ hp
   have HV : Hid (nmV s.data.toList = .tuple #[if (nameB p && nameB q && nameB r) then lkV p r q else lkV [] [] [], .bool (nameB p && nameB q && nameB r)]) := hid (by unfold nmV nmB; rw [e1, e2, e3])
   have l0 : w1.cell? ⟨g, 0, none⟩ = some (.string ⟨p.toArray⟩) := ho1.cellAt 0 (by omega)
   have l1 : w1.cell? ⟨g, 1, none⟩ = some (.string ⟨q.toArray⟩) := ho1.cellAt 1 (by omega)
   have l2 : w1.cell? ⟨g, 2, none⟩ = some (.string ⟨r.toArray⟩) := ho1.cellAt 2 (by omega)
   have hln : p.length ≤ 1000000 ∧ q.length ≤ 1000000 ∧ r.length ≤ 1000000 := by
    obtain ⟨a1, a2⟩ := cut_len s.data.toList [62]
    obtain ⟨a3, a4⟩ := cut_len (Lib.cut s.data.toList [62]).2.1 [62]
    have hl : s.data.toList.length = s.size := by rw [Array.length_toList]; rfl
    unfold nmA at e1; unfold nmK at e2; unfold nmT at e3
    rw [← e1, ← e2, ← e3]; omega
   have HP : Hid ((ByteArray.mk p.toArray).size ≤ 9223372036854775806) := hid (by rw [size_mk']; omega)
   have HQ : Hid ((ByteArray.mk q.toArray).size ≤ 9223372036854775806) := hid (by rw [size_mk']; omega)
   have HR : Hid ((ByteArray.mk r.toArray).size ≤ 9223372036854775806) := hid (by rw [size_mk']; omega)
   clear hVF HSP HN HN2 ho1 hp e1 e2 e3 hln hn1 hn9
   go_wp2_with fail
   refine (refname_l _ _ HP.out).mono ?_
   rintro e w2 ⟨rfl, rfl⟩
   cases q1 : nameB p with
   | false =>
    have Q1 := hid q1
    clear q1
    have HF : Hid (nmV s.data.toList = .tuple #[lkV [] [] [], .bool false]) := hid (by rw [HV.out, Q1.out]; rfl)
    go_wp2
    (try simp only [Exit.inBlock, Exit.then])
    refine bodyPost_ret (ret_cell rfl _ _ _ _ _ _ (.bool false) rfl (set3_blk K1.out _ _ _) Tryz.underlying36 rfl (by kernel_rfl) rfl) rfl ?_
    exact ⟨by rw [HF.out]; rfl, set3_below HB.out _ _ _⟩
   | true =>
    have Q1 := hid q1
    clear q1
    go_wp2_with fail
    refine (refname_l _ _ HQ.out).mono ?_
    rintro e w2 ⟨rfl, rfl⟩
    cases q2 : nameB q with
    | false =>
     have Q2 := hid q2
     clear q2
     have HF : Hid (nmV s.data.toList = .tuple #[lkV [] [] [], .bool false]) := hid (by rw [HV.out, Q1.out, Q2.out]; rfl)
     go_wp2
     (try simp only [Exit.inBlock, Exit.then])
     refine bodyPost_ret (ret_cell rfl _ _ _ _ _ _ (.bool false) rfl (set3_blk K1.out _ _ _) Tryz.underlying36 rfl (by kernel_rfl) rfl) rfl ?_
     exact ⟨by rw [HF.out]; rfl, set3_below HB.out _ _ _⟩
    | true =>
     have Q2 := hid q2
     clear q2
     go_wp2_with fail
     refine (refname_l _ _ HR.out).mono ?_
     rintro e w2 ⟨rfl, rfl⟩
     cases q3 : nameB r with
     | false =>
      have Q3 := hid q3
      clear q3
      have HF : Hid (nmV s.data.toList = .tuple #[lkV [] [] [], .bool false]) := hid (by rw [HV.out, Q1.out, Q2.out, Q3.out]; rfl)
      go_wp2
      (try simp only [Exit.inBlock, Exit.then])
      refine bodyPost_ret (ret_cell rfl _ _ _ _ _ _ (.bool false) rfl (set3_blk K1.out _ _ _) Tryz.underlying36 rfl (by kernel_rfl) rfl) rfl ?_
      exact ⟨by rw [HF.out]; rfl, set3_below HB.out _ _ _⟩
     | true =>
      have Q3 := hid q3
      clear q3
      have HF : Hid (nmV s.data.toList = .tuple #[lkV p r q, .bool true]) := hid (by rw [HV.out, Q1.out, Q2.out, Q3.out]; rfl)
      go_wp2
      go_region
      all_goals go_wp2
      all_goals (try simp only [Exit.inBlock, Exit.then])
      all_goals refine bodyPost_ret (ret_cell rfl _ _ _ _ _ _ (.bool true) rfl (set3_blk (K1.out.drew' 1) _ _ _) Tryz.underlying36 rfl (by kernel_rfl) rfl) rfl ?_
      all_goals exact ⟨by rw [HF.out]; rfl, set3_below HB.out.drew _ _ _⟩
  ·have HF := hVF (not_three _ (by rw [← HN.out]; exact h3))
   have h3' : ((n : Int) != 3) = true := by simp; omega
   clear hVF HSP HN HN2 h3 ho1
   go_wp2
   refine bodyPost_ret (ret_cell rfl _ _ _ _ _ _ (.bool false) rfl (set3_blk K1.out _ _ _) Tryz.underlying36 rfl (by kernel_rfl) rfl) rfl ?_
   exact ⟨by rw [← HF.out]; rfl, set3_below HB.out _ _ _⟩
set_option maxHeartbeats 2000000 in
theorem refright_any (k n : Int) (s : ByteArray) (w : World) (hs : s.size ≤ 1000000) : Calls Tryz.prog 81 #[valV k n s] w (Gives w (.bool (rightB k n s.data.toList))) := by
 have HL : Hid (s.toList = s.data.toList) := hid (Lib.toList_data s)
 unfold valV
 by_cases k0 : k = 0
 ·subst k0
  have HR : Hid (rightB 0 n s.data.toList = (n == 0 && s.toList.isEmpty)) := hid (by rw [HL.out]; rfl)
  go_enter Tryz.func81, Tryz.ntmps81
  go_wp2
  all_goals go_ret
  all_goals exact ⟨by rw [HR.out]; simp [*], alloc_below _ _⟩
 by_cases k1 : k = 1
 ·subst k1
  clear k0
  have HR : Hid (rightB 1 n s.data.toList = ((n == 0 || n == 1) && s.toList.isEmpty)) := hid (by rw [HL.out]; rfl)
  go_enter Tryz.func81, Tryz.ntmps81
  go_wp2
  all_goals go_ret
  all_goals exact ⟨by rw [HR.out]; simp [*], alloc_below _ _⟩
 by_cases k2 : k = 2
 ·subst k2
  clear k0 k1
  have HR : Hid (rightB 2 n s.data.toList = (decide (-1099511627776 ≤ n) && decide (n ≤ 1099511627776) && s.toList.isEmpty)) := hid (by rw [HL.out]; rfl)
  go_enter Tryz.func81, Tryz.ntmps81
  go_wp2
  all_goals go_ret
  all_goals exact ⟨by rw [HR.out]; simp [*] <;> (intros; omega), alloc_below _ _⟩
 by_cases k3 : k = 3
 ·subst k3
  clear k0 k1 k2
  have HR : Hid (rightB 3 n s.data.toList = (n == 0 && plainB s.data.toList)) := hid rfl
  cases hn : (n == 0) with
  | false =>
   go_enter Tryz.func81, Tryz.ntmps81
   go_wp2
   go_ret
   exact ⟨by rw [HR.out, hn]; rfl, alloc_below _ _⟩
  | true =>
   go_enter Tryz.func81, Tryz.ntmps81
   go_wp2_with fail
   refine (refplain_any _ _ (by omega)).mono ?_
   rintro e w3 ⟨rfl, rfl⟩
   go_wp2
   go_ret
   exact ⟨by rw [HR.out, hn]; rfl, alloc_below _ _⟩
 by_cases k4 : k = 4
 ·subst k4
  clear k0 k1 k2 k3
  have HR : Hid (rightB 4 n s.data.toList = (n == 0 && nameB s.data.toList)) := hid rfl
  cases hn : (n == 0) with
  | false =>
   go_enter Tryz.func81, Tryz.ntmps81
   go_wp2
   go_ret
   exact ⟨by rw [HR.out, hn]; rfl, alloc_below _ _⟩
  | true =>
   go_enter Tryz.func81, Tryz.ntmps81
   go_wp2_with fail
   refine (refname_any _ _ (by omega)).mono ?_
   rintro e w3 ⟨rfl, rfl⟩
   go_wp2
   go_ret
   exact ⟨by rw [HR.out, hn]; rfl, alloc_below _ _⟩
 by_cases k5 : k = 5
 ·subst k5
  clear k0 k1 k2 k3 k4
  have HR : Hid (rightB 5 n s.data.toList = (n == 0 && nmB s.data.toList)) := hid rfl
  go_enter Tryz.func81, Tryz.ntmps81
  go_wp2_with fail
  refine (reflink_any _ _ hs).mono ?_
  rintro e w3 ⟨rfl, hb3⟩
  obtain ⟨c0, c1, c2, f0, f1, f2, hlt⟩ := (In1.of hb3).three
  unfold nmV
  cases hq : nmB s.data.toList <;> cases hn : (n == 0)
  all_goals
   have HQ := hid hq
   clear hq
   simp only [Bool.false_eq_true, ↓reduceIte, lkV, sv]
   go_wp2
   go_ret
   exact ⟨by rw [HR.out, HQ.out, hn]; rfl, (alloc_then hb3).alloc (Nat.le_of_lt hlt) _⟩
 ·have HR : Hid (rightB k n s.data.toList = false) := hid (by simp [rightB, k0, k1, k2, k3, k4, k5])
  have b0 : (k == 0) = false := beq_eq_false_iff_ne.2 k0
  have b1 : (k == 1) = false := beq_eq_false_iff_ne.2 k1
  have b2 : (k == 2) = false := beq_eq_false_iff_ne.2 k2
  have b3 : (k == 3) = false := beq_eq_false_iff_ne.2 k3
  have b4 : (k == 4) = false := beq_eq_false_iff_ne.2 k4
  have b5 : (k == 5) = false := beq_eq_false_iff_ne.2 k5
  clear k0 k1 k2 k3 k4 k5
  go_enter Tryz.func81, Tryz.ntmps81
  go_wp2
  go_ret
  exact ⟨by rw [HR.out]; rfl, alloc_below _ _⟩
structure Ev where
 r : Int
 c : Int
 p : Nat → Int
 op : Int
 ek : Int
 a : ByteArray
 b : ByteArray
 cc : ByteArray
 d : ByteArray
 vk : Int
 vn : Int
 t : ByteArray
def evC (e : Ev) : Array Value := #[.int .i64 e.r, .int .i64 e.c, .int .i64 (e.p 0), .int .i64 (e.p 1), .int .i64 (e.p 2), .int .i64 (e.p 3), .int .i64 (e.p 4), .int .i64 (e.p 5), .int .i64 (e.p 6), .int .i64 (e.p 7), .int .i64 (e.p 8), .int .i64 (e.p 9), .int .i64 (e.p 10), .int .i64 (e.p 11), .int .i64 (e.p 12), .int .i64 (e.p 13), .int .i64 (e.p 14), .int .i64 (e.p 15), .int .i64 e.op, .int .i64 e.ek, .string e.a, .string e.b, .string e.cc, .string e.d, .int .i64 e.vk, .int .i64 e.vn, .string e.t]
def chC (e : Ev) : Array Value := #[.int .i64 e.op, .int .i64 e.ek, .string e.a, .string e.b, .string e.cc, .string e.d, .int .i64 e.vk, .int .i64 e.vn, .string e.t]
def evV (e : Ev) : Value := .agg (evC e)
def chV (e : Ev) : Value := .agg (chC e)
def noneB (k n : Int) (l : List UInt8) : Bool := k == 0 && n == 0 && l.isEmpty
def setB (k n : Int) (l : List UInt8) : Bool := decide (1 ≤ k ∧ k ≤ 3) && rightB k n l
def valdB (k : Int) : Bool := k == 4 || k == 5
def fitsB (op ek k n : Int) (l : List UInt8) : Bool :=
 if op = 1 ∨ op = 2 then !valdB ek && noneB k n l else if op = 3 then valdB ek && setB k n l else if op = 4 then valdB ek && noneB k n l else false
def changeB (e : Ev) : Bool := elemB e.ek e.a.data.toList e.b.data.toList e.cc.data.toList e.d.data.toList && fitsB e.op e.ek e.vk e.vn e.t.data.toList
def okB (e : Ev) : Bool := nextB e.p e.r e.c && rightV e.p && changeB e
def codeI (b : Bool) : Int := if b then 0 else 1
theorem eq_none (k n : Int) (s : ByteArray) (w : World) : (binOp .eql 43 (valV k n s) (valV 0 0 ⟨#[]⟩)).run Tryz.prog w = .ok (.bool (noneB k n s.data.toList)) w := by
 unfold noneB
 rw [← Lib.toList_data s]
 unfold valV
 go_simp
 by_cases h1 : k = 0
 ·by_cases h2 : n = 0
  ·by_cases h3 : s.toList = []
   ·simp [h1, h2, h3]
   ·have h4 : s.toList.isEmpty = false := Bool.eq_false_iff.2 fun h => h3 (List.isEmpty_iff.1 h)
    simp [h1, h2, h3, h4]
  ·simp [h1, h2]
 ·simp [h1]
theorem guard_agg (t : TypeId) (h : Tryz.prog.eqGuardType Tryz.prog.depth t = false) (x y : Operand) (a b : Array Value) (w : World) : (eqGuard .eql t x y (.agg a) (.agg b)).run Tryz.prog w = .ok () w := run_eqGuard_agg _ _ _ _ _ _ _ h
theorem right_is (k n : Int) (s : ByteArray) (hs : s.size ≤ 9223372036854775807) (h5 : k ≠ 5) (b : Bool) (h : rightB k n s.data.toList = b) (w : World) (hw : CutOk w) : Calls Tryz.prog 85 #[valV k n s] w (Gives w (.bool b)) := by
 have := right_wide k n s w hs (fun e => absurd e h5) hw; rwa [h] at this
theorem settable_any (k n : Int) (s : ByteArray) (w : World) (hs : s.size ≤ 9223372036854775807) (hw : CutOk w) : Calls Tryz.prog 127 #[valV k n s] w (Gives w (.bool (setB k n s.data.toList))) := by
 have HR := hid (fun h5 b h w => right_is k n s hs h5 b h w)
 have HE : Hid (setB k n s.data.toList = (decide (1 ≤ k ∧ k ≤ 3) && rightB k n s.data.toList)) := hid rfl
 have HW := hid (hw.alloc (.cells #[.int .i64 k, .int .i64 n, .string s] 43))
 have HY := hid ((Below.refl w.heap.size w).alloc (Nat.le_refl _) (.cells #[.int .i64 k, .int .i64 n, .string s] 43))
 clear hs hw
 unfold valV at *
 by_cases hk : 1 ≤ k ∧ k ≤ 3
 ·rw [decide_eq_true hk, Bool.true_and] at HE
  have h3 : k = 1 ∨ k = 2 ∨ k = 3 := by omega
  clear hk
  rcases h3 with rfl | rfl | rfl
  all_goals
   go_enter Tryz.func127, Tryz.ntmps127
   go_wp2_with fail
   refine (HR.out (by decide) _ rfl _ HW.out).mono ?_
   rintro e w1 ⟨rfl, hb⟩
   have HZ := hid (HY.out.trans (hb.mono HY.out.size))
   clear hb
   go_wp2
   go_ret
   exact ⟨by rw [HE.out]; rfl, HZ.out⟩
 ·have g1 : (k == 1) = false := beq_eq_false_iff_ne.2 (by omega)
  have g2 : (k == 2) = false := beq_eq_false_iff_ne.2 (by omega)
  have g3 : (k == 3) = false := beq_eq_false_iff_ne.2 (by omega)
  rw [decide_eq_false hk, Bool.false_and] at HE
  clear hk HR
  go_enter Tryz.func127, Tryz.ntmps127
  go_wp2
  go_ret
  exact ⟨by rw [HE.out]; rfl, HY.out⟩
theorem settable_is (k n : Int) (s : ByteArray) (hs : s.size ≤ 9223372036854775807) (b : Bool) (h : setB k n s.data.toList = b) (w : World) (hw : CutOk w) : Calls Tryz.prog 127 #[valV k n s] w (Gives w (.bool b)) := by
 have := settable_any k n s w hs hw; rwa [h] at this
theorem fits_any (e : Ev) (w : World) (hs : e.t.size ≤ 9223372036854775807) (hw : CutOk w) : Calls Tryz.prog 93 #[chV e] w (Gives w (.bool (fitsB e.op e.ek e.vk e.vn e.t.data.toList))) := by
 obtain ⟨r, c, p, op, ek, a, b, cc, d, vk, vn, t⟩ := e
 show Calls Tryz.prog 93 #[.agg #[.int .i64 op, .int .i64 ek, .string a, .string b, .string cc, .string d, .int .i64 vk, .int .i64 vn, .string t]] w (Gives w (.bool (fitsB op ek vk vn t.data.toList)))
 dsimp only at hs
 have HS := hid (fun b h w => settable_is vk vn t hs b h w)
 have hq := fun w => eq_none vk vn t w
 have HW := hid (hw.alloc (.cells #[.int .i64 op, .int .i64 ek, .string a, .string b, .string cc, .string d, .int .i64 vk, .int .i64 vn, .string t] 106))
 have HY := hid ((Below.refl w.heap.size w).alloc (Nat.le_refl _) (.cells #[.int .i64 op, .int .i64 ek, .string a, .string b, .string cc, .string d, .int .i64 vk, .int .i64 vn, .string t] 106))
 have HE : Hid (fitsB op ek vk vn t.data.toList = if op = 1 ∨ op = 2 then !valdB ek && noneB vk vn t.data.toList else if op = 3 then valdB ek && setB vk vn t.data.toList else if op = 4 then valdB ek && noneB vk vn t.data.toList else false) := hid rfl
 have HV : Hid (valdB ek = (ek == 4 || ek == 5)) := hid rfl
 clear hs hw
 unfold valV at *
 generalize noneB vk vn t.data.toList = nb at *
 have hgd := fun (x y : Operand) (a b : Array Value) (w : World) => guard_agg 43 (by kernel_rfl) x y a b w
 cases g4 : (ek == 4)
 all_goals cases g5 : (ek == 5)
 all_goals
  rw [g4, g5] at HV
  by_cases o1 : op = 1
  ·subst o1
   rw [if_pos (Or.inl rfl), HV.out] at HE
   clear HS
   go_enter Tryz.func93, Tryz.ntmps93
   go_wp2
   go_ret
   exact ⟨by rw [HE.out]; rfl, HY.out⟩
  ·by_cases o2 : op = 2
   ·subst o2
    rw [if_pos (Or.inr rfl), HV.out] at HE
    clear HS o1
    go_enter Tryz.func93, Tryz.ntmps93
    go_wp2
    go_ret
    exact ⟨by rw [HE.out]; rfl, HY.out⟩
   ·by_cases o3 : op = 3
    ·subst o3
     rw [if_neg (by omega), if_pos rfl, HV.out] at HE
     clear o1 o2
     first
      | (go_enter Tryz.func93, Tryz.ntmps93
         go_wp2_with fail
         refine (HS.out _ rfl _ HW.out).mono ?_
         rintro e w1 ⟨rfl, hb⟩
         have HZ := hid (HY.out.trans (hb.mono HY.out.size))
         clear hb
         go_wp2
         go_ret
         exact ⟨by rw [HE.out]; rfl, HZ.out⟩)
      | (go_enter Tryz.func93, Tryz.ntmps93
         go_wp2
         go_ret
         exact ⟨by rw [HE.out]; rfl, HY.out⟩)
    ·by_cases o4 : op = 4
     ·subst o4
      rw [if_neg (by omega), if_neg (by omega), if_pos rfl, HV.out] at HE
      clear HS o1 o2 o3
      go_enter Tryz.func93, Tryz.ntmps93
      go_wp2
      go_ret
      exact ⟨by rw [HE.out]; rfl, HY.out⟩
     ·rw [if_neg (by omega), if_neg o3, if_neg o4] at HE
      have b1 : (op == 1) = false := beq_eq_false_iff_ne.2 o1
      have b2 : (op == 2) = false := beq_eq_false_iff_ne.2 o2
      have b3 : (op == 3) = false := beq_eq_false_iff_ne.2 o3
      have b4 : (op == 4) = false := beq_eq_false_iff_ne.2 o4
      clear HS o1 o2 o3 o4
      go_enter Tryz.func93, Tryz.ntmps93
      go_wp2
      go_ret
      exact ⟨by rw [HE.out]; rfl, HY.out⟩
theorem fits_is (e : Ev) (hs : e.t.size ≤ 9223372036854775807) (b : Bool) (h : fitsB e.op e.ek e.vk e.vn e.t.data.toList = b) (w : World) (hw : CutOk w) : Calls Tryz.prog 93 #[chV e] w (Gives w (.bool b)) := by
 have := fits_any e w hs hw; rwa [h] at this
theorem elem_is (k : Int) (a b c d : ByteArray) (ha : a.size ≤ 9223372036854775807) (hb : b.size ≤ 9223372036854775807) (hc : c.size ≤ 9223372036854775807) (hd : d.size ≤ 9223372036854775807) (q : Bool) (h : elemB k a.data.toList b.data.toList c.data.toList d.data.toList = q) (w : World) :
  Calls Tryz.prog 92 #[elV k a b c d] w (Gives w (.bool q)) := by
 have := elem_any k a b c d w ha hb hc hd; rwa [h] at this
def Lens (e : Ev) : Prop := e.a.size ≤ 4294967280 ∧ e.b.size ≤ 4294967280 ∧ e.cc.size ≤ 4294967280 ∧ e.d.size ≤ 4294967280 ∧ e.t.size ≤ 4294967280
theorem change_wide (e : Ev) (w : World) (l1 : e.a.size ≤ 4294967280) (l2 : e.b.size ≤ 4294967280) (l3 : e.cc.size ≤ 4294967280) (l4 : e.d.size ≤ 4294967280) (l5 : e.t.size ≤ 9223372036854775807) (hw : CutOk w) : Calls Tryz.prog 67 #[chV e] w (Gives w (.int .i64 (codeI (changeB e)))) := by
 have HEl := hid (elem_is e.ek e.a e.b e.cc e.d (by omega) (by omega) (by omega) (by omega))
 have HFi := hid (fits_is e (by omega))
 have HW := hid (hw.alloc (.cells (chC e) 106))
 have HX := hid (Blk.new w 106 (chC e))
 have HY := hid ((Below.refl w.heap.size w).alloc (Nat.le_refl _) (.cells (chC e) 106))
 have HC : Hid (changeB e = (elemB e.ek e.a.data.toList e.b.data.toList e.cc.data.toList e.d.data.toList && fitsB e.op e.ek e.vk e.vn e.t.data.toList)) := hid rfl
 clear l1 l2 l3 l4 l5 hw
 unfold chV at *
 cases h1 : elemB e.ek e.a.data.toList e.b.data.toList e.cc.data.toList e.d.data.toList
 ·rw [h1] at HC
  have HEl' := hid (HEl.out _ h1)
  clear HEl h1 HFi
  unfold chC at *
  unfold elV at *
  go_enter Tryz.func67, Tryz.ntmps67
  go_wp2_with fail
  refine (HEl'.out _).mono ?_
  rintro e w1 ⟨rfl, hb⟩
  have HZ := hid (HY.out.trans (hb.mono HY.out.size))
  clear hb
  go_wp2
  go_ret
  exact ⟨by rw [HC.out]; rfl, HZ.out⟩
 ·rw [h1] at HC
  have HEl' := hid (HEl.out _ h1)
  clear HEl h1
  cases h2 : fitsB e.op e.ek e.vk e.vn e.t.data.toList
  all_goals
   rw [h2] at HC
   have HFi' := hid (HFi.out _ h2)
   clear HFi h2
   unfold chC at *
   unfold elV at *
   go_enter Tryz.func67, Tryz.ntmps67
   go_wp2_with fail
   refine (HEl'.out _).mono ?_
   rintro e w1 ⟨rfl, hb⟩
   have HZ := hid (HY.out.trans (hb.mono HY.out.size))
   have HX1 := hid (Blk.below HX.out hb (Blk.lt HX.out))
   have HW1 := hid (HW.out.below hb)
   clear hb
   go_wp2_with (refine wpList_load_if rfl 106 (.tmp 1) rfl w.heap.size rfl _ _ _ _ HX1.out Tryz.underlying106 rfl (by kernel_rfl) ?_)
   refine (HFi'.out _ HW1.out).mono ?_
   rintro e w2 ⟨rfl, hb⟩
   have HZ2 := hid (HZ.out.trans (hb.mono HZ.out.size))
   clear hb
   go_wp2
   go_ret
   exact ⟨by rw [HC.out]; rfl, HZ2.out⟩
theorem change_any (e : Ev) (w : World) (hl : Lens e) (hw : CutOk w) : Calls Tryz.prog 67 #[chV e] w (Gives w (.int .i64 (codeI (changeB e)))) := change_wide e w hl.1 hl.2.1 hl.2.2.1 hl.2.2.2.1 (by have := hl.2.2.2.2; omega) hw
end Go.Proofs.YtdgglhlofnigkaaGreatDoor
