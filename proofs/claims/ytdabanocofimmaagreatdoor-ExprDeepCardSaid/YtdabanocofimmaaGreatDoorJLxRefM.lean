/-
  The document's tokens are the program's: mathematics of lex. Strings out of bytes; slices just laid. hedgerowref01.Digits: the contract, by a walk. Conditions: lengths.
-/
import Derived.Test.YtdabanocofimmaaGreatDoorJLxTok
import Derived.Test.YtdabanocofimmaaGreatDoorJValRefNum
import Derived.Test.YtdabanocofimmaaGreatDoorJWords
import Derived.Lib.Strings
import Derived.Test.YtdabanocofimmaaGreatDoorJValQuote
import Derived.Test.YtdabanocofimmaaGreatDoorJValParse
import Derived.Deep.RegionWith
import Derived.Deep.DeepCutAuto
namespace Go.Proofs.YtdabanocofimmaaGreatDoor.Lx
open Go.RowKit

def sizeR (l : List UInt8) : Nat :=
  if digU (l.headD 0) = true then (runL inNums l).length else if letU (l.headD 0) = true then (runL inNames l).length
  else if l.headD 0 = 39 then (if qe (l.drop 1) = 0 then 0 else qe (l.drop 1) + 1)
  else if (decide (1 < l.length) && signs.contains (l.take 2)) = true then 2 else if signs.contains (l.take 1) = true then 1 else 0
def guessR (p : List UInt8) : Tk :=
  if digU (p.headD 0) = true then (3, numF (p.take 15), []) else if p.headD 0 = 39 then (4, 0, match parseO p with | some v => v.2.2 | none => [])
  else if words.contains p = true then (2, 0, p) else if signs.contains p = true then (5, 0, p) else (1, 0, p)
def oneR (t : Tk) : List UInt8 × Bool :=
  if t.1 = 1 then (t.2.2, nameB t.2.2 && !words.contains t.2.2) else if t.1 = 2 then (t.2.2, words.contains t.2.2)
  else if t.1 = 3 then (Lib.itoa t.2.1, decide (0 ≤ t.2.1) && decide (t.2.1 ≤ 1099511627776)) else if t.1 = 4 then (textB 3 0 t.2.2, rightB 3 0 t.2.2)
  else (t.2.2, signs.contains t.2.2)
def refO (l : List UInt8) : Option (Tk × Nat) :=
  if sizeR l = 0 then none else if (oneR (guessR (l.take (sizeR l)))).2 = true ∧ (oneR (guessR (l.take (sizeR l)))).1 = l.take (sizeR l) then some (guessR (l.take (sizeR l)), sizeR l) else none

theorem signs_12 : signs.all (fun g => g.length == 1 || g.length == 2) = true := by decide +kernel
theorem sign_12 {g : List UInt8} (h : g ∈ signs) : g.length = 1 ∨ g.length = 2 := by
  have := List.all_eq_true.1 signs_12 g h
  simpa using this
theorem refO_of {l p : List UInt8} {t : Tk} {n : Nat} (hn : sizeR l = n) (hn0 : n ≠ 0) (hp : l.take n = p) (hg : guessR p = t) : refO l = if (oneR t).2 = true ∧ (oneR t).1 = p then some (t, n) else none := by
  unfold refO
  rw [hn, if_neg hn0, hp, hg]
theorem refO_none {l : List UInt8} (hn : sizeR l = 0) : refO l = none := if_pos hn

set_option maxRecDepth 100000 in
theorem refO_eq (c : UInt8) (t : List UInt8) : refO (c :: t) = firstO (c :: t) := by
  rw [firstO_cons]
  have hh : (c :: t).headD 0 = c := rfl
  by_cases h1 : letU c = true
  · obtain ⟨d1, d2, _⟩ := let_not c h1
    rw [if_pos h1]
    have hsz : sizeR (c :: t) = (runL inNames (c :: t)).length := by
      unfold sizeR; rw [hh, d1, h1]; rfl
    have ha := runL_take inNames (c :: t)
    have hc : runL inNames (c :: t) = c :: runL inNames t := by rw [runL_cons, in_names, h1]; rfl
    have hn0 : (runL inNames (c :: t)).length ≠ 0 := by rw [hc]; simp
    have hs : signs.contains (runL inNames (c :: t)) = false := by
      cases hq : signs.contains (runL inNames (c :: t)) with
      | false => rfl
      | true =>
        obtain ⟨d, u, he, k1, _⟩ := sign_cons (List.contains_iff_mem.1 hq)
        rw [hc] at he
        obtain ⟨rfl, _⟩ := List.cons.inj he
        rw [k1] at h1; cases h1
    have hhd : (runL inNames (c :: t)).headD 0 = c := by rw [hc]; rfl
    unfold nameO
    generalize runL inNames (c :: t) = a at *
    cases hw : words.contains a with
    | true =>
      have hnm : nameB a = true := by
        have := List.all_eq_true.1 words_name a (List.contains_iff_mem.1 hw)
        simp only [Bool.and_eq_true] at this
        exact this.1
      have hg : guessR a = (2, 0, a) := by unfold guessR; rw [hhd, d1, hw, if_neg (by decide), if_neg d2, if_pos rfl]
      rw [refO_of hsz hn0 ha hg, if_pos hnm]
      have ho : oneR (2, 0, a) = (a, words.contains a) := rfl
      rw [ho, hw, if_pos ⟨rfl, rfl⟩]
      rfl
    | false =>
      have hg : guessR a = (1, 0, a) := by unfold guessR; rw [hhd, d1, hw, hs, if_neg (by decide), if_neg d2, if_neg (by decide), if_neg (by decide)]
      rw [refO_of hsz hn0 ha hg]
      have ho : oneR (1, 0, a) = (a, nameB a && !words.contains a) := rfl
      rw [ho, hw]
      cases hnm : nameB a
      · rfl
      · rw [if_pos ⟨rfl, rfl⟩]; rfl
  · have h1' : letU c = false := by simpa using h1
    rw [if_neg h1]
    by_cases h2 : digU c = true
    · obtain ⟨_, k39, _, _, _, _, _, _, k45⟩ := dig_not c h2
      rw [if_pos h2]
      have hsz : sizeR (c :: t) = (runL inNums (c :: t)).length := by
        unfold sizeR; rw [hh, h2]; rfl
      have ha := runL_take inNums (c :: t)
      have hc : runL inNums (c :: t) = c :: runL inNums t := by rw [runL_cons, in_nums, h2]; rfl
      have hn0 : (runL inNums (c :: t)).length ≠ 0 := by rw [hc]; simp
      have hhd : (runL inNums (c :: t)).headD 0 = c := by rw [hc]; rfl
      unfold numO
      generalize runL inNums (c :: t) = a at *
      have hg : guessR a = (3, numF (a.take 15), []) := by unfold guessR; rw [hhd, h2]; rfl
      rw [refO_of hsz hn0 ha hg]
      have ho : ∀ N : Int, oneR (3, N, []) = (Lib.itoa N, decide (0 ≤ N) && decide (N ≤ 1099511627776)) := fun _ => rfl
      rw [ho]
      cases hp : parseO a with
      | some v =>
        obtain ⟨e1, e2, e3, e4⟩ := num_text hc h2 hp
        have ht : textB 2 v.2.1 [] = Lib.itoa v.2.1 := by unfold textB; rw [if_pos e2]; rfl
        have hr : v.2.1 ≤ 1099511627776 := by
          unfold rightB at e2
          rw [if_neg (by decide), if_neg (by decide), if_pos rfl] at e2
          simp only [Bool.and_eq_true, decide_eq_true_eq] at e2
          exact e2.1.2
        have hN : numF (a.take 15) = v.2.1 := by
          have := numR_itoa v.2.1 (by omega) hr
          rw [← ht, e3] at this
          unfold numR at this
          rwa [hhd, if_neg k45] at this
        rw [hN, decide_eq_true e4, decide_eq_true hr, ← ht, e3, if_pos ⟨rfl, rfl⟩]
      | none =>
        rw [if_neg]
        rintro ⟨q1, q2⟩
        simp only [Bool.and_eq_true, decide_eq_true_eq] at q1
        have hr : rightB 2 (numF (a.take 15)) [] = true := by
          unfold rightB
          rw [if_neg (by decide), if_neg (by decide), if_pos rfl, decide_eq_true (by omega), decide_eq_true q1.2]
          rfl
        have ht : textB 2 (numF (a.take 15)) [] = a := by
          unfold textB; rw [if_pos hr]; exact q2
        have := parseO_some.2 (show rightB ((2, numF (a.take 15), []) : Tk).1 _ _ = true ∧ textB ((2, numF (a.take 15), []) : Tk).1 _ _ = a from ⟨hr, ht⟩)
        rw [hp] at this
        cases this
    · have h2' : digU c = false := by simpa using h2
      rw [if_neg h2]
      by_cases h3 : c = 39
      · subst h3
        rw [if_pos rfl]
        have hd1 : (39 :: t : List UInt8).drop 1 = t := rfl
        by_cases hq : qe t = 0
        · have hsz : sizeR (39 :: t) = 0 := by
            unfold sizeR
            rw [hh, hd1, if_neg (by decide), if_neg (by decide), if_pos rfl, if_pos hq]
          rw [refO_none hsz]
          unfold textO
          rw [quotedL_cons, if_pos rfl, if_pos hq, parseO_nil]
        · have hsz : sizeR (39 :: t) = qe t + 1 := by
            unfold sizeR
            rw [hh, hd1, if_neg (by decide), if_neg (by decide), if_pos rfl, if_neg hq]
          have hqu : quotedL (39 :: t) = (39 :: t).take (qe t + 1) := by rw [quotedL_cons, if_pos rfl, if_neg hq]
          have hlen : (quotedL (39 :: t)).length = qe t + 1 := by
            rw [hqu, List.length_take]
            have := qe_le t
            simp only [List.length_cons]; omega
          have hcn : quotedL (39 :: t) = 39 :: t.take (qe t) := by rw [hqu, List.take_succ_cons]
          have hhd : (quotedL (39 :: t)).headD 0 = 39 := by rw [hcn]; rfl
          unfold textO
          rw [hlen]
          generalize quotedL (39 :: t) = a at *
          have hg : guessR a = (4, 0, match parseO a with | some v => v.2.2 | none => []) := by
            unfold guessR; rw [hhd, if_neg (by decide), if_pos rfl]
          rw [refO_of hsz (by omega) hqu.symm hg]
          have ho : ∀ x : List UInt8, oneR (4, 0, x) = (textB 3 0 x, rightB 3 0 x) := fun _ => rfl
          rw [ho]
          cases hp : parseO a with
          | some v =>
            obtain ⟨e1, e2, e3⟩ := quote_text hcn hp
            dsimp only
            rw [if_pos ⟨e2, e3⟩]
          | none =>
            dsimp only
            rw [if_neg]
            rintro ⟨q1, q2⟩
            have := parseO_some.2 (show rightB ((3, 0, []) : Tk).1 _ _ = true ∧ textB ((3, 0, []) : Tk).1 _ _ = a from ⟨q1, q2⟩)
            rw [hp] at this
            cases this
      · rw [if_neg h3]
        obtain ⟨s1, s2, s3⟩ := signL_spec (c :: t)
        have key : sizeR (c :: t) = (signL (c :: t)).length := by
          unfold sizeR
          rw [hh, h2', h1', if_neg (by decide), if_neg (by decide), if_neg h3]
          by_cases g2 : (decide (1 < (c :: t).length) && signs.contains ((c :: t).take 2)) = true
          · rw [if_pos g2]
            simp only [Bool.and_eq_true, decide_eq_true_eq] at g2
            have hl2 : ((c :: t).take 2).length = 2 := by rw [List.length_take]; omega
            have := s3 _ (List.contains_iff_mem.1 g2.2) (by rw [hl2])
            rcases s1 with s1 | s1
            · rw [s1, hl2] at this; simp at this
            · rcases sign_12 s1 with h | h <;> omega
          · rw [if_neg g2]
            have no2 : (signL (c :: t)).length ≠ 2 := by
              intro h
              apply g2
              rw [h] at s2
              have hm : signL (c :: t) ∈ signs := by
                rcases s1 with s1 | s1
                · rw [s1] at h; cases h
                · exact s1
              have hl : 1 < (c :: t).length := by
                have := congrArg List.length s2
                rw [h, List.length_take] at this
                omega
              rw [← s2, List.contains_iff_mem.2 hm, decide_eq_true hl]
              rfl
            by_cases g1 : signs.contains ((c :: t).take 1) = true
            · rw [if_pos g1]
              have := s3 _ (List.contains_iff_mem.1 g1) rfl
              rcases s1 with s1 | s1
              · rw [s1] at this; simp at this
              · rcases sign_12 s1 with h | h <;> omega
            · rw [if_neg g1]
              rcases s1 with s1 | s1
              · rw [s1]; rfl
              · exfalso
                rcases sign_12 s1 with h | h
                · apply g1
                  rw [h] at s2
                  rw [← s2]
                  exact List.contains_iff_mem.2 s1
                · exact no2 h
        unfold signO
        by_cases hz : signL (c :: t) = []
        · rw [if_pos hz, refO_none (by rw [key, hz]; rfl)]
        · rw [if_neg hz]
          have hm := s1.resolve_left hz
          obtain ⟨d, u, he, k1, k2, k3, _⟩ := sign_cons hm
          have hw : words.contains (signL (c :: t)) = false := by
            cases hq : words.contains (signL (c :: t)) with
            | false => rfl
            | true =>
              have := List.all_eq_true.1 words_name _ (List.contains_iff_mem.1 hq)
              rw [List.contains_iff_mem.2 hm] at this
              simp at this
          have hg : guessR (signL (c :: t)) = (5, 0, signL (c :: t)) := by
            unfold guessR
            rw [show (signL (c :: t)).headD 0 = d by rw [he]; rfl, k2, if_neg (by decide), if_neg k3, hw, if_neg (by decide), List.contains_iff_mem.2 hm, if_pos rfl]
          rw [refO_of key (by rw [he]; simp) s2.symm hg]
          have ho : ∀ x : List UInt8, oneR (5, 0, x) = (x, signs.contains x) := fun _ => rfl
          have hc := List.contains_iff_mem.2 hm
          clear hg key s1 s2 s3 hz he
          generalize signL (c :: t) = g at *
          rw [ho, hc, if_pos ⟨rfl, rfl⟩]
end Go.Proofs.YtdabanocofimmaaGreatDoor.Lx

namespace Go.Proofs.YtdabanocofimmaaGreatDoor
open Go.RowKit

/-- The bytes that a slice reads, as a string. -/
theorem run_string_sl {P : Program} (w : World) (src dst e : TypeId) (hs : P.underlying src = some (.slice e)) (he : P.underlying e = some (.int .u8)) (hd : P.underlying dst = some .string)
    (v : Value) (l : List UInt8) (h : Sl bv w v l) : (convert src dst v).run P w = .ok (.string ⟨l.toArray⟩) w := by
  obtain ⟨A, c, rfl, hlc, hx⟩ := h
  by_cases hn : l = []
  · subst hn
    rcases A with _ | ad
    · exact run_convert_bytes_nil w src e hs he 0 c dst hd
    · rw [run_convert_bytes_string w src dst e _ _ c hs he hd, run_bytesToString w ad _ c [] (by simp [loadCells, loadCellsFrom])]
      rfl
  · obtain ⟨b, o, rfl, hb, hcell⟩ := hx hn
    have := run_convert_bytes_arg (P := P) w src e hs he b o l.length c (l.map fun x => (x.toNat : Int)) (by simp) (fun i hi => by
      rw [hcell i l[i] (List.getElem?_eq_getElem hi)]
      simp [bv, List.getD, hi]) dst hd
    rw [this]
    have e2 : ((l.map fun x => (x.toNat : Int)).map fun n => UInt8.ofNat n.toNat) = l := by
      rw [List.map_map]
      conv => rhs; rw [← List.map_id l]
      exact List.map_congr_left fun x _ => by simp
    unfold strOfNums
    rw [e2]

/-- A slice just laid, of bytes said as numbers (a constant's has a mark behind it). -/
theorem sl_laid_m (w : World) (l : List UInt8) (cs : Array Value) (t : TypeId) (fr : Nat × Nat) (n : Nat) (hn : n = l.length) (hcs : cs = (bs l).toArray) : Sl bv (w.alloc (.cells cs t fr)) (.slice (some ⟨w.heap.size, 0, none⟩) n n) l := by
  subst hn hcs
  refine ⟨_, _, rfl, Nat.le_refl _, fun _ => ⟨w.heap.size, 0, rfl, by simp, fun j u hu => ?_⟩⟩
  rw [cell_of_row _ w.heap.size (0 + j) _ t fr (heap_alloc_new w _)]
  simp [bs, hu]
theorem sl_laid (w : World) (l : List UInt8) (cs : Array Value) (t : TypeId) (n : Nat) (hn : n = l.length) (hcs : cs = (bs l).toArray) : Sl bv (w.alloc (.cells cs t)) (.slice (some ⟨w.heap.size, 0, none⟩) n n) l := sl_laid_m w l cs t (0, 0) n hn hcs

end Go.Proofs.YtdabanocofimmaaGreatDoor

namespace Go.Proofs.YtdabanocofimmaaGreatDoor
open Go.RowKit

/-- One digit, laid and read as a string. -/
theorem run_digit (d : Nat) (hd : d < 10) (z : Int) (hz : z = 48 + d) (W : World) : (convert 115 9 (.slice (some ⟨W.heap.size, 0, none⟩) 1 1)).run Tryz.prog (W.alloc (.cells #[.int .u8 z] 5)) = .ok (.string ⟨#[UInt8.ofNat (48 + d)]⟩) (W.alloc (.cells #[.int .u8 z] 5)) := by
  have hs : Sl bv (W.alloc (.cells #[.int .u8 z] 5)) (.slice (some ⟨W.heap.size, 0, none⟩) 1 1) [UInt8.ofNat (48 + d)] := sl_laid W _ _ _ 1 rfl (by
    simp only [bs, bv, List.map_cons, List.map_nil, dig_nat d hd, hz]; rfl)
  exact run_string_sl (P := Tryz.prog) _ 115 9 5 Tryz.underlying115 Tryz.underlying5 Tryz.underlying9 _ _ hs

theorem sl_digit (d : Nat) (hd : d < 10) (z : Int) (hz : z = 48 + d) (W : World) : Sl bv (W.alloc (.cells #[.int .u8 z] 5)) (.slice (some ⟨W.heap.size, 0, none⟩) 1 1) [UInt8.ofNat (48 + d)] := sl_laid W _ _ _ 1 rfl (by
  simp only [bs, bv, List.map_cons, List.map_nil, dig_nat d hd, hz]; rfl)
theorem run_digit2 (d : Nat) (hd : d < 10) (z : Int) (hz : z = 48 + d) (W : World) : (convert 115 9 (.slice (some ⟨W.heap.size, 0, none⟩) 1 1)).run Tryz.prog (W.alloc (.cells #[.int .u8 z] 5)).drew = .ok (.string ⟨#[UInt8.ofNat (48 + d)]⟩) (W.alloc (.cells #[.int .u8 z] 5)).drew :=
  run_string_sl (P := Tryz.prog) _ 115 9 5 Tryz.underlying115 Tryz.underlying5 Tryz.underlying9 _ _ (sl_digit d hd z hz W).drew
theorem alloc_size' (w : World) (o : Obj) : (w.alloc o).heap.size = w.heap.size + 1 := by simp
theorem str_sum (a b : List UInt8) : (ByteArray.mk a.toArray) ++ (ByteArray.mk b.toArray) = ⟨(a ++ b).toArray⟩ := by rw [ByteArray.mk_append_mk]
theorem itoa_low (m : Nat) (h0 : 0 < m) (h : m < 10) : Lib.itoa (-(m : Int)) = [45, UInt8.ofNat (48 + m)] := by
  unfold Lib.itoa
  rw [if_pos (by omega), show (-(m : Int)).natAbs = m by omega, digs_small m h]
theorem itoa_down (m : Nat) (h : ¬ m < 10) : Lib.itoa (-(m : Int)) = Lib.itoa (-((m / 10 : Nat) : Int)) ++ [UInt8.ofNat (48 + m % 10)] := by
  unfold Lib.itoa
  rw [if_pos (by omega), if_pos (by omega), show (-(m : Int)).natAbs = m by omega, show (-((m / 10 : Nat) : Int)).natAbs = m / 10 by omega, digs_big m h]; rfl
theorem itoa_one (m : Nat) (h : m < 10) : Lib.itoa (m : Int) = [UInt8.ofNat (48 + m)] := by
  unfold Lib.itoa
  rw [if_neg (by omega), Int.toNat_natCast, digs_small m h]
theorem itoa_up (m : Nat) (h : ¬ m < 10) : Lib.itoa (m : Int) = Lib.itoa ((m / 10 : Nat) : Int) ++ [UInt8.ofNat (48 + m % 10)] := by
  unfold Lib.itoa
  rw [if_neg (by omega), if_neg (by omega), Int.toNat_natCast, Int.toNat_natCast, digs_big m h]

set_option maxRecDepth 100000 in
set_option maxHeartbeats 4000000 in
theorem digits_any (k : Nat) : ∀ (n : Int) (w : World), n.natAbs < 10 ^ (k + 1) → n.natAbs ≤ 1099511627776 → Calls Tryz.prog 72 #[.int .i64 n] w (Gives w (sv (Lib.itoa n))) := by
  induction k with
  | zero =>
    intro n w hk _
    rw [Nat.zero_add, Nat.pow_one] at hk
    by_cases hn : n < 0
    · obtain ⟨m, hm⟩ : ∃ m : Nat, m = n.natAbs := ⟨_, rfl⟩
      have hi : Lib.itoa n = [45, UInt8.ofNat (48 + m)] := by rw [show n = -(m : Int) by omega]; exact itoa_low m (by omega) (by omega)
      have hr := run_digit m (by omega) (48 - n) (by omega)
      rw [hi]
      have h10 : -10 < n := by omega
      generalize UInt8.ofNat (48 + m) = dg at *
      unfold sv
      clear hi hm hk
      go_enter Tryz.func72, Tryz.ntmps72
      go_wp2
      go_ret
      exact ⟨by congr 2, alloc_below _ _⟩
    · obtain ⟨m, hm⟩ : ∃ m : Nat, m = n.natAbs := ⟨_, rfl⟩
      have hi : Lib.itoa n = [UInt8.ofNat (48 + m)] := by rw [show n = (m : Int) by omega]; exact itoa_one m (by omega)
      have hr := run_digit m (by omega) (48 + n) (by omega)
      rw [hi]
      have h10 : n < 10 := by omega
      generalize UInt8.ofNat (48 + m) = dg at *
      unfold sv
      clear hi hm hk
      go_enter Tryz.func72, Tryz.ntmps72
      go_wp2
      go_ret
      exact ⟨rfl, alloc_below _ _⟩
  | succ k ih =>
    intro n w hk hbig
    by_cases hsm : n.natAbs < 10 ^ (k + 1)
    · exact ih n w hsm hbig
    · have h10 : ¬ n.natAbs < 10 := by
        have : 10 ^ 1 ≤ 10 ^ (k + 1) := Nat.pow_le_pow_right (by omega) (by omega)
        omega
      have hk2 : n.natAbs / 10 < 10 ^ (k + 1) := by rw [Nat.pow_succ] at hk; omega
      have hb2 : n.natAbs / 10 ≤ 1099511627776 := by omega
      obtain ⟨m, hm⟩ : ∃ m : Nat, m = n.natAbs := ⟨_, rfl⟩
      by_cases hn : n < 0
      · obtain ⟨q, hq⟩ : ∃ q : Int, q = n.tdiv 10 := ⟨_, rfl⟩
        obtain ⟨r, hr⟩ : ∃ r : Int, r = n.tmod 10 := ⟨_, rfl⟩
        have hqn : q = -((m / 10 : Nat) : Int) := by rw [hq, show n = -(m : Int) by omega, Int.neg_tdiv, Int.tdiv_eq_ediv_of_nonneg (by omega)]; rfl
        have hrn : r = -((m % 10 : Nat) : Int) := by rw [hr, show n = -(m : Int) by omega, Int.neg_tmod, Int.tmod_eq_emod_of_nonneg (by omega)]; rfl
        have hi : Lib.itoa n = Lib.itoa q ++ [UInt8.ofNat (48 + m % 10)] := by rw [hqn, show n = -(m : Int) by omega]; exact itoa_down m (by omega)
        have hd := run_digit (m % 10) (Nat.mod_lt _ (by omega)) (48 - r) (by omega)
        have hdd := run_digit2 (m % 10) (Nat.mod_lt _ (by omega)) (48 - r) (by omega)
        have hsl := sl_digit (m % 10) (Nat.mod_lt _ (by omega)) (48 - r) (by omega)
        have hih := fun W => ih q W (by rw [hqn]; omega) (by rw [hqn]; omega)
        have hql := itoa_len q (by omega) (by omega)
        have hql2 : (ByteArray.mk (Lib.itoa q).toArray).size ≤ 1000 := by rw [show (ByteArray.mk (Lib.itoa q).toArray).size = (Lib.itoa q).length by simp [ByteArray.size]]; omega
        rw [hi]
        generalize UInt8.ofNat (48 + m % 10) = dg at *
        generalize Lib.itoa q = L at *
        have hr1 : -9 ≤ r := by omega
        have hr2 : r ≤ 0 := by omega
        have hq3 : n.tdiv 10 = q := hq.symm
        have hr3 : n.tmod 10 = r := hr.symm
        have t1 : IntKind.i64.wrap q = q := IntWalk.i64_in _ (by omega)
        have t2 : IntKind.i64.wrap (48 - r) = 48 - r := IntWalk.i64_in _ (by omega)
        have t3 : IntKind.u8.wrap (48 - r) = 48 - r := by rw [IntKind.wrap_u8']; omega
        have h11 : ¬ -10 < n := by omega
        have hdl : (ByteArray.mk #[dg]).size ≤ 1000 := by rw [show (ByteArray.mk #[dg]).size = 1 from rfl]; omega
        have hsum : ¬ 9223372036854775807 < (ByteArray.mk L.toArray).size + (ByteArray.mk #[dg]).size := by omega
        have HIH := Lib.hid hih
        have HSL := Lib.hid hsl
        clear hsl hi hm hk hbig hsm h10 hk2 hb2 hqn hrn hih hql ih hq hr
        unfold sv at HIH ⊢
        go_enter Tryz.func72, Tryz.ntmps72
        go_wp2_with fail
        go_region_with (first
          | (go_at_call 72; refine (HIH.out _).mono ?_; rintro e w2 ⟨rfl, hb2⟩; (first | (have hd2 := run_string_sl (P := Tryz.prog) w2 115 9 5 Tryz.underlying115 Tryz.underlying5 Tryz.underlying9 _ _ ((HSL.out w).drew.below hb2)) | skip); have HB2 := Lib.hid hb2; clear hb2))
        all_goals clear t1 t2 t3
        all_goals go_wp2
        all_goals go_ret
        all_goals refine ⟨congrArg (fun x => Ending.returned (Value.string x)) (str_sum L [dg]), ?_⟩
        all_goals first
          | exact ((Below.refl w.heap.size w).drew.trans HB2.out).alloc HB2.out.size _
          | exact (alloc_below w _).drew.trans (HB2.out.mono (by show w.heap.size ≤ (w.alloc _).heap.size; rw [alloc_size']; omega))
      · obtain ⟨q, hq⟩ : ∃ q : Int, q = n.tdiv 10 := ⟨_, rfl⟩
        obtain ⟨r, hr⟩ : ∃ r : Int, r = n.tmod 10 := ⟨_, rfl⟩
        have hqn : q = ((m / 10 : Nat) : Int) := by rw [hq, show n = (m : Int) by omega, Int.tdiv_eq_ediv_of_nonneg (by omega)]; rfl
        have hrn : r = ((m % 10 : Nat) : Int) := by rw [hr, show n = (m : Int) by omega, Int.tmod_eq_emod_of_nonneg (by omega)]; rfl
        have hi : Lib.itoa n = Lib.itoa q ++ [UInt8.ofNat (48 + m % 10)] := by rw [hqn, show n = (m : Int) by omega]; exact itoa_up m (by omega)
        have hd := run_digit (m % 10) (Nat.mod_lt _ (by omega)) (48 + r) (by omega)
        have hdd := run_digit2 (m % 10) (Nat.mod_lt _ (by omega)) (48 + r) (by omega)
        have hsl := sl_digit (m % 10) (Nat.mod_lt _ (by omega)) (48 + r) (by omega)
        have hih := fun W => ih q W (by rw [hqn]; omega) (by rw [hqn]; omega)
        have hql := itoa_len q (by omega) (by omega)
        have hql2 : (ByteArray.mk (Lib.itoa q).toArray).size ≤ 1000 := by rw [show (ByteArray.mk (Lib.itoa q).toArray).size = (Lib.itoa q).length by simp [ByteArray.size]]; omega
        rw [hi]
        generalize UInt8.ofNat (48 + m % 10) = dg at *
        generalize Lib.itoa q = L at *
        have hr1 : r ≤ 9 := by omega
        have hr2 : 0 ≤ r := by omega
        have hq3 : n.tdiv 10 = q := hq.symm
        have hr3 : n.tmod 10 = r := hr.symm
        have t1 : IntKind.i64.wrap q = q := IntWalk.i64_in _ (by omega)
        have t2 : IntKind.i64.wrap (48 + r) = 48 + r := IntWalk.i64_in _ (by omega)
        have t3 : IntKind.u8.wrap (48 + r) = 48 + r := by rw [IntKind.wrap_u8']; omega
        have h11 : ¬ n < 10 := by omega
        have hdl : (ByteArray.mk #[dg]).size ≤ 1000 := by rw [show (ByteArray.mk #[dg]).size = 1 from rfl]; omega
        have hsum : ¬ 9223372036854775807 < (ByteArray.mk L.toArray).size + (ByteArray.mk #[dg]).size := by omega
        have HIH := Lib.hid hih
        have HSL := Lib.hid hsl
        clear hsl hi hm hk hbig hsm h10 hk2 hb2 hqn hrn hih hql ih hq hr
        unfold sv at HIH ⊢
        go_enter Tryz.func72, Tryz.ntmps72
        go_wp2_with fail
        go_region_with (first
          | (go_at_call 72; refine (HIH.out _).mono ?_; rintro e w2 ⟨rfl, hb2⟩; (first | (have hd2 := run_string_sl (P := Tryz.prog) w2 115 9 5 Tryz.underlying115 Tryz.underlying5 Tryz.underlying9 _ _ ((HSL.out w).drew.below hb2)) | skip); have HB2 := Lib.hid hb2; clear hb2))
        all_goals clear t1 t2 t3
        all_goals go_wp2
        all_goals go_ret
        all_goals refine ⟨congrArg (fun x => Ending.returned (Value.string x)) (str_sum L [dg]), ?_⟩
        all_goals first
          | exact ((Below.refl w.heap.size w).drew.trans HB2.out).alloc HB2.out.size _
          | exact (alloc_below w _).drew.trans (HB2.out.mono (by show w.heap.size ≤ (w.alloc _).heap.size; rw [alloc_size']; omega))

end Go.Proofs.YtdabanocofimmaaGreatDoor
