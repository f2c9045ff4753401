/-
  What a crash leaves, item by item; a disk and a row apart. Conditions: none.
-/
import Derived.Test.YtcaechfmeiklkaaDkReg
namespace Go.Proofs.Ytcaechfmeiklkaa
open Go.RowKit

/-- What is left of one byte. -/
def stepB (s : Nat) (m a : Int) (y : UInt8) (i : Nat) (c : UInt8) : List UInt8 :=
  if (i : Int) - s < 0 then [c] else if m ≤ (i : Int) - s then [] else if (i : Int) - s = a then [c ^^^ y] else [c]
/-- What is left of the first bytes. -/
def playB (l : List UInt8) (s : Nat) (m a : Int) (y : UInt8) : Nat → List UInt8
  | 0 => []
  | i + 1 => playB l s m a y i ++ stepB s m a y i (l.getD i 0)
theorem playB_len (l : List UInt8) (s : Nat) (m a : Int) (y : UInt8) : ∀ i, (playB l s m a y i).length ≤ i
  | 0 => Nat.le_refl _
  | i + 1 => by
    have ih := playB_len l s m a y i
    have h1 : (stepB s m a y i (l.getD i 0)).length ≤ 1 := by unfold stepB; split <;> (try split) <;> (try split) <;> simp
    simp only [playB, List.length_append]; omega
theorem turnB_at (l : List UInt8) (s n : Nat) (a : Int) (y : UInt8) (i : Nat) (hi : i < l.length) : (turnB l s n a y)[i]? = some (if 0 ≤ a ∧ a < n ∧ (i : Int) = s + a then l[i] ^^^ y else l[i]) := by
  unfold turnB
  by_cases h : 0 ≤ a ∧ a < n
  · obtain ⟨j, rfl⟩ := Int.eq_ofNat_of_zero_le h.1
    rw [if_pos h, Int.toNat_natCast, List.getElem?_set]
    by_cases hj : s + j = i
    · subst hj
      rw [if_pos rfl, if_pos hi, if_pos ⟨h.1, h.2, by omega⟩]
      simp [List.getD, hi]
    · rw [if_neg hj, if_neg (by omega), List.getElem?_eq_getElem hi]
  · rw [if_neg h, if_neg (by omega), List.getElem?_eq_getElem hi]
theorem playB_crash (l : List UInt8) (s : Nat) (m a : Int) (y : UInt8) (hs : s ≤ l.length) : ∀ i, i ≤ l.length → playB l s m a y i = (crashB l s m a y).take i
  | 0, _ => by simp [playB]
  | i + 1, hi => by
    have ih := playB_crash l s m a y hs i (by omega)
    have hlen := crashB_len l s m a y hs
    have hle := leftB_le l s m
    have hlt : i < l.length := by omega
    have hgd : l.getD i 0 = l[i] := by simp [List.getD, hlt]
    simp only [playB]
    rw [ih, hgd]
    obtain ⟨n, hn⟩ : ∃ n, n = leftB l s m := ⟨_, rfl⟩
    rw [← hn] at hlen hle
    have hnv : n = min (max m 0).toNat (l.length - s) := hn
    by_cases hin : i < s + n
    · have hcl : i < (crashB l s m a y).length := by omega
      rw [List.take_succ_eq_append_getElem hcl]
      congr 1
      have hgt : (crashB l s m a y)[i]? = some (if 0 ≤ a ∧ a < n ∧ (i : Int) = s + a then l[i] ^^^ y else l[i]) := by
        unfold crashB
        rw [← hn, List.getElem?_take, if_pos hin, turnB_at l s n a y i hlt]
      rw [List.getElem?_eq_getElem hcl] at hgt
      injection hgt with hgt
      rw [hgt]
      unfold stepB
      by_cases h1 : (i : Int) - s < 0
      · rw [if_pos h1, if_neg (by omega)]
      · rw [if_neg h1, if_neg (by omega)]
        by_cases h3 : (i : Int) - s = a
        · rw [if_pos h3, if_pos (by omega)]
        · rw [if_neg h3, if_neg (by omega)]
    · have e : stepB s m a y i l[i] = [] := by
        unfold stepB
        rw [if_neg (by omega), if_pos (by omega)]
      rw [e, List.append_nil, List.take_of_length_le (by omega), List.take_of_length_le (by omega)]
theorem playB_all (l : List UInt8) (s : Nat) (m a : Int) (y : UInt8) (hs : s ≤ l.length) : playB l s m a y l.length = crashB l s m a y := by
  have hlen := crashB_len l s m a y hs
  have hle := leftB_le l s m
  rw [playB_crash l s m a y hs _ (Nat.le_refl _), List.take_of_length_le (by omega)]

/-- A disk made behind w0, and a row of bytes apart from it. -/
def Pl (w0 w : World) (g : Nat) (v : Value) (l : List UInt8) (s : Nat) (u : Value) (r : List UInt8) : Prop :=
  Dkn w0 w g v l s ∧ w.ownsRow w0.heap.size 5 1 u r.length (bs r) ∧ ∀ k, u.ownBlock = some k → v.ownBlock ≠ some k
section
variable {w0 w w' : World} {g : Nat} {v v' u u' : Value} {l l' r r' : List UInt8} {s s' : Nat}
theorem Pl.dk (h : Pl w0 w g v l s u r) : Dk w g v l s := h.1.dk
theorem Pl.base (h : Pl w0 w g v l s u r) : Below w0.heap.size w0 w := h.1.base
theorem Pl.row (h : Pl w0 w g v l s u r) : Sl bv w u r := own_sl h.2.1
theorem Pl.below (h : Pl w0 w g v l s u r) (hb : Below w.heap.size w w') : Pl w0 w' g v l s u r :=
  ⟨h.1.below hb, own_at h.2.1 (fun k e => hb.block k (h.2.1.lt k e).2) (fun k e => (h.2.1.lt k e).1), h.2.2⟩
theorem Pl.turn (h : Pl w0 w g v l s u r) (hd : Dk w' g v' l' s') (hm : Mv g v w w' v') : Pl w0 w' g v' l' s' u r :=
  ⟨h.1.turn hd hm, hm.row h.1.dk h.2.1 h.2.2, hm.apart (fun k e => (h.2.1.lt k e).2) h.2.2⟩
theorem Pl.fresh (h : Pl w0 w g v l s u r) (hb : Below w.heap.size w w') (ho : w'.ownsRow w.heap.size 5 1 u' r'.length (bs r')) : Pl w0 w' g v l s u' r' :=
  ⟨h.1.below hb, own_le ho h.1.size, fun k e e' => by have h1 := (ho.lt k e).1; have h2 := h.1.dk.vlt k e'; omega⟩
end
/-- A block of another kind stays where a disk turns. -/
theorem Mv.blk {g h : Nat} {v v' : Value} {w w' : World} {l : List UInt8} {s : Nat} {t : TypeId} {cs : Array Value} (hm : Mv g v w w' v') (hd : Dk w g v l s) (hb : Blk w h t cs) (hg : h ≠ g) (ht : 5 ≠ t) : Blk w' h t cs :=
  (hm.block h hb.lt hg (own_ne hd.2.1 hb ht)).trans hb

/-- append of one byte just laid, onto a row of the call's own. -/
theorem append_byte (w0 w : World) (v : Value) (l : List UInt8) (ho : w.ownsRow w0.heap.size 5 1 v l.length (bs l)) (hb : Below w0.heap.size w0 w) (x : UInt8) (hlen : l.length ≤ 1000000) :
    ∃ v' w', (Builtin.append_ #[26, 26] 26 #[v, .slice (some ⟨w.heap.size, 0, none⟩) 1 1]).run Try.prog (w.alloc (.cells #[bv x] 5)) = .ok v' w' ∧ w'.ownsRow w0.heap.size 5 1 v' (l ++ [x]).length (bs (l ++ [x])) ∧ Below w0.heap.size w0 w' :=
  append_more w0 (w.alloc (.cells #[bv x] 5)) v l (ho.alloc _) (hb.alloc hb.size _) _ [x] (sl_lit w [x] #[bv x] 5 (0, 0) 1 rfl rfl) (by simp; omega)
/-- append onto nothing, and something behind it: a row of its own. -/
theorem append_both (w : World) (v1 v2 : Value) (l1 l2 : List UInt8) (h1 : Sl bv w v1 l1) (h2 : Sl bv w v2 l2) (hl1 : l1.length ≤ 1000000) (hl2 : l2.length ≤ 1000000) :
    ∃ v' w' v'' w'', (Builtin.append_ #[26, 26] 26 #[.slice (some ⟨w.heap.size, 0, none⟩) 0 0, v1]).run Try.prog (w.alloc (.cells #[] 5)) = .ok v' w' ∧ Below w.heap.size w w' ∧
      (Builtin.append_ #[26, 26] 26 #[v', v2]).run Try.prog w' = .ok v'' w'' ∧ w''.ownsRow w.heap.size 5 1 v'' (l1 ++ l2).length (bs (l1 ++ l2)) ∧ Below w.heap.size w w'' := by
  obtain ⟨v', w', hr, ho, hb⟩ := append_fresh w v1 l1 h1 (by omega)
  obtain ⟨v'', w'', hr2, ho2, hb2⟩ := append_more w w' v' l1 ho hb v2 l2 (h2.below hb) (by omega)
  exact ⟨v', w', v'', w'', hr, hb, hr2, ho2, hb2⟩

end Go.Proofs.Ytcaechfmeiklkaa
