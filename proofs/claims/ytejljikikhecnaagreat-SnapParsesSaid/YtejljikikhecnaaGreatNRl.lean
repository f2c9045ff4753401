/-
  hedgerowref07.First, Less: the contracts. Conditions: none.
-/
import Derived.Test.YtejljikikhecnaaGreatNSb
import Derived.Test.YtejljikikhecnaaGreatSnSame
namespace Go.Proofs.YtejljikikhecnaaGreat
open Go.RowKit Go.MapKept Go.Sort

def firstB (a b : Dt) : Bool := decide (cfD a b < 0)
theorem first_eq (a b : Dt) : firstB a b = (decide (a.r < b.r) || (decide (a.r = b.r) && decide (a.c < b.c))) := by
  unfold firstB cfD
  simp only [orI]
  rcases ci_cases a.r b.r with ⟨h, e⟩ | ⟨h, e⟩ | ⟨h, e⟩ <;> rcases ci_cases a.c b.c with ⟨h', e'⟩ | ⟨h', e'⟩ | ⟨h', e'⟩ <;> simp [e, e'] <;> omega
set_option maxHeartbeats 1000000 in
theorem first7_any (a b : Dt) (w : World) : Calls Tryz.prog 29 #[eD a, eD b] w (Gives w (.bool (firstB a b))) := by
  have HB : Hid (∀ o o' : Obj, Below w.heap.size w ((w.alloc o).alloc o')) := Lib.hid (fun o o' => ((Below.refl _ _).alloc (Nat.le_refl _) o).alloc (by simp) o')
  rw [first_eq]
  obtain ⟨r, c⟩ := a
  obtain ⟨r', c'⟩ := b
  unfold eD dv
  dsimp only
  by_cases h1 : r < r'
  · have d1 : decide (r < r') = true := by simpa using h1
    go_enter Tryz.func29, Tryz.ntmps29
    go_wp2
    go_ret
    exact ⟨by simp [h1], HB.out _ _⟩
  · have d1 : decide (r < r') = false := by simpa using h1
    by_cases h2 : r = r'
    · subst h2
      go_enter Tryz.func29, Tryz.ntmps29
      go_wp2
      go_ret
      exact ⟨by simp, HB.out _ _⟩
    · have d2 : (r == r') = false := by simpa using h2
      go_enter Tryz.func29, Tryz.ntmps29
      go_wp2
      go_ret
      exact ⟨by simp, HB.out _ _⟩
theorem first_is (a b : Dt) (q : Bool) (h : firstB a b = q) (w : World) : Calls Tryz.prog 29 #[eD a, eD b] w (Gives w (.bool q)) := by
  subst h; exact first7_any a b w

theorem bl_cb : ∀ (x y : List UInt8), Op.bytesLess x y = decide (Lib.compareBytes x y < 0)
  | [], [] => by simp [Op.bytesLess, Lib.compareBytes]
  | _ :: _, [] => by simp [Op.bytesLess, Lib.compareBytes]
  | [], _ :: _ => by simp [Op.bytesLess, Lib.compareBytes]
  | a :: x, b :: y => by
    have ih := bl_cb x y
    simp only [Op.bytesLess, Lib.compareBytes]
    by_cases h : a < b
    · simp [h]
    · by_cases h2 : b < a
      · have h3 : a ≠ b := fun e => by subst e; exact h h2
        simp [h, h2, h3]
      · have h3 : a = b := UInt8.le_antisymm (UInt8.not_lt.1 h2) (UInt8.not_lt.1 h)
        simp [h3, ih]
def lessB (x y : El) : Bool := decide (cfE x y < 0)
theorem toList_eq {a b : ByteArray} (h : (a.toList == b.toList) = true) : a = b := by
  have h1 : a.toList = b.toList := by simpa using h
  rw [Lib.toList_data, Lib.toList_data] at h1
  exact ba_ext h1
theorem cb_same (a : List UInt8) : Lib.compareBytes a a = 0 := (cb_zero a a).2 rfl
theorem cb_diff {a b : ByteArray} (h : (a.toList == b.toList) = false) : Lib.compareBytes a.data.toList b.data.toList ≠ 0 := fun e => by
  rw [ba_ext ((cb_zero _ _).1 e)] at h
  simp at h
set_option maxHeartbeats 1000000 in
theorem less_any (x y : El) (w : World) : Calls Tryz.prog 27 #[eE x, eE y] w (Gives w (.bool (lessB x y))) := by
  have HB : Hid (∀ o o' : Obj, Below w.heap.size w ((w.alloc o).alloc o')) := Lib.hid (fun o o' => ((Below.refl _ _).alloc (Nat.le_refl _) o).alloc (by simp) o')
  obtain ⟨k, a, b, c, d⟩ := x
  obtain ⟨k', a', b', c', d'⟩ := y
  unfold eE elV
  dsimp only
  by_cases h1 : k = k'
  · subst h1
    cases ha : (a.toList == a'.toList)
    · have HR := Lib.hid (show lessB ⟨k, a, b, c, d⟩ ⟨k, a', b', c', d'⟩ = Op.bytesLess a.toList a'.toList by
        unfold lessB cfE; simp only [orI, (ci_zero k k).2 rfl, if_true, if_neg (cb_diff ha), bl_cb, Lib.toList_data])
      go_enter Tryz.func27, Tryz.ntmps27
      go_wp2
      go_ret
      exact ⟨by rw [HR.out]; rfl, HB.out _ _⟩
    · have ea := toList_eq ha
      subst ea
      cases hb : (b.toList == b'.toList)
      · have HR := Lib.hid (show lessB ⟨k, a, b, c, d⟩ ⟨k, a, b', c', d'⟩ = Op.bytesLess b.toList b'.toList by
          unfold lessB cfE; simp only [orI, (ci_zero k k).2 rfl, if_true, cb_same, if_neg (cb_diff hb), bl_cb, Lib.toList_data])
        go_enter Tryz.func27, Tryz.ntmps27
        go_wp2
        go_ret
        exact ⟨by rw [HR.out]; rfl, HB.out _ _⟩
      · have eb := toList_eq hb
        subst eb
        cases hc : (c.toList == c'.toList)
        · have HR := Lib.hid (show lessB ⟨k, a, b, c, d⟩ ⟨k, a, b, c', d'⟩ = Op.bytesLess c.toList c'.toList by
            unfold lessB cfE; simp only [orI, (ci_zero k k).2 rfl, if_true, cb_same, if_neg (cb_diff hc), bl_cb, Lib.toList_data])
          go_enter Tryz.func27, Tryz.ntmps27
          go_wp2
          go_ret
          exact ⟨by rw [HR.out]; rfl, HB.out _ _⟩
        · have ec := toList_eq hc
          subst ec
          have HR := Lib.hid (show lessB ⟨k, a, b, c, d⟩ ⟨k, a, b, c, d'⟩ = Op.bytesLess d.toList d'.toList by
            unfold lessB cfE
            simp only [orI, (ci_zero k k).2 rfl, if_true, cb_same, bl_cb, Lib.toList_data]
            by_cases h : Lib.compareBytes d.data.toList d'.data.toList = 0
            · simp [h]
            · rw [if_neg h])
          go_enter Tryz.func27, Tryz.ntmps27
          go_wp2
          go_ret
          exact ⟨by rw [HR.out]; rfl, HB.out _ _⟩
  · have hd : (k != k') = true := by simpa using h1
    have HR := Lib.hid (show lessB ⟨k, a, b, c, d⟩ ⟨k', a', b', c', d'⟩ = decide (k < k') by
      unfold lessB cfE
      have h2 : Lib.compareInt k k' ≠ 0 := fun e => h1 ((ci_zero k k').1 e)
      simp only [orI, if_neg h2]
      rcases ci_cases k k' with ⟨h, e⟩ | ⟨h, e⟩ | ⟨h, e⟩ <;> simp [e] <;> omega)
    clear h1
    go_enter Tryz.func27, Tryz.ntmps27
    go_wp2
    go_ret
    exact ⟨by rw [HR.out]; rfl, HB.out _ _⟩
theorem less_is (x y : El) (q : Bool) (h : lessB x y = q) (w : World) : Calls Tryz.prog 27 #[eE x, eE y] w (Gives w (.bool q)) := by
  subst h; exact less_any x y w

end Go.Proofs.YtejljikikhecnaaGreat
