/-
  A byte that turns: disk.turn, Spoil: the contracts, by walks. Conditions: none.
-/
import Derived.Test.YtcaechfmeiklkaaDkOps
namespace Go.Proofs.Ytcaechfmeiklkaa
open Go.RowKit

/-- Bytes of which the one at a place, of n from lo on, is turned, if there is one. -/
def turnB (l : List UInt8) (lo n : Nat) (at_ : Int) (y : UInt8) : List UInt8 := if 0 ≤ at_ ∧ at_ < n then l.set (lo + at_.toNat) (l.getD (lo + at_.toNat) 0 ^^^ y) else l
theorem turnB_len (l : List UInt8) (lo n : Nat) (at_ : Int) (y : UInt8) : (turnB l lo n at_ y).length = l.length := by
  unfold turnB; split <;> simp

set_option maxHeartbeats 400000 in
theorem turn_out (A : Option Addr) (n c : Nat) (at_ y : Int) (w : World) (h : ¬ (0 ≤ at_ ∧ at_ < n)) :
    Calls Try.prog 18 #[.slice A n c, .int .i64 at_, .int .u8 y] w fun e w' => e = .returned (.tuple #[]) ∧ w = w' := by
  by_cases h0 : 0 ≤ at_
  · have h1 : ¬ at_ < n := fun h1 => h ⟨h0, h1⟩
    clear h
    go_enter Try.func18, Try.ntmps18
    go_wp2
    go_end0
    exact ⟨rfl, rfl⟩
  · clear h
    go_enter Try.func18, Try.ntmps18
    go_wp2
    go_end0
    exact ⟨rfl, rfl⟩

set_option maxHeartbeats 1000000 in
theorem turn_in (b o n c k : Nat) (x y : UInt8) (w : World) (hk : k < n) (hc : w.cell? ⟨b, o + k, none⟩ = some (bv x)) (hf : w.frozen? ⟨b, o + k, none⟩ = false) :
    Calls Try.prog 18 #[.slice (some ⟨b, o, none⟩) n c, .int .i64 (k : Int), bv y] w fun e w' => e = .returned (.tuple #[]) ∧ w' = w.setCell ⟨b, o + k, none⟩ (bv (x ^^^ y)) := by
  have e9 := u8x x y
  unfold bv at *
  rw [← e9]
  clear e9
  have h0 : (0 : Int) ≤ (k : Int) := by omega
  have h1 : (k : Int) < (n : Int) := by omega
  go_enter Try.func18, Try.ntmps18
  go_wp2
  go_end0
  exact ⟨rfl, rfl⟩

/-- A part of a disk's bytes, a byte of it turned. -/
theorem turn_part (g : Nat) (A : Option Addr) (c : Nat) (l : List UInt8) (s : Nat) (w : World) (h : Dk w g (.slice A l.length c) l s) (A' : Option Addr) (lo n c' : Nat) (hn : lo + n ≤ l.length) (hA : ∀ b, A = some ⟨b, 0, none⟩ → 0 < n → A' = some ⟨b, lo, none⟩) (at_ : Int) (y : UInt8) :
    Calls Try.prog 18 #[.slice A' n c', .int .i64 at_, bv y] w fun e w' => e = .returned (.tuple #[]) ∧ Dk w' g (.slice A l.length c) (turnB l lo n at_ y) s ∧ Mv g (.slice A l.length c) w w' (.slice A l.length c) := by
  by_cases hin : 0 ≤ at_ ∧ at_ < n
  · obtain ⟨k, rfl⟩ := Int.eq_ofNat_of_zero_le hin.1
    have hk : k < n := by omega
    have hlt : lo + k < l.length := by omega
    have ho := h.2.1
    rcases ho.2 with ⟨hv, h0⟩ | ⟨b, cap, cur, hv, _⟩
    · injection hv; omega
    · injection hv with h1 h2 h3
      subst h1 h3
      have hA' := hA b rfl (by omega)
      subst hA'
      have hc : w.cell? ⟨b, lo + k, none⟩ = some (bv l[lo + k]) := by
        rw [ho.cellAt (lo + k) (by omega)]
        simp [bs, hlt]
      have hf := ho.frozenAt (lo + k)
      obtain ⟨hs1, hs2⟩ := ho.stored (lo + k) (bv (l[lo + k] ^^^ y))
      have hne : b ≠ g := fun e => h.ne (by rw [← e]; rfl)
      refine (turn_in b lo n c' k l[lo + k] y w hk hc hf).mono ?_
      rintro e w' ⟨rfl, rfl⟩
      have et : turnB l lo n (k : Int) y = l.set (lo + k) (l[lo + k] ^^^ y) := by
        unfold turnB
        rw [if_pos ⟨by omega, by omega⟩, Int.toNat_natCast, List.getD_eq_getElem?_getD, List.getElem?_eq_getElem hlt]
        rfl
      rw [et]
      refine ⟨rfl, ⟨h.1.far (Ne.symm hne) _, ?_, ?_, ?_⟩, ⟨rfl, rfl, rfl, by simp [World.setCell], fun j _ _ hj => Below.heap_setCell w ⟨b, lo + k, none⟩ _ j (fun e => hj (by rw [e]; rfl)), .inl rfl⟩⟩
      · rw [List.length_set]
        have : bs (l.set (lo + k) (l[lo + k] ^^^ y)) = (bs l).set (lo + k) (bv (l[lo + k] ^^^ y)) := by simp [bs, List.map_set]
        rw [this]
        exact hs1
      · rw [List.length_set]; exact h.2.2.1
      · rw [List.length_set]; exact h.2.2.2
  · refine (turn_out A' n c' at_ _ w hin).mono ?_
    rintro e w' ⟨rfl, rfl⟩
    have et : turnB l lo n at_ y = l := by unfold turnB; rw [if_neg hin]
    rw [et]
    exact ⟨rfl, h, Mv.refl _ _ _⟩

set_option maxHeartbeats 400000 in
theorem dspoil_any (g : Nat) (v : Value) (l : List UInt8) (s : Nat) (at_ : Int) (y : UInt8) (w : World) (h : Dk w g v l s) :
    Calls Try.prog 13 #[.pointer (some ⟨g, 0, none⟩), .int .i64 at_, bv y] w fun e w' => e = .returned (.tuple #[]) ∧ Dk w' g v (turnB l 0 l.length at_ y) s ∧ Mv g v w w' v := by
  have c0 := h.1.cell 0
  simp at c0
  obtain ⟨A, c, rfl⟩ := h.form
  have HD := Lib.hid h
  clear h
  unfold bv
  go_enter Try.func13, Try.ntmps13
  go_wp2_with fail
  refine (turn_part g A c l s w HD.out A 0 l.length c (by omega) (fun b hb _ => hb) at_ y).mono ?_
  rintro e w' ⟨rfl, h1, h2⟩
  have H1 := Lib.hid h1
  have H2 := Lib.hid h2
  clear h1 h2
  go_wp2
  go_end0
  exact ⟨rfl, H1.out, H2.out⟩

end Go.Proofs.Ytcaechfmeiklkaa
