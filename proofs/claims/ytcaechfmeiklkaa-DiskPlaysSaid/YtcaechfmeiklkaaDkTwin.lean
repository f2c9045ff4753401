/-
  A disk's twin: the contract, by a walk. Conditions: none.
-/
import Derived.Test.YtcaechfmeiklkaaDkCrash
import Derived.Deep.RegionHeld3
namespace Go.Proofs.Ytcaechfmeiklkaa
open Go.RowKit

/-- Hands back another disk, of l and s, in new memory; nothing that was there has turned. -/
def Twins (w : World) (l : List UInt8) (s : Nat) (e : Ending) (w' : World) : Prop := ∃ h v', e = .returned (.pointer (some ⟨h, 0, none⟩)) ∧ Dk w' h v' l s ∧ w.heap.size ≤ h ∧ (∀ k, v'.ownBlock = some k → w.heap.size ≤ k) ∧ Below w.heap.size w w'

set_option maxHeartbeats 1000000 in
theorem dtwin_any (g : Nat) (v : Value) (l : List UInt8) (s : Nat) (w : World) (h : Dk w g v l s) :
    Calls Try.prog 16 #[.pointer (some ⟨g, 0, none⟩)] w (Twins w l s) := by
  have hd : Dk w.drew g v l s := h
  have HD := Lib.hid hd
  have c1 := hd.1.cell 1
  simp at c1
  have hsl := h.2.2.1
  have hl := h.2.2.2
  clear h hd
  go_enter Try.func16, Try.ntmps16
  go_wp2_with fail
  go_region_held3 (fun W' => W'.cell? ⟨g, 1, none⟩ = some (.int .i64 s)) (first | assumption | (simp [*]; done)) (first
    | (go_at_call 14; refine (dbytes_any g v l s _ HD.out).mono ?_; rintro e w2 ⟨v2, rfl, ho2, hb2⟩; have HO := Lib.hid ho2; have HB := Lib.hid hb2; have c2 := (HD.out.1.below hb2 HD.out.lt).cell 1; simp at c2; have c3 : ∀ o, (w2.alloc o).cell? ⟨g, 1, none⟩ = some (.int .i64 s) := (fun o => ((HD.out.1.below hb2 HD.out.lt).alloc o).cell 1); obtain ⟨A2, k2, rfl⟩ := own_form ho2; clear ho2 hb2))
  have hg : w.heap.size ≤ w2.heap.size := HB.out.size
  have H : Hid (Dk (w2.alloc (.cells #[.slice A2 l.length k2, .int .i64 s] 41)) w2.heap.size (.slice A2 l.length k2) l s ∧ (∀ k, (Value.slice A2 l.length k2).ownBlock = some k → w.heap.size ≤ k) ∧ Below w.heap.size w (w2.alloc (.cells #[.slice A2 l.length k2, .int .i64 s] 41))) :=
    Lib.hid ⟨⟨Blk.new _ _ _, (own_le HO.out (Nat.zero_le _)).alloc _, hsl, hl⟩, fun k hk => (HO.out.lt k hk).1, ⟨HB.out.os, HB.out.tape, HB.out.output, by simp; omega, fun k hk => (Below.heap_alloc w2 _ k (by omega)).trans (HB.out.block k hk)⟩⟩
  clear c2 c3
  go_wp2
  go_ret
  exact ⟨_, _, rfl, H.out.1, hg, H.out.2.1, H.out.2.2⟩

end Go.Proofs.Ytcaechfmeiklkaa
