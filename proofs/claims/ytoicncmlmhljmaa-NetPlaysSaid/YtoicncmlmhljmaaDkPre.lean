/-
  Bytes made anew: append onto fresh rows, bytes.Clone. Conditions: bounds on lengths.
-/
import Derived.Test.YtoicncmlmhljmaaRows
import Derived.Test.YtoicncmlmhljmaaStrs
import Derived.Test.YtoicncmlmhljmaaSlice
import Derived.Laws.BitsAllLaws
import Derived.Laws.OwnMore
import Derived.Lib.AppendZeros
import Derived.Deep.QuietTactic
import Derived.BigQuiet
import Derived.Deep.RegionWith
import Derived.RegionTactic
namespace Go.Proofs.Ytoicncmlmhljmaa
open Go.RowKit

theorem infoB : (Try.prog.info? 5).map (fun i => (i.zero, i.size, i.bytes)) = some (some (.int .u8 0), 1, 1) := by kernel_rfl
theorem sizeU : (Try.prog.info? 5).map (·.size) = some 1 := by kernel_rfl

/-- append onto an empty row just laid, whatever the source. -/
theorem append_fresh (w : World) (v : Value) (l : List UInt8) (hs : Sl bv w v l) (hlen : l.length ≤ 140737488355328) :
    ∃ v' w', (Builtin.append_ #[27, 27] 27 #[.slice (some ⟨w.heap.size, 0, none⟩) 0 0, v]).run Try.prog (w.alloc (.cells #[] 5)) = .ok v' w' ∧ w'.ownsRow w.heap.size 5 1 v' l.length (bs l) ∧ Below w.heap.size w w' := by
  obtain ⟨i0, hi, hz0, hz1, hz2⟩ := info_parts infoB
  have hw1 : (w.alloc (.cells #[] 5)).ownsRow w.heap.size 5 1 (.slice (some ⟨w.heap.size, 0, none⟩) 0 0) 0 [] := World.ownsRow_made w #[] 0 (Nat.le_refl _) (by unfold maxLen; omega) rfl
  have hs1 := hs.alloc (.cells #[] 5)
  obtain ⟨v', w2, hr, ho2, hg2⟩ := run_append_sl (P := Try.prog) (w.alloc (.cells #[] 5)) w.heap.size 27 27 5 i0 (.int .u8 0) 1 Try.underlying27 hi hz0 hz1 hz2 rfl _ _ _ hw1 _ _ hs1 (fun _ => rfl) (by omega) (by omega) (by simp)
  have hb2 : Below w.heap.size w w2 := ((Below.refl _ _).alloc (Nat.le_refl _) _).grown hg2 (by simp) (fun k hk => (hw1.lt k hk).1)
  simp only [Nat.zero_add, List.nil_append] at ho2
  exact ⟨v', w2, hr, ho2, hb2⟩
/-- append onto a row of the call's own. -/
theorem append_more (w0 w : World) (v0 : Value) (l0 : List UInt8) (ho : w.ownsRow w0.heap.size 5 1 v0 l0.length (bs l0)) (hb : Below w0.heap.size w0 w) (v : Value) (l : List UInt8) (hs : Sl bv w v l) (hlen : l0.length + l.length ≤ 140737488355328) :
    ∃ v' w', (Builtin.append_ #[27, 27] 27 #[v0, v]).run Try.prog w = .ok v' w' ∧ w'.ownsRow w0.heap.size 5 1 v' (l0 ++ l).length (bs (l0 ++ l)) ∧ Below w0.heap.size w0 w' := by
  obtain ⟨i0, hi, hz0, hz1, hz2⟩ := info_parts infoB
  obtain ⟨v', w2, hr, ho2, hg2⟩ := run_append_sl (P := Try.prog) w w0.heap.size 27 27 5 i0 (.int .u8 0) 1 Try.underlying27 hi hz0 hz1 hz2 rfl _ _ _ ho _ _ hs (fun _ => rfl) (by omega) (by omega) hb.size
  exact ⟨v', w2, hr, by rw [List.length_append, bs_append]; exact ho2, hb.grown hg2 hb.size (fun k hk => (ho.lt k hk).1)⟩

theorem u8x (a b : UInt8) : bits .xor .u8 (a.toNat : Int) (b.toNat : Int) = ((a ^^^ b).toNat : Int) := by
  rw [u8_xor_nat _ _ a.toNat_lt b.toNat_lt, UInt8.toNat_xor]

/-- A call that hands back a slice of its own that reads l, and turns nothing that was there. -/
def Makes (w : World) (l : List UInt8) (e : Ending) (w' : World) : Prop :=
  ∃ v, e = .returned v ∧ w'.ownsRow w.heap.size 5 1 v l.length (bs l) ∧ Below w.heap.size w w'

theorem own_le {w : World} {B B' : Nat} {e : TypeId} {v : Value} {n : Nat} {xs : List Value} (h : w.ownsRow B e 1 v n xs) (hB : B' ≤ B) : w.ownsRow B' e 1 v n xs :=
  ⟨h.1, h.2.elim Or.inl fun ⟨g, cap, cur, hv, hg, r⟩ => Or.inr ⟨g, cap, cur, hv, Nat.le_trans hB hg, r⟩⟩

set_option maxHeartbeats 400000 in
theorem bclone_any (v : Value) (l : List UInt8) (w : World) (h : Sl bv w v l) (hlen : l.length ≤ 140737488355328) : Calls Try.prog 17 #[v] w (Makes w l) := by
  obtain ⟨v', w2, hr, ho2, hb2⟩ := append_fresh w v l h hlen
  have HR := Lib.hid hr
  have HO := Lib.hid ho2
  have HB := Lib.hid hb2
  obtain ⟨A, c, rfl, hlc, hx⟩ := h
  clear hr ho2 hb2
  rcases A with _ | ad
  · have : l = [] := by
      rcases l with _ | ⟨a, t⟩
      · rfl
      · obtain ⟨b, o, hA, _⟩ := hx (by simp); cases hA
    subst this
    clear hx
    have hnil := fun n c => Lib.run_eql_slice_nil (P := Try.prog) w 27 5 none n c 0 0 Try.underlying27
    go_enter Try.func17, Try.ntmps17
    go_wp2
    go_ret
    exact ⟨_, rfl, World.ownsRow_nil _ _ _ _, Below.refl _ _⟩
  · clear hx
    have hnil := fun n c => Lib.run_eql_slice_nil (P := Try.prog) w 27 5 (some ad) n c 0 0 Try.underlying27
    go_enter Try.func17, Try.ntmps17
    go_wp2_with (at_builtin; refine Lib.wpList_append_run _ rfl _ _ _ _ rfl _ _ rfl rfl _ _ HR.out ?_)
    go_ret
    exact ⟨_, rfl, HO.out, HB.out⟩

end Go.Proofs.Ytoicncmlmhljmaa
