/-
  The calls of a disk but Crash and Twin: the contracts, by walks. Conditions: bounds on lengths.
-/
import Derived.Test.YtcaechfmeiklkaaDkBase
namespace Go.Proofs.Ytcaechfmeiklkaa
open Go.RowKit

set_option maxHeartbeats 400000 in
theorem dnew_any (w : World) : Calls Try.prog 8 #[] w fun e w' => e = .returned (.pointer (some ⟨w.heap.size, 0, none⟩)) ∧ Dk w' w.heap.size (.slice none 0 0) [] 0 ∧ Below w.heap.size w w' := by
  have H : Hid (Dk (w.alloc (.cells #[.slice none 0 0, .int .i64 0] 41)) w.heap.size (.slice none 0 0) [] 0 ∧ Below w.heap.size w (w.alloc (.cells #[.slice none 0 0, .int .i64 0] 41))) :=
    Lib.hid ⟨⟨Blk.new w _ _, World.ownsRow_nil _ _ _ _, Nat.le_refl _, by simp⟩, (Below.refl _ _).alloc (Nat.le_refl _) _⟩
  go_enter Try.func8, Try.ntmps8
  go_wp2
  go_ret
  exact ⟨rfl, H.out⟩

/-- Disk g, turned into one of l and s, its bytes then in a slice v'. -/
def Turns (w : World) (g : Nat) (v : Value) (l : List UInt8) (s : Nat) (w' : World) : Prop := ∃ v', Dk w' g v' l s ∧ Mv g v w w' v'

set_option maxHeartbeats 1000000 in
theorem dwrite_any (g : Nat) (v vb : Value) (l b : List UInt8) (s : Nat) (w : World) (h : Dk w g v l s) (hb : Sl bv w vb b) (hfit : l.length + b.length ≤ 1048576) :
    Calls Try.prog 9 #[.pointer (some ⟨g, 0, none⟩), vb] w fun e w' => e = .returned (.int .i64 0) ∧ Turns w g v (l ++ b) s w' := by
  obtain ⟨v', w2, hr, ho2, hg2, hat⟩ := append_at w v _ _ h.2.1 vb b hb (by omega)
  have hne := h.ne
  have hb2 : Blk w2 g 41 #[v, .int .i64 s] := (hg2.block g h.lt (fun e => hne e.symm)).trans h.1
  have hown' : v'.ownBlock ≠ some g := own_ne ho2 hb2 (by decide)
  have H : Hid (Turns w g v (l ++ b) s (w2.setCell ⟨g, 0, none⟩ v')) := Lib.hid ⟨v', ⟨by
      have := hb2.set_ 0 v'
      simpa using this, by
      rw [bs_append, List.length_append]
      exact own_at ho2 (fun k hk => Below.heap_setCell w2 ⟨g, 0, none⟩ v' k (fun e => hown' (by rw [hk, e]))) (fun _ _ => Nat.zero_le _), by rw [List.length_append]; have := h.2.2.1; omega, by rw [List.length_append]; omega⟩,
    ⟨hg2.os, hg2.tape, hg2.output, by have := hg2.size; simpa [World.setCell] using this, fun k hk hkg hkv => (Below.heap_setCell w2 ⟨g, 0, none⟩ v' k hkg).trans (hg2.block k hk (fun e => hkv e.symm)), hat⟩⟩
  have c0 := h.1.cell 0
  have d0 := hb2.cell 0
  have f0 := hb2.free 0
  simp at c0 d0
  obtain ⟨A, c, rfl⟩ := h.form
  obtain ⟨A2, c2, rfl⟩ := hb.form
  obtain ⟨A3, c3, rfl⟩ := own_form ho2
  have HR := Lib.hid hr
  clear hr ho2 hg2 hat hb2 hown' hne h hb
  go_enter Try.func9, Try.ntmps9
  go_wp2_with (at_builtin; refine Lib.wpList_append_run (o := ⟨some 22, _, _, _, _, _⟩) _ rfl _ _ _ _ rfl _ _ rfl rfl _ _ HR.out ?_)
  go_ret
  exact ⟨rfl, H.out⟩

set_option maxHeartbeats 400000 in
theorem dwrite_full (g : Nat) (v vb : Value) (l b : List UInt8) (s : Nat) (w : World) (h : Dk w g v l s) (hb : Sl bv w vb b) (hfit : 1048576 < l.length + b.length) (hbl : b.length ≤ 140737488355328) :
    Calls Try.prog 9 #[.pointer (some ⟨g, 0, none⟩), vb] w fun e w' => e = .returned (.int .i64 6) ∧ w = w' := by
  have c0 := h.1.cell 0
  have hl := h.2.2.2
  simp at c0
  obtain ⟨A, c, rfl⟩ := h.form
  obtain ⟨A2, c2, rfl⟩ := hb.form
  clear h hb
  go_enter Try.func9, Try.ntmps9
  go_wp2
  go_ret
  exact ⟨rfl, rfl⟩

set_option maxHeartbeats 400000 in
theorem dwrite_nil (vb : Value) (w : World) :
    Calls Try.prog 9 #[.pointer none, vb] w fun e w' => e = .returned (.int .i64 1) ∧ w = w' := by
  go_enter Try.func9, Try.ntmps9
  go_wp2
  go_ret
  exact ⟨rfl, rfl⟩

set_option maxHeartbeats 400000 in
theorem dsync_any (g : Nat) (v : Value) (l : List UInt8) (s : Nat) (w : World) (h : Dk w g v l s) :
    Calls Try.prog 10 #[.pointer (some ⟨g, 0, none⟩)] w fun e w' => e = .returned (.tuple #[]) ∧ Dk w' g v l l.length ∧ Mv g v w w' v := by
  have hne := h.ne
  have H : Hid (Dk (w.setCell ⟨g, 1, none⟩ (.int .i64 l.length)) g v l l.length ∧ Mv g v w (w.setCell ⟨g, 1, none⟩ (.int .i64 l.length)) v) := Lib.hid ⟨⟨by
      have := h.1.set_ 1 (.int .i64 l.length)
      simpa using this, own_at h.2.1 (fun k hk => Below.heap_setCell w ⟨g, 1, none⟩ _ k (fun e => hne (by rw [hk, e]))) (fun _ _ => Nat.zero_le _), Nat.le_refl _, h.2.2.2⟩,
    ⟨rfl, rfl, rfl, by simp [World.setCell], fun k _ hkg _ => Below.heap_setCell w ⟨g, 1, none⟩ _ k hkg, .inl rfl⟩⟩
  have c0 := h.1.cell 0
  have c1 := h.1.cell 1
  have f1 := h.1.free 1
  simp at c0 c1
  obtain ⟨A, c, rfl⟩ := h.form
  clear h hne
  go_enter Try.func10, Try.ntmps10
  go_wp2
  go_end0
  exact ⟨rfl, H.out⟩

set_option maxHeartbeats 1000000 in
theorem dreset_any (g : Nat) (v vb : Value) (l b : List UInt8) (s : Nat) (w : World) (h : Dk w g v l s) (hb : Sl bv w vb b) (hfit : b.length ≤ 1048576) :
    Calls Try.prog 11 #[.pointer (some ⟨g, 0, none⟩), vb] w fun e w' => e = .returned (.int .i64 0) ∧ Turns w g v b b.length w' := by
  obtain ⟨A2, c2, rfl⟩ := hb.form
  have HS := Lib.hid hb
  have HD := Lib.hid h
  clear hb h
  go_enter Try.func11, Try.ntmps11
  go_wp2_with fail
  refine (bclone_any _ b w HS.out (by omega)).mono ?_
  rintro e w2 ⟨v', rfl, ho2, hb2⟩
  have hg2 : Blk w2 g 41 #[v, .int .i64 s] := HD.out.1.below hb2 HD.out.lt
  have hown' : v'.ownBlock ≠ some g := own_ne ho2 hg2 (by decide)
  have hg3 : Blk (w2.setCell ⟨g, 0, none⟩ v') g 41 #[v', .int .i64 s] := by
    have := hg2.set_ 0 v'
    simpa using this
  have H : Hid (Turns w g v b b.length ((w2.setCell ⟨g, 0, none⟩ v').setCell ⟨g, 1, none⟩ (.int .i64 b.length))) := Lib.hid ⟨v', ⟨by
      have := hg3.set_ 1 (.int .i64 b.length)
      simpa using this,
      own_at ho2 (fun k hk => (Below.heap_setCell _ ⟨g, 1, none⟩ _ k (fun e => hown' (by rw [hk, e]))).trans (Below.heap_setCell w2 ⟨g, 0, none⟩ v' k (fun e => hown' (by rw [hk, e])))) (fun _ _ => Nat.zero_le _), Nat.le_refl _, hfit⟩,
    ⟨hb2.os, hb2.tape, hb2.output, by have := hb2.size; simpa [World.setCell] using this, fun k hk hkg _ => ((Below.heap_setCell _ ⟨g, 1, none⟩ _ k hkg).trans (Below.heap_setCell w2 ⟨g, 0, none⟩ v' k hkg)).trans (hb2.block k hk), .inr fun k hk => (ho2.lt k hk).1⟩⟩
  have d0 := hg2.cell 0
  have f0 := hg2.free 0
  have d1 := hg3.cell 1
  have f1 := hg3.free 1
  simp at d0 d1
  obtain ⟨A, c, rfl⟩ := own_form ho2
  clear ho2 hb2 hg2 hg3 hown'
  go_wp2
  go_ret
  exact ⟨rfl, H.out⟩

set_option maxHeartbeats 400000 in
theorem dreset_full (g : Nat) (vb : Value) (b : List UInt8) (w : World) (hb : Sl bv w vb b) (hfit : 1048576 < b.length) :
    Calls Try.prog 11 #[.pointer (some ⟨g, 0, none⟩), vb] w fun e w' => e = .returned (.int .i64 6) ∧ w = w' := by
  obtain ⟨A2, c2, rfl⟩ := hb.form
  clear hb
  go_enter Try.func11, Try.ntmps11
  go_wp2
  go_ret
  exact ⟨rfl, rfl⟩

set_option maxHeartbeats 400000 in
theorem dbytes_any (g : Nat) (v : Value) (l : List UInt8) (s : Nat) (w : World) (h : Dk w g v l s) :
    Calls Try.prog 14 #[.pointer (some ⟨g, 0, none⟩)] w (Makes w l) := by
  have c0 := h.1.cell 0
  simp at c0
  have hs := h.sl
  have hl := h.2.2.2
  obtain ⟨A, c, rfl⟩ := h.form
  clear h
  have HS := Lib.hid hs
  clear hs
  go_enter Try.func14, Try.ntmps14
  go_wp2_with fail
  refine (bclone_any _ l w HS.out (by omega)).mono ?_
  rintro e w2 ⟨v', rfl, ho2, hb2⟩
  have HO := Lib.hid ho2
  have HB := Lib.hid hb2
  clear ho2 hb2
  obtain ⟨A2, c2, rfl⟩ := own_form HO.out
  go_wp2
  go_ret
  exact ⟨_, rfl, HO.out, HB.out⟩

set_option maxHeartbeats 400000 in
theorem dbytes_nil (w : World) : Calls Try.prog 14 #[.pointer none] w fun e w' => e = .returned (.slice none 0 0) ∧ w = w' := by
  go_enter Try.func14, Try.ntmps14
  go_wp2
  go_ret
  exact ⟨rfl, rfl⟩

set_option maxHeartbeats 400000 in
theorem dsynced_any (g : Nat) (v : Value) (l : List UInt8) (s : Nat) (w : World) (h : Dk w g v l s) :
    Calls Try.prog 15 #[.pointer (some ⟨g, 0, none⟩)] w fun e w' => e = .returned (.int .i64 s) ∧ w = w' := by
  have c1 := h.1.cell 1
  simp at c1
  clear h
  go_enter Try.func15, Try.ntmps15
  go_wp2
  go_ret
  exact ⟨rfl, rfl⟩

set_option maxHeartbeats 400000 in
theorem dsynced_nil (w : World) : Calls Try.prog 15 #[.pointer none] w fun e w' => e = .returned (.int .i64 0) ∧ w = w' := by
  go_enter Try.func15, Try.ntmps15
  go_wp2
  go_ret
  exact ⟨rfl, rfl⟩

end Go.Proofs.Ytcaechfmeiklkaa
