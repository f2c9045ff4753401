/-
  event.Bytes; hedgerowref06.Short; hedgerowlaw06.code: the contracts, by walks. Conditions: CutOk, texts that are not too long.
-/
import Derived.Test.YtmchnnnpabpelaaEvParse
namespace Go.Proofs.Ytmchnnnpabpelaa
open Go.RowKit

/-- What Bytes tells. -/
def bytL (e : Ev) : List UInt8 := if okB e then bytesE e else []

set_option maxRecDepth 100000 in
set_option maxHeartbeats 1000000 in
theorem ebytes_any (e : Ev) (w : World) (hl : Lens e) (hw : CutOk w) : Calls Try.prog 17 #[evV e] w fun x w' => ∃ v, x = .returned (.tuple #[v, .int .i64 (codeI (okB e))]) ∧ w'.ownsRow w.heap.size 5 1 v (bytL e).length (bs (bytL e)) ∧ Below w.heap.size w w' := by
  have HB : Hid (bytL e = if okB e then bytesE e else []) := Lib.hid rfl
  have HLd := Lib.hid (fun w => elaid_any e w hl)
  have HR := Lib.hid (fun w hw => eright_any e w hl hw)
  obtain ⟨X, hX⟩ : ∃ X, X = w.alloc (.cells (evC e) 31) := ⟨_, rfl⟩
  have HX := Lib.hid hX
  have hk : EB X w.heap.size e := by rw [hX]; exact EB.new_ w e
  have hy : Below w.heap.size w X := by rw [hX]; exact (Below.refl _ _).alloc (Nat.le_refl _) _
  have K := Lib.hid hk
  have HY := Lib.hid hy
  have HW := Lib.hid (hw.below hy)
  clear hX hk hy hl hw
  generalize okB e = ok at *
  unfold evV at *
  go_enter Try.func17, Try.ntmps17
  go_upto_region 1 with fail
  rw [← HX.out]
  go_wp2_with (refine wpList_load_if rfl 31 (.tmp 1) rfl w.heap.size rfl _ _ _ _ K.out Try.underlying31 rfl (sizeE _) ?_)
  refine (HR.out _ HW.out).mono ?_
  rintro e1 w1 ⟨rfl, b1⟩
  have K1 := Lib.hid (EB.keep K.out b1)
  have Y1 := Lib.hid (HY.out.trans (b1.mono HY.out.size))
  clear b1 K HY HW HR
  cases ok
  · have hci : codeI false = 1 := rfl
    rw [hci]
    clear hci
    go_wp2
    go_ret2
    exact ⟨_, rfl, by rw [HB.out]; exact World.ownsRow_nil _ _ _ _, Y1.out⟩
  · have hci : codeI true = 0 := rfl
    rw [hci]
    clear hci
    go_wp2_with (refine wpList_load_if rfl 31 (.tmp 1) rfl w.heap.size rfl _ _ _ _ K1.out Try.underlying31 rfl (sizeE _) ?_)
    refine (HLd.out _).mono ?_
    rintro e2 w2 ⟨v, rfl, ho, b2⟩
    have O2 := Lib.hid (own_base ho Y1.out.size)
    have Y2 := Lib.hid (Y1.out.trans (b2.mono Y1.out.size))
    obtain ⟨A, c, rfl⟩ := own_form ho
    clear ho b2
    go_wp2
    go_ret2
    exact ⟨_, rfl, by rw [HB.out]; exact O2.out, Y2.out⟩

/-- Aren't its texts too long? -/
def shortB (e : Ev) : Bool := decide (e.a.size + e.b.size + e.cc.size + e.d.size + e.t.size ≤ 300)
/-- Texts that can be. -/
def Fit (e : Ev) : Prop := e.a.size ≤ 140737488355328 ∧ e.b.size ≤ 140737488355328 ∧ e.cc.size ≤ 140737488355328 ∧ e.d.size ≤ 140737488355328 ∧ e.t.size ≤ 140737488355328
theorem short_lens (e : Ev) (h : shortB e = true) : Lens e := by
  unfold shortB at h
  rw [decide_eq_true_eq] at h
  exact ⟨by omega, by omega, by omega, by omega, by omega⟩

set_option maxRecDepth 100000 in
set_option maxHeartbeats 1000000 in
theorem short_any (e : Ev) (w : World) (hl : Fit e) : Calls Try.prog 7 #[evV e] w (Gives w (.bool (shortB e))) := by
  obtain ⟨r, c, p, op, ek, a, b, cc, d, vk, vn, t⟩ := e
  obtain ⟨l1, l2, l3, l4, l5⟩ := hl
  dsimp only at l1 l2 l3 l4 l5
  have HS : Hid (shortB ⟨r, c, p, op, ek, a, b, cc, d, vk, vn, t⟩ = decide ((a.size : Int) + b.size + cc.size + d.size + t.size ≤ 300)) := Lib.hid (by unfold shortB; exact decide_eq_decide.2 (by dsimp only; omega))
  have hk := EB.new_ w ⟨r, c, p, op, ek, a, b, cc, d, vk, vn, t⟩
  have hy : Below w.heap.size w (w.alloc (.cells (evC ⟨r, c, p, op, ek, a, b, cc, d, vk, vn, t⟩) 31)) := (Below.refl _ _).alloc (Nat.le_refl _) _
  obtain ⟨X, hX⟩ : ∃ X, X = w.alloc (.cells (evC ⟨r, c, p, op, ek, a, b, cc, d, vk, vn, t⟩) 31) := ⟨_, rfl⟩
  rw [← hX] at hk hy
  have c1 : X.cell? ⟨w.heap.size, 20, none⟩ = some (.string a) := (Blk.cell hk 20).trans rfl
  have c2 : X.cell? ⟨w.heap.size, 21, none⟩ = some (.string b) := (Blk.cell hk 21).trans rfl
  have c3 : X.cell? ⟨w.heap.size, 22, none⟩ = some (.string cc) := (Blk.cell hk 22).trans rfl
  have c4 : X.cell? ⟨w.heap.size, 23, none⟩ = some (.string d) := (Blk.cell hk 23).trans rfl
  have c5 : X.cell? ⟨w.heap.size, 26, none⟩ = some (.string t) := (Blk.cell hk 26).trans rfl
  have HX := Lib.hid hX
  have HY := Lib.hid hy
  clear hX hk hy
  unfold evV
  go_enter Try.func7, Try.ntmps7
  go_upto_region 1 with fail
  rw [← HX.out]
  go_wp2
  go_ret
  exact ⟨by rw [HS.out]; rfl, HY.out⟩
set_option maxHeartbeats 400000 in
theorem code_any (b : Bool) (w : World) : Calls Try.prog 9 #[.bool b] w (Gives w (.int .i64 (codeI b))) := by
  cases b
  all_goals
    go_enter Try.func9, Try.ntmps9
    go_wp2
    go_ret
    exact ⟨rfl, Below.refl _ _⟩

end Go.Proofs.Ytmchnnnpabpelaa
