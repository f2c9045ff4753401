/-
  num.Read and the reader's methods: the contracts, by walks. Conditions: none but a string's length.
-/
import Derived.Test.YtmchnnnpabpelaaNumFirst
import Derived.Lib.Strings
namespace Go.Proofs.Ytmchnnnpabpelaa
open Go.RowKit

/-- Block g is a reader: what is left, and whether something failed. -/
def Rd (w : World) (g : Nat) (s : List UInt8 × Bool) : Prop := ∃ b : ByteArray, b.data.toList = s.1 ∧ b.size ≤ 9223372036854775807 ∧ Blk w g 73 #[.string b, .bool s.2]
theorem Rd.below {w w' : World} {g : Nat} {s : List UInt8 × Bool} (h : Rd w g s) (hb : Below w.heap.size w w') : Rd w' g s := by
  obtain ⟨b, h1, h2, h3⟩ := h
  exact ⟨b, h1, h2, h3.below hb h3.lt⟩
theorem Rd.lt {w : World} {g : Nat} {s : List UInt8 × Bool} (h : Rd w g s) : g < w.heap.size := by
  obtain ⟨b, h1, h2, h3⟩ := h
  exact h3.lt
theorem Rd.but {w w' : World} {g h : Nat} {s : List UInt8 × Bool} (hr : Rd w h s) (hb : But g w w') (hne : h ≠ g) : Rd w' h s := by
  obtain ⟨b, h1, h2, h3⟩ := hr
  exact ⟨b, h1, h2, hb.blk h3 hne⟩

/-- Hands v back; block g is then the reader s; all else is as it was. -/
def Moves (w : World) (g : Nat) (v : Value) (s : List UInt8 × Bool) (e : Ending) (w' : World) : Prop := e = .returned v ∧ Rd w' g s ∧ But g w w'
def Same (w : World) (v : Value) (e : Ending) (w' : World) : Prop := e = .returned v ∧ w = w'

set_option maxHeartbeats 400000 in
theorem fail_nil (w : World) : Calls Try.prog 48 #[.pointer none] w (Same w (.bool true)) := by
  go_enter Try.func48, Try.ntmps48
  go_wp2
  go_ret
  exact ⟨rfl, rfl⟩
set_option maxHeartbeats 400000 in
theorem fail_any (g : Nat) (s : List UInt8 × Bool) (w : World) (h : Rd w g s) : Calls Try.prog 48 #[.pointer (some ⟨g, 0, none⟩)] w (Same w (.bool s.2)) := by
  obtain ⟨b, h1, h2, h3⟩ := h
  have c1 := h3.cell 1
  simp at c1
  clear h1 h3
  go_enter Try.func48, Try.ntmps48
  go_wp2
  go_ret
  exact ⟨rfl, rfl⟩
set_option maxHeartbeats 400000 in
theorem left_any (g : Nat) (s : List UInt8 × Bool) (w : World) (h : Rd w g s) : Calls Try.prog 49 #[.pointer (some ⟨g, 0, none⟩)] w (Same w (.int .i64 (rLeft s))) := by
  have hf := fail_any g s w h
  obtain ⟨b, h1, h2, h3⟩ := h
  have c0 := h3.cell 0
  simp at c0
  have hl : b.size = s.1.length := by rw [← h1, str_len]
  clear h3 h1
  obtain ⟨l, f⟩ := s
  have HL := Lib.hid hl
  have HF := Lib.hid hf
  clear hl hf
  cases f
  all_goals
    go_enter Try.func49, Try.ntmps49
    go_wp2_with fail
    refine HF.out.mono ?_
    rintro e w' ⟨rfl, rfl⟩
    go_wp2
    go_ret
    exact ⟨by simp [rLeft, HL.out], rfl⟩
set_option maxHeartbeats 400000 in
theorem done_any (g : Nat) (s : List UInt8 × Bool) (w : World) (h : Rd w g s) : Calls Try.prog 32 #[.pointer (some ⟨g, 0, none⟩)] w (Same w (.bool (rDone s))) := by
  have hf := fail_any g s w h
  have hl := left_any g s w h
  obtain ⟨l, f⟩ := s
  have HF := Lib.hid hf
  have HL := Lib.hid hl
  clear hf hl h
  cases f
  · go_enter Try.func32, Try.ntmps32
    go_wp2_with fail
    refine HF.out.mono ?_
    rintro e w' ⟨rfl, rfl⟩
    go_wp2_with fail
    refine HL.out.mono ?_
    rintro e w' ⟨rfl, rfl⟩
    go_wp2
    go_ret
    exact ⟨by cases l <;> simp [rDone, rLeft]; omega, rfl⟩
  · go_enter Try.func32, Try.ntmps32
    go_wp2_with fail
    refine HF.out.mono ?_
    rintro e w' ⟨rfl, rfl⟩
    go_wp2
    go_ret
    exact ⟨rfl, rfl⟩

/-- The bytes that a slice reads, as a string. -/
theorem run_string_sl {P : Program} (w : World) (src dst e : TypeId) (hs : P.underlying src = some (.slice e)) (he : P.underlying e = some (.int .u8)) (hd : P.underlying dst = some .string)
    (v : Value) (l : List UInt8) (h : Sl bv w v l) : (convert src dst v).run P w = .ok (.string ⟨l.toArray⟩) w := by
  obtain ⟨A, c, rfl, hlc, hx⟩ := h
  by_cases hn : l = []
  · subst hn
    rcases A with _ | ad
    · exact run_convert_bytes_nil w src e hs he 0 c dst hd
    · rw [run_convert_bytes_string w src dst e _ _ c hs he hd, run_bytesToString w ad _ c [] (by simp [loadCells, loadCellsFrom])]
      rfl
  · obtain ⟨b, o, rfl, hb, hcell⟩ := hx hn
    have := run_convert_bytes_arg (P := P) w src e hs he b o l.length c (l.map fun x => (x.toNat : Int)) (by simp) (fun i hi => by
      rw [hcell i l[i] (List.getElem?_eq_getElem hi)]
      simp [bv, List.getD, hi]) dst hd
    rw [this]
    have e2 : ((l.map fun x => (x.toNat : Int)).map fun n => UInt8.ofNat n.toNat) = l := by
      rw [List.map_map]
      conv => rhs; rw [← List.map_id l]
      exact List.map_congr_left fun x _ => by simp
    unfold strOfNums
    rw [e2]

theorem str_run {P : Program} (w : World) (src dst e : TypeId) (hs : P.underlying src = some (.slice e)) (he : P.underlying e = some (.int .u8)) (hd : P.underlying dst = some .string)
    (v : Value) (l : List UInt8) (h : Sl bv w v l) (X : ByteArray) (hX : X.data.toList = l) : (convert src dst v).run P w = .ok (.string X) w := by
  rw [run_string_sl w src dst e hs he hd v l h]
  obtain ⟨⟨k⟩⟩ := X
  simp at hX
  subst hX
  rfl
theorem str_ex (l : List UInt8) : ∃ X : ByteArray, X.data.toList = l := ⟨⟨l.toArray⟩, rfl⟩
theorem str_beq {X Y : ByteArray} {l m : List UInt8} (hX : X.data.toList = l) (hY : Y.data.toList = m) : (X.toList == Y.toList) = decide (l = m) := by
  rw [Lib.toList_data, Lib.toList_data, hX, hY]
  by_cases h : l = m <;> simp [h]

set_option maxHeartbeats 400000 in
theorem read_any (v : Value) (l : List UInt8) (w : World) (h : Sl bv w v l) (hlen : l.length ≤ 9223372036854775807) :
    Calls Try.prog 30 #[v] w fun e w' => e = .returned (.pointer (some ⟨w.heap.size, 0, none⟩)) ∧ Rd w' w.heap.size (l, false) ∧ Below w.heap.size w w' := by
  have hr := run_string_sl (P := Try.prog) w 43 9 5 Try.underlying43 Try.underlying5 Try.underlying9 v l h
  have H : Hid (Rd (w.alloc (.cells #[.string ⟨l.toArray⟩, .bool false] 73)) w.heap.size (l, false)) := ⟨⟨l.toArray⟩, rfl, by simpa [ByteArray.size] using hlen, Blk.new w _ _⟩
  clear h
  go_enter Try.func30, Try.ntmps30
  go_wp2
  go_ret
  exact ⟨rfl, H.out, (Below.refl _ _).alloc (Nat.le_refl _) _⟩

end Go.Proofs.Ytmchnnnpabpelaa
