/-
  lex's words, signs, and what a text begins with: the contracts, by walks. Conditions: lengths.
-/
import Derived.Test.YtmmphgapginmjaaDoorLxTok
import Derived.Shelf.Strings.SlTrimAscii
import Derived.Deep.DeepCutAuto
namespace Go.Proofs.YtmmphgapginmjaaDoor
open Go.RowKit

def strA (l : List (List UInt8)) : Array Value := (l.map fun x => Value.string ⟨x.toArray⟩).toArray
def tkV (t : Lx.Tk) : Value := .agg #[.int .i64 t.1, .int .i64 t.2.1, .string ⟨t.2.2.toArray⟩]
def tkC (t : Lx.Tk) : Array Value := #[.int .i64 t.1, .int .i64 t.2.1, .string ⟨t.2.2.toArray⟩]
/-- What a reader of tokens answers. -/
def rdV (o : Option (Lx.Tk × Nat)) : Value := match o with | some (t, n) => .tuple #[tkV t, .int .i64 (n : Nat)] | none => .tuple #[tkV (0, 0, []), .int .i64 0]

set_option maxRecDepth 100000 in
set_option maxHeartbeats 1000000 in
theorem words_any (w : World) : Calls Tryd.prog 10 #[] w fun e w' => e = .returned (.slice (some ⟨w.heap.size, 0, none⟩) 26 26) ∧ w' = w.alloc (.cells (strA Lx.words) 9) := by
  go_enter Tryd.func10, Tryd.ntmps10
  go_wp2_with (first
    | (refine wpList_val (o := ⟨some 1, _, _, _, _, _⟩) rfl (.slice (some ⟨w.heap.size, 0, none⟩) 26 26) (w.alloc (.cells (strA Lx.words) 9)) (by kernel_rfl) ?_)
    | fail)
  go_ret
  exact ⟨rfl, rfl⟩
set_option maxRecDepth 100000 in
set_option maxHeartbeats 1000000 in
theorem signs_any (w : World) : Calls Tryd.prog 11 #[] w fun e w' => e = .returned (.slice (some ⟨w.heap.size, 0, none⟩) 20 20) ∧ w' = w.alloc (.cells (strA Lx.signs) 9) := by
  go_enter Tryd.func11, Tryd.ntmps11
  go_wp2_with (first
    | (refine wpList_val (o := ⟨some 1, _, _, _, _, _⟩) rfl (.slice (some ⟨w.heap.size, 0, none⟩) 20 20) (w.alloc (.cells (strA Lx.signs) 9)) (by kernel_rfl) ?_)
    | fail)
  go_ret
  exact ⟨rfl, rfl⟩
set_option maxHeartbeats 1000000 in
theorem behind_any (s : ByteArray) (w : World) : Calls Tryd.prog 12 #[.string s] w (Gives w (.string ⟨(Lx.blank s.data.toList).toArray⟩)) := by
  go_enter Tryd.func12, Tryd.ntmps12
  go_wp2_with fail
  refine (Tryd.strings_TrimLeft_one s 32 (by decide) w).mono ?_
  rintro e w1 ⟨rfl, rfl⟩
  go_wp2
  go_ret
  exact ⟨rfl, Below.refl _ _⟩
theorem trim256 : (Tryd.prog.info? (Tryd.lays161_ren.t 116)).map (fun i => (i.zero, i.size)) = some (some (.agg (Array.replicate 256 (.bool false))), 256) := by kernel_rfl
theorem trim_set (s : ByteArray) (C : List UInt8) (w : World) (hC : C.length < 100) (ha : C.all (fun b => decide (b.toNat < 128)) = true) :
    Calls Tryd.prog 17 #[.string s, .string ⟨C.toArray⟩] w (Gives w (.string ⟨(Lib.trimLeftS s.data.toList C).toArray⟩)) :=
  (Any.strings_TrimLeft_laid Tryd.lays161 trim256 s ⟨C.toArray⟩ w (by rw [size_mk]; omega) (Go.Proofs.ascii_of_all ha)).mono fun e w' h => h
theorem trim_len (l C : List UInt8) : (Lib.trimLeftS l C).length + (Lx.runL C l).length = l.length := by
  have := congrArg List.length (List.takeWhile_append_dropWhile (p := (C.contains ·)) (l := l))
  rw [List.length_append] at this
  unfold Lib.trimLeftS Lx.runL
  omega
set_option maxHeartbeats 1000000 in
theorem run_any (s : ByteArray) (C : List UInt8) (w : World) (hs : s.size ≤ 140737488355328) (hC : C.length < 100) (ha : C.all (fun b => decide (b.toNat < 128)) = true) :
    Calls Tryd.prog 30 #[.string s, .string ⟨C.toArray⟩] w (Gives w (.string ⟨(Lx.runL C s.data.toList).toArray⟩)) := by
  have hlen : s.data.toList.length = s.size := by rw [Array.length_toList]; rfl
  obtain ⟨T, hT⟩ : ∃ T, Lib.trimLeftS s.data.toList C = T := ⟨_, rfl⟩
  obtain ⟨R, hR⟩ : ∃ R, (Lx.runL C s.data.toList).length = R := ⟨_, rfl⟩
  have h1 := trim_len s.data.toList C
  rw [hT, hR, hlen] at h1
  have HR := Lib.hid hR
  have HTr := Lib.hid (trim_set s C w hC ha)
  rw [hT] at HTr
  have HL := Lib.hid h1
  have HS := Lib.hid hs
  have HX := Lib.hid (show s.extract 0 R = ⟨(Lx.runL C s.data.toList).toArray⟩ from str_eq (by
    rw [← hR]
    have := Lx.runL_take C s.data.toList
    simpa using this))
  have hsz : (ByteArray.mk T.toArray).size = T.length := size_mk T
  have hsub : wrap64 ((s.size : Int) - (T.length : Int)) = (R : Int) := by rw [IntWalk.wrap64_in _ ⟨by omega, by omega⟩]; omega
  have hR1 : (0 : Int) ≤ (R : Int) := by omega
  have hR2 : (R : Int) ≤ (s.size : Int) := by omega
  clear hlen h1 hR hs hT hC ha
  go_enter Tryd.func30, Tryd.ntmps30
  go_wp2_with fail
  refine HTr.out.mono ?_
  rintro e w1 ⟨rfl, hb⟩
  have HB := Lib.hid hb
  clear hb
  go_wp2
  go_ret
  exact ⟨by rw [← HX.out]; rfl, HB.out⟩

end Go.Proofs.YtmmphgapginmjaaDoor
