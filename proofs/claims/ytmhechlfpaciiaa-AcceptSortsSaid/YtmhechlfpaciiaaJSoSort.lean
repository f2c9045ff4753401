/-
  slices.SortStableFunc and accept.Sort at events, of any length: the contracts, by walks. Two events: what the model's == tells of them; a row sorted by its pasts: mathematics of AcceptOrder. accept.Sort at a row without events: the contract, by walks. Conditions: lengths.
-/
import Derived.Test.YtmhechlfpaciiaaJSoN
namespace Go.Proofs.Ytmhechlfpaciiaa
open Go.RowKit Go.MapKept Go.Sort

set_option maxRecDepth 100000 in
set_option maxHeartbeats 1000000 in
theorem sortS_any (N B g cap : Nat) (d0 : Array Ev) (w : World) (h : OwnK encE B 39 27 w (.slice (some ⟨g, 0, none⟩) N cap) d0.toList) (hN : d0.size = N) (hN2 : N ≤ 100000) :
    Calls Try.prog 63 #[.slice (some ⟨g, 0, none⟩) N cap, .func (.func 64) #[] #[]] w fun e w' => e = .returned (.tuple #[]) ∧ ∃ d, RowE w B g cap N d w' ∧ PermIn 0 N d0 d ∧ SortedIn (ltOf cfP) 0 N d := by
  have HI := Lib.hid (stable_any N B g cap d0 w h hN hN2)
  clear h hN hN2
  go_enter Try.func63, Try.ntmps63
  go_wp2_with fail
  refine HI.out.mono ?_
  rintro e w1 ⟨rfl, ht⟩
  have HT := Lib.hid ht
  clear ht
  go_wp2
  go_end0
  exact ⟨rfl, HT.out⟩

set_option maxRecDepth 100000 in
set_option maxHeartbeats 1000000 in
/-- accept.Sort: the sorted row, of new blocks; what was is as it was. -/
theorem sortAll_any (l : List Ev) (b o n c : Nat) (w : World) (hs : SlK encE 27 w (.slice (some ⟨b, o, none⟩) n c) l) (hn : n ≤ 100000) (h0 : l ≠ []) :
    Calls Try.prog 34 #[.slice (some ⟨b, o, none⟩) n c] w fun e w' => ∃ g cap, ∃ d : Array Ev, e = .returned (.slice (some ⟨g, 0, none⟩) n cap) ∧ OwnK encE w.heap.size 39 27 w' (.slice (some ⟨g, 0, none⟩) n cap) d.toList ∧ Below w.heap.size w w' ∧ PermIn 0 n l.toArray d ∧ SortedIn (ltOf cfP) 0 n d := by
  have hlen : l.length = n := hs.len_.1.symm
  have HCl := Lib.hid (clone_any l b o n c w hs (by omega))
  have HL := Lib.hid (And.intro hlen hn)
  clear hs hn
  go_enter Try.func34, Try.ntmps34
  go_wp2_with fail
  refine HCl.out.mono ?_
  rintro e w1 ⟨v, rfl, ho, hb⟩
  obtain ⟨g, cap, cur, rfl, hg, _⟩ := ho.block (by have := HL.out.1; cases l with | nil => exact absurd rfl h0 | cons _ _ => simp)
  rw [hlen] at ho ⊢
  have HB := Lib.hid hb
  have HG := Lib.hid hg
  have HS := Lib.hid (sortS_any n w.heap.size g cap l.toArray w1 ho (by rw [List.size_toArray]; exact hlen) HL.out.2)
  clear ho hb hg hlen
  go_wp2_with fail
  refine HS.out.mono ?_
  rintro e w2 ⟨rfl, d, ht, hp, hs⟩
  have HT := Lib.hid ht.1
  have HP := Lib.hid (And.intro hp hs)
  have HB2 := Lib.hid (HB.out.trans (ht.2.2.below HB.out.size fun i hi => by rw [hi]; exact HG.out))
  clear ht hp hs
  go_wp2
  go_ret
  exact ⟨g, cap, d, rfl, HT.out, HB2.out, HP.out.1, HP.out.2⟩

end Go.Proofs.Ytmhechlfpaciiaa

namespace Go.Proofs.Ytmhechlfpaciiaa
open Go.RowKit Go.Sort

def eqEv (e f : Ev) : Bool := (e.r == f.r) && (e.c == f.c) && eqV e.p f.p && (e.op == f.op) && (e.ek == f.ek) && (e.a.toList == f.a.toList) && (e.b.toList == f.b.toList) && (e.cc.toList == f.cc.toList) && (e.d.toList == f.d.toList) && (e.vk == f.vk) && (e.vn == f.vn) && (e.t.toList == f.t.toList)
set_option maxRecDepth 100000 in
set_option maxHeartbeats 2000000 in
theorem run_eqlE (w : World) (e f : Ev) : (binOp .eql 39 (evV e) (evV f)).run Try.prog w = .ok (.bool (eqEv e f)) w := by
  have hq := run_equalIn_arr Try.prog w 9997 27 3 e.p f.p Try.underlying27 Try.underlying3 sizeI
  rw [vA_lit, vA_lit] at hq
  unfold eqEv
  obtain ⟨r, c, p, op, ek, a, b, cc, d, vk, vn, t⟩ := e
  obtain ⟨r', c', p', op', ek', a', b', cc', d', vk', vn', t'⟩ := f
  dsimp only at *
  unfold evV evC
  dsimp only
  generalize eqV p p' = q at *
  cases h1 : (r == r') <;> cases h2 : (c == c') <;> cases q
  all_goals go_simp
  by_cases g0 : op = op'
  case neg => simp [g0]
  by_cases g1 : ek = ek'
  case neg => simp [g0, g1]
  by_cases g2 : a.toList = a'.toList
  case neg => simp [g0, g1, g2]
  by_cases g3 : b.toList = b'.toList
  case neg => simp [g0, g1, g2, g3]
  by_cases g4 : cc.toList = cc'.toList
  case neg => simp [g0, g1, g2, g3, g4]
  by_cases g5 : d.toList = d'.toList
  case neg => simp [g0, g1, g2, g3, g4, g5]
  by_cases g6 : vk = vk'
  case neg => simp [g0, g1, g2, g3, g4, g5, g6]
  by_cases g7 : vn = vn'
  case neg => simp [g0, g1, g2, g3, g4, g5, g6, g7]
  by_cases g8 : t.toList = t'.toList
  case neg => simp [g0, g1, g2, g3, g4, g5, g6, g7, g8]
  simp [g0, g1, g2, g3, g4, g5, g6, g7, g8]
theorem run_eql_q {e f : Ev} {q : Bool} (h : eqEv e f = q) (w : World) : (binOp .eql 39 (evV e) (evV f)).run Try.prog w = .ok (.bool q) w := by rw [run_eqlE, h]

/-- How often an event stands in a row. -/
def cntE (e : Ev) (l : List Ev) : Nat := l.countP fun x => eqEv x e
theorem cntE_next {e x : Ev} {l : List Ev} {j : Nat} (h : l[j]? = some x) : cntE e (l.take (j + 1)) = cntE e (l.take j) + if eqEv x e then 1 else 0 := by
  have hj : j < l.length := (List.getElem?_eq_some_iff.mp h).1
  have e1 : l.take (j + 1) = l.take j ++ [x] := by
    rw [List.take_add_one, h]; rfl
  rw [e1]
  unfold cntE
  rw [List.countP_append, List.countP_singleton]
theorem cntE_le (e : Ev) (l : List Ev) : cntE e l ≤ l.length := List.countP_le_length
theorem perm_cnt {n : Nat} {l : List Ev} {d : Array Ev} (hp : PermIn 0 n l.toArray d) (hn : l.length = n) (e : Ev) : cntE e d.toList = cntE e l := by
  obtain ⟨h1, _, h3⟩ := hp
  have hs : d.size = n := by rw [h1]; simpa using hn
  have e1 : (d.extract 0 n).toList = d.toList := by rw [← hs]; simp
  have e2 : (l.toArray.extract 0 n).toList = l := by rw [← hn]; simp
  rw [e1, e2] at h3
  exact h3.countP_eq _
theorem sorted_pair {n j : Nat} {d : Array Ev} (hs : SortedIn (ltOf cfP) 0 n d) (h0 : 0 < j) (hj : j < n) :
    ¬ sumN d[j]!.p 16 < sumN d[j - 1]!.p 16 ∧ (sumN d[j - 1]!.p 16 = sumN d[j]!.p 16 → ¬ d[j]!.r < d[j - 1]!.r ∧ (d[j - 1]!.r = d[j]!.r → ¬ d[j]!.c < d[j - 1]!.c)) := by
  have h := hs (j - 1) j (Nat.zero_le _) (by omega) hj
  generalize d[j]! = y at *
  generalize d[j - 1]! = x at *
  have h1 : ¬ cfP y x < 0 := of_decide_eq_false h
  unfold cfP at h1
  rw [orI, orI, orI_one] at h1
  unfold Lib.compareInt at h1
  refine ⟨fun h2 => ?_, fun h2 => ⟨fun h3 => ?_, fun h3 h4 => ?_⟩⟩
  · simp [h2] at h1
  · simp [h2, h3] at h1
  · simp [h2, h3, h4] at h1

end Go.Proofs.Ytmhechlfpaciiaa

namespace Go.Proofs.Ytmhechlfpaciiaa
open Go.RowKit Go.MapKept Go.Sort

set_option maxRecDepth 100000 in
set_option maxHeartbeats 1000000 in
theorem insertion_nil (v fv : Value) (w : World) : Calls Try.prog 100 #[v, .int .i64 0, .int .i64 0, fv] w fun e w' => e = .returned (.tuple #[]) ∧ w = w' := by
  go_enter Try.func100, Try.ntmps100
  go_wp2_with fail
  go_loopw [8] (fun v8 wr => v8 = .int .i64 1 ∧ w = wr) (fun _ _ => 0)
  case atStart => exact ⟨rfl, rfl⟩
  case round =>
    obtain ⟨rfl, hw⟩ := hrel
    subst hw
    go_wp2
    go_end0
    exact ⟨rfl, rfl⟩

set_option maxRecDepth 100000 in
set_option maxHeartbeats 1000000 in
theorem stable_nil (v fv : Value) (w : World) : Calls Try.prog 84 #[v, .int .i64 0, fv] w fun e w' => e = .returned (.tuple #[]) ∧ w = w' := by
  have HI := Lib.hid (insertion_nil v fv w)
  go_enter Try.func84, Try.ntmps84
  go_wp2_with fail
  go_loopw [7, 8] (fun v7 v8 wr => v7 = .int .i64 0 ∧ v8 = .int .i64 20 ∧ w = wr) (fun _ _ _ => 0)
  case atStart => exact ⟨rfl, rfl, rfl⟩
  case round =>
    obtain ⟨rfl, rfl, hw⟩ := hrel
    subst hw
    go_wp2_with fail
    refine HI.out.mono ?_
    rintro e w1 ⟨rfl, rfl⟩
    go_wp2_with fail
    go_loopw [6] (fun v6 wr => v6 = .int .i64 20 ∧ w = wr) (fun _ _ => 0)
    case atStart => exact ⟨rfl, rfl⟩
    case round =>
      obtain ⟨rfl, hw⟩ := hrel
      subst hw
      go_wp2
      go_end0
      exact ⟨rfl, rfl⟩

set_option maxRecDepth 100000 in
set_option maxHeartbeats 1000000 in
theorem sortS_nil (A : Option Addr) (c : Nat) (fv : Value) (w : World) : Calls Try.prog 63 #[.slice A 0 c, fv] w fun e w' => e = .returned (.tuple #[]) ∧ w = w' := by
  have HI := Lib.hid (stable_nil (.slice A 0 c) fv w)
  go_enter Try.func63, Try.ntmps63
  go_wp2_with fail
  refine HI.out.mono ?_
  rintro e w1 ⟨rfl, rfl⟩
  go_wp2
  go_end0
  exact ⟨rfl, rfl⟩

set_option maxRecDepth 100000 in
set_option maxHeartbeats 1000000 in
theorem clone_none (c : Nat) (w : World) : Calls Try.prog 62 #[.slice none 0 c] w fun e w' => ∃ A c', e = .returned (.slice A 0 c') ∧ Below w.heap.size w w' := by
  have hnil := Lib.run_eql_slice_nil (P := Try.prog) w 22 39 none 0 c 0 0 Try.underlying22
  go_enter Try.func62, Try.ntmps62
  go_wp2_with (first
    | (refine wpList_val (o := ⟨some 4, _, _, _, _, _⟩) rfl (.bool true) w (run_bin_op rfl rfl rfl (by kernel_rfl) hnil) ?_)
    | fail)
  go_ret
  exact ⟨_, _, rfl, Below.refl _ _⟩

set_option maxRecDepth 100000 in
set_option maxHeartbeats 1000000 in
theorem clone_some (a : Addr) (c : Nat) (w : World) (hs : SlK encE 27 w (.slice (some a) 0 c) []) : Calls Try.prog 62 #[.slice (some a) 0 c] w fun e w' => ∃ A c', e = .returned (.slice A 0 c') ∧ Below w.heap.size w w' := by
  have hba : Below w.heap.size w (w.alloc (.cells #[] 39)) := (Below.refl _ _).alloc (Nat.le_refl _) _
  obtain ⟨v', w2, hr, ho, hb⟩ := append_new w.heap.size (w.alloc (.cells #[] 39)) _ [] (hs.below hba) (by simp) w.heap.size (own_empty w) hba.size
  obtain ⟨A', c', rfl⟩ := own_form ho
  have HA := Lib.hid hr
  have HB := Lib.hid (hba.trans (hb.mono hba.size))
  have hnil := Lib.run_eql_slice_nil (P := Try.prog) w 22 39 (some a) 0 c 0 0 Try.underlying22
  clear hs hba hr ho hb
  go_enter Try.func62, Try.ntmps62
  go_wp2_with (first
    | (refine wpList_val (o := ⟨some 4, _, _, _, _, _⟩) rfl (.bool false) w (run_bin_op rfl rfl rfl (by kernel_rfl) hnil) ?_)
    | (refine wpList_val (o := ⟨some 5, _, _, _, _, _⟩) rfl (.slice (some ⟨w.heap.size, 0, none⟩) 0 0) (w.alloc (.cells #[] 39)) (run_buildSlice_op (vs := #[]) rfl (by simp only [List.map_toArray, List.map_nil]) (bsNil w)) ?_)
    | (at_builtin; refine Lib.wpList_append_run (o := ⟨some 7, _, _, _, _, _⟩) _ rfl _ _ _ _ rfl _ _ rfl rfl _ _ HA.out ?_)
    | fail)
  go_ret
  exact ⟨_, _, rfl, HB.out⟩

set_option maxRecDepth 100000 in
set_option maxHeartbeats 1000000 in
theorem sort_nil (A : Option Addr) (c : Nat) (w : World) (hs : SlK encE 27 w (.slice A 0 c) []) :
    Calls Try.prog 34 #[.slice A 0 c] w fun e w' => ∃ A' c', e = .returned (.slice A' 0 c') ∧ Below w.heap.size w w' := by
  have HCl := Lib.hid (show Calls Try.prog 62 #[.slice A 0 c] w fun e w' => ∃ A' c', e = .returned (.slice A' 0 c') ∧ Below w.heap.size w w' from by
    cases A with
    | none => exact clone_none c w
    | some a => exact clone_some a c w hs)
  clear hs
  go_enter Try.func34, Try.ntmps34
  go_wp2_with fail
  refine HCl.out.mono ?_
  rintro e w1 ⟨A', c', rfl, hb⟩
  have HB := Lib.hid hb
  clear hb
  go_wp2_with fail
  refine (sortS_nil A' c' _ w1).mono ?_
  rintro e w2 ⟨rfl, rfl⟩
  go_wp2
  go_ret
  exact ⟨A', c', rfl, HB.out⟩

end Go.Proofs.Ytmhechlfpaciiaa
