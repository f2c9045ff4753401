/-
  hedgerowlaw18.LexBlanks answers true: the walk. Conditions: the world holds the library's tables (WOk).
-/
import Derived.Test.YtmmphgapginmjaaDoorLxLong
namespace Go.Proofs.YtmmphgapginmjaaDoor
open Go.RowKit

/-- What the texts of the tokens so far, with blanks ahead of each, are read as, ahead of a blank. -/
def WideIs (W : List UInt8) (D : List Lx.Tk) : Prop := ∀ y, Lx.toksL (W ++ 32 :: y) = (Lx.toksL y).map (D ++ ·)
theorem WideIs.start : WideIs [] [] := fun y => by
  rw [List.nil_append, Lx.toksL_skip]
  simp
theorem WideIs.next {W : List UInt8} {D : List Lx.Tk} (h : WideIs W D) {t : Lx.Tk} (ht : Lx.rightT t = true) (n : Nat) : WideIs (W ++ List.replicate (n + 1) 32 ++ Lx.speltL t) (D ++ [t]) := fun y => by
  have e : W ++ List.replicate (n + 1) 32 ++ Lx.speltL t ++ 32 :: y = W ++ 32 :: (List.replicate n 32 ++ (Lx.speltL t ++ 32 :: y)) := by
    rw [List.replicate_succ]; simp
  rw [e, h, Lx.toksL_skips, Lx.toksL_more (Lx.right_first ht), Option.map_map]
  congr 1
  funext q
  simp
theorem WideIs.done {W : List UInt8} {D : List Lx.Tk} (h : WideIs W D) : Lx.toksL (W ++ [32, 32]) = some D := by
  have := h [32]
  rw [show Lx.toksL [32] = some [] from rfl] at this
  rw [this]
  simp
theorem str_add (a b : List UInt8) : (ByteArray.mk a.toArray) ++ (ByteArray.mk b.toArray) = ⟨(a ++ b).toArray⟩ := by rw [ByteArray.mk_append_mk]
theorem add_strs (a b : List UInt8) (h : a.length + b.length ≤ 1000000) (w : World) : (binOp .add 9 (.string ⟨a.toArray⟩) (.string ⟨b.toArray⟩)).run Tryd.prog w = .ok (.string ⟨(a ++ b).toArray⟩) w := by
  have h1 : ¬ 9223372036854775807 < (ByteArray.mk a.toArray).size + (ByteArray.mk b.toArray).size := by rw [size_mk, size_mk]; omega
  have h2 := str_add a b
  generalize (ByteArray.mk a.toArray) = X at *
  generalize (ByteArray.mk b.toArray) = Y at *
  rw [← h2]
  clear h2 h
  go_simp
theorem gd_str (o : BinOp) (t : TypeId) (x y : Operand) (a b : ByteArray) (w : World) : (eqGuard o t x y (.string a) (.string b)).run Tryd.prog w = .ok () w := by
  unfold eqGuard
  cases o <;> rfl
theorem at_Byo (g o c n k : Nat) (h : k < n) (w : World) : (Instr.indexAt 23 (.slice (some ⟨g, o, none⟩) n c) (.int .i64 k)).run Tryd.prog w = .ok (.pointer (some ⟨g, o + k, none⟩)) w := by
  have h2 : (k : Int) < n := by omega
  go_simp

set_option maxRecDepth 100000 in
set_option maxHeartbeats 4000000 in
theorem blanks_walk (L : List Lx.Tk) (A : Option Addr) (N c : Nat) (bl : List UInt8) (A2 : Option Addr) (M c2 : Nat) (w : World) (hs : SlK encT 3 w (.slice A N c) L) (hN : L.length = N) (hN2 : N ≤ 4611686018427387903) (hb : Sl bv w (.slice A2 M c2) bl) (hM : bl.length = M) (hM2 : M ≤ 4611686018427387903) (hw : WOk w) :
    Calls Tryd.prog 4 #[.slice A N c, .slice A2 M c2] w (Gives w (.bool true)) := by
  have HS := Lib.hid hs
  have HN := Lib.hid (And.intro hN hN2)
  have HBy := Lib.hid hb
  have HM := Lib.hid (And.intro hM hM2)
  have HW := Lib.hid hw
  clear hs hN hN2 hb hM hM2 hw
  go_enter Tryd.func4, Tryd.ntmps4
  go_wp2_with fail
  refine (lfixed_any _ HW.out).mono ?_
  rintro e w1 ⟨rfl, hb1⟩
  have HB1 := Lib.hid hb1
  clear hb1
  by_cases h30 : 30 < N
  · have h30i : (30 : Int) < (N : Int) := by omega
    go_wp2_with fail
    go_ret
    exact ⟨rfl, HB1.out⟩
  have h30i : ¬ (30 : Int) < (N : Int) := by omega
  have HN30 := Lib.hid (show N ≤ 30 by omega)
  clear h30
  go_wp2_with fail
  clear h30i
  go_loopw [5, 20] (fun v5 v20 wr => ∃ (k : Nat) (Wd : List UInt8), v5 = .string ⟨Wd.toArray⟩ ∧ v20 = .int .i64 (k : Nat) ∧ k ≤ N ∧ Below w.heap.size w wr ∧ WideIs Wd (L.take k) ∧ Wd.length ≤ k * 200) (fun _ v20 _ => N - (intOf v20).toNat)
  case atStart => exact ⟨0, [], rfl, rfl, Nat.zero_le _, HB1.out, by rw [List.take_zero]; exact WideIs.start, by simp⟩
  case round =>
    obtain ⟨k, Wd, rfl, rfl, hk, hbr, hwi, hwl⟩ := hrel
    have HBr := Lib.hid hbr
    have HWi := Lib.hid hwi
    have HWl := Lib.hid (show Wd.length ≤ k * 200 ∧ k ≤ 30 from ⟨hwl, by have := HN30.out; omega⟩)
    clear hbr hwi hwl
    by_cases hlt : k < N
    · have hkl : k < L.length := by rw [HN.out.1]; exact hlt
      obtain ⟨t, ht⟩ : ∃ t, L[k]? = some t := ⟨L[k]'hkl, List.getElem?_eq_getElem hkl⟩
      have HT := Lib.hid ht
      obtain ⟨g, o, hA, hgl, hc⟩ := (HS.out.below HBr.out).tk ht
      have HAt := Lib.hid (show (Instr.indexAt 24 (.slice A N c) (.int .i64 ((k : Nat) : Int))).run Tryd.prog wr = .ok (.pointer (some ⟨g, o + k * 3, none⟩)) wr by rw [hA]; exact at_Tk g o c N k hlt wr)
      have HWr := Lib.hid (HW.out.below HBr.out)
      obtain ⟨ta, tb, tc⟩ := t
      have q0 := hc 0 _ rfl
      have q1 := hc 1 _ rfl
      have q2 := hc 2 _ rfl
      rw [Nat.add_zero] at q0
      obtain ⟨O, hO⟩ : ∃ O, o + k * 3 = O := ⟨_, rfl⟩
      rw [hO] at HAt q0 q1 q2
      obtain ⟨k1, hk1⟩ : ∃ k1, k + 1 = k1 := ⟨_, rfl⟩
      have HK := Lib.hid (And.intro hk1 hlt)
      have hkN : (k : Int) < (N : Int) := by omega
      have hsz : (ByteArray.mk tc.toArray).size = tc.length := size_mk tc
      clear ht hA hc hkl hO hk1 hk hlt hgl
      dsimp only at q0 q1 q2
      by_cases h60 : 60 < tc.length
      · have h60i : (60 : Int) < (tc.length : Int) := by omega
        clear h60
        go_wp2_with (first
          | (refine wpList_val (o := ⟨some 23, _, _, _, _, _⟩) rfl (.pointer (some ⟨g, O, none⟩)) wr (run_indexAddr_op rfl rfl rfl HAt.out) ?_)
          | fail)
        go_ret
        exact ⟨rfl, HBr.out.alloc HBr.out.size _⟩
      have h60i : ¬ (60 : Int) < (tc.length : Int) := by omega
      have HSl := Lib.hid (show (Lx.speltL (ta, tb, tc)).length ≤ 190 by have := spelt_len (ta, tb, tc); dsimp only at this; omega)
      have hsl := sl_oneT (ta, tb, tc) (wr.alloc (.cells #[.int .i64 ta, .int .i64 tb, .string ⟨tc.toArray⟩] 30))
      rw [show (wr.alloc (.cells #[.int .i64 ta, .int .i64 tb, .string ⟨tc.toArray⟩] 30)).heap.size = wr.heap.size + 1 by simp] at hsl
      unfold tkC at hsl
      dsimp only at hsl
      have HTx := Lib.hid (lalltext_any [(ta, tb, tc)] _ 1 1 _ hsl rfl (by omega) (fun u hu => by rw [List.mem_singleton.1 hu]; dsimp only; omega) ((HWr.out.alloc _).alloc _))
      clear h60 hsl
      cases hr : Lx.rightT (ta, tb, tc) with
      | false =>
        rw [show textV [(ta, tb, tc)] = .tuple #[.string ⟨#[]⟩, .bool false] by unfold textV; rw [if_neg (by simp [hr])]] at HTx
        clear hr
        go_wp2_with (first
          | (refine wpList_val (o := ⟨some 23, _, _, _, _, _⟩) rfl (.pointer (some ⟨g, O, none⟩)) wr (run_indexAddr_op rfl rfl rfl HAt.out) ?_)
          | fail)
        refine HTx.out.mono ?_
        rintro e w4 ⟨rfl, hb4⟩
        have HB4 := Lib.hid (HBr.out.trans ((alloc_then (alloc_then hb4)).mono HBr.out.size))
        clear hb4
        go_wp2_with fail
        go_ret
        exact ⟨rfl, HB4.out⟩
      | true =>
        have HRq := Lib.hid hr
        rw [show textV [(ta, tb, tc)] = .tuple #[.string ⟨(Lx.speltL (ta, tb, tc)).toArray⟩, .bool true] by unfold textV; rw [if_pos (by simp [hr]), List.map_cons, List.map_nil, Lib.join_one]] at HTx
        clear hr
        go_wp2_with (first
          | (refine wpList_val (o := ⟨some 23, _, _, _, _, _⟩) rfl (.pointer (some ⟨g, O, none⟩)) wr (run_indexAddr_op rfl rfl rfl HAt.out) ?_)
          | fail)
        refine HTx.out.mono ?_
        rintro e w5 ⟨rfl, hb5⟩
        have HB5 := Lib.hid (HBr.out.trans ((alloc_then (alloc_then hb5)).mono HBr.out.size))
        clear hb5 h60i hsz q0 q1 q2 hkN
        by_cases hM : k < M
        case pos =>
          as_aux_lemma =>
            obtain ⟨x, hx⟩ : ∃ x, bl[k]? = some x := ⟨bl[k]'(by rw [HM.out.1]; exact hM), List.getElem?_eq_getElem _⟩
            obtain ⟨Ab, cb, hv, _, hcb⟩ := HBy.out
            obtain ⟨b, ob, hAb, hbl, hcell⟩ := hcb (fun e => by rw [e] at hx; cases hx)
            have hxc := hcell k x hx
            have hAA : A2 = some ⟨b, ob, none⟩ := by injection hv with e1 e2 e3; rw [e1, hAb]
            obtain ⟨q, hq⟩ : ∃ q, x.toNat % 4 = q := ⟨_, rfl⟩
            obtain ⟨n, hn⟩ : ∃ n, 1 + q = n := ⟨_, rfl⟩
            have hn14 : 1 ≤ n ∧ n ≤ 4 := by omega
            have HQ := Lib.hid (show x.toNat % 4 = q ∧ 1 + q = n ∧ q ≤ 3 from ⟨hq, hn, by omega⟩)
            have hx5 : w5.cell? ⟨b, ob + k, none⟩ = some (.int .u8 (x.toNat : Int)) := (World.cell?_of_block (HB5.out.block b hbl)).trans hxc
            have HAb := Lib.hid (show (Instr.indexAt 23 (.slice A2 M c2) (.int .i64 ((k : Nat) : Int))).run Tryd.prog w5 = .ok (.pointer (some ⟨b, ob + k, none⟩)) w5 by rw [hAA]; exact at_Byo b ob c2 M k hM w5)
            obtain ⟨ok, hok⟩ : ∃ ok, ob + k = ok := ⟨_, rfl⟩
            rw [hok] at hx5 HAb
            have hx256 : x.toNat ≤ 255 := by have := UInt8.toNat_lt x; omega
            obtain ⟨xn, hxn⟩ : ∃ xn, x.toNat = xn := ⟨_, rfl⟩
            rw [hxn] at hx5 HQ hx256
            have HX := Lib.hid hx256
            have hMi : (k : Int) < (M : Int) := by omega
            clear hx hv hcb hcell hxc hAA hq hn hbl hAb hok hxn hx256 hM

            have HNn := Lib.hid (show 1 ≤ n ∧ n ≤ 4 from hn14)
            clear hn14
            go_wp2_with (first
              | (refine wpList_val (o := ⟨some 44, _, _, _, _, _⟩) rfl (.pointer (some ⟨b, ok, none⟩)) _ (run_indexAddr_op rfl rfl rfl HAb.out) ?_)
              | (refine wpList_val (o := ⟨some 46, _, _, _, _, _⟩) rfl (.int .u8 (q : Nat)) _ (run_bin_op rfl rfl rfl (guardIT _ _ _ _ _ _ _ _ _) (rem_u8 xn 4 q HQ.out.1 (by omega) (by omega) HX.out _)) ?_)
              | (refine wpList_val (o := ⟨some 47, _, _, _, _, _⟩) rfl (.int .i64 (q : Nat)) _ (run_convert_op rfl rfl (conv_u8 q (by have := HQ.out; omega) _)) ?_)
              | (refine wpList_val (o := ⟨some 48, _, _, _, _, _⟩) rfl (.int .i64 (n : Nat)) _ (run_bin_op rfl rfl rfl (guardIT _ _ _ _ _ _ _ _ _) (add_nat 1 q n HQ.out.2.1 (by have := HQ.out; omega) _)) ?_)
              | fail)
            clear hx5 hMi
            go_loopw [5, 50] (fun v5 v50 wq => ∃ j : Nat, v50 = .int .i64 (j : Nat) ∧ v5 = .string ⟨(Wd ++ List.replicate j 32).toArray⟩ ∧ j ≤ n ∧ wq = w5) (fun _ v50 _ => n - (intOf v50).toNat)
            case atStart => exact ⟨0, rfl, by simp, Nat.zero_le _, rfl⟩
            case round =>
              obtain ⟨j, rfl, rfl, hj, rfl⟩ := hrel
              by_cases hjn : j < n
              · obtain ⟨j1, hj1⟩ : ∃ j1, j + 1 = j1 := ⟨_, rfl⟩
                have HJ := Lib.hid (And.intro hj1 hjn)
                have hw1 : wrap64 ((j : Int) + 1) = (j1 : Int) := by have := HNn.out; rw [IntWalk.wrap64_in _ ⟨by omega, by omega⟩]; omega
                obtain ⟨X, hX⟩ : ∃ X : ByteArray, ⟨(Wd ++ List.replicate j 32).toArray⟩ = X := ⟨_, rfl⟩
                have hov : ¬ 9223372036854775807 < X.size + (ByteArray.mk #[32]).size := by rw [← hX, size_mk, List.length_append, List.length_replicate, show (ByteArray.mk #[32]).size = 1 from rfl]; have := HWl.out; have := HNn.out; omega
                have HX := Lib.hid (show X ++ (ByteArray.mk #[32]) = ⟨(Wd ++ List.replicate j1 32).toArray⟩ by rw [← hX, ← hj1]; refine (str_add _ [32]).trans ?_; rw [List.append_assoc, ← List.replicate_succ'])
                rw [hX]
                clear hX
                have hjj : (j : Int) < (n : Int) := by omega
                clear hj hj1 hjn
                go_wp2_with fail
                go_roundw
                case rel => exact ⟨j1, by first | rfl | rw [hw1] | exact congrArg (Value.int .i64) (by have := HJ.out; omega), congrArg Value.string HX.out, by have := HJ.out; omega, by first | trivial | rfl⟩
                case measure =>
                  have := HJ.out
                  (try rw [hw1])
                  show n - (intOf (.int .i64 _)).toNat < n - (intOf (.int .i64 _)).toNat
                  simp only [intOf, Int.toNat_natCast]
                  omega
              · have hjn2 : j = n := by omega
                have HJ1 := Lib.hid hjn2
                obtain ⟨X, hX⟩ : ∃ X : ByteArray, ⟨(Wd ++ List.replicate j 32).toArray⟩ = X := ⟨_, rfl⟩
                obtain ⟨Y, hY⟩ : ∃ Y : ByteArray, ⟨(Lx.speltL (ta, tb, tc)).toArray⟩ = Y := ⟨_, rfl⟩
                have hov : ¬ 9223372036854775807 < X.size + Y.size := by rw [← hX, ← hY, size_mk, size_mk, List.length_append, List.length_replicate]; have := HWl.out; have := HNn.out; have := HSl.out; have := HJ1.out; omega
                have HX := Lib.hid (show X ++ Y = ⟨(Wd ++ List.replicate j 32 ++ Lx.speltL (ta, tb, tc)).toArray⟩ by rw [← hX, ← hY]; exact str_add _ _)
                rw [hX, hY]
                clear hX hY
                have HNx := Lib.hid (show WideIs (Wd ++ List.replicate j 32 ++ Lx.speltL (ta, tb, tc)) (L.take k1) by
                  have h1 := HNn.out
                  have h2 := HJ1.out
                  obtain ⟨j0, hj0⟩ : ∃ j0, j = j0 + 1 := ⟨j - 1, by omega⟩
                  have := HWi.out.next HRq.out j0
                  rw [← hj0] at this
                  rwa [← HK.out.1, List.take_add_one, HT.out])
                have HLn := Lib.hid (show (Wd ++ List.replicate j 32 ++ Lx.speltL (ta, tb, tc)).length ≤ k1 * 200 by
                  have := HWl.out; have := HNn.out; have := HSl.out; have := HK.out; have := HJ1.out
                  rw [List.length_append, List.length_append, List.length_replicate]; omega)
                obtain ⟨Wn, hWn⟩ : ∃ Wn, Wd ++ List.replicate j 32 ++ Lx.speltL (ta, tb, tc) = Wn := ⟨_, rfl⟩
                rw [hWn] at HX HNx HLn
                have hjj : ¬ (j : Int) < (n : Int) := by omega
                have hwk : wrap64 ((k : Int) + 1) = (k1 : Int) := by have := HK.out; have := HN30.out; rw [IntWalk.wrap64_in _ ⟨by omega, by omega⟩]; omega
                clear hj hjn hjn2 hWn
                go_wp2_with fail
                go_roundw
                case rel => exact ⟨k1, Wn, congrArg Value.string HX.out, by first | rfl | rw [hwk] | exact congrArg (Value.int .i64) (by have := HK.out; omega), by have := HK.out; omega, HB5.out, HNx.out, HLn.out⟩
                case measure =>
                  have := HK.out
                  (try rw [hwk])
                  show N - (intOf (.int .i64 _)).toNat < N - (intOf (.int .i64 _)).toNat
                  simp only [intOf, Int.toNat_natCast]
                  omega
        case neg =>
          as_aux_lemma =>
            have hn14 : 1 ≤ 1 ∧ 1 ≤ 4 := by omega
            have hMi : ¬ (k : Int) < (M : Int) := by omega
            clear hM

            have HNn := Lib.hid (show 1 ≤ 1 ∧ 1 ≤ 4 from hn14)
            clear hn14
            go_wp2_with fail
            clear hMi
            go_loopw [5, 50] (fun v5 v50 wq => ∃ j : Nat, v50 = .int .i64 (j : Nat) ∧ v5 = .string ⟨(Wd ++ List.replicate j 32).toArray⟩ ∧ j ≤ 1 ∧ wq = w5) (fun _ v50 _ => 1 - (intOf v50).toNat)
            case atStart => exact ⟨0, rfl, by simp, Nat.zero_le _, rfl⟩
            case round =>
              obtain ⟨j, rfl, rfl, hj, rfl⟩ := hrel
              by_cases hjn : j < 1
              · obtain ⟨j1, hj1⟩ : ∃ j1, j + 1 = j1 := ⟨_, rfl⟩
                have HJ := Lib.hid (And.intro hj1 hjn)
                have hw1 : wrap64 ((j : Int) + 1) = (j1 : Int) := by have := HNn.out; rw [IntWalk.wrap64_in _ ⟨by omega, by omega⟩]; omega
                obtain ⟨X, hX⟩ : ∃ X : ByteArray, ⟨(Wd ++ List.replicate j 32).toArray⟩ = X := ⟨_, rfl⟩
                have hov : ¬ 9223372036854775807 < X.size + (ByteArray.mk #[32]).size := by rw [← hX, size_mk, List.length_append, List.length_replicate, show (ByteArray.mk #[32]).size = 1 from rfl]; have := HWl.out; have := HNn.out; omega
                have HX := Lib.hid (show X ++ (ByteArray.mk #[32]) = ⟨(Wd ++ List.replicate j1 32).toArray⟩ by rw [← hX, ← hj1]; refine (str_add _ [32]).trans ?_; rw [List.append_assoc, ← List.replicate_succ'])
                rw [hX]
                clear hX
                have hjj : (j : Int) < (1 : Int) := by omega
                clear hj hj1 hjn
                go_wp2_with fail
                go_roundw
                case rel => exact ⟨j1, by first | rfl | rw [hw1] | exact congrArg (Value.int .i64) (by have := HJ.out; omega), congrArg Value.string HX.out, by have := HJ.out; omega, by first | trivial | rfl⟩
                case measure =>
                  have := HJ.out
                  (try rw [hw1])
                  show 1 - (intOf (.int .i64 _)).toNat < 1 - (intOf (.int .i64 _)).toNat
                  simp only [intOf, Int.toNat_natCast]
                  omega
              · have hjn2 : j = 1 := by omega
                have HJ1 := Lib.hid hjn2
                obtain ⟨X, hX⟩ : ∃ X : ByteArray, ⟨(Wd ++ List.replicate j 32).toArray⟩ = X := ⟨_, rfl⟩
                obtain ⟨Y, hY⟩ : ∃ Y : ByteArray, ⟨(Lx.speltL (ta, tb, tc)).toArray⟩ = Y := ⟨_, rfl⟩
                have hov : ¬ 9223372036854775807 < X.size + Y.size := by rw [← hX, ← hY, size_mk, size_mk, List.length_append, List.length_replicate]; have := HWl.out; have := HNn.out; have := HSl.out; have := HJ1.out; omega
                have HX := Lib.hid (show X ++ Y = ⟨(Wd ++ List.replicate j 32 ++ Lx.speltL (ta, tb, tc)).toArray⟩ by rw [← hX, ← hY]; exact str_add _ _)
                rw [hX, hY]
                clear hX hY
                have HNx := Lib.hid (show WideIs (Wd ++ List.replicate j 32 ++ Lx.speltL (ta, tb, tc)) (L.take k1) by
                  have h1 := HNn.out
                  have h2 := HJ1.out
                  obtain ⟨j0, hj0⟩ : ∃ j0, j = j0 + 1 := ⟨j - 1, by omega⟩
                  have := HWi.out.next HRq.out j0
                  rw [← hj0] at this
                  rwa [← HK.out.1, List.take_add_one, HT.out])
                have HLn := Lib.hid (show (Wd ++ List.replicate j 32 ++ Lx.speltL (ta, tb, tc)).length ≤ k1 * 200 by
                  have := HWl.out; have := HNn.out; have := HSl.out; have := HK.out; have := HJ1.out
                  rw [List.length_append, List.length_append, List.length_replicate]; omega)
                obtain ⟨Wn, hWn⟩ : ∃ Wn, Wd ++ List.replicate j 32 ++ Lx.speltL (ta, tb, tc) = Wn := ⟨_, rfl⟩
                rw [hWn] at HX HNx HLn
                have hjj : ¬ (j : Int) < (1 : Int) := by omega
                have hwk : wrap64 ((k : Int) + 1) = (k1 : Int) := by have := HK.out; have := HN30.out; rw [IntWalk.wrap64_in _ ⟨by omega, by omega⟩]; omega
                clear hj hjn hjn2 hWn
                go_wp2_with fail
                go_roundw
                case rel => exact ⟨k1, Wn, congrArg Value.string HX.out, by first | rfl | rw [hwk] | exact congrArg (Value.int .i64) (by have := HK.out; omega), by have := HK.out; omega, HB5.out, HNx.out, HLn.out⟩
                case measure =>
                  have := HK.out
                  (try rw [hwk])
                  show N - (intOf (.int .i64 _)).toNat < N - (intOf (.int .i64 _)).toNat
                  simp only [intOf, Int.toNat_natCast]
                  omega
    · have hkN : k = N := by omega
      subst hkN
      have HWd := Lib.hid (show WideIs Wd L by have := HWi.out; rwa [List.take_of_length_le (by rw [HN.out.1]; exact Nat.le_refl _)] at this)
      have hsz : (ByteArray.mk Wd.toArray).size = Wd.length := size_mk Wd
      have hkk : ¬ (k : Int) < (k : Int) := by omega
      clear hlt hk
      by_cases h19 : 1900 < Wd.length
      · have h19i : (1900 : Int) < (Wd.length : Int) := by omega
        clear h19
        go_wp2_with fail
        go_ret
        exact ⟨rfl, HBr.out⟩
      · have h19i : ¬ (1900 : Int) < (Wd.length : Int) := by omega
        obtain ⟨X, hX⟩ : ∃ X : ByteArray, ⟨Wd.toArray⟩ = X := ⟨_, rfl⟩
        have hov : ¬ 9223372036854775807 < X.size + (ByteArray.mk #[32, 32]).size := by rw [← hX, size_mk, show (ByteArray.mk #[32, 32]).size = 2 from rfl]; omega
        have hXX : X ++ (ByteArray.mk #[32, 32]) = ⟨(Wd ++ [32, 32]).toArray⟩ := by rw [← hX]; exact str_add _ [32, 32]
        have HTo := Lib.hid (toks_is (Wd ++ [32, 32]) L HWd.out.done (by rw [List.length_append]; simp only [List.length_cons, List.length_nil]; omega) wr (HW.out.below HBr.out))
        rw [← hXX] at HTo
        rw [hX] at hsz ⊢
        clear h19 hX hXX
        go_wp2_with fail
        refine HTo.out.mono ?_
        rintro e w6 ⟨v, rfl, ho, hb6⟩
        obtain ⟨Al, cl, rfl⟩ := ownk_form ho
        have HB6 := Lib.hid (HBr.out.trans (hb6.mono HBr.out.size))
        have HS6 := Lib.hid (ho.read encT_len)
        rw [HN.out.1] at HS6 ⊢
        clear ho hb6 hkk h19i hsz
        go_wp2_with fail
        refine (same_any L A Al k c cl w6 (HS.out.below HB6.out) HS6.out HN.out.1 (by have := HN30.out; omega)).mono ?_
        rintro e w7 ⟨rfl, hb7⟩
        have HB7 := Lib.hid (HB6.out.trans (hb7.mono HB6.out.size))
        clear hb7
        go_wp2_with fail
        go_ret
        exact ⟨rfl, HB7.out⟩

end Go.Proofs.YtmmphgapginmjaaDoor
