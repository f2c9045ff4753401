/-
  expr.spellProp, spellValue, spell: the contracts, by walks, of any two functions that are told tokens and sides (written by genex12.py). Conditions: lengths.
-/
import Derived.Test.YtdabanocofimmaaGreatDoorExSpM
namespace Go.Proofs.YtdabanocofimmaaGreatDoor
open Go.RowKit
set_option linter.unusedVariables false

/-- What a call comes to that tells items. -/
def Tells (Inv : List Itm → World → Prop) (Safe : Nat → World → Prop) (l : List Itm) (w : World) (r : Ending) (w' : World) : Prop := r = .returned (.tuple #[]) ∧ Inv l w' ∧ Fram Safe w w'
set_option maxRecDepth 100000 in
set_option maxHeartbeats 3000000 in
theorem spellProp_s {Inv : List Itm → World → Prop} {Safe : Nat → World → Prop} {fT fS : FuncId} {cT cS : Array Value} {all : List Itm} {l0 : List Itm} {w : World} {k vk vn l r : Int} {S1 S2 S3 : ByteArray} (C : SpellC Inv Safe fT fS cT cS all) (hi : Inv l0 w) (hpre : (l0 ++ [.t (Ex.iT S2.data.toList), .t (Ex.sT [46]), .t (Ex.iT S3.data.toList)]) <+: all) :
    Calls Tryz.prog 49 #[.agg #[.int .i64 k, .int .i64 vk, .int .i64 vn, .string S1, .string S2, .string S3, .int .i64 l, .int .i64 r], .func (.func fT) #[] cT] w (Tells Inv Safe (l0 ++ [.t (Ex.iT S2.data.toList), .t (Ex.sT [46]), .t (Ex.iT S3.data.toList)]) w) := by
  obtain ⟨p, hp⟩ : ∃ p, w.heap.size = p := ⟨_, rfl⟩
  obtain ⟨X, hX⟩ : ∃ X, X = w.alloc (.cells #[.int .i64 k, .int .i64 vk, .int .i64 vn, .string S1, .string S2, .string S3, .int .i64 l, .int .i64 r] 49) := ⟨_, rfl⟩
  have hbX : Below w.heap.size w X := by rw [hX]; exact (Below.refl _ _).alloc (Nat.le_refl _) _
  have H0 := Lib.hid (SpSt.first C hi hbX (show Blk X p 49 #[.int .i64 k, .int .i64 vk, .int .i64 vn, .string S1, .string S2, .string S3, .int .i64 l, .int .i64 r] by rw [hX, ← hp]; exact Blk.new w _ _) (by omega))
  have HC := Lib.hid C
  have HX := Lib.hid hX
  have HP := Lib.hid hp
  have HEt := Lib.hid (fun (v : Value) (W : World) => (show (callFunc fT (#[v] ++ cT)).run Tryz.prog W = .ok (.enter fT (#[v] ++ cT)) W from C.entT _ W (by simp)))
  have HEs := Lib.hid (fun (v u : Value) (W : World) => (show (callFunc fS (#[v, u] ++ cS)).run Tryz.prog W = .ok (.enter fS (#[v, u] ++ cS)) W from C.entS _ W (by simp)))
  have HP1 := Lib.hid (pre1 hpre)
  have HP2 := Lib.hid (pre1 HP1.out.2)
  have HP3 := Lib.hid (pre1 HP2.out.2)
  clear hp hX hbX C hi hpre
  unfold Tells
  go_enter Tryz.func49, Tryz.ntmps49
  go_upto_region 1 with fail
  rw [← HX.out, HP.out]
  have c4 : X.cell? ⟨p, 4, none⟩ = some (.string S2) := (Blk.cell H0.out.blk 4).trans rfl
  go_wp2_with fail
  clear c4
  refine (tname_any S2 X).mono ?_
  rintro _ w1 ⟨rfl, hb⟩
  have H1 := Lib.hid (H0.out.keep HC.out hb)
  clear hb
  go_wp2_with fail
  rw [HEt.out, Oper.upon_enter]
  refine (HC.out.tok (Ex.iT S2.data.toList) H1.out.inv HP1.out.1).mono ?_
  rintro _ w2 ⟨rfl, hi, hf⟩
  have H2 := Lib.hid (H1.out.next hi hf)
  clear hi hf
  go_wp2_with fail
  refine (mk_dot w2).mono ?_
  rintro _ w3 ⟨rfl, hb⟩
  have H3 := Lib.hid (H2.out.keep HC.out hb)
  clear hb
  go_wp2_with fail
  rw [HEt.out, Oper.upon_enter]
  refine (HC.out.tok (Ex.sT [46]) H3.out.inv HP2.out.1).mono ?_
  rintro _ w4 ⟨rfl, hi, hf⟩
  have H4 := Lib.hid (H3.out.next hi hf)
  clear hi hf
  have c5 : w4.cell? ⟨p, 5, none⟩ = some (.string S3) := (Blk.cell H4.out.blk 5).trans rfl
  go_wp2_with fail
  clear c5
  refine (tname_any S3 w4).mono ?_
  rintro _ w5 ⟨rfl, hb⟩
  have H5 := Lib.hid (H4.out.keep HC.out hb)
  clear hb
  go_wp2_with fail
  rw [HEt.out, Oper.upon_enter]
  refine (HC.out.tok (Ex.iT S3.data.toList) H5.out.inv HP3.out.1).mono ?_
  rintro _ w6 ⟨rfl, hi, hf⟩
  have H6 := Lib.hid (H5.out.next hi hf)
  clear hi hf
  go_wp2_with fail
  have HF := Lib.hid (H6.out.as (show _ = l0 ++ [.t (Ex.iT S2.data.toList), .t (Ex.sT [46]), .t (Ex.iT S3.data.toList)] by simp))
  go_end0
  exact ⟨rfl, HF.out.inv, HF.out.fr⟩
set_option maxRecDepth 100000 in
set_option maxHeartbeats 3000000 in
theorem spellValue_node {Inv : List Itm → World → Prop} {Safe : Nat → World → Prop} {fT fS : FuncId} {cT cS : Array Value} {all : List Itm} {l0 : List Itm} {w : World} {k n : Int} {S : ByteArray} (hk : k = 4) (C : SpellC Inv Safe fT fS cT cS all) (hi : Inv l0 w) (hpre : (l0 ++ [.t (Ex.sT [64]), .t (Ex.iT S.data.toList)]) <+: all) :
    Calls Tryz.prog 47 #[.agg #[.int .i64 k, .int .i64 n, .string S], .func (.func fT) #[] cT] w (Tells Inv Safe (l0 ++ [.t (Ex.sT [64]), .t (Ex.iT S.data.toList)]) w) := by
  obtain ⟨p, hp⟩ : ∃ p, w.heap.size = p := ⟨_, rfl⟩
  obtain ⟨X, hX⟩ : ∃ X, X = w.alloc (.cells #[.int .i64 k, .int .i64 n, .string S] 47) := ⟨_, rfl⟩
  have hbX : Below w.heap.size w X := by rw [hX]; exact (Below.refl _ _).alloc (Nat.le_refl _) _
  have H0 := Lib.hid (SpSt.first C hi hbX (show Blk X p 47 #[.int .i64 k, .int .i64 n, .string S] by rw [hX, ← hp]; exact Blk.new w _ _) (by omega))
  have HC := Lib.hid C
  have HX := Lib.hid hX
  have HP := Lib.hid hp
  have HEt := Lib.hid (fun (v : Value) (W : World) => (show (callFunc fT (#[v] ++ cT)).run Tryz.prog W = .ok (.enter fT (#[v] ++ cT)) W from C.entT _ W (by simp)))
  have HEs := Lib.hid (fun (v u : Value) (W : World) => (show (callFunc fS (#[v, u] ++ cS)).run Tryz.prog W = .ok (.enter fS (#[v, u] ++ cS)) W from C.entS _ W (by simp)))
  have HP1 := Lib.hid (pre1 hpre)
  have HP2 := Lib.hid (pre1 HP1.out.2)
  clear hp hX hbX C hi hpre
  unfold Tells
  subst hk
  go_enter Tryz.func47, Tryz.ntmps47
  go_upto_region 2 with fail
  rw [← HX.out, HP.out]
  have c0 : X.cell? ⟨p, 0, none⟩ = some (.int .i64 _) := (Blk.cell H0.out.blk 0).trans rfl
  have c1 : X.cell? ⟨p, 1, none⟩ = some (.int .i64 _) := (Blk.cell H0.out.blk 1).trans rfl
  have c2 : X.cell? ⟨p, 2, none⟩ = some (.string S) := (Blk.cell H0.out.blk 2).trans rfl
  go_wp2_with fail
  clear c0 c1 c2
  refine (mk_at X).mono ?_
  rintro _ w1 ⟨rfl, hb⟩
  have H1 := Lib.hid (H0.out.keep HC.out hb)
  clear hb
  have c0 : w1.cell? ⟨p, 0, none⟩ = some (.int .i64 _) := (Blk.cell H1.out.blk 0).trans rfl
  have c1 : w1.cell? ⟨p, 1, none⟩ = some (.int .i64 _) := (Blk.cell H1.out.blk 1).trans rfl
  have c2 : w1.cell? ⟨p, 2, none⟩ = some (.string S) := (Blk.cell H1.out.blk 2).trans rfl
  go_wp2_with fail
  clear c0 c1 c2
  rw [HEt.out, Oper.upon_enter]
  refine (HC.out.tok (Ex.sT [64]) H1.out.inv HP1.out.1).mono ?_
  rintro _ w2 ⟨rfl, hi, hf⟩
  have H2 := Lib.hid (H1.out.next hi hf)
  clear hi hf
  have c0 : w2.cell? ⟨p, 0, none⟩ = some (.int .i64 _) := (Blk.cell H2.out.blk 0).trans rfl
  have c1 : w2.cell? ⟨p, 1, none⟩ = some (.int .i64 _) := (Blk.cell H2.out.blk 1).trans rfl
  have c2 : w2.cell? ⟨p, 2, none⟩ = some (.string S) := (Blk.cell H2.out.blk 2).trans rfl
  go_wp2_with fail
  clear c0 c1 c2
  refine (tname_any S w2).mono ?_
  rintro _ w3 ⟨rfl, hb⟩
  have H3 := Lib.hid (H2.out.keep HC.out hb)
  clear hb
  go_wp2_with fail
  rw [HEt.out, Oper.upon_enter]
  refine (HC.out.tok (Ex.iT S.data.toList) H3.out.inv HP2.out.1).mono ?_
  rintro _ w4 ⟨rfl, hi, hf⟩
  have H4 := Lib.hid (H3.out.next hi hf)
  clear hi hf
  go_wp2_with fail
  have HF := Lib.hid (H4.out.as (show _ = l0 ++ [.t (Ex.sT [64]), .t (Ex.iT S.data.toList)] by simp))
  go_end0
  exact ⟨rfl, HF.out.inv, HF.out.fr⟩
set_option maxRecDepth 100000 in
set_option maxHeartbeats 3000000 in
theorem spellValue_text {Inv : List Itm → World → Prop} {Safe : Nat → World → Prop} {fT fS : FuncId} {cT cS : Array Value} {all : List Itm} {l0 : List Itm} {w : World} {k n : Int} {S : ByteArray} (hk : k = 3) (C : SpellC Inv Safe fT fS cT cS all) (hi : Inv l0 w) (hpre : (l0 ++ [.t ((4, 0, S.data.toList))]) <+: all) :
    Calls Tryz.prog 47 #[.agg #[.int .i64 k, .int .i64 n, .string S], .func (.func fT) #[] cT] w (Tells Inv Safe (l0 ++ [.t ((4, 0, S.data.toList))]) w) := by
  obtain ⟨p, hp⟩ : ∃ p, w.heap.size = p := ⟨_, rfl⟩
  obtain ⟨X, hX⟩ : ∃ X, X = w.alloc (.cells #[.int .i64 k, .int .i64 n, .string S] 47) := ⟨_, rfl⟩
  have hbX : Below w.heap.size w X := by rw [hX]; exact (Below.refl _ _).alloc (Nat.le_refl _) _
  have H0 := Lib.hid (SpSt.first C hi hbX (show Blk X p 47 #[.int .i64 k, .int .i64 n, .string S] by rw [hX, ← hp]; exact Blk.new w _ _) (by omega))
  have HC := Lib.hid C
  have HX := Lib.hid hX
  have HP := Lib.hid hp
  have HEt := Lib.hid (fun (v : Value) (W : World) => (show (callFunc fT (#[v] ++ cT)).run Tryz.prog W = .ok (.enter fT (#[v] ++ cT)) W from C.entT _ W (by simp)))
  have HEs := Lib.hid (fun (v u : Value) (W : World) => (show (callFunc fS (#[v, u] ++ cS)).run Tryz.prog W = .ok (.enter fS (#[v, u] ++ cS)) W from C.entS _ W (by simp)))
  have HP1 := Lib.hid (pre1 hpre)
  clear hp hX hbX C hi hpre
  unfold Tells
  subst hk
  go_enter Tryz.func47, Tryz.ntmps47
  go_upto_region 2 with fail
  rw [← HX.out, HP.out]
  have c0 : X.cell? ⟨p, 0, none⟩ = some (.int .i64 _) := (Blk.cell H0.out.blk 0).trans rfl
  have c1 : X.cell? ⟨p, 1, none⟩ = some (.int .i64 _) := (Blk.cell H0.out.blk 1).trans rfl
  have c2 : X.cell? ⟨p, 2, none⟩ = some (.string S) := (Blk.cell H0.out.blk 2).trans rfl
  go_wp2_with (first
    | (refine wpList_build (o := ⟨some 26, _, _, _, _, _⟩) rfl _ _ rfl rfl ?_)
    | fail)
  clear c0 c1 c2
  rw [HEt.out, Oper.upon_enter]
  refine (HC.out.tok ((4, 0, S.data.toList)) H0.out.inv HP1.out.1).mono ?_
  rintro _ w1 ⟨rfl, hi, hf⟩
  have H1 := Lib.hid (H0.out.next hi hf)
  clear hi hf
  go_wp2_with fail
  have HF := Lib.hid (H1.out.as (show _ = l0 ++ [.t ((4, 0, S.data.toList))] by simp))
  go_end0
  exact ⟨rfl, HF.out.inv, HF.out.fr⟩
set_option maxRecDepth 100000 in
set_option maxHeartbeats 3000000 in
theorem spellValue_neg {Inv : List Itm → World → Prop} {Safe : Nat → World → Prop} {fT fS : FuncId} {cT cS : Array Value} {all : List Itm} {l0 : List Itm} {w : World} {k n : Int} {S : ByteArray} (hk : k = 2) (hn : n < 0) (hb : -1099511627776 ≤ n) (C : SpellC Inv Safe fT fS cT cS all) (hi : Inv l0 w) (hpre : (l0 ++ [.t (Ex.sT [45]), .t ((3, -n, []))]) <+: all) :
    Calls Tryz.prog 47 #[.agg #[.int .i64 k, .int .i64 n, .string S], .func (.func fT) #[] cT] w (Tells Inv Safe (l0 ++ [.t (Ex.sT [45]), .t ((3, -n, []))]) w) := by
  obtain ⟨p, hp⟩ : ∃ p, w.heap.size = p := ⟨_, rfl⟩
  obtain ⟨X, hX⟩ : ∃ X, X = w.alloc (.cells #[.int .i64 k, .int .i64 n, .string S] 47) := ⟨_, rfl⟩
  have hbX : Below w.heap.size w X := by rw [hX]; exact (Below.refl _ _).alloc (Nat.le_refl _) _
  have H0 := Lib.hid (SpSt.first C hi hbX (show Blk X p 47 #[.int .i64 k, .int .i64 n, .string S] by rw [hX, ← hp]; exact Blk.new w _ _) (by omega))
  have HC := Lib.hid C
  have HX := Lib.hid hX
  have HP := Lib.hid hp
  have HEt := Lib.hid (fun (v : Value) (W : World) => (show (callFunc fT (#[v] ++ cT)).run Tryz.prog W = .ok (.enter fT (#[v] ++ cT)) W from C.entT _ W (by simp)))
  have HEs := Lib.hid (fun (v u : Value) (W : World) => (show (callFunc fS (#[v, u] ++ cS)).run Tryz.prog W = .ok (.enter fS (#[v, u] ++ cS)) W from C.entS _ W (by simp)))
  have HP1 := Lib.hid (pre1 hpre)
  have HP2 := Lib.hid (pre1 HP1.out.2)
  clear hp hX hbX C hi hpre
  unfold Tells
  subst hk
  have hs := IntWalk.i64_in (-n) (by omega)
  go_enter Tryz.func47, Tryz.ntmps47
  go_upto_region 2 with fail
  rw [← HX.out, HP.out]
  have c0 : X.cell? ⟨p, 0, none⟩ = some (.int .i64 _) := (Blk.cell H0.out.blk 0).trans rfl
  have c1 : X.cell? ⟨p, 1, none⟩ = some (.int .i64 _) := (Blk.cell H0.out.blk 1).trans rfl
  have c2 : X.cell? ⟨p, 2, none⟩ = some (.string S) := (Blk.cell H0.out.blk 2).trans rfl
  go_wp2_with fail
  clear c0 c1 c2
  refine (mk_dash X).mono ?_
  rintro _ w1 ⟨rfl, hb⟩
  have H1 := Lib.hid (H0.out.keep HC.out hb)
  clear hb
  have c0 : w1.cell? ⟨p, 0, none⟩ = some (.int .i64 _) := (Blk.cell H1.out.blk 0).trans rfl
  have c1 : w1.cell? ⟨p, 1, none⟩ = some (.int .i64 _) := (Blk.cell H1.out.blk 1).trans rfl
  have c2 : w1.cell? ⟨p, 2, none⟩ = some (.string S) := (Blk.cell H1.out.blk 2).trans rfl
  go_wp2_with fail
  clear c0 c1 c2
  rw [HEt.out, Oper.upon_enter]
  refine (HC.out.tok (Ex.sT [45]) H1.out.inv HP1.out.1).mono ?_
  rintro _ w2 ⟨rfl, hi, hf⟩
  have H2 := Lib.hid (H1.out.next hi hf)
  clear hi hf
  have c0 : w2.cell? ⟨p, 0, none⟩ = some (.int .i64 _) := (Blk.cell H2.out.blk 0).trans rfl
  have c1 : w2.cell? ⟨p, 1, none⟩ = some (.int .i64 _) := (Blk.cell H2.out.blk 1).trans rfl
  have c2 : w2.cell? ⟨p, 2, none⟩ = some (.string S) := (Blk.cell H2.out.blk 2).trans rfl
  go_wp2_with (first
    | (refine wpList_build (o := ⟨some 44, _, _, _, _, _⟩) rfl _ _ rfl rfl ?_)
    | fail)
  clear c0 c1 c2
  rw [HEt.out, Oper.upon_enter]
  refine (HC.out.tok ((3, -n, [])) H2.out.inv HP2.out.1).mono ?_
  rintro _ w3 ⟨rfl, hi, hf⟩
  have H3 := Lib.hid (H2.out.next hi hf)
  clear hi hf
  go_wp2_with fail
  have HF := Lib.hid (H3.out.as (show _ = l0 ++ [.t (Ex.sT [45]), .t ((3, -n, []))] by simp))
  go_end0
  exact ⟨rfl, HF.out.inv, HF.out.fr⟩
set_option maxRecDepth 100000 in
set_option maxHeartbeats 3000000 in
theorem spellValue_num {Inv : List Itm → World → Prop} {Safe : Nat → World → Prop} {fT fS : FuncId} {cT cS : Array Value} {all : List Itm} {l0 : List Itm} {w : World} {k n : Int} {S : ByteArray} (hk : k = 2) (hn : ¬ n < 0) (C : SpellC Inv Safe fT fS cT cS all) (hi : Inv l0 w) (hpre : (l0 ++ [.t ((3, n, []))]) <+: all) :
    Calls Tryz.prog 47 #[.agg #[.int .i64 k, .int .i64 n, .string S], .func (.func fT) #[] cT] w (Tells Inv Safe (l0 ++ [.t ((3, n, []))]) w) := by
  obtain ⟨p, hp⟩ : ∃ p, w.heap.size = p := ⟨_, rfl⟩
  obtain ⟨X, hX⟩ : ∃ X, X = w.alloc (.cells #[.int .i64 k, .int .i64 n, .string S] 47) := ⟨_, rfl⟩
  have hbX : Below w.heap.size w X := by rw [hX]; exact (Below.refl _ _).alloc (Nat.le_refl _) _
  have H0 := Lib.hid (SpSt.first C hi hbX (show Blk X p 47 #[.int .i64 k, .int .i64 n, .string S] by rw [hX, ← hp]; exact Blk.new w _ _) (by omega))
  have HC := Lib.hid C
  have HX := Lib.hid hX
  have HP := Lib.hid hp
  have HEt := Lib.hid (fun (v : Value) (W : World) => (show (callFunc fT (#[v] ++ cT)).run Tryz.prog W = .ok (.enter fT (#[v] ++ cT)) W from C.entT _ W (by simp)))
  have HEs := Lib.hid (fun (v u : Value) (W : World) => (show (callFunc fS (#[v, u] ++ cS)).run Tryz.prog W = .ok (.enter fS (#[v, u] ++ cS)) W from C.entS _ W (by simp)))
  have HP1 := Lib.hid (pre1 hpre)
  clear hp hX hbX C hi hpre
  unfold Tells
  subst hk
  go_enter Tryz.func47, Tryz.ntmps47
  go_upto_region 2 with fail
  rw [← HX.out, HP.out]
  have c0 : X.cell? ⟨p, 0, none⟩ = some (.int .i64 _) := (Blk.cell H0.out.blk 0).trans rfl
  have c1 : X.cell? ⟨p, 1, none⟩ = some (.int .i64 _) := (Blk.cell H0.out.blk 1).trans rfl
  have c2 : X.cell? ⟨p, 2, none⟩ = some (.string S) := (Blk.cell H0.out.blk 2).trans rfl
  go_wp2_with (first
    | (refine wpList_build (o := ⟨some 53, _, _, _, _, _⟩) rfl _ _ rfl rfl ?_)
    | fail)
  clear c0 c1 c2
  rw [HEt.out, Oper.upon_enter]
  refine (HC.out.tok ((3, n, [])) H0.out.inv HP1.out.1).mono ?_
  rintro _ w1 ⟨rfl, hi, hf⟩
  have H1 := Lib.hid (H0.out.next hi hf)
  clear hi hf
  go_wp2_with fail
  have HF := Lib.hid (H1.out.as (show _ = l0 ++ [.t ((3, n, []))] by simp))
  go_end0
  exact ⟨rfl, HF.out.inv, HF.out.fr⟩
set_option maxRecDepth 100000 in
set_option maxHeartbeats 3000000 in
theorem spellValue_true {Inv : List Itm → World → Prop} {Safe : Nat → World → Prop} {fT fS : FuncId} {cT cS : Array Value} {all : List Itm} {l0 : List Itm} {w : World} {k n : Int} {S : ByteArray} (hk : k = 1) (hn : n = 1) (C : SpellC Inv Safe fT fS cT cS all) (hi : Inv l0 w) (hpre : (l0 ++ [.t (Ex.wT Ex.kTRUE)]) <+: all) :
    Calls Tryz.prog 47 #[.agg #[.int .i64 k, .int .i64 n, .string S], .func (.func fT) #[] cT] w (Tells Inv Safe (l0 ++ [.t (Ex.wT Ex.kTRUE)]) w) := by
  obtain ⟨p, hp⟩ : ∃ p, w.heap.size = p := ⟨_, rfl⟩
  obtain ⟨X, hX⟩ : ∃ X, X = w.alloc (.cells #[.int .i64 k, .int .i64 n, .string S] 47) := ⟨_, rfl⟩
  have hbX : Below w.heap.size w X := by rw [hX]; exact (Below.refl _ _).alloc (Nat.le_refl _) _
  have H0 := Lib.hid (SpSt.first C hi hbX (show Blk X p 47 #[.int .i64 k, .int .i64 n, .string S] by rw [hX, ← hp]; exact Blk.new w _ _) (by omega))
  have HC := Lib.hid C
  have HX := Lib.hid hX
  have HP := Lib.hid hp
  have HEt := Lib.hid (fun (v : Value) (W : World) => (show (callFunc fT (#[v] ++ cT)).run Tryz.prog W = .ok (.enter fT (#[v] ++ cT)) W from C.entT _ W (by simp)))
  have HEs := Lib.hid (fun (v u : Value) (W : World) => (show (callFunc fS (#[v, u] ++ cS)).run Tryz.prog W = .ok (.enter fS (#[v, u] ++ cS)) W from C.entS _ W (by simp)))
  have HP1 := Lib.hid (pre1 hpre)
  clear hp hX hbX C hi hpre
  unfold Tells
  subst hk hn
  go_enter Tryz.func47, Tryz.ntmps47
  go_upto_region 2 with fail
  rw [← HX.out, HP.out]
  have c0 : X.cell? ⟨p, 0, none⟩ = some (.int .i64 _) := (Blk.cell H0.out.blk 0).trans rfl
  have c1 : X.cell? ⟨p, 1, none⟩ = some (.int .i64 _) := (Blk.cell H0.out.blk 1).trans rfl
  have c2 : X.cell? ⟨p, 2, none⟩ = some (.string S) := (Blk.cell H0.out.blk 2).trans rfl
  go_wp2_with fail
  clear c0 c1 c2
  refine (mk_true X).mono ?_
  rintro _ w1 ⟨rfl, hb⟩
  have H1 := Lib.hid (H0.out.keep HC.out hb)
  clear hb
  have c0 : w1.cell? ⟨p, 0, none⟩ = some (.int .i64 _) := (Blk.cell H1.out.blk 0).trans rfl
  have c1 : w1.cell? ⟨p, 1, none⟩ = some (.int .i64 _) := (Blk.cell H1.out.blk 1).trans rfl
  have c2 : w1.cell? ⟨p, 2, none⟩ = some (.string S) := (Blk.cell H1.out.blk 2).trans rfl
  go_wp2_with fail
  clear c0 c1 c2
  rw [HEt.out, Oper.upon_enter]
  refine (HC.out.tok (Ex.wT Ex.kTRUE) H1.out.inv HP1.out.1).mono ?_
  rintro _ w2 ⟨rfl, hi, hf⟩
  have H2 := Lib.hid (H1.out.next hi hf)
  clear hi hf
  go_wp2_with fail
  have HF := Lib.hid (H2.out.as (show _ = l0 ++ [.t (Ex.wT Ex.kTRUE)] by simp))
  go_end0
  exact ⟨rfl, HF.out.inv, HF.out.fr⟩
set_option maxRecDepth 100000 in
set_option maxHeartbeats 3000000 in
theorem spellValue_false {Inv : List Itm → World → Prop} {Safe : Nat → World → Prop} {fT fS : FuncId} {cT cS : Array Value} {all : List Itm} {l0 : List Itm} {w : World} {k n : Int} {S : ByteArray} (hk : k = 1) (hn : n ≠ 1) (C : SpellC Inv Safe fT fS cT cS all) (hi : Inv l0 w) (hpre : (l0 ++ [.t (Ex.wT Ex.kFALSE)]) <+: all) :
    Calls Tryz.prog 47 #[.agg #[.int .i64 k, .int .i64 n, .string S], .func (.func fT) #[] cT] w (Tells Inv Safe (l0 ++ [.t (Ex.wT Ex.kFALSE)]) w) := by
  obtain ⟨p, hp⟩ : ∃ p, w.heap.size = p := ⟨_, rfl⟩
  obtain ⟨X, hX⟩ : ∃ X, X = w.alloc (.cells #[.int .i64 k, .int .i64 n, .string S] 47) := ⟨_, rfl⟩
  have hbX : Below w.heap.size w X := by rw [hX]; exact (Below.refl _ _).alloc (Nat.le_refl _) _
  have H0 := Lib.hid (SpSt.first C hi hbX (show Blk X p 47 #[.int .i64 k, .int .i64 n, .string S] by rw [hX, ← hp]; exact Blk.new w _ _) (by omega))
  have HC := Lib.hid C
  have HX := Lib.hid hX
  have HP := Lib.hid hp
  have HEt := Lib.hid (fun (v : Value) (W : World) => (show (callFunc fT (#[v] ++ cT)).run Tryz.prog W = .ok (.enter fT (#[v] ++ cT)) W from C.entT _ W (by simp)))
  have HEs := Lib.hid (fun (v u : Value) (W : World) => (show (callFunc fS (#[v, u] ++ cS)).run Tryz.prog W = .ok (.enter fS (#[v, u] ++ cS)) W from C.entS _ W (by simp)))
  have HP1 := Lib.hid (pre1 hpre)
  clear hp hX hbX C hi hpre
  unfold Tells
  subst hk
  have hn1 : (n == 1) = false := by rw [beq_eq_false_iff_ne]; exact hn
  clear hn
  go_enter Tryz.func47, Tryz.ntmps47
  go_upto_region 2 with fail
  rw [← HX.out, HP.out]
  have c0 : X.cell? ⟨p, 0, none⟩ = some (.int .i64 _) := (Blk.cell H0.out.blk 0).trans rfl
  have c1 : X.cell? ⟨p, 1, none⟩ = some (.int .i64 _) := (Blk.cell H0.out.blk 1).trans rfl
  have c2 : X.cell? ⟨p, 2, none⟩ = some (.string S) := (Blk.cell H0.out.blk 2).trans rfl
  go_wp2_with fail
  clear c0 c1 c2
  refine (mk_false X).mono ?_
  rintro _ w1 ⟨rfl, hb⟩
  have H1 := Lib.hid (H0.out.keep HC.out hb)
  clear hb
  have c0 : w1.cell? ⟨p, 0, none⟩ = some (.int .i64 _) := (Blk.cell H1.out.blk 0).trans rfl
  have c1 : w1.cell? ⟨p, 1, none⟩ = some (.int .i64 _) := (Blk.cell H1.out.blk 1).trans rfl
  have c2 : w1.cell? ⟨p, 2, none⟩ = some (.string S) := (Blk.cell H1.out.blk 2).trans rfl
  go_wp2_with fail
  clear c0 c1 c2
  rw [HEt.out, Oper.upon_enter]
  refine (HC.out.tok (Ex.wT Ex.kFALSE) H1.out.inv HP1.out.1).mono ?_
  rintro _ w2 ⟨rfl, hi, hf⟩
  have H2 := Lib.hid (H1.out.next hi hf)
  clear hi hf
  go_wp2_with fail
  have HF := Lib.hid (H2.out.as (show _ = l0 ++ [.t (Ex.wT Ex.kFALSE)] by simp))
  go_end0
  exact ⟨rfl, HF.out.inv, HF.out.fr⟩
set_option maxRecDepth 100000 in
set_option maxHeartbeats 3000000 in
theorem spellValue_null {Inv : List Itm → World → Prop} {Safe : Nat → World → Prop} {fT fS : FuncId} {cT cS : Array Value} {all : List Itm} {l0 : List Itm} {w : World} {k n : Int} {S : ByteArray} (h4 : k ≠ 4) (h3 : k ≠ 3) (h2 : k ≠ 2) (h1 : k ≠ 1) (C : SpellC Inv Safe fT fS cT cS all) (hi : Inv l0 w) (hpre : (l0 ++ [.t (Ex.wT Ex.kNULL)]) <+: all) :
    Calls Tryz.prog 47 #[.agg #[.int .i64 k, .int .i64 n, .string S], .func (.func fT) #[] cT] w (Tells Inv Safe (l0 ++ [.t (Ex.wT Ex.kNULL)]) w) := by
  obtain ⟨p, hp⟩ : ∃ p, w.heap.size = p := ⟨_, rfl⟩
  obtain ⟨X, hX⟩ : ∃ X, X = w.alloc (.cells #[.int .i64 k, .int .i64 n, .string S] 47) := ⟨_, rfl⟩
  have hbX : Below w.heap.size w X := by rw [hX]; exact (Below.refl _ _).alloc (Nat.le_refl _) _
  have H0 := Lib.hid (SpSt.first C hi hbX (show Blk X p 47 #[.int .i64 k, .int .i64 n, .string S] by rw [hX, ← hp]; exact Blk.new w _ _) (by omega))
  have HC := Lib.hid C
  have HX := Lib.hid hX
  have HP := Lib.hid hp
  have HEt := Lib.hid (fun (v : Value) (W : World) => (show (callFunc fT (#[v] ++ cT)).run Tryz.prog W = .ok (.enter fT (#[v] ++ cT)) W from C.entT _ W (by simp)))
  have HEs := Lib.hid (fun (v u : Value) (W : World) => (show (callFunc fS (#[v, u] ++ cS)).run Tryz.prog W = .ok (.enter fS (#[v, u] ++ cS)) W from C.entS _ W (by simp)))
  have HP1 := Lib.hid (pre1 hpre)
  clear hp hX hbX C hi hpre
  unfold Tells
  have g4 : (k == 4) = false := by rw [beq_eq_false_iff_ne]; exact h4
  have g3 : (k == 3) = false := by rw [beq_eq_false_iff_ne]; exact h3
  have g2 : (k == 2) = false := by rw [beq_eq_false_iff_ne]; exact h2
  have g1 : (k == 1) = false := by rw [beq_eq_false_iff_ne]; exact h1
  clear h4 h3 h2 h1
  go_enter Tryz.func47, Tryz.ntmps47
  go_upto_region 2 with fail
  rw [← HX.out, HP.out]
  have c0 : X.cell? ⟨p, 0, none⟩ = some (.int .i64 _) := (Blk.cell H0.out.blk 0).trans rfl
  have c1 : X.cell? ⟨p, 1, none⟩ = some (.int .i64 _) := (Blk.cell H0.out.blk 1).trans rfl
  have c2 : X.cell? ⟨p, 2, none⟩ = some (.string S) := (Blk.cell H0.out.blk 2).trans rfl
  go_wp2_with fail
  clear c0 c1 c2
  refine (mk_null X).mono ?_
  rintro _ w1 ⟨rfl, hb⟩
  have H1 := Lib.hid (H0.out.keep HC.out hb)
  clear hb
  have c0 : w1.cell? ⟨p, 0, none⟩ = some (.int .i64 _) := (Blk.cell H1.out.blk 0).trans rfl
  have c1 : w1.cell? ⟨p, 1, none⟩ = some (.int .i64 _) := (Blk.cell H1.out.blk 1).trans rfl
  have c2 : w1.cell? ⟨p, 2, none⟩ = some (.string S) := (Blk.cell H1.out.blk 2).trans rfl
  go_wp2_with fail
  clear c0 c1 c2
  rw [HEt.out, Oper.upon_enter]
  refine (HC.out.tok (Ex.wT Ex.kNULL) H1.out.inv HP1.out.1).mono ?_
  rintro _ w2 ⟨rfl, hi, hf⟩
  have H2 := Lib.hid (H1.out.next hi hf)
  clear hi hf
  go_wp2_with fail
  have HF := Lib.hid (H2.out.as (show _ = l0 ++ [.t (Ex.wT Ex.kNULL)] by simp))
  go_end0
  exact ⟨rfl, HF.out.inv, HF.out.fr⟩
theorem spellValue_any {Inv : List Itm → World → Prop} {Safe : Nat → World → Prop} {fT fS : FuncId} {cT cS : Array Value} {all : List Itm} {l0 : List Itm} {w : World} {k n : Int} {S : ByteArray} (C : SpellC Inv Safe fT fS cT cS all) (hi : Inv l0 w) (hb : -1099511627776 ≤ n) (hpre : (l0 ++ valI k n S.data.toList) <+: all) :
    Calls Tryz.prog 47 #[.agg #[.int .i64 k, .int .i64 n, .string S], .func (.func fT) #[] cT] w (Tells Inv Safe (l0 ++ valI k n S.data.toList) w) := by
  unfold valI at hpre ⊢
  by_cases h4 : k = 4
  · rw [if_pos h4] at hpre ⊢; exact spellValue_node h4 C hi hpre
  rw [if_neg h4] at hpre ⊢
  by_cases h3 : k = 3
  · rw [if_pos h3] at hpre ⊢; exact spellValue_text h3 C hi hpre
  rw [if_neg h3] at hpre ⊢
  by_cases h2 : k = 2
  · rw [if_pos h2] at hpre ⊢
    by_cases hn : n < 0
    · rw [if_pos hn] at hpre ⊢; exact spellValue_neg h2 hn hb C hi hpre
    · rw [if_neg hn] at hpre ⊢; exact spellValue_num h2 hn C hi hpre
  rw [if_neg h2] at hpre ⊢
  by_cases h1 : k = 1
  · rw [if_pos h1] at hpre ⊢
    by_cases hn : n = 1
    · rw [if_pos hn] at hpre ⊢; exact spellValue_true h1 hn C hi hpre
    · rw [if_neg hn] at hpre ⊢; exact spellValue_false h1 hn C hi hpre
  rw [if_neg h1] at hpre ⊢
  exact spellValue_null h4 h3 h2 h1 C hi hpre

end Go.Proofs.YtdabanocofimmaaGreatDoor
