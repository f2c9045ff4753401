/-
  expr.spell: the contract, by walks, of any two functions that are told tokens and sides (written by genex13.py). Conditions: lengths.
-/
import Derived.Test.YtdabanocofimmaaGreatDoorExSpl
namespace Go.Proofs.YtdabanocofimmaaGreatDoor
open Go.RowKit
set_option linter.unusedVariables false
theorem at_expr4 (g : Nat) (w : World) : (Instr.fieldAt 49 (.pointer (some ⟨g, 0, none⟩)) 4).run Tryz.prog w = .ok (.pointer (some ⟨g, 6, none⟩)) w := by go_simp
theorem preP {l a r all : List Itm} (h : (l ++ (a ++ r)) <+: all) : (l ++ a) <+: all ∧ ((l ++ a) ++ r) <+: all := by
  obtain ⟨t, ht⟩ := h
  exact ⟨⟨r ++ t, by rw [← ht]; simp⟩, ⟨t, by rw [← ht]; simp⟩⟩
theorem ruleI_bd (k : Int) : 0 ≤ ruleI k ∧ ruleI k ≤ 6 := by
  unfold ruleI
  repeat' split
  all_goals omega
theorem betw_sm : ∀ k ∈ ([8, 9, 10, 11, 12, 13, 14, 15, 16, 17, 18] : List Int), (Ex.betw k).length ≤ 3 := by decide
set_option maxRecDepth 100000 in
set_option maxHeartbeats 3000000 in
theorem spell_value {Inv : List Itm → World → Prop} {Safe : Nat → World → Prop} {fT fS : FuncId} {cT cS : Array Value} {all : List Itm} {l0 : List Itm} {w : World} {k vk vn l r : Int} {S1 S2 S3 : ByteArray} (hk : k = 1) (hb : -1099511627776 ≤ vn) (C : SpellC Inv Safe fT fS cT cS all) (hi : Inv l0 w) (hpre : (l0 ++ valI vk vn S1.data.toList) <+: all) :
    Calls Tryz.prog 27 #[.agg #[.int .i64 k, .int .i64 vk, .int .i64 vn, .string S1, .string S2, .string S3, .int .i64 l, .int .i64 r], .func (.func fT) #[] cT, .func (.func fS) #[] cS] w (Tells Inv Safe (l0 ++ valI vk vn S1.data.toList) w) := by
  obtain ⟨p, hp⟩ : ∃ p, w.heap.size = p := ⟨_, rfl⟩
  obtain ⟨X, hX⟩ : ∃ X, X = w.alloc (.cells #[.int .i64 k, .int .i64 vk, .int .i64 vn, .string S1, .string S2, .string S3, .int .i64 l, .int .i64 r] 49) := ⟨_, rfl⟩
  have hbX : Below w.heap.size w X := by rw [hX]; exact (Below.refl _ _).alloc (Nat.le_refl _) _
  have H0 := Lib.hid (SpSt.first C hi hbX (show Blk X p 49 #[.int .i64 k, .int .i64 vk, .int .i64 vn, .string S1, .string S2, .string S3, .int .i64 l, .int .i64 r] by rw [hX, ← hp]; exact Blk.new w _ _) (by omega))
  have HC := Lib.hid C
  have HX := Lib.hid hX
  have HP := Lib.hid hp
  have HEt := Lib.hid (fun (v : Value) (W : World) => (show (callFunc fT (#[v] ++ cT)).run Tryz.prog W = .ok (.enter fT (#[v] ++ cT)) W from C.entT _ W (by simp)))
  have HEs := Lib.hid (fun (v u : Value) (W : World) => (show (callFunc fS (#[v, u] ++ cS)).run Tryz.prog W = .ok (.enter fS (#[v, u] ++ cS)) W from C.entS _ W (by simp)))
  clear hp hX hbX C hi
  unfold Tells
  have HPre := Lib.hid hpre
  have HVb := Lib.hid hb
  clear hpre hb
  subst hk
  go_enter Tryz.func27, Tryz.ntmps27
  go_upto_region 1 with fail
  rw [← HX.out, HP.out]
  have c0 : X.cell? ⟨p, 0, none⟩ = some (.int .i64 _) := (Blk.cell H0.out.blk 0).trans rfl
  have c1 : X.cell? ⟨p, 1, none⟩ = some (.int .i64 _) := (Blk.cell H0.out.blk 1).trans rfl
  have c2 : X.cell? ⟨p, 2, none⟩ = some (.int .i64 _) := (Blk.cell H0.out.blk 2).trans rfl
  have c3 : X.cell? ⟨p, 3, none⟩ = some (.string S1) := (Blk.cell H0.out.blk 3).trans rfl
  have c4 : X.cell? ⟨p, 4, none⟩ = some (.string S2) := (Blk.cell H0.out.blk 4).trans rfl
  have c5 : X.cell? ⟨p, 5, none⟩ = some (.string S3) := (Blk.cell H0.out.blk 5).trans rfl
  have c6 : X.cell? ⟨p, 6, none⟩ = some (.int .i64 l) := (Blk.cell H0.out.blk 6).trans rfl
  have c7 : X.cell? ⟨p, 7, none⟩ = some (.int .i64 r) := (Blk.cell H0.out.blk 7).trans rfl
  go_wp2_with fail
  refine (ruleOf_any 1 X).mono ?_
  rintro _ _ ⟨rfl, rfl⟩
  rw [show ruleI 1 = 6 from rfl]
  go_wp2_with fail
  clear c0 c1 c2 c3 c4 c5 c6 c7
  refine (spellValue_any HC.out H0.out.inv HVb.out HPre.out).mono ?_
  rintro _ w1 ⟨rfl, hi, hf⟩
  have H1 := Lib.hid (H0.out.next hi hf)
  clear hi hf
  go_wp2_with fail
  have HF := Lib.hid (H1.out.as (show _ = l0 ++ valI vk vn S1.data.toList by simp))
  go_end0
  exact ⟨rfl, HF.out.inv, HF.out.fr⟩
set_option maxRecDepth 100000 in
set_option maxHeartbeats 3000000 in
theorem spell_var {Inv : List Itm → World → Prop} {Safe : Nat → World → Prop} {fT fS : FuncId} {cT cS : Array Value} {all : List Itm} {l0 : List Itm} {w : World} {k vk vn l r : Int} {S1 S2 S3 : ByteArray} (hk : k = 2) (C : SpellC Inv Safe fT fS cT cS all) (hi : Inv l0 w) (hpre : (l0 ++ [.t (Ex.iT S2.data.toList)]) <+: all) :
    Calls Tryz.prog 27 #[.agg #[.int .i64 k, .int .i64 vk, .int .i64 vn, .string S1, .string S2, .string S3, .int .i64 l, .int .i64 r], .func (.func fT) #[] cT, .func (.func fS) #[] cS] w (Tells Inv Safe (l0 ++ [.t (Ex.iT S2.data.toList)]) w) := by
  obtain ⟨p, hp⟩ : ∃ p, w.heap.size = p := ⟨_, rfl⟩
  obtain ⟨X, hX⟩ : ∃ X, X = w.alloc (.cells #[.int .i64 k, .int .i64 vk, .int .i64 vn, .string S1, .string S2, .string S3, .int .i64 l, .int .i64 r] 49) := ⟨_, rfl⟩
  have hbX : Below w.heap.size w X := by rw [hX]; exact (Below.refl _ _).alloc (Nat.le_refl _) _
  have H0 := Lib.hid (SpSt.first C hi hbX (show Blk X p 49 #[.int .i64 k, .int .i64 vk, .int .i64 vn, .string S1, .string S2, .string S3, .int .i64 l, .int .i64 r] by rw [hX, ← hp]; exact Blk.new w _ _) (by omega))
  have HC := Lib.hid C
  have HX := Lib.hid hX
  have HP := Lib.hid hp
  have HEt := Lib.hid (fun (v : Value) (W : World) => (show (callFunc fT (#[v] ++ cT)).run Tryz.prog W = .ok (.enter fT (#[v] ++ cT)) W from C.entT _ W (by simp)))
  have HEs := Lib.hid (fun (v u : Value) (W : World) => (show (callFunc fS (#[v, u] ++ cS)).run Tryz.prog W = .ok (.enter fS (#[v, u] ++ cS)) W from C.entS _ W (by simp)))
  have HP1 := Lib.hid (pre1 hpre)
  clear hp hX hbX C hi hpre
  unfold Tells
  subst hk
  go_enter Tryz.func27, Tryz.ntmps27
  go_upto_region 1 with fail
  rw [← HX.out, HP.out]
  have c0 : X.cell? ⟨p, 0, none⟩ = some (.int .i64 _) := (Blk.cell H0.out.blk 0).trans rfl
  have c1 : X.cell? ⟨p, 1, none⟩ = some (.int .i64 _) := (Blk.cell H0.out.blk 1).trans rfl
  have c2 : X.cell? ⟨p, 2, none⟩ = some (.int .i64 _) := (Blk.cell H0.out.blk 2).trans rfl
  have c3 : X.cell? ⟨p, 3, none⟩ = some (.string S1) := (Blk.cell H0.out.blk 3).trans rfl
  have c4 : X.cell? ⟨p, 4, none⟩ = some (.string S2) := (Blk.cell H0.out.blk 4).trans rfl
  have c5 : X.cell? ⟨p, 5, none⟩ = some (.string S3) := (Blk.cell H0.out.blk 5).trans rfl
  have c6 : X.cell? ⟨p, 6, none⟩ = some (.int .i64 l) := (Blk.cell H0.out.blk 6).trans rfl
  have c7 : X.cell? ⟨p, 7, none⟩ = some (.int .i64 r) := (Blk.cell H0.out.blk 7).trans rfl
  go_wp2_with fail
  refine (ruleOf_any 2 X).mono ?_
  rintro _ _ ⟨rfl, rfl⟩
  rw [show ruleI 2 = 6 from rfl]
  go_wp2_with fail
  clear c0 c1 c2 c3 c4 c5 c6 c7
  refine (tname_any S2 X).mono ?_
  rintro _ w1 ⟨rfl, hb⟩
  have H1 := Lib.hid (H0.out.keep HC.out hb)
  clear hb
  go_wp2_with fail
  rw [HEt.out, Oper.upon_enter]
  refine (HC.out.tok (Ex.iT S2.data.toList) H1.out.inv HP1.out.1).mono ?_
  rintro _ w2 ⟨rfl, hi, hf⟩
  have H2 := Lib.hid (H1.out.next hi hf)
  clear hi hf
  go_wp2_with fail
  have HF := Lib.hid (H2.out.as (show _ = l0 ++ [.t (Ex.iT S2.data.toList)] by simp))
  go_end0
  exact ⟨rfl, HF.out.inv, HF.out.fr⟩
set_option maxRecDepth 100000 in
set_option maxHeartbeats 3000000 in
theorem spell_prop {Inv : List Itm → World → Prop} {Safe : Nat → World → Prop} {fT fS : FuncId} {cT cS : Array Value} {all : List Itm} {l0 : List Itm} {w : World} {k vk vn l r : Int} {S1 S2 S3 : ByteArray} (hk : k = 3) (C : SpellC Inv Safe fT fS cT cS all) (hi : Inv l0 w) (hpre : (l0 ++ [.t (Ex.iT S2.data.toList), .t (Ex.sT [46]), .t (Ex.iT S3.data.toList)]) <+: all) :
    Calls Tryz.prog 27 #[.agg #[.int .i64 k, .int .i64 vk, .int .i64 vn, .string S1, .string S2, .string S3, .int .i64 l, .int .i64 r], .func (.func fT) #[] cT, .func (.func fS) #[] cS] w (Tells Inv Safe (l0 ++ [.t (Ex.iT S2.data.toList), .t (Ex.sT [46]), .t (Ex.iT S3.data.toList)]) w) := by
  obtain ⟨p, hp⟩ : ∃ p, w.heap.size = p := ⟨_, rfl⟩
  obtain ⟨X, hX⟩ : ∃ X, X = w.alloc (.cells #[.int .i64 k, .int .i64 vk, .int .i64 vn, .string S1, .string S2, .string S3, .int .i64 l, .int .i64 r] 49) := ⟨_, rfl⟩
  have hbX : Below w.heap.size w X := by rw [hX]; exact (Below.refl _ _).alloc (Nat.le_refl _) _
  have H0 := Lib.hid (SpSt.first C hi hbX (show Blk X p 49 #[.int .i64 k, .int .i64 vk, .int .i64 vn, .string S1, .string S2, .string S3, .int .i64 l, .int .i64 r] by rw [hX, ← hp]; exact Blk.new w _ _) (by omega))
  have HC := Lib.hid C
  have HX := Lib.hid hX
  have HP := Lib.hid hp
  have HEt := Lib.hid (fun (v : Value) (W : World) => (show (callFunc fT (#[v] ++ cT)).run Tryz.prog W = .ok (.enter fT (#[v] ++ cT)) W from C.entT _ W (by simp)))
  have HEs := Lib.hid (fun (v u : Value) (W : World) => (show (callFunc fS (#[v, u] ++ cS)).run Tryz.prog W = .ok (.enter fS (#[v, u] ++ cS)) W from C.entS _ W (by simp)))
  clear hp hX hbX C hi
  unfold Tells
  have HPre := Lib.hid hpre
  clear hpre
  subst hk
  go_enter Tryz.func27, Tryz.ntmps27
  go_upto_region 1 with fail
  rw [← HX.out, HP.out]
  have c0 : X.cell? ⟨p, 0, none⟩ = some (.int .i64 _) := (Blk.cell H0.out.blk 0).trans rfl
  have c1 : X.cell? ⟨p, 1, none⟩ = some (.int .i64 _) := (Blk.cell H0.out.blk 1).trans rfl
  have c2 : X.cell? ⟨p, 2, none⟩ = some (.int .i64 _) := (Blk.cell H0.out.blk 2).trans rfl
  have c3 : X.cell? ⟨p, 3, none⟩ = some (.string S1) := (Blk.cell H0.out.blk 3).trans rfl
  have c4 : X.cell? ⟨p, 4, none⟩ = some (.string S2) := (Blk.cell H0.out.blk 4).trans rfl
  have c5 : X.cell? ⟨p, 5, none⟩ = some (.string S3) := (Blk.cell H0.out.blk 5).trans rfl
  have c6 : X.cell? ⟨p, 6, none⟩ = some (.int .i64 l) := (Blk.cell H0.out.blk 6).trans rfl
  have c7 : X.cell? ⟨p, 7, none⟩ = some (.int .i64 r) := (Blk.cell H0.out.blk 7).trans rfl
  go_wp2_with fail
  refine (ruleOf_any 3 X).mono ?_
  rintro _ _ ⟨rfl, rfl⟩
  rw [show ruleI 3 = 6 from rfl]
  go_wp2_with (first
    | (refine wpList_load_row (o := ⟨some 46, _, _, _, _, _⟩) rfl 49 (.tmp 3) rfl p rfl _ #[.int .i64 _, .int .i64 vk, .int .i64 vn, .string S1, .string S2, .string S3, .int .i64 l, .int .i64 r] _ _ H0.out.blk Tryz.underlying49 rfl (by kernel_rfl) ?_)
    | fail)
  clear c0 c1 c2 c3 c4 c5 c6 c7
  refine (spellProp_s HC.out H0.out.inv HPre.out).mono ?_
  rintro _ w1 ⟨rfl, hi, hf⟩
  have H1 := Lib.hid (H0.out.next hi hf)
  clear hi hf
  go_wp2_with fail
  have HF := Lib.hid (H1.out.as (show _ = l0 ++ [.t (Ex.iT S2.data.toList), .t (Ex.sT [46]), .t (Ex.iT S3.data.toList)] by simp))
  go_end0
  exact ⟨rfl, HF.out.inv, HF.out.fr⟩
set_option maxRecDepth 100000 in
set_option maxHeartbeats 3000000 in
theorem spell_many {Inv : List Itm → World → Prop} {Safe : Nat → World → Prop} {fT fS : FuncId} {cT cS : Array Value} {all : List Itm} {l0 : List Itm} {w : World} {k vk vn l r : Int} {S1 S2 S3 : ByteArray} (hk : k = 4) (C : SpellC Inv Safe fT fS cT cS all) (hi : Inv l0 w) (hpre : (l0 ++ (.t (Ex.wT Ex.kMANY) :: .t (Ex.sT [40]) :: ([.t (Ex.iT S2.data.toList), .t (Ex.sT [46]), .t (Ex.iT S3.data.toList)] ++ [.t (Ex.sT [41])]))) <+: all) :
    Calls Tryz.prog 27 #[.agg #[.int .i64 k, .int .i64 vk, .int .i64 vn, .string S1, .string S2, .string S3, .int .i64 l, .int .i64 r], .func (.func fT) #[] cT, .func (.func fS) #[] cS] w (Tells Inv Safe (l0 ++ (.t (Ex.wT Ex.kMANY) :: .t (Ex.sT [40]) :: ([.t (Ex.iT S2.data.toList), .t (Ex.sT [46]), .t (Ex.iT S3.data.toList)] ++ [.t (Ex.sT [41])]))) w) := by
  obtain ⟨p, hp⟩ : ∃ p, w.heap.size = p := ⟨_, rfl⟩
  obtain ⟨X, hX⟩ : ∃ X, X = w.alloc (.cells #[.int .i64 k, .int .i64 vk, .int .i64 vn, .string S1, .string S2, .string S3, .int .i64 l, .int .i64 r] 49) := ⟨_, rfl⟩
  have hbX : Below w.heap.size w X := by rw [hX]; exact (Below.refl _ _).alloc (Nat.le_refl _) _
  have H0 := Lib.hid (SpSt.first C hi hbX (show Blk X p 49 #[.int .i64 k, .int .i64 vk, .int .i64 vn, .string S1, .string S2, .string S3, .int .i64 l, .int .i64 r] by rw [hX, ← hp]; exact Blk.new w _ _) (by omega))
  have HC := Lib.hid C
  have HX := Lib.hid hX
  have HP := Lib.hid hp
  have HEt := Lib.hid (fun (v : Value) (W : World) => (show (callFunc fT (#[v] ++ cT)).run Tryz.prog W = .ok (.enter fT (#[v] ++ cT)) W from C.entT _ W (by simp)))
  have HEs := Lib.hid (fun (v u : Value) (W : World) => (show (callFunc fS (#[v, u] ++ cS)).run Tryz.prog W = .ok (.enter fS (#[v, u] ++ cS)) W from C.entS _ W (by simp)))
  have HP1 := Lib.hid (pre1 hpre)
  have HP2 := Lib.hid (pre1 HP1.out.2)
  clear hp hX hbX C hi hpre
  unfold Tells
  have HPp := Lib.hid (preP HP2.out.2)
  subst hk
  go_enter Tryz.func27, Tryz.ntmps27
  go_upto_region 1 with fail
  rw [← HX.out, HP.out]
  have c0 : X.cell? ⟨p, 0, none⟩ = some (.int .i64 _) := (Blk.cell H0.out.blk 0).trans rfl
  have c1 : X.cell? ⟨p, 1, none⟩ = some (.int .i64 _) := (Blk.cell H0.out.blk 1).trans rfl
  have c2 : X.cell? ⟨p, 2, none⟩ = some (.int .i64 _) := (Blk.cell H0.out.blk 2).trans rfl
  have c3 : X.cell? ⟨p, 3, none⟩ = some (.string S1) := (Blk.cell H0.out.blk 3).trans rfl
  have c4 : X.cell? ⟨p, 4, none⟩ = some (.string S2) := (Blk.cell H0.out.blk 4).trans rfl
  have c5 : X.cell? ⟨p, 5, none⟩ = some (.string S3) := (Blk.cell H0.out.blk 5).trans rfl
  have c6 : X.cell? ⟨p, 6, none⟩ = some (.int .i64 l) := (Blk.cell H0.out.blk 6).trans rfl
  have c7 : X.cell? ⟨p, 7, none⟩ = some (.int .i64 r) := (Blk.cell H0.out.blk 7).trans rfl
  go_wp2_with fail
  refine (ruleOf_any 4 X).mono ?_
  rintro _ _ ⟨rfl, rfl⟩
  rw [show ruleI 4 = 6 from rfl]
  go_wp2_with fail
  clear c0 c1 c2 c3 c4 c5 c6 c7
  refine (mk_many X).mono ?_
  rintro _ w1 ⟨rfl, hb⟩
  have H1 := Lib.hid (H0.out.keep HC.out hb)
  clear hb
  go_wp2_with fail
  rw [HEt.out, Oper.upon_enter]
  refine (HC.out.tok (Ex.wT Ex.kMANY) H1.out.inv HP1.out.1).mono ?_
  rintro _ w2 ⟨rfl, hi, hf⟩
  have H2 := Lib.hid (H1.out.next hi hf)
  clear hi hf
  go_wp2_with fail
  refine (mk_open w2).mono ?_
  rintro _ w3 ⟨rfl, hb⟩
  have H3 := Lib.hid (H2.out.keep HC.out hb)
  clear hb
  go_wp2_with fail
  rw [HEt.out, Oper.upon_enter]
  refine (HC.out.tok (Ex.sT [40]) H3.out.inv HP2.out.1).mono ?_
  rintro _ w4 ⟨rfl, hi, hf⟩
  have H4 := Lib.hid (H3.out.next hi hf)
  clear hi hf
  go_wp2_with (first
    | (refine wpList_load_row (o := ⟨some 57, _, _, _, _, _⟩) rfl 49 (.tmp 3) rfl p rfl _ #[.int .i64 _, .int .i64 vk, .int .i64 vn, .string S1, .string S2, .string S3, .int .i64 l, .int .i64 r] _ _ H4.out.blk Tryz.underlying49 rfl (by kernel_rfl) ?_)
    | fail)
  refine (spellProp_s HC.out H4.out.inv HPp.out.1).mono ?_
  rintro _ w5 ⟨rfl, hi, hf⟩
  have H5 := Lib.hid (H4.out.next hi hf)
  clear hi hf
  go_wp2_with fail
  refine (mk_shut w5).mono ?_
  rintro _ w6 ⟨rfl, hb⟩
  have H6 := Lib.hid (H5.out.keep HC.out hb)
  clear hb
  go_wp2_with fail
  rw [HEt.out, Oper.upon_enter]
  refine (HC.out.tok (Ex.sT [41]) H6.out.inv HPp.out.2).mono ?_
  rintro _ w7 ⟨rfl, hi, hf⟩
  have H7 := Lib.hid (H6.out.next hi hf)
  clear hi hf
  go_wp2_with fail
  have HF := Lib.hid (H7.out.as (show _ = l0 ++ (.t (Ex.wT Ex.kMANY) :: .t (Ex.sT [40]) :: ([.t (Ex.iT S2.data.toList), .t (Ex.sT [46]), .t (Ex.iT S3.data.toList)] ++ [.t (Ex.sT [41])])) by simp))
  go_end0
  exact ⟨rfl, HF.out.inv, HF.out.fr⟩
set_option maxRecDepth 100000 in
set_option maxHeartbeats 3000000 in
theorem spell_not {Inv : List Itm → World → Prop} {Safe : Nat → World → Prop} {fT fS : FuncId} {cT cS : Array Value} {all : List Itm} {l0 : List Itm} {w : World} {k vk vn l r : Int} {S1 S2 S3 : ByteArray} (hk : k = 5) (C : SpellC Inv Safe fT fS cT cS all) (hi : Inv l0 w) (hpre : (l0 ++ [.t (Ex.wT Ex.kNOT), .s l 2]) <+: all) :
    Calls Tryz.prog 27 #[.agg #[.int .i64 k, .int .i64 vk, .int .i64 vn, .string S1, .string S2, .string S3, .int .i64 l, .int .i64 r], .func (.func fT) #[] cT, .func (.func fS) #[] cS] w (Tells Inv Safe (l0 ++ [.t (Ex.wT Ex.kNOT), .s l 2]) w) := by
  obtain ⟨p, hp⟩ : ∃ p, w.heap.size = p := ⟨_, rfl⟩
  obtain ⟨X, hX⟩ : ∃ X, X = w.alloc (.cells #[.int .i64 k, .int .i64 vk, .int .i64 vn, .string S1, .string S2, .string S3, .int .i64 l, .int .i64 r] 49) := ⟨_, rfl⟩
  have hbX : Below w.heap.size w X := by rw [hX]; exact (Below.refl _ _).alloc (Nat.le_refl _) _
  have H0 := Lib.hid (SpSt.first C hi hbX (show Blk X p 49 #[.int .i64 k, .int .i64 vk, .int .i64 vn, .string S1, .string S2, .string S3, .int .i64 l, .int .i64 r] by rw [hX, ← hp]; exact Blk.new w _ _) (by omega))
  have HC := Lib.hid C
  have HX := Lib.hid hX
  have HP := Lib.hid hp
  have HEt := Lib.hid (fun (v : Value) (W : World) => (show (callFunc fT (#[v] ++ cT)).run Tryz.prog W = .ok (.enter fT (#[v] ++ cT)) W from C.entT _ W (by simp)))
  have HEs := Lib.hid (fun (v u : Value) (W : World) => (show (callFunc fS (#[v, u] ++ cS)).run Tryz.prog W = .ok (.enter fS (#[v, u] ++ cS)) W from C.entS _ W (by simp)))
  have HP1 := Lib.hid (pre1 hpre)
  have HP2 := Lib.hid (pre1 HP1.out.2)
  clear hp hX hbX C hi hpre
  unfold Tells
  subst hk
  go_enter Tryz.func27, Tryz.ntmps27
  go_upto_region 1 with fail
  rw [← HX.out, HP.out]
  have c0 : X.cell? ⟨p, 0, none⟩ = some (.int .i64 _) := (Blk.cell H0.out.blk 0).trans rfl
  have c1 : X.cell? ⟨p, 1, none⟩ = some (.int .i64 _) := (Blk.cell H0.out.blk 1).trans rfl
  have c2 : X.cell? ⟨p, 2, none⟩ = some (.int .i64 _) := (Blk.cell H0.out.blk 2).trans rfl
  have c3 : X.cell? ⟨p, 3, none⟩ = some (.string S1) := (Blk.cell H0.out.blk 3).trans rfl
  have c4 : X.cell? ⟨p, 4, none⟩ = some (.string S2) := (Blk.cell H0.out.blk 4).trans rfl
  have c5 : X.cell? ⟨p, 5, none⟩ = some (.string S3) := (Blk.cell H0.out.blk 5).trans rfl
  have c6 : X.cell? ⟨p, 6, none⟩ = some (.int .i64 l) := (Blk.cell H0.out.blk 6).trans rfl
  have c7 : X.cell? ⟨p, 7, none⟩ = some (.int .i64 r) := (Blk.cell H0.out.blk 7).trans rfl
  go_wp2_with fail
  refine (ruleOf_any 5 X).mono ?_
  rintro _ _ ⟨rfl, rfl⟩
  rw [show ruleI 5 = 2 from rfl]
  go_wp2_with fail
  clear c0 c1 c2 c3 c4 c5 c6 c7
  refine (mk_not X).mono ?_
  rintro _ w1 ⟨rfl, hb⟩
  have H1 := Lib.hid (H0.out.keep HC.out hb)
  clear hb
  go_wp2_with fail
  rw [HEt.out, Oper.upon_enter]
  refine (HC.out.tok (Ex.wT Ex.kNOT) H1.out.inv HP1.out.1).mono ?_
  rintro _ w2 ⟨rfl, hi, hf⟩
  have H2 := Lib.hid (H1.out.next hi hf)
  clear hi hf
  have c6 : w2.cell? ⟨p, 6, none⟩ = some (.int .i64 l) := (Blk.cell H2.out.blk 6).trans rfl
  go_wp2_with fail
  clear c6
  rw [HEs.out, Oper.upon_enter]
  refine (HC.out.side (l) (2) H2.out.inv HP2.out.1).mono ?_
  rintro _ w3 ⟨rfl, hi, hf⟩
  have H3 := Lib.hid (H2.out.next hi hf)
  clear hi hf
  go_wp2_with fail
  have HF := Lib.hid (H3.out.as (show _ = l0 ++ [.t (Ex.wT Ex.kNOT), .s l 2] by simp))
  go_end0
  exact ⟨rfl, HF.out.inv, HF.out.fr⟩
set_option maxRecDepth 100000 in
set_option maxHeartbeats 3000000 in
theorem spell_null {Inv : List Itm → World → Prop} {Safe : Nat → World → Prop} {fT fS : FuncId} {cT cS : Array Value} {all : List Itm} {l0 : List Itm} {w : World} {k vk vn l r : Int} {S1 S2 S3 : ByteArray} (hk : k = 6) (C : SpellC Inv Safe fT fS cT cS all) (hi : Inv l0 w) (hpre : (l0 ++ [.s l 4, .t (Ex.wT Ex.kIS), .t (Ex.wT Ex.kNULL)]) <+: all) :
    Calls Tryz.prog 27 #[.agg #[.int .i64 k, .int .i64 vk, .int .i64 vn, .string S1, .string S2, .string S3, .int .i64 l, .int .i64 r], .func (.func fT) #[] cT, .func (.func fS) #[] cS] w (Tells Inv Safe (l0 ++ [.s l 4, .t (Ex.wT Ex.kIS), .t (Ex.wT Ex.kNULL)]) w) := by
  obtain ⟨p, hp⟩ : ∃ p, w.heap.size = p := ⟨_, rfl⟩
  obtain ⟨X, hX⟩ : ∃ X, X = w.alloc (.cells #[.int .i64 k, .int .i64 vk, .int .i64 vn, .string S1, .string S2, .string S3, .int .i64 l, .int .i64 r] 49) := ⟨_, rfl⟩
  have hbX : Below w.heap.size w X := by rw [hX]; exact (Below.refl _ _).alloc (Nat.le_refl _) _
  have H0 := Lib.hid (SpSt.first C hi hbX (show Blk X p 49 #[.int .i64 k, .int .i64 vk, .int .i64 vn, .string S1, .string S2, .string S3, .int .i64 l, .int .i64 r] by rw [hX, ← hp]; exact Blk.new w _ _) (by omega))
  have HC := Lib.hid C
  have HX := Lib.hid hX
  have HP := Lib.hid hp
  have HEt := Lib.hid (fun (v : Value) (W : World) => (show (callFunc fT (#[v] ++ cT)).run Tryz.prog W = .ok (.enter fT (#[v] ++ cT)) W from C.entT _ W (by simp)))
  have HEs := Lib.hid (fun (v u : Value) (W : World) => (show (callFunc fS (#[v, u] ++ cS)).run Tryz.prog W = .ok (.enter fS (#[v, u] ++ cS)) W from C.entS _ W (by simp)))
  have HP1 := Lib.hid (pre1 hpre)
  have HP2 := Lib.hid (pre1 HP1.out.2)
  have HP3 := Lib.hid (pre1 HP2.out.2)
  clear hp hX hbX C hi hpre
  unfold Tells
  subst hk
  go_enter Tryz.func27, Tryz.ntmps27
  go_upto_region 1 with fail
  rw [← HX.out, HP.out]
  have c0 : X.cell? ⟨p, 0, none⟩ = some (.int .i64 _) := (Blk.cell H0.out.blk 0).trans rfl
  have c1 : X.cell? ⟨p, 1, none⟩ = some (.int .i64 _) := (Blk.cell H0.out.blk 1).trans rfl
  have c2 : X.cell? ⟨p, 2, none⟩ = some (.int .i64 _) := (Blk.cell H0.out.blk 2).trans rfl
  have c3 : X.cell? ⟨p, 3, none⟩ = some (.string S1) := (Blk.cell H0.out.blk 3).trans rfl
  have c4 : X.cell? ⟨p, 4, none⟩ = some (.string S2) := (Blk.cell H0.out.blk 4).trans rfl
  have c5 : X.cell? ⟨p, 5, none⟩ = some (.string S3) := (Blk.cell H0.out.blk 5).trans rfl
  have c6 : X.cell? ⟨p, 6, none⟩ = some (.int .i64 l) := (Blk.cell H0.out.blk 6).trans rfl
  have c7 : X.cell? ⟨p, 7, none⟩ = some (.int .i64 r) := (Blk.cell H0.out.blk 7).trans rfl
  go_wp2_with fail
  refine (ruleOf_any 6 X).mono ?_
  rintro _ _ ⟨rfl, rfl⟩
  rw [show ruleI 6 = 3 from rfl]
  go_wp2_with fail
  clear c0 c1 c2 c3 c4 c5 c6 c7
  rw [HEs.out, Oper.upon_enter]
  refine (HC.out.side (l) (4) H0.out.inv HP1.out.1).mono ?_
  rintro _ w1 ⟨rfl, hi, hf⟩
  have H1 := Lib.hid (H0.out.next hi hf)
  clear hi hf
  go_wp2_with fail
  refine (mk_is w1).mono ?_
  rintro _ w2 ⟨rfl, hb⟩
  have H2 := Lib.hid (H1.out.keep HC.out hb)
  clear hb
  go_wp2_with fail
  rw [HEt.out, Oper.upon_enter]
  refine (HC.out.tok (Ex.wT Ex.kIS) H2.out.inv HP2.out.1).mono ?_
  rintro _ w3 ⟨rfl, hi, hf⟩
  have H3 := Lib.hid (H2.out.next hi hf)
  clear hi hf
  go_wp2_with fail
  refine (mk_null w3).mono ?_
  rintro _ w4 ⟨rfl, hb⟩
  have H4 := Lib.hid (H3.out.keep HC.out hb)
  clear hb
  go_wp2_with fail
  rw [HEt.out, Oper.upon_enter]
  refine (HC.out.tok (Ex.wT Ex.kNULL) H4.out.inv HP3.out.1).mono ?_
  rintro _ w5 ⟨rfl, hi, hf⟩
  have H5 := Lib.hid (H4.out.next hi hf)
  clear hi hf
  go_wp2_with fail
  have HF := Lib.hid (H5.out.as (show _ = l0 ++ [.s l 4, .t (Ex.wT Ex.kIS), .t (Ex.wT Ex.kNULL)] by simp))
  go_end0
  exact ⟨rfl, HF.out.inv, HF.out.fr⟩
set_option maxRecDepth 100000 in
set_option maxHeartbeats 3000000 in
theorem spell_some {Inv : List Itm → World → Prop} {Safe : Nat → World → Prop} {fT fS : FuncId} {cT cS : Array Value} {all : List Itm} {l0 : List Itm} {w : World} {k vk vn l r : Int} {S1 S2 S3 : ByteArray} (hk : k = 7) (C : SpellC Inv Safe fT fS cT cS all) (hi : Inv l0 w) (hpre : (l0 ++ [.s l 4, .t (Ex.wT Ex.kIS), .t (Ex.wT Ex.kNOT), .t (Ex.wT Ex.kNULL)]) <+: all) :
    Calls Tryz.prog 27 #[.agg #[.int .i64 k, .int .i64 vk, .int .i64 vn, .string S1, .string S2, .string S3, .int .i64 l, .int .i64 r], .func (.func fT) #[] cT, .func (.func fS) #[] cS] w (Tells Inv Safe (l0 ++ [.s l 4, .t (Ex.wT Ex.kIS), .t (Ex.wT Ex.kNOT), .t (Ex.wT Ex.kNULL)]) w) := by
  obtain ⟨p, hp⟩ : ∃ p, w.heap.size = p := ⟨_, rfl⟩
  obtain ⟨X, hX⟩ : ∃ X, X = w.alloc (.cells #[.int .i64 k, .int .i64 vk, .int .i64 vn, .string S1, .string S2, .string S3, .int .i64 l, .int .i64 r] 49) := ⟨_, rfl⟩
  have hbX : Below w.heap.size w X := by rw [hX]; exact (Below.refl _ _).alloc (Nat.le_refl _) _
  have H0 := Lib.hid (SpSt.first C hi hbX (show Blk X p 49 #[.int .i64 k, .int .i64 vk, .int .i64 vn, .string S1, .string S2, .string S3, .int .i64 l, .int .i64 r] by rw [hX, ← hp]; exact Blk.new w _ _) (by omega))
  have HC := Lib.hid C
  have HX := Lib.hid hX
  have HP := Lib.hid hp
  have HEt := Lib.hid (fun (v : Value) (W : World) => (show (callFunc fT (#[v] ++ cT)).run Tryz.prog W = .ok (.enter fT (#[v] ++ cT)) W from C.entT _ W (by simp)))
  have HEs := Lib.hid (fun (v u : Value) (W : World) => (show (callFunc fS (#[v, u] ++ cS)).run Tryz.prog W = .ok (.enter fS (#[v, u] ++ cS)) W from C.entS _ W (by simp)))
  have HP1 := Lib.hid (pre1 hpre)
  have HP2 := Lib.hid (pre1 HP1.out.2)
  have HP3 := Lib.hid (pre1 HP2.out.2)
  have HP4 := Lib.hid (pre1 HP3.out.2)
  clear hp hX hbX C hi hpre
  unfold Tells
  subst hk
  go_enter Tryz.func27, Tryz.ntmps27
  go_upto_region 1 with fail
  rw [← HX.out, HP.out]
  have c0 : X.cell? ⟨p, 0, none⟩ = some (.int .i64 _) := (Blk.cell H0.out.blk 0).trans rfl
  have c1 : X.cell? ⟨p, 1, none⟩ = some (.int .i64 _) := (Blk.cell H0.out.blk 1).trans rfl
  have c2 : X.cell? ⟨p, 2, none⟩ = some (.int .i64 _) := (Blk.cell H0.out.blk 2).trans rfl
  have c3 : X.cell? ⟨p, 3, none⟩ = some (.string S1) := (Blk.cell H0.out.blk 3).trans rfl
  have c4 : X.cell? ⟨p, 4, none⟩ = some (.string S2) := (Blk.cell H0.out.blk 4).trans rfl
  have c5 : X.cell? ⟨p, 5, none⟩ = some (.string S3) := (Blk.cell H0.out.blk 5).trans rfl
  have c6 : X.cell? ⟨p, 6, none⟩ = some (.int .i64 l) := (Blk.cell H0.out.blk 6).trans rfl
  have c7 : X.cell? ⟨p, 7, none⟩ = some (.int .i64 r) := (Blk.cell H0.out.blk 7).trans rfl
  go_wp2_with fail
  refine (ruleOf_any 7 X).mono ?_
  rintro _ _ ⟨rfl, rfl⟩
  rw [show ruleI 7 = 3 from rfl]
  go_wp2_with fail
  clear c0 c1 c2 c3 c4 c5 c6 c7
  rw [HEs.out, Oper.upon_enter]
  refine (HC.out.side (l) (4) H0.out.inv HP1.out.1).mono ?_
  rintro _ w1 ⟨rfl, hi, hf⟩
  have H1 := Lib.hid (H0.out.next hi hf)
  clear hi hf
  go_wp2_with fail
  refine (mk_is w1).mono ?_
  rintro _ w2 ⟨rfl, hb⟩
  have H2 := Lib.hid (H1.out.keep HC.out hb)
  clear hb
  go_wp2_with fail
  rw [HEt.out, Oper.upon_enter]
  refine (HC.out.tok (Ex.wT Ex.kIS) H2.out.inv HP2.out.1).mono ?_
  rintro _ w3 ⟨rfl, hi, hf⟩
  have H3 := Lib.hid (H2.out.next hi hf)
  clear hi hf
  go_wp2_with fail
  refine (mk_not w3).mono ?_
  rintro _ w4 ⟨rfl, hb⟩
  have H4 := Lib.hid (H3.out.keep HC.out hb)
  clear hb
  go_wp2_with fail
  rw [HEt.out, Oper.upon_enter]
  refine (HC.out.tok (Ex.wT Ex.kNOT) H4.out.inv HP3.out.1).mono ?_
  rintro _ w5 ⟨rfl, hi, hf⟩
  have H5 := Lib.hid (H4.out.next hi hf)
  clear hi hf
  go_wp2_with fail
  refine (mk_null w5).mono ?_
  rintro _ w6 ⟨rfl, hb⟩
  have H6 := Lib.hid (H5.out.keep HC.out hb)
  clear hb
  go_wp2_with fail
  rw [HEt.out, Oper.upon_enter]
  refine (HC.out.tok (Ex.wT Ex.kNULL) H6.out.inv HP4.out.1).mono ?_
  rintro _ w7 ⟨rfl, hi, hf⟩
  have H7 := Lib.hid (H6.out.next hi hf)
  clear hi hf
  go_wp2_with fail
  have HF := Lib.hid (H7.out.as (show _ = l0 ++ [.s l 4, .t (Ex.wT Ex.kIS), .t (Ex.wT Ex.kNOT), .t (Ex.wT Ex.kNULL)] by simp))
  go_end0
  exact ⟨rfl, HF.out.inv, HF.out.fr⟩
set_option maxRecDepth 100000 in
set_option maxHeartbeats 3000000 in
theorem spell_two {Inv : List Itm → World → Prop} {Safe : Nat → World → Prop} {fT fS : FuncId} {cT cS : Array Value} {all : List Itm} {l0 : List Itm} {w : World} {k vk vn l r : Int} {S1 S2 S3 : ByteArray} {kn : Nat} (hk : k = (kn : Int)) (h8 : 8 ≤ kn) (h18 : kn ≤ 18) (C : SpellC Inv Safe fT fS cT cS all) (hi : Inv l0 w) (hpre : (l0 ++ [.s l (leftI (ruleI k)), .t (markT (Ex.betw k)), .s r (ruleI k + 1)]) <+: all) :
    Calls Tryz.prog 27 #[.agg #[.int .i64 k, .int .i64 vk, .int .i64 vn, .string S1, .string S2, .string S3, .int .i64 l, .int .i64 r], .func (.func fT) #[] cT, .func (.func fS) #[] cS] w (Tells Inv Safe (l0 ++ [.s l (leftI (ruleI k)), .t (markT (Ex.betw k)), .s r (ruleI k + 1)]) w) := by
  obtain ⟨p, hp⟩ : ∃ p, w.heap.size = p := ⟨_, rfl⟩
  obtain ⟨X, hX⟩ : ∃ X, X = w.alloc (.cells #[.int .i64 k, .int .i64 vk, .int .i64 vn, .string S1, .string S2, .string S3, .int .i64 l, .int .i64 r] 49) := ⟨_, rfl⟩
  have hbX : Below w.heap.size w X := by rw [hX]; exact (Below.refl _ _).alloc (Nat.le_refl _) _
  have H0 := Lib.hid (SpSt.first C hi hbX (show Blk X p 49 #[.int .i64 k, .int .i64 vk, .int .i64 vn, .string S1, .string S2, .string S3, .int .i64 l, .int .i64 r] by rw [hX, ← hp]; exact Blk.new w _ _) (by omega))
  have HC := Lib.hid C
  have HX := Lib.hid hX
  have HP := Lib.hid hp
  have HEt := Lib.hid (fun (v : Value) (W : World) => (show (callFunc fT (#[v] ++ cT)).run Tryz.prog W = .ok (.enter fT (#[v] ++ cT)) W from C.entT _ W (by simp)))
  have HEs := Lib.hid (fun (v u : Value) (W : World) => (show (callFunc fS (#[v, u] ++ cS)).run Tryz.prog W = .ok (.enter fS (#[v, u] ++ cS)) W from C.entS _ W (by simp)))
  have HP1 := Lib.hid (pre1 hpre)
  have HP2 := Lib.hid (pre1 HP1.out.2)
  have HP3 := Lib.hid (pre1 HP2.out.2)
  clear hp hX hbX C hi hpre
  unfold Tells
  subst hk
  have g1 : ((kn : Int) == 1) = false := by rw [beq_eq_false_iff_ne]; omega
  have g2 : ((kn : Int) == 2) = false := by rw [beq_eq_false_iff_ne]; omega
  have g3 : ((kn : Int) == 3) = false := by rw [beq_eq_false_iff_ne]; omega
  have g4 : ((kn : Int) == 4) = false := by rw [beq_eq_false_iff_ne]; omega
  have g5 : ((kn : Int) == 5) = false := by rw [beq_eq_false_iff_ne]; omega
  have g6 : ((kn : Int) == 6) = false := by rw [beq_eq_false_iff_ne]; omega
  have g7 : ((kn : Int) == 7) = false := by rw [beq_eq_false_iff_ne]; omega
  obtain ⟨ow, how⟩ : ∃ ow, ruleI (kn : Int) = ow := ⟨_, rfl⟩
  have HRu := Lib.hid how
  have hbd := ruleI_bd (kn : Int)
  rw [how] at hbd
  have HKn := Lib.hid (show kn < 19 by omega)
  obtain ⟨SB, hSB⟩ : ∃ SB : ByteArray, SB = ⟨(Ex.betw (kn : Int)).toArray⟩ := ⟨_, rfl⟩
  have HSB := Lib.hid hSB
  have HMk := Lib.hid (fun W => (show Calls Tryz.prog 28 #[.string SB] W (Gives W (tkV (markT (Ex.betw (kn : Int))))) by
    have := mark_any SB W (by
      rw [hSB]
      show (Ex.betw (kn : Int)).toArray.size ≤ 1000000
      have := betw_sm (kn : Int) (by simp; omega)
      simp
      omega)
    rw [show SB.data.toList = Ex.betw (kn : Int) by rw [hSB]] at this
    unfold tkV markT
    dsimp only
    rw [← hSB]
    exact this))
  have HAdd := Lib.hid (fun W => show (binOp .add 3 (.int .i64 ow) (.int .i64 1)).run Tryz.prog W = .ok (.int .i64 (ow + 1)) W by
    have hs := IntWalk.i64_in (ow + 1) (by omega)
    go_simp)
  rw [how] at HP1 HP2 HP3 ⊢
  unfold tkV at HMk
  clear hSB h8 h18 how hbd
  go_enter Tryz.func27, Tryz.ntmps27
  go_upto_region 1 with fail
  rw [← HX.out, HP.out]
  have c0 : X.cell? ⟨p, 0, none⟩ = some (.int .i64 _) := (Blk.cell H0.out.blk 0).trans rfl
  have c1 : X.cell? ⟨p, 1, none⟩ = some (.int .i64 _) := (Blk.cell H0.out.blk 1).trans rfl
  have c2 : X.cell? ⟨p, 2, none⟩ = some (.int .i64 _) := (Blk.cell H0.out.blk 2).trans rfl
  have c3 : X.cell? ⟨p, 3, none⟩ = some (.string S1) := (Blk.cell H0.out.blk 3).trans rfl
  have c4 : X.cell? ⟨p, 4, none⟩ = some (.string S2) := (Blk.cell H0.out.blk 4).trans rfl
  have c5 : X.cell? ⟨p, 5, none⟩ = some (.string S3) := (Blk.cell H0.out.blk 5).trans rfl
  have c6 : X.cell? ⟨p, 6, none⟩ = some (.int .i64 l) := (Blk.cell H0.out.blk 6).trans rfl
  have c7 : X.cell? ⟨p, 7, none⟩ = some (.int .i64 r) := (Blk.cell H0.out.blk 7).trans rfl
  go_wp2_with fail
  refine (ruleOf_any (kn : Int) X).mono ?_
  rintro _ _ ⟨rfl, rfl⟩
  rw [HRu.out]
  go_upto_region 3 with fail
  clear c0 c1 c2 c3 c4 c5 c6 c7
  refine wp_region_any (by kernel_rfl) ?_
  refine wpAny_last (fun iq uq wq => uq = ([.func (.func fS) #[] cS, .pointer (some ⟨p, 6, none⟩), .int .i64 l, .int .i64 ow, .int .i64 (leftI ow), undef] : List Value).getD iq undef) _ X 5 _ (fun _ wq => SpSt Inv Safe w p 49 #[.int .i64 (kn : Int), .int .i64 vk, .int .i64 vn, .string S1, .string S2, .string S3, .int .i64 l, .int .i64 r] (l0 ++ [.s l (leftI ow)]) wq) (by kernel_rfl) rfl (by kernel_rfl) (by kernel_rfl) (by kernel_rfl) (by kernel_rfl) (fun i v w w' _ h => h) ?_ ?_ ?_
  · refine ⟨?_, ?_, ?_, ?_, ?_, fun h => absurd h (Nat.lt_irrefl _), trivial⟩
    · intro _ a W hI hun haft hi
      have e2 : a.eval (.tmp 2) = .func (.func fS) #[] cS := hun 2 (by kernel_rfl)
      exact b_same hi hI rfl _ (run_move_op rfl e2) rfl
    · intro _ a W hI hun haft hi
      have e3 : a.eval (.tmp 3) = .pointer (some ⟨p, 0, none⟩) := hun 3 (by kernel_rfl)
      exact b_same hi hI rfl _ (run_fieldAddr_any rfl e3 (at_expr4 _ _)) rfl
    · intro _ a W hI hun haft hi
      have f1 : a.eval (.tmp 13) = .pointer (some ⟨p, 6, none⟩) := haft ⟨1, .data⟩ (by simp) rfl _ _ rfl rfl
      exact b_same hi hI rfl _ (run_loadint_op rfl f1 Tryz.underlying3 ((Blk.cell (H0.out.blk.below hI H0.out.blk.lt) 6).trans rfl)) rfl
    · intro _ a W hI hun haft hi
      have e6 : a.eval (.tmp 6) = .int .i64 ow := hun 6 (by kernel_rfl)
      exact b_same hi hI rfl _ (run_move_op rfl e6) rfl
    · intro _ a W hI hun haft hi
      have f3 : a.eval (.tmp 15) = .int .i64 ow := haft ⟨3, .data⟩ (by simp) rfl _ _ rfl rfl
      refine b_call hi hI rfl _ _ (run_call_op (args := #[.int .i64 ow]) rfl (by simp [f3]) (by kernel_rfl)) ?_
      exact (leftRule_any ow W).mono fun e w' H => ⟨_, H.1, rfl, by rw [H.2]; exact Below.refl _ _⟩
  · intro vals a W hI hun hsl hp
    have f0 : a.eval (.tmp 12) = .func (.func fS) #[] cS := (hsl 0 _ _ rfl (by decide) rfl).trans (hp 0 (by decide))
    have f2 : a.eval (.tmp 14) = .int .i64 l := (hsl 2 _ _ rfl (by decide) rfl).trans (hp 2 (by decide))
    have f4 : a.eval (.tmp 16) = .int .i64 (leftI ow) := (hsl 4 _ _ rfl (by decide) rfl).trans (hp 4 (by decide))
    have hst := H0.out.keep HC.out hI
    refine wpOp_enter rfl rfl _ _ (run_callv_op (args := #[.int .i64 l, .int .i64 (leftI ow)]) rfl f0 (by simp [f2, f4]) rfl (HEs.out _ _ W)) ?_
    exact (HC.out.side l (leftI ow) hst.inv HP1.out.1).mono fun e w2 h => ⟨_, h.1, _, rfl, fun vals2 _ h8 => hst.next h.2.1 h.2.2⟩
  · intro vals w1 hK
    have H1 := Lib.hid hK
    clear hK
    simp only [layN, List.size_toArray, List.length_cons, List.length_nil, List.range, List.range.loop, if_true, List.getElem?_toArray, List.getElem?_cons_zero, List.getElem?_cons_succ, Act.put, List.setIfInBounds_toArray, List.set_cons_zero, List.set_cons_succ, Nat.zero_add, Nat.reduceAdd]
    (try simp only [Exit.then])
    have cB : w1.cell? ⟨0, kn, none⟩ = some (.string SB) := by
      rw [HSB.out]
      exact (HC.out.betw H1.out.inv).2 kn HKn.out
    have c0 : w1.cell? ⟨p, 0, none⟩ = some (.int .i64 (kn : Int)) := (Blk.cell H1.out.blk 0).trans rfl
    go_wp2_with (first
      | (refine wpList_val (o := ⟨some 21, _, _, _, _, _⟩) rfl (.pointer (some ⟨0, kn, none⟩)) w1 (run_indexAddr_op rfl rfl rfl (at_betw kn HKn.out w1)) ?_)
      | fail)
    clear c0
    clear cB
    refine (HMk.out w1).mono ?_
    rintro _ w2 ⟨rfl, hb⟩
    have H2 := Lib.hid (H1.out.keep HC.out hb)
    clear hb
    go_wp2_with fail
    rw [HEt.out, Oper.upon_enter]
    refine (HC.out.tok (markT (Ex.betw (kn : Int))) H2.out.inv HP2.out.1).mono ?_
    rintro _ w3 ⟨rfl, hi, hf⟩
    have H3 := Lib.hid (H2.out.next hi hf)
    clear hi hf
    have c7 : w3.cell? ⟨p, 7, none⟩ = some (.int .i64 r) := (Blk.cell H3.out.blk 7).trans rfl
    go_wp2_with (first
      | (refine wpList_val (o := ⟨some 29, _, _, _, _, _⟩) rfl (.int .i64 (ow + 1)) w3 (run_bin_op rfl rfl rfl (by kernel_rfl) (HAdd.out w3)) ?_)
      | fail)
    clear c7
    rw [HEs.out, Oper.upon_enter]
    refine (HC.out.side (r) (ow + 1) H3.out.inv HP3.out.1).mono ?_
    rintro _ w4 ⟨rfl, hi, hf⟩
    have H4 := Lib.hid (H3.out.next hi hf)
    clear hi hf
    go_wp2_with fail
    have HF := Lib.hid (H4.out.as (show _ = l0 ++ [.s l (leftI ow), .t (markT (Ex.betw (kn : Int))), .s r (ow + 1)] by simp))
    go_end0
    exact ⟨rfl, HF.out.inv, HF.out.fr⟩
/-- WHAT SPELL TELLS. -/
theorem spell_any {Inv : List Itm → World → Prop} {Safe : Nat → World → Prop} {fT fS : FuncId} {cT cS : Array Value} {all : List Itm} {l0 : List Itm} {w : World} (e : Ex.X) (C : SpellC Inv Safe fT fS cT cS all) (hi : Inv l0 w) (hk : 1 ≤ e.k ∧ e.k ≤ 18) (hb : e.k = 1 → -1099511627776 ≤ e.vn) (hpre : (l0 ++ spellI e) <+: all) :
    Calls Tryz.prog 27 #[exV e, .func (.func fT) #[] cT, .func (.func fS) #[] cS] w (Tells Inv Safe (l0 ++ spellI e) w) := by
  obtain ⟨k, vk, vn, vt, v, pp, l, r⟩ := e
  unfold exV exC
  unfold spellI propI twoI at hpre ⊢
  dsimp only at hk hb hpre ⊢
  by_cases h1 : k = 1
  · rw [if_pos h1] at hpre ⊢; exact spell_value (S1 := ⟨vt.toArray⟩) h1 (hb h1) C hi hpre
  rw [if_neg h1] at hpre ⊢
  by_cases h2 : k = 2
  · rw [if_pos h2] at hpre ⊢; exact spell_var (S2 := ⟨v.toArray⟩) h2 C hi hpre
  rw [if_neg h2] at hpre ⊢
  by_cases h3 : k = 3
  · rw [if_pos h3] at hpre ⊢; exact spell_prop (S2 := ⟨v.toArray⟩) (S3 := ⟨pp.toArray⟩) h3 C hi hpre
  rw [if_neg h3] at hpre ⊢
  by_cases h4 : k = 4
  · rw [if_pos h4] at hpre ⊢; exact spell_many (S2 := ⟨v.toArray⟩) (S3 := ⟨pp.toArray⟩) h4 C hi hpre
  rw [if_neg h4] at hpre ⊢
  by_cases h5 : k = 5
  · rw [if_pos h5] at hpre ⊢; exact spell_not h5 C hi hpre
  rw [if_neg h5] at hpre ⊢
  by_cases h6 : k = 6
  · rw [if_pos h6] at hpre ⊢; exact spell_null h6 C hi hpre
  rw [if_neg h6] at hpre ⊢
  by_cases h7 : k = 7
  · rw [if_pos h7] at hpre ⊢; exact spell_some h7 C hi hpre
  rw [if_neg h7] at hpre ⊢
  obtain ⟨kn, rfl⟩ := Int.eq_ofNat_of_zero_le (show 0 ≤ k by omega)
  exact spell_two rfl (by omega) (by omega) C hi hpre

end Go.Proofs.YtdabanocofimmaaGreatDoor
