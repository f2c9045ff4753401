/- (*store.Store).All. -/import Derived.Test.YtdgglhlofnigkaaGreatDoorStGF
import Derived.Test.YtdgglhlofnigkaaGreatDoorJEvPast
namespace Go.Proofs.YtdgglhlofnigkaaGreatDoor
open Lib (hid)
open Go.RowKit Go.MapKept Go.Sort
theorem infoI : (Tryz.prog.info? 100).map (fun i => (i.zero, i.size, i.bytes)) = some (some (.agg #[.int .i64 0, .string ⟨#[]⟩, .string ⟨#[]⟩, .string ⟨#[]⟩, .string ⟨#[]⟩, .slice none 0 0]), 6, 96) := by kernel_rfl
def enI (x : El × Value) : List Value := [.int .i64 x.1.k, .string x.1.a, .string x.1.b, .string x.1.c, .string x.1.d, x.2]
theorem enI_len (x : El × Value) : (enI x).length = 6 := rfl
theorem RowIs.slice {w : World} {base : Nat} {v : Value} {l : List (Dt × Va)} (h : RowIs w base v l) : ∃ A n c, v = .slice A n c := by
 obtain ⟨l', _, _, ho⟩ := h
 obtain ⟨A, c, h, _⟩ := ho.read enN_len
 exact ⟨A, _, c, h⟩
theorem RowIs.one {w : World} {base : Nat} {v : Value} {l : List (Dt × Va)} (h : RowIs w base v l) : v.oneCell' = true := by
 obtain ⟨A, n, c, rfl⟩ := h.slice; rfl
theorem RowIs.keep {w w' : World} {base : Nat} {v : Value} {l : List (Dt × Va)} (h : RowIs w base v l) (hb : Below w.heap.size w w') : RowIs w' base v l := by
 obtain ⟨l', h1, h2, h3⟩ := h
 exact ⟨l', h1, h2, h3.keep hb⟩
theorem RowIs.base_ {w : World} {base b' : Nat} {v : Value} {l : List (Dt × Va)} (h : RowIs w base v l) (hb : b' ≤ base) : RowIs w b' v l := by
 obtain ⟨l', h1, h2, h3⟩ := h
 exact ⟨l', h1, h2, h3.base_ hb⟩
theorem OwnK.apart {α β : Type} {enc : α → List Value} {enc' : β → List Value} {base base' k k' : Nat} {e e' : TypeId} {w : World} {v v' : Value} {l : List α} {l' : List β} (hne : e ≠ e') (h : OwnK enc base e k w v l) (h' : OwnK enc' base' e' k' w v' l') : ∀ g, v.ownBlock = some g → v'.ownBlock ≠ some g := by
 intro g hg hg'
 rcases h.2 with ⟨rfl, _⟩ | ⟨g1, cap, cur, rfl, _, hb, _⟩
 ·cases hg
 rcases h'.2 with ⟨rfl, _⟩ | ⟨g2, cap', cur', rfl, _, hb', _⟩
 ·cases hg'
 have e1 : g1 = g := Option.some.inj hg
 have e2 : g2 = g := Option.some.inj hg'
 rw [e1] at hb
 rw [e2, hb] at hb'
 simp only [Option.some.injEq, Obj.cells.injEq] at hb'
 exact hne hb'.2.1
theorem ne_NI : (94 : TypeId) ≠ 100 := by decide
theorem ne_EI : (38 : TypeId) ≠ 100 := by decide
theorem OwnK.grown {α β : Type} {enc : α → List Value} {enc' : β → List Value} {base base' k k' : Nat} {e e' : TypeId} {w w' : World} {v v' : Value} {l : List α} {l' : List β} (hne : e ≠ e') (h : OwnK enc base e k w v l) (h' : OwnK enc' base' e' k' w v' l') (hg : w.grownBy w' v'.ownBlock) : OwnK enc base e k w' v l :=
 h.same fun g hv => hg.block g (h.lt g hv).2 fun e => h.apart hne h' g hv e.symm
def ItemsIs (w : World) (base : Nat) (v : Value) (σ : List (El × List (Dt × Va))) (es : List El) : Prop :=
 ∃ acc : List (El × Value), OwnK enI base 100 6 w v acc ∧ acc.map Prod.fst = es ∧ ∀ p ∈ acc, RowIs w base p.2 (entS p.1 σ)
theorem StoreIs.top {w : World} {sb : Nat} {F : Nat → Prop} {σ : List (El × List (Dt × Va))} (hS : StoreIs w sb F σ) : ∃ m I, Blk w sb 91 #[.map m] ∧ TopIs w m I ∧ keysL I = keysL σ ∧
  ∀ x, ∃ n, (∀ w', Below w.heap.size w w' → (Instr.lookup 89 (.map m) (eE x) false).run Tryz.prog w' = .ok (.map n) w' ∧ HeldIs w' F n (entS x σ)) := by
 obtain ⟨h1, h2, h3⟩ := hS
 rcases h3 with ⟨hb, rfl⟩ | ⟨ob, I, h, hb, hI, rfl⟩
 ·exact ⟨none, [], hb, .inl ⟨rfl, rfl⟩, rfl, fun x => ⟨none, fun w' _ => ⟨look_nil_run keyE Tryz.underlying89 (zero_held _) x, .inl ⟨rfl, rfl⟩⟩⟩⟩
 ·refine ⟨some ob, I, hb, .inr ⟨ob, rfl, hI.2.1⟩, (keys_mapS h I).symm, fun x => ?_⟩
  cases hg : getL x I with
  | none => exact ⟨none, fun w' hw => ⟨(look_run (hI.2.1.same (hw.block _ hI.2.1.lt)) keyE Tryz.underlying89 (zero_held _) x).trans (by rw [hg]; rfl), .inl ⟨rfl, by unfold entS; rw [getL_mapS, hg]; rfl⟩⟩⟩
  | some n =>
   obtain ⟨f1, f2, f3⟩ := hI.at_ hg
   exact ⟨some n, fun w' hw => ⟨(look_run (hI.2.1.same (hw.block _ hI.2.1.lt)) keyE Tryz.underlying89 (zero_held _) x).trans (by rw [hg]; rfl), .inr ⟨n, rfl, f1, by unfold entS; rw [getL_mapS, hg]; exact f3.same (hw.block _ f3.lt)⟩⟩⟩
theorem at_L (g c n k : Nat) (h : k < n) (w : World) : (Instr.indexAt 80 (.slice (some ⟨g, 0, none⟩) n c) (.int .i64 k)).run Tryz.prog w = .ok (.pointer (some ⟨g, k * 5, none⟩)) w := by
 have h2 : (k : Int) < n := by omega
 go_simp
theorem run_build_op {P : Program} {o : Oper} {ρ : Operand → Value} {w : World} {ty : TypeId} {xs : Array (Nat × Operand)} {vs : Array (Nat × Value)} {v : Value} (ho : o.op = .build ty xs) (hx : xs.map (fun (i, x) => (i, ρ x)) = vs) (hr : (Instr.build ty vs).run P w = .ok v w) : (execOp ρ o).run P w = .ok (.value v) w := by
 unfold execOp
 simp only [ho]
 rw [show (xs.map fun x => match x with | (i, x) => (i, ρ x)) = vs from hx]
 simp [hr]
theorem bsI (k : Int) (a b c d : ByteArray) (A : Option Addr) (n cp : Nat) (w : World) : (Instr.buildSlice 96 1 #[(0, .agg #[.int .i64 k, .string a, .string b, .string c, .string d, .slice A n cp])]).run Tryz.prog w = .ok (.slice (some ⟨w.heap.size, 0, none⟩) 1 1) (w.alloc (.cells #[.int .i64 k, .string a, .string b, .string c, .string d, .slice A n cp] 100)) := by go_simp
theorem OwnK.at_ {α : Type} {enc : α → List Value} {base k : Nat} {e : TypeId} {w : World} {l : List α} {A : Option Addr} {n c j : Nat} {x : α} (hk : ∀ x, (enc x).length = k) (h : OwnK enc base e k w (.slice A n c) l) (hj : l[j]? = some x) : ∃ g, A = some ⟨g, 0, none⟩ ∧ base ≤ g ∧ g < w.heap.size ∧ w.rangeAt g (j * k) (enc x) := by
 have hn : l ≠ [] := fun e => by subst e; cases hj
 obtain ⟨g, cap, cur, hv, hb, hg, _⟩ := h.block hn
 obtain ⟨A', c', hv', _, hx⟩ := h.read hk
 injection hv with e1 e2 e3
 injection hv' with e1' e2' e3'
 obtain ⟨b, o, hA, hbl, hc⟩ := hx hn
 rw [← e1', e1] at hA
 injection hA with hA
 injection hA with h1 h2
 subst h1 h2
 refine ⟨g, e1, hb, hbl, ?_⟩
 have := hc j x hj
 rwa [Nat.zero_add] at this
def pAll (sb R0 : Nat) (v3 : Value) (m n : Option Nat) (x : El) (l : List (Dt × Va)) : Nat → Value → World → Prop
 | 0, u, _ => u = v3
 | 1, u, _ => u = eE x
 | 2, u, _ => u = .pointer (some ⟨sb, 0, none⟩)
 | 3, u, _ => u = .pointer (some ⟨sb, 0, none⟩)
 | 4, u, _ => u = .pointer (some ⟨sb, 0, none⟩)
 | 5, u, _ => u = .map m
 | 6, u, _ => u = eE x
 | 7, u, _ => u = .map n
 | 8, u, W => RowIs W R0 u l
 | 9, u, W => ∃ r, u = .agg (enI (x, r)).toArray ∧ RowIs W R0 r l
 | 10, u, W => ∃ r g, u = .slice (some ⟨g, 0, none⟩) 1 1 ∧ Blk W g 100 (enI (x, r)).toArray ∧ RowIs W R0 r l
 | _, _, _ => True
theorem pAll_keep (sb R0 : Nat) (v3 : Value) (m n : Option Nat) (x : El) (l : List (Dt × Va)) (i : Nat) (v : Value) (w w' : World) (hb : Below w.heap.size w w') (h : pAll sb R0 v3 m n x l i v w) : pAll sb R0 v3 m n x l i v w' := by
 match i, h with
 | 0, h => exact h
 | 1, h => exact h
 | 2, h => exact h
 | 3, h => exact h
 | 4, h => exact h
 | 5, h => exact h
 | 6, h => exact h
 | 7, h => exact h
 | 8, h => exact RowIs.keep h hb
 | 9, ⟨r, h1, h2⟩ => exact ⟨r, h1, h2.keep hb⟩
 | 10, ⟨r, g, h1, h2, h3⟩ => exact ⟨r, g, h1, h2.below hb h2.lt, h3.keep hb⟩
 | _ + 11, _ => trivial
set_option maxRecDepth 100000 in
set_option maxHeartbeats 4000000 in
theorem all_any (sb : Nat) (F : Nat → Prop) (σ : List (El × List (Dt × Va))) (w : World) (hS : StoreIs w sb F σ) (hl : σ.length ≤ 1000000) (hr : ∀ x, (entS x σ).length ≤ 1000000) :
  Calls Tryz.prog 55 #[.pointer (some ⟨sb, 0, none⟩)] w fun e w' => ∃ v es, e = .returned v ∧ es.Perm (keysL σ) ∧ (es.Pairwise fun x y => ltOf cfE y x = false) ∧ ItemsIs w' w.heap.size v σ es ∧ Below w.heap.size w w' := by
 have hpn := fun w => ptr_eql_nil sb w
 obtain ⟨i0, hi, hz0, hz1, hz2⟩ := info_parts infoI
 obtain ⟨m, I, hb, htop, hkeys, hlook⟩ := hS.top
 have HLk := hid hlook
 have HSb := hid hb
 have c0 : w.cell? ⟨sb, 0, none⟩ = some (.map m) := (Blk.cell hb 0).trans rfl
 have hIl : I.length ≤ 1000000 := by
  have := congrArg List.length hkeys
  simp [keysL] at this
  omega
 obtain ⟨R0, hR0⟩ : ∃ R0, w.heap.size = R0 := ⟨_, rfl⟩
 have HR := hid hR0
 have HRw := hid hr
 have HIl := hid hIl
 have HT := hid htop
 have HK := hid hkeys
 clear hlook hb hl hr hR0 hIl htop hkeys hS
 go_enter Tryz.func55, Tryz.ntmps55
 go_wp2_with fail
 refine (keys_any m w).mono ?_
 rintro e w1 ⟨rfl, rfl⟩
 rw [HR.out]
 have hb1 : Below R0 w (w.alloc (.cells #[.map m] 89)) := (Below.refl _ _).alloc (by rw [HR.out]; exact Nat.le_refl _) _
 have hsz1 : R0 < (w.alloc (.cells #[.map m] 89)).heap.size := by rw [← HR.out]; simp
 have hc1 : (w.alloc (.cells #[.map m] 89)).cell? ⟨R0, 0, none⟩ = some (.map m) := by
  rw [← HR.out]; exact (Blk.cell (Blk.new w _ _) 0).trans rfl
 have ht1 : TopIs (w.alloc (.cells #[.map m] 89)) m I := by
  rcases HT.out with h | ⟨b, h1, h2⟩
  ·exact .inl h
  ·exact .inr ⟨b, h1, h2.same (hb1.block b (by rw [← HR.out]; exact h2.lt))⟩
 obtain ⟨w1, hw1⟩ : ∃ w1, w1 = w.alloc (.cells #[.map m] 89) := ⟨_, rfl⟩
 rw [← hw1] at hb1 hsz1 hc1 ht1 ⊢
 clear hw1
 have HB1 := hid hb1
 have HS1 := hid hsz1
 have HC1 := hid hc1
 have HT1 := hid ht1
 clear hb1 hsz1 hc1 ht1 c0 hpn
 go_wp2_with fail
 refine (sorted_any R0 m I w1 HS1.out HC1.out HT1.out HIl.out).mono ?_
 rintro e w2 ⟨kv, ss, rfl, hp, hs, ho, hb2⟩
 have hss : ss.length ≤ 1000000 := by
  have := hp.length_eq
  have h2 := HIl.out
  simp [keysL] at this
  omega
 have HB2 := hid (HB1.out.trans (hb2.mono (by have := HS1.out; omega)))
 have HO := hid (ho.base_ (b' := R0) (Nat.le_of_lt HS1.out))
 have HP := hid (hp.trans (by rw [HK.out]))
 have HQ := hid hs
 have HSS := hid hss
 obtain ⟨A, c, rfl, hlc, hx⟩ := ho.read enL_len
 obtain ⟨N, hN⟩ : ∃ N, ss.length = N := ⟨_, rfl⟩
 have HN := hid hN
 rw [hN]
 clear hp hs ho hb2 hss hlc hx hN HB1 HS1 HC1 HT1
 go_wp2_with fail
 go_loopw [3, 15] (fun v3 v15 wr => ∃ (j : Nat) (acc : List (El × Value)), v15 = .int .i64 j ∧ j ≤ N ∧ OwnK enI R0 100 6 wr v3 acc ∧ acc.map Prod.fst = ss.take j ∧ (∀ p ∈ acc, RowIs wr R0 p.2 (entS p.1 σ)) ∧ OwnK enL R0 38 5 wr (.slice A N c) ss ∧ Below R0 w wr) (fun _ v15 _ => N - (intOf v15).toNat)
 case atStart => exact ⟨0, [], rfl, Nat.zero_le _, OwnK.nil_ _ _ _ _ _, rfl, (fun p hp => by cases hp), by have := HO.out; rwa [HN.out] at this, HB2.out⟩
 case round =>
  obtain ⟨j, acc, rfl, hj, hoi, hacc, hrows, hok, hbw⟩ := hrel
  clear HO HB2
  by_cases hlt : j < N
  ·obtain ⟨x, hx⟩ : ∃ x, ss[j]? = some x := ⟨ss[j]'(by rw [HN.out]; exact hlt), List.getElem?_eq_getElem _⟩
   obtain ⟨g, rfl, hgb, hgl, hcell⟩ := hok.at_ enL_len hx
   obtain ⟨n, hnl⟩ := HLk.out x
   have hlx := HRw.out x
   obtain ⟨l, hle⟩ : ∃ l, entS x σ = l := ⟨_, rfl⟩
   rw [hle] at hnl hlx
   have HLe := hid hle
   have HX := hid hx
   have HNl := hid hnl
   have HLx := hid hlx
   have hal : acc.length = j := by
    have := congrArg List.length hacc
    rw [List.length_map, List.length_take, HN.out] at this
    omega
   clear hx hnl hlx hle
   have hwr : R0 ≤ wr.heap.size := by have := hbw.size; have := HR.out; omega
   have hAl := fun c => World.setRow_alloc_new wr #[.int .i64 0, .string ⟨#[]⟩, .string ⟨#[]⟩, .string ⟨#[]⟩, .string ⟨#[]⟩] c 38
   have hZ : Blk (wr.alloc (.cells #[.int .i64 0, .string ⟨#[]⟩, .string ⟨#[]⟩, .string ⟨#[]⟩, .string ⟨#[]⟩] 38)) wr.heap.size 38 #[.int .i64 0, .string ⟨#[]⟩, .string ⟨#[]⟩, .string ⟨#[]⟩, .string ⟨#[]⟩] := Blk.new _ _ _
   obtain ⟨X, hX⟩ : ∃ X, X = wr.alloc (.cells (enL x).toArray 38) := ⟨_, rfl⟩
   have hbX : Below wr.heap.size wr X := by rw [hX]; exact (Below.refl _ _).alloc (Nat.le_refl _) _
   have hBX : Blk X wr.heap.size 38 (enL x).toArray := by rw [hX]; exact Blk.new _ _ _
   have HXe := hid hX
   have HBX := hid hBX
   have HOi := hid (hoi.keep hbX)
   have HOk := hid (hok.keep hbX)
   have HRs := hid (show ∀ p ∈ acc, RowIs X R0 p.2 (entS p.1 σ) from fun p hp => (hrows p hp).keep hbX)
   have HbX := hid (hbw.trans (hbX.mono hwr))
   have HA := hid hacc
   have HAl := hid hal
   have HC := hid hcell
   have hRX : R0 ≤ X.heap.size := Nat.le_trans hwr hbX.size
   have HRX := hid hRX
   have hat := at_L g c N j hlt wr
   have hat' := hid hat
   clear hX hBX hoi hok hrows hbw hacc hal hgb hgl hwr hbX hcell hRX hat
   obtain ⟨kk, xa, xb, xc, xd⟩ := x
   simp only [enL] at HXe HBX HC
   go_upto_region 7 with (first
    | (refine wpList_val (o := ⟨some 17, _, _, _, _, _⟩) rfl (.pointer (some ⟨g, j * 5, none⟩)) wr (run_indexAddr_op rfl rfl rfl hat'.out) ?_)
    | (refine wpList_load_midif rfl 38 (.tmp 17) rfl g (j * 5) rfl [.int .i64 kk, .string xa, .string xb, .string xc, .string xd] _ HC.out Tryz.underlying38 rfl (by kernel_rfl) ?_)
    | (refine wpList_store_row rfl 38 (.tmp 5) (.tmp 18) rfl wr.heap.size #[.int .i64 kk, .string xa, .string xb, .string xc, .string xd] rfl rfl _ _ hZ (by kernel_rfl) rfl (by kernel_rfl) ?_; rw [hAl, ← HXe.out]))
   clear hZ hAl
   refine wp_region_any (by kernel_rfl) ?_
   refine Lt.wpAny_mid (pAll sb R0 u3 m n ⟨kk, xa, xb, xc, xd⟩ l) _ X 11 _ _ (fun v' W => ∃ r, OwnK enI R0 100 6 W v' (acc ++ [(⟨kk, xa, xb, xc, xd⟩, r)]) ∧ RowIs W R0 r l ∧ (∀ p ∈ acc, RowIs W R0 p.2 (entS p.1 σ)) ∧ OwnK enL R0 38 5 W (.slice (some ⟨g, 0, none⟩) N c) ss ∧ Below R0 w W) (by kernel_rfl) rfl rfl (by kernel_rfl) (by kernel_rfl) (by kernel_rfl) (by kernel_rfl) (by kernel_rfl) (fun i v w w' hb h => pAll_keep _ _ _ _ _ _ _ i v w w' hb h) ?_ ?_ ?_ ?_
   ·refine ⟨?_, ?_, ?_, ?_, ?_, ?_, ?_, ?_, ?_, ?_, ?_, fun h => absurd h (Nat.lt_irrefl _), fun h => absurd h (by decide), trivial⟩
    ·intro _ a W hI hun haft hi
     have e3 := hun 3 (by kernel_rfl)
     exact b_same hi hI rfl _ (run_move_op rfl e3) rfl
    ·intro _ a W hI hun haft hi
     have e5 := hun 5 (by kernel_rfl)
     exact b_same hi hI rfl _ (run_load_op rfl e5 (Blk.below HBX.out hI (Blk.lt HBX.out)) Tryz.underlying38 rfl (by kernel_rfl)) rfl
    ·intro _ a W hI hun haft hi
     have e0 := hun 0 (by kernel_rfl)
     exact b_same hi hI rfl _ (run_move_op rfl e0) rfl
    ·intro _ a W hI hun haft hi
     have f2 := haft ⟨2, .data⟩ (by simp) rfl _ _ rfl rfl
     exact b_same hi hI rfl _ (run_nilCheck_op rfl f2) rfl
    ·intro _ a W hI hun haft hi
     have f3 := haft ⟨3, .data⟩ (by simp) rfl _ _ rfl rfl
     exact b_same hi hI rfl _ (run_fieldAddr_any rfl f3 (at_store0 _ 0 _)) rfl
    ·intro _ a W hI hun haft hi
     have f4 : a.eval (.tmp 23) = .pointer (some ⟨sb, 0, none⟩) := haft ⟨4, .data⟩ (by simp) rfl _ _ rfl rfl
     have hwW : Below w.heap.size w W := by rw [HR.out]; exact HbX.out.trans (hI.mono HRX.out)
     exact b_same hi hI rfl _ (run_loadmap_op rfl f4 Tryz.underlying89 ((Blk.cell (Blk.below HSb.out hwW (Blk.lt HSb.out)) 0).trans rfl)) rfl
    ·intro _ a W hI hun haft hi
     have e5 := hun 5 (by kernel_rfl)
     exact b_same hi hI rfl _ (run_load_op rfl e5 (Blk.below HBX.out hI (Blk.lt HBX.out)) Tryz.underlying38 rfl (by kernel_rfl)) rfl
    ·intro _ a W hI hun haft hi
     have f5 := haft ⟨5, .data⟩ (by simp) rfl _ _ rfl rfl
     have f6 := haft ⟨6, .data⟩ (by simp) rfl _ _ rfl rfl
     have hwW : Below w.heap.size w W := by rw [HR.out]; exact HbX.out.trans (hI.mono HRX.out)
     exact b_same hi hI rfl _ (run_lookup_op rfl f5 f6 (HNl.out W hwW).1) rfl
    ·intro _ a W hI hun haft hi
     have f7 : a.eval (.tmp 26) = .map n := haft ⟨7, .data⟩ (by simp) rfl _ _ rfl rfl
     have hwW : Below w.heap.size w W := by rw [HR.out]; exact HbX.out.trans (hI.mono HRX.out)
     refine b_call hi hI rfl _ _ (run_call_op (args := #[.map n]) rfl (by simp [f7]) (by kernel_rfl)) ?_
     exact (row_any n F l W (HNl.out W hwW).2 HLx.out).mono fun e w' ⟨v, he, hrow, hb⟩ => ⟨v, he, hrow.base_ (Nat.le_trans HRX.out hI.size), hb⟩
    ·intro _ a W hI hun haft hi
     have f1 : a.eval (.tmp 20) = eE ⟨kk, xa, xb, xc, xd⟩ := haft ⟨1, .data⟩ (by simp) rfl _ _ rfl rfl
     have f8 : RowIs W R0 (a.eval (.tmp 27)) l := haft ⟨8, .data⟩ (by simp) rfl _ _ rfl rfl
     obtain ⟨A, na, ca, f9⟩ := f8.slice
     rw [f9] at f8
     exact b_same hi hI rfl _ (run_build_op (vs := #[(0, eE ⟨kk, xa, xb, xc, xd⟩), (1, .slice A na ca)]) rfl (by simp only [List.map_toArray, List.map_cons, List.map_nil, f1, f9] <;> rfl) (by kernel_rfl)) ⟨_, rfl, f8⟩
    ·intro _ a W hI hun haft hi
     obtain ⟨r, f9, hr⟩ : ∃ r, a.eval (.tmp 28) = .agg (enI (⟨kk, xa, xb, xc, xd⟩, r)).toArray ∧ RowIs W R0 r l := haft ⟨9, .data⟩ (by simp) rfl _ _ rfl rfl
     obtain ⟨A, na, ca, rfl⟩ := hr.slice
     have hba : Below W.heap.size W (W.alloc (.cells #[.int .i64 kk, .string xa, .string xb, .string xc, .string xd, .slice A na ca] 100)) := (Below.refl _ _).alloc (Nat.le_refl _) _
     exact b_val hi hI rfl _ _ (run_buildSlice_op (vs := #[(0, .agg #[.int .i64 kk, .string xa, .string xb, .string xc, .string xd, .slice A na ca])]) rfl (by simp only [List.map_toArray, List.map_cons, List.map_nil, f9] <;> rfl) (bsI _ _ _ _ _ _ _ _ _)) hba ⟨_, _, rfl, Blk.new _ _ _, hr.keep hba⟩
   ·intro a W hI haft
    have f0 := haft ⟨0, .data⟩ (by simp) rfl _ _ rfl rfl
    obtain ⟨r, gb, f10, hbk, hr⟩ : ∃ r gb, a.eval (.tmp 29) = .slice (some ⟨gb, 0, none⟩) 1 1 ∧ Blk W gb 100 (enI (⟨kk, xa, xb, xc, xd⟩, r)).toArray ∧ RowIs W R0 r l := haft ⟨10, .data⟩ (by simp) rfl _ _ rfl rfl
    have hRW : R0 ≤ W.heap.size := Nat.le_trans HRX.out hI.size
    have hbw : Below R0 w W := HbX.out.trans (hI.mono HRX.out)
    have ho1 := HOi.out.keep hI
    have hk1 := HOk.out.keep hI
    have hone := hr.one
    obtain ⟨v', w', hrun, hown', hgrow, _⟩ := run_append_own (P := Tryz.prog) W R0 96 96 100 i0 _ 6 96 Tryz.underlying96 hi hz0 hz1 hz2 rfl (by decide) u3 acc.length (acc.flatMap enI) ho1 ⟨gb, 0, none⟩ 1 1 (enI (⟨kk, xa, xb, xc, xd⟩, r)) rfl
     (fun q u hu => by rw [Addr.add_lit, Blk.cell hbk]; simpa using hu)
     (by intro u hu; simp only [enI, List.mem_cons, List.not_mem_nil, or_false] at hu; rcases hu with rfl | rfl | rfl | rfl | rfl | rfl <;> first | rfl | exact hone)
     (by have h1 := HAl.out; have h2 := HSS.out; have h3 := HN.out; unfold maxLen; omega) (by have h1 := HAl.out; have h2 := HSS.out; have h3 := HN.out; omega) hRW
    refine wpOp_val rfl rfl v' w' (run_append_op rfl f0 f10 hrun) ?_
    refine ⟨v', rfl, r, ?_, ?_, ?_, ?_, ?_⟩
    ·unfold OwnK
     rw [List.length_append, List.flatMap_append]
     simpa using hown'
    ·obtain ⟨l', q1, q2, q3⟩ := hr
     exact ⟨l', q1, q2, q3.grown ne_NI ho1 hgrow⟩
    ·intro p hp
     obtain ⟨l', q1, q2, q3⟩ := (HRs.out p hp).keep hI
     exact ⟨l', q1, q2, q3.grown ne_NI ho1 hgrow⟩
    ·exact hk1.grown ne_EI ho1 hgrow
    ·exact hbw.grown hgrow hRW (fun q e => (ho1.lt q e).1)
   ·intro v a W hv
    have f11 : a.eval (.tmp 30) = v := hv 30 rfl
    exact wpOp_val rfl rfl v W (run_assign_op rfl f11) ⟨rfl, rfl⟩
   ·rintro vals W ⟨r, q1, q2, q3, q4, q5⟩ hv12
    have Q1 := hid q1
    have Q2 := hid q2
    have Q3 := hid q3
    have Q4 := hid q4
    have Q5 := hid q5
    clear q1 q2 q3 q4 q5
    simp only [layN, layS, List.range, List.range.loop, if_true, Act.put, Nat.zero_add, Nat.reduceAdd, hv12]
    generalize vals 0 = y0, vals 1 = y1, vals 2 = y2, vals 3 = y3, vals 4 = y4, vals 5 = y5, vals 6 = y6, vals 7 = y7, vals 8 = y8, vals 9 = y9, vals 10 = y10, vals 11 = y11 at *
    have hw := IntWalk.i64_in ((j : Int) + 1) (by have h1 := HN.out; have h2 := HSS.out; omega)
    have hjm : ¬ 9223372036854775807 < j + 1 := by have h1 := HN.out; have h2 := HSS.out; omega
    go_wp2
    go_roundw
    case rel =>
     refine ⟨j + 1, acc ++ [(⟨kk, xa, xb, xc, xd⟩, r)], by go_num, by omega, Q1.out, ?_, ?_, Q4.out, Q5.out⟩
     ·rw [List.map_append, HA.out, List.take_add_one, HX.out]; rfl
     ·intro p hp
      rcases List.mem_append.1 hp with h | h
      ·exact Q3.out p h
      ·simp only [List.mem_singleton] at h
       rw [h, HLe.out]; exact Q2.out
    case measure => simp [intOf] <;> omega
  ·have hjN : j = N := by omega
   subst hjN
   rw [List.take_of_length_le (Nat.le_of_eq HN.out)] at hacc
   have HIt := hid (show ItemsIs wr R0 u3 σ ss from ⟨acc, hoi, hacc, hrows⟩)
   have HBw := hid hbw
   clear hoi hacc hrows hbw hok
   go_wp2
   go_ret
   exact ⟨_, ss, rfl, HP.out, HQ.out, by rw [HR.out]; exact HIt.out, by rw [HR.out]; exact HBw.out⟩
end Go.Proofs.YtdgglhlofnigkaaGreatDoor
