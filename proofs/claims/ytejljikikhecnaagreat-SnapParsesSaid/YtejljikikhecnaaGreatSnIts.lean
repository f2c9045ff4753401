/-
  hedgerowlaw12.items: one entry comes to an item's dots and values (written by gensn12.py). Conditions: lengths.
-/
import Derived.Test.YtejljikikhecnaaGreatSnOt
import Derived.Test.YtejljikikhecnaaGreatFour
import Derived.Test.YtejljikikhecnaaGreatSnFixed
import Derived.Deep.DeepCutAuto
namespace Go.Proofs.YtejljikikhecnaaGreat.Ot
open Go.RowKit

def encD (d : Dt) : List Value := [.int .i64 d.r, .int .i64 d.c]
def encVl (x : Va) : List Value := [.int .i64 x.k, .int .i64 x.n, .string x.t]
def riA (e : El) (D V : Value) : Array Value := #[.int .i64 e.k, .string e.a, .string e.b, .string e.c, .string e.d, D, V]
theorem encD_len (d : Dt) : (encD d).length = 2 := rfl
theorem encVl_len (x : Va) : (encVl x).length = 3 := rfl
theorem infoDt : (Tryz.prog.info? 43).map (fun i => (i.zero, i.size, i.bytes)) = some (some (.agg #[.int .i64 0, .int .i64 0]), 2, 16) := by kernel_rfl
theorem infoVl : (Tryz.prog.info? 47).map (fun i => (i.zero, i.size, i.bytes)) = some (some (.agg #[.int .i64 0, .int .i64 0, .string ⟨#[]⟩]), 3, 32) := by kernel_rfl
theorem sizeDt : (Tryz.prog.info? 43).map (·.size) = some 2 := by kernel_rfl
theorem sizeVl : (Tryz.prog.info? 47).map (·.size) = some 3 := by kernel_rfl
theorem at_ri1 (g : Nat) (w : World) : (Instr.fieldAt 89 (.pointer (some ⟨g, 0, none⟩)) 1).run Tryz.prog w = .ok (.pointer (some ⟨g, 5, none⟩)) w := by go_simp
theorem at_ri2 (g : Nat) (w : World) : (Instr.fieldAt 89 (.pointer (some ⟨g, 0, none⟩)) 2).run Tryz.prog w = .ok (.pointer (some ⟨g, 6, none⟩)) w := by go_simp
theorem at_en0 (g : Nat) (w : World) : (Instr.fieldAt 63 (.pointer (some ⟨g, 0, none⟩)) 0).run Tryz.prog w = .ok (.pointer (some ⟨g, 0, none⟩)) w := by go_simp
theorem at_en1 (g : Nat) (w : World) : (Instr.fieldAt 63 (.pointer (some ⟨g, 0, none⟩)) 1).run Tryz.prog w = .ok (.pointer (some ⟨g, 2, none⟩)) w := by go_simp
theorem bs_dot (d : Dt) (w : World) : (Instr.buildSlice 86 1 #[(0, .agg #[.int .i64 d.r, .int .i64 d.c])]).run Tryz.prog w = .ok (.slice (some ⟨w.heap.size, 0, none⟩) 1 1) (w.alloc (.cells #[.int .i64 d.r, .int .i64 d.c] 43)) := by go_simp
theorem bs_val (x : Va) (w : World) : (Instr.buildSlice 87 1 #[(0, .agg #[.int .i64 x.k, .int .i64 x.n, .string x.t])]).run Tryz.prog w = .ok (.slice (some ⟨w.heap.size, 0, none⟩) 1 1) (w.alloc (.cells #[.int .i64 x.k, .int .i64 x.n, .string x.t] 47)) := by go_simp
theorem sl_blk {α : Type} {enc : α → List Value} {k : Nat} {w : World} {g : Nat} {t : TypeId} {x : α} (hb : Blk w g t (enc x).toArray) : SlK enc k w (.slice (some ⟨g, 0, none⟩) 1 1) [x] := by
  refine ⟨_, 1, rfl, Nat.le_refl _, fun _ => ⟨g, 0, rfl, hb.lt, fun j y hj => ?_⟩⟩
  have : j = 0 := by
    have := (List.getElem?_eq_some_iff.1 hj).1
    simpa using this
  subst this
  have : y = x := by simpa using hj.symm
  subst this
  intro i u hu
  rw [show 0 + 0 * k + i = i from by omega, hb.cell i]
  simpa using hu
/-- What the operations of a step yield. -/
def pI (q : Nat) (d : Dt) (x : Va) (i : Nat) (v : Value) (W : World) : Prop := match i with
  | 4 => ∃ g, v = .slice (some ⟨g, 0, none⟩) 1 1 ∧ q ≤ g ∧ Blk W g 43 #[.int .i64 d.r, .int .i64 d.c]
  | 10 => ∃ g, v = .slice (some ⟨g, 0, none⟩) 1 1 ∧ q ≤ g ∧ Blk W g 47 #[.int .i64 x.k, .int .i64 x.n, .string x.t]
  | _ => True
/-- All is as it was but for the dots' block and the values'. -/
def StI (D V : Value) (w w' : World) : Prop := w.heap.size ≤ w'.heap.size ∧ ∀ g, g < w.heap.size → D.ownBlock ≠ some g → V.ownBlock ≠ some g → w'.heap[g]? = w.heap[g]?
theorem pI_keep {q : Nat} {d : Dt} {x : Va} {D V : Value} {tab : List (Option Value)} (hD : ∀ g, D.ownBlock = some g → g < q) (hV : ∀ g, V.ownBlock = some g → g < q) (i : Nat) (v : Value) (w w' : World) (hs : StI D V w w') (h : pN tab (pI q d x) i v w) : pN tab (pI q d x) i v w' := by
  have key : ∀ (t : TypeId) (cs : Array Value) (g : Nat), q ≤ g → Blk w g t cs → Blk w' g t cs := fun t cs g hq hb => (hs.2 g hb.lt (fun e => by have := hD g e; omega) (fun e => by have := hV g e; omega)).trans hb
  unfold pN at *
  split at h
  · exact h
  · unfold pI at *
    split at h
    · obtain ⟨g, e, hq, hb⟩ := h
      exact ⟨g, e, hq, key _ _ g hq hb⟩
    · obtain ⟨g, e, hq, hb⟩ := h
      exact ⟨g, e, hq, key _ _ g hq hb⟩
    · trivial
/-- An item under way: its block, an entry's, its dots and values. -/
def ItW (b0 : Nat) (wr : World) (y6 : Nat) (e : El) (D V : Value) (w : World) (v : Value) (ds : List Dt) (u : Value) (vs : List Va) : Prop :=
  Blk w y6 89 (riA e D V) ∧ Below b0 wr w ∧ OwnK encD b0 43 2 w v ds ∧ OwnK encVl b0 47 3 w u vs

section
variable {b0 y6 : Nat} {wr w w' : World} {e : El} {D V v u v' : Value} {ds ds' : List Dt} {vs vs' : List Va}
theorem _root_.Go.Proofs.YtejljikikhecnaaGreat.Blk.grown_own {R k : Nat} {t t' : TypeId} {cs : Array Value} {g n : Nat} {xs : List Value} (hb : Blk w g t cs) (hg : w.grownBy w' v.ownBlock) (ho : w.ownsRow R t' k v n xs) (hn : t' ≠ t) : Blk w' g t cs :=
  (hg.block g hb.lt fun e => by
    obtain ⟨_, c2, hb2⟩ := own_blk ho e.symm
    exact blk_ne hb2 hb hn rfl).trans hb
theorem ItW.size (h : ItW b0 wr y6 e D V w v ds u vs) (h0 : b0 = wr.heap.size) : b0 ≤ w.heap.size := h0 ▸ h.2.1.size
theorem ItW.keep (h : ItW b0 wr y6 e D V w v ds u vs) (hb : Below w.heap.size w w') (h0 : b0 = wr.heap.size) : ItW b0 wr y6 e D V w' v ds u vs :=
  ⟨h.1.below hb h.1.lt, h.2.1.trans (hb.mono (h.size h0)), own_keep h.2.2.1 fun g hg => hb.block g (Blk.lt (own_blk h.2.2.1 hg).2.choose_spec), own_keep h.2.2.2 fun g hg => hb.block g (Blk.lt (own_blk h.2.2.2 hg).2.choose_spec)⟩
theorem ItW.dots (h : ItW b0 wr y6 e D V w v ds u vs) (hg : w.grownBy w' v.ownBlock) (ho : OwnK encD b0 43 2 w' v' ds') (h0 : b0 = wr.heap.size) : ItW b0 wr y6 e D V w' v' ds' u vs :=
  ⟨h.1.grown_own hg h.2.2.1 (by decide), h.2.1.grown hg (h.size h0) (fun k hk => (own_blk h.2.2.1 hk).1), ho, own_keep h.2.2.2 fun g hgu => by
    obtain ⟨_, cs, hb⟩ := own_blk h.2.2.2 hgu
    exact (hb.grown_own hg h.2.2.1 (by decide)).trans hb.symm⟩
theorem ItW.vals (h : ItW b0 wr y6 e D V w v ds u vs) (hg : w.grownBy w' u.ownBlock) (ho : OwnK encVl b0 47 3 w' v' vs') (h0 : b0 = wr.heap.size) : ItW b0 wr y6 e D V w' v ds v' vs' :=
  ⟨h.1.grown_own hg h.2.2.2 (by decide), h.2.1.grown hg (h.size h0) (fun k hk => (own_blk h.2.2.2 hk).1), own_keep h.2.2.1 fun g hgu => by
    obtain ⟨_, cs, hb⟩ := own_blk h.2.2.1 hgu
    exact (hb.grown_own hg h.2.2.2 (by decide)).trans hb.symm, ho⟩
theorem ItW.far (h : ItW b0 wr y6 e D V w v ds u vs) (i : Nat) (z : Value) : OwnK encD b0 43 2 (w.setCell ⟨y6, i, none⟩ z) v ds ∧ OwnK encVl b0 47 3 (w.setCell ⟨y6, i, none⟩ z) u vs :=
  ⟨own_keep h.2.2.1 fun g hg => Below.heap_setCell w ⟨y6, i, none⟩ z g (by obtain ⟨_, cs, hb⟩ := own_blk h.2.2.1 hg; exact blk_ne hb h.1 (by decide)),
   own_keep h.2.2.2 fun g hg => Below.heap_setCell w ⟨y6, i, none⟩ z g (by obtain ⟨_, cs, hb⟩ := own_blk h.2.2.2 hg; exact blk_ne hb h.1 (by decide))⟩
theorem ItW.set5 (h : ItW b0 wr y6 e D V w v ds u vs) (h0 : b0 = wr.heap.size) (h6 : b0 ≤ y6) : ItW b0 wr y6 e v V (w.setCell ⟨y6, 5, none⟩ v) v ds u vs :=
  ⟨by simpa [riA] using h.1.set_ 5 v, h.2.1.trans ((But.setCell w y6 5 v).below h6 (h.size h0)), (h.far 5 v).1, (h.far 5 v).2⟩
theorem ItW.set6 (h : ItW b0 wr y6 e D V w v ds u vs) (h0 : b0 = wr.heap.size) (h6 : b0 ≤ y6) : ItW b0 wr y6 e D u (w.setCell ⟨y6, 6, none⟩ u) v ds u vs :=
  ⟨by simpa [riA] using h.1.set_ 6 u, h.2.1.trans ((But.setCell w y6 6 u).below h6 (h.size h0)), (h.far 6 u).1, (h.far 6 u).2⟩
end
theorem append_dot (R : Nat) (w : World) (v : Value) (ds : List Dt) (h : OwnK encD R 43 2 w v ds) (hR : R ≤ w.heap.size) (u : Value) (d : Dt) (hu : SlK encD 2 w u [d]) (hn : ds.length ≤ 20000) :
    ∃ v' w', (Builtin.append_ #[86, 86] 86 #[v, u]).run Tryz.prog w = .ok v' w' ∧ OwnK encD R 43 2 w' v' (ds ++ [d]) ∧ w.grownBy w' v.ownBlock := by
  obtain ⟨i, hi, hz0, hz1, hz2⟩ := info_parts infoDt
  exact run_append_K1 (P := Tryz.prog) encD_len (by decide) w R 86 86 43 i _ 16 Tryz.underlying86 hi hz0 hz1 hz2 rfl v ds h u [d] hu (fun p _ x hx => by
    simp only [encD, List.mem_cons, List.not_mem_nil, or_false] at hx
    rcases hx with rfl | rfl <;> rfl) (by simp; omega) (by simp; omega) hR
theorem append_val (R : Nat) (w : World) (v : Value) (vs : List Va) (h : OwnK encVl R 47 3 w v vs) (hR : R ≤ w.heap.size) (u : Value) (x : Va) (hu : SlK encVl 3 w u [x]) (hn : vs.length ≤ 20000) :
    ∃ v' w', (Builtin.append_ #[87, 87] 87 #[v, u]).run Tryz.prog w = .ok v' w' ∧ OwnK encVl R 47 3 w' v' (vs ++ [x]) ∧ w.grownBy w' v.ownBlock := by
  obtain ⟨i, hi, hz0, hz1, hz2⟩ := info_parts infoVl
  exact run_append_K1 (P := Tryz.prog) encVl_len (by decide) w R 87 87 47 i _ 32 Tryz.underlying87 hi hz0 hz1 hz2 rfl v vs h u [x] hu (fun p _ x hx => by
    simp only [encVl, List.mem_cons, List.not_mem_nil, or_false] at hx
    rcases hx with rfl | rfl | rfl <;> rfl) (by simp; omega) (by simp; omega) hR
/-- The reference's items. -/
def encRI (x : El × Value × Value) : List Value := (riA x.1 x.2.1 x.2.2).toList
theorem encRI_len (x : El × Value × Value) : (encRI x).length = 7 := rfl
theorem infoRI : (Tryz.prog.info? 89).map (fun i => (i.zero, i.size, i.bytes)) = some (some (.agg #[.int .i64 0, .string ⟨#[]⟩, .string ⟨#[]⟩, .string ⟨#[]⟩, .string ⟨#[]⟩, .slice none 0 0, .slice none 0 0]), 7, 120) := by kernel_rfl
def RIts (R : Nat) (w : World) (u : Value) (I : List (El × List (Dt × Va))) : Prop :=
  ∃ L : List (El × Value × Value), OwnK encRI R 89 7 w u L ∧ L.length = I.length ∧ ∀ (i : Nat) (y : El × Value × Value) (q : El × List (Dt × Va)), L[i]? = some y → I[i]? = some q →
    y.1 = q.1 ∧ OwnK encD R 43 2 w y.2.1 (q.2.map Prod.fst) ∧ OwnK encVl R 47 3 w y.2.2 (q.2.map Prod.snd)
theorem RIts.keep {R : Nat} {w w' : World} {u : Value} {I : List (El × List (Dt × Va))} (h : RIts R w u I) (hb : Below w.heap.size w w') : RIts R w' u I := by
  obtain ⟨L, h1, h2, h3⟩ := h
  have key : ∀ {e : TypeId} {k n : Nat} {v : Value} {xs : List Value}, w.ownsRow R e k v n xs → w'.ownsRow R e k v n xs := fun h => own_keep h fun g hg => hb.block g (Blk.lt (own_blk h hg).2.choose_spec)
  exact ⟨L, key h1, h2, fun i y q hy hq => ⟨(h3 i y q hy hq).1, key (h3 i y q hy hq).2.1, key (h3 i y q hy hq).2.2⟩⟩

theorem append_ri (R : Nat) (w : World) (u : Value) (L : List (El × Value × Value)) (h : OwnK encRI R 89 7 w u L) (hR : R ≤ w.heap.size) (y : El × Value × Value) (h1 : y.2.1.oneCell' = true) (h2 : y.2.2.oneCell' = true) (hn : L.length ≤ 20000) :
    ∃ u' w', (Builtin.append_ #[38, 38] 38 #[u, .slice (some ⟨w.heap.size, 0, none⟩) 1 1]).run Tryz.prog (w.alloc (.cells (riA y.1 y.2.1 y.2.2) 89)) = .ok u' w' ∧ OwnK encRI R 89 7 w' u' (L ++ [y]) ∧
      (∀ (R' k n : Nat) (t : TypeId) (v : Value) (xs : List Value), 89 ≠ t → w.ownsRow R' t k v n xs → w'.ownsRow R' t k v n xs) ∧ Below R w w' := by
  obtain ⟨i, hi, hz0, hz1, hz2⟩ := info_parts infoRI
  have hba : Below w.heap.size w (w.alloc (.cells (riA y.1 y.2.1 y.2.2) 89)) := (Below.refl _ _).alloc (Nat.le_refl _) _
  have ho1 : OwnK encRI R 89 7 (w.alloc (.cells (riA y.1 y.2.1 y.2.2) 89)) u L := own_keep h fun g hg => hba.block g (Blk.lt (own_blk h hg).2.choose_spec)
  have hnew : Blk (w.alloc (.cells (riA y.1 y.2.1 y.2.2) 89)) w.heap.size 89 (encRI y).toArray := Blk.new w _ _
  obtain ⟨v', w', hr, ho, hg⟩ := run_append_K1 (P := Tryz.prog) encRI_len (by decide) _ R 38 38 89 i _ 120 Tryz.underlying38 hi hz0 hz1 hz2 rfl u L ho1 _ [y] (sl_blk (enc := encRI) (k := 7) hnew) (fun p hp x hx => by
    have : p = y := by simpa using hp
    subst this
    simp only [encRI, riA, List.mem_cons, List.not_mem_nil, or_false] at hx
    rcases hx with rfl | rfl | rfl | rfl | rfl | rfl | rfl <;> first | rfl | exact h1 | exact h2) (by simp; omega) (by simp; omega) (Nat.le_trans hR hba.size)
  refine ⟨v', w', hr, ho, fun R' k n t v xs hne hv => ?_, (hba.mono hR).grown hg (Nat.le_trans hR hba.size) (fun k hk => (own_blk ho1 hk).1)⟩
  have hv1 : (w.alloc (.cells (riA y.1 y.2.1 y.2.2) 89)).ownsRow R' t k v n xs := own_keep hv fun g hg => hba.block g (Blk.lt (own_blk hv hg).2.choose_spec)
  exact own_keep hv1 fun g hgv => by
    obtain ⟨_, cs, hb⟩ := own_blk hv1 hgv
    exact (hb.grown_own hg ho1 hne).trans hb.symm

set_option maxRecDepth 100000 in
set_option maxHeartbeats 4000000 in
theorem items_any (I : List (El × List (Dt × Va))) (A : Option Addr) (N c : Nat) (w : World) (hs : ItsIs w (.slice A N c) I) (hN : I.length = N) (hN2 : N ≤ 10000) (hx : ∀ q ∈ I, q.2.length ≤ 10000) :
    Calls Tryz.prog 13 #[.slice A N c] w fun r w' => ∃ u, r = .returned u ∧ RIts w.heap.size w' u I ∧ Below w.heap.size w w' := by
  obtain ⟨Ls, hsl, hll, hit⟩ := hs
  obtain ⟨A', c', hv, hlc, hcell⟩ := hsl
  injection hv with g1 g2 g3
  subst g1 g3
  have HX := Lib.hid hx
  have HIt := Lib.hid hit
  have HC := Lib.hid hcell
  have HLl := Lib.hid hll
  have HNl := Lib.hid hN
  obtain ⟨H, hH⟩ : ∃ H, H = w.heap.size := ⟨_, rfl⟩
  rw [← hH]
  have HH := Lib.hid hH
  clear hx hit hcell hlc hH g2 hll hN
  go_enter Tryz.func13, Tryz.ntmps13
  go_wp2_with fail
  go_loopw [3, 11] (fun u3 i ww => ∃ k : Nat, k ≤ N ∧ i = .int .i64 k ∧ RIts H ww u3 (I.take k) ∧ Below H w ww) (fun _ i _ => N - (intOf i).toNat)
  case atStart => exact ⟨0, Nat.zero_le _, rfl, ⟨[], OwnK.nil_ _ _ _ _ _, rfl, fun i y q hy => by simp at hy⟩, Below.refl _ _⟩
  case round =>
    obtain ⟨k, hk, rfl, hri, hbw⟩ := hrel
    generalize wr = ww at *
    have HRi := Lib.hid hri
    have HBw := Lib.hid hbw
    obtain ⟨L3, ho3, hl3, _⟩ := hri
    obtain ⟨A3, c3, h3, _, _⟩ := ho3.read encRI_len
    subst h3
    clear ho3 hbw hl3
    generalize L3.length = n3 at *
    by_cases hlt : k < N
    · have hki : k < I.length := by have := HNl.out; omega
      have hkl : k < Ls.length := by have := HLl.out; have := HNl.out; omega
      obtain ⟨Y, hY⟩ : ∃ Y, Y = Ls[k]'hkl := ⟨_, rfl⟩
      obtain ⟨Q, hQ⟩ : ∃ Q, Q = I[k]'hki := ⟨_, rfl⟩
      have hYk : Ls[k]? = some Y := by rw [hY]; exact List.getElem?_eq_getElem hkl
      have hQk : I[k]? = some Q := by rw [hQ]; exact List.getElem?_eq_getElem hki
      obtain ⟨hy1, A5, c5, hy2, hsE⟩ := HIt.out k Y Q hYk hQk
      obtain ⟨b1, o1, hA1, hb1, hc1⟩ := HC.out (fun e => by rw [e] at hkl; cases hkl)
      subst hA1
      have hcl := hc1 k Y hYk
      obtain ⟨e, he⟩ : ∃ e, e = Y.1 := ⟨_, rfl⟩
      have k0 := (HBw.out.cell (p := ⟨b1, o1 + k * 6 + 0, none⟩) (by rw [HH.out]; exact hb1)).trans (hcl 0 _ rfl)
      have k1 := (HBw.out.cell (p := ⟨b1, o1 + k * 6 + 1, none⟩) (by rw [HH.out]; exact hb1)).trans (hcl 1 _ rfl)
      have k2 := (HBw.out.cell (p := ⟨b1, o1 + k * 6 + 2, none⟩) (by rw [HH.out]; exact hb1)).trans (hcl 2 _ rfl)
      have k3 := (HBw.out.cell (p := ⟨b1, o1 + k * 6 + 3, none⟩) (by rw [HH.out]; exact hb1)).trans (hcl 3 _ rfl)
      have k4 := (HBw.out.cell (p := ⟨b1, o1 + k * 6 + 4, none⟩) (by rw [HH.out]; exact hb1)).trans (hcl 4 _ rfl)
      have k5 := (HBw.out.cell (p := ⟨b1, o1 + k * 6 + 5, none⟩) (by rw [HH.out]; exact hb1)).trans (hcl 5 _ rfl)
      rw [Nat.add_zero] at k0
      rw [← he] at k0 k1 k2 k3 k4
      rw [hy2] at k5
      obtain ⟨es, hes⟩ : ∃ es, es = Q.2 := ⟨_, rfl⟩
      rw [← hes] at k5 hsE
      have hesl : es.length ≤ 10000 := by rw [hes, hQ]; exact HX.out _ (List.getElem_mem hki)
      have HEs := Lib.hid hesl
      have HQk := Lib.hid hQk
      have HE1 := Lib.hid (show e = Q.1 by rw [he]; exact hy1)
      have HE2 := Lib.hid hes
      have HSE := Lib.hid hsE
      have HLT := Lib.hid hlt
      obtain ⟨X1, hX1⟩ : ∃ X1, X1 = (ww.alloc (.cells #[.int .i64 e.k, .string e.a, .string e.b, .string e.c, .string e.d, .slice A5 es.length c5] 61)).alloc (.cells (riA e (.slice none 0 0) (.slice none 0 0)) 89) := ⟨_, rfl⟩
      have hw1 : Below ww.heap.size ww (ww.alloc (.cells #[.int .i64 e.k, .string e.a, .string e.b, .string e.c, .string e.d, .slice A5 es.length c5] 61)) := (Below.refl _ _).alloc (Nat.le_refl _) _
      have hw2 : Below ww.heap.size ww X1 := by rw [hX1]; exact hw1.alloc hw1.size _
      obtain ⟨b0, hb0⟩ : ∃ b0, b0 = ww.heap.size := ⟨_, rfl⟩
      have hi5 : Blk X1 b0 61 #[.int .i64 e.k, .string e.a, .string e.b, .string e.c, .string e.d, .slice A5 es.length c5] := by rw [hX1, hb0]; exact (Blk.new ww _ _).alloc _
      have hi6 : Blk X1 (b0 + 1) 89 (riA e (.slice none 0 0) (.slice none 0 0)) := by
        have := Blk.new (ww.alloc (.cells #[.int .i64 e.k, .string e.a, .string e.b, .string e.c, .string e.d, .slice A5 es.length c5] 61)) 89 (riA e (.slice none 0 0) (.slice none 0 0))
        rw [hX1, hb0]
        simpa using this
      have HB0 := Lib.hid hb0
      have I0 : Hid (ItW b0 ww (b0 + 1) e (.slice none 0 0) (.slice none 0 0) X1 (.slice none 0 0) [] (.slice none 0 0) []) := Lib.hid ⟨hi6, by rw [hb0]; exact hw2, OwnK.nil_ _ _ _ _ _, OwnK.nil_ _ _ _ _ _⟩
      have h5 := hi5.cell 5
      simp at h5
      have HX1 := Lib.hid hX1
      clear hX1 hw1 hw2 hi5 hi6 hc1 hcl hY hQ hYk hQk hy1 hy2 hsE he hes hb1 hesl
      go_upto_region 6 with fail
      rw [show #[Value.int .i64 e.k, .string e.a, .string e.b, .string e.c, .string e.d, .slice none 0 0, .slice none 0 0] = riA e (.slice none 0 0) (.slice none 0 0) from rfl, ← HX1.out, ← hb0]
      clear k0 k1 k2 k3 k4 k5 hb0
      obtain ⟨y6, hy6⟩ : ∃ y6, y6 = b0 + 1 := ⟨_, rfl⟩
      rw [← hy6] at I0 ⊢
      have HY6 := Lib.hid (show b0 ≤ y6 by omega)
      clear hy6
      go_wp2_with fail
      go_loopw [21] (fun i wr => ∃ (m : Nat) (D V : Value), m ≤ es.length ∧ i = .int .i64 m ∧ ItW b0 ww y6 e D V wr D ((es.take m).map Prod.fst) V ((es.take m).map Prod.snd)) (fun i _ => es.length - (intOf i).toNat)
      case atStart => exact ⟨0, _, _, Nat.zero_le _, rfl, I0.out⟩
      case round =>
        obtain ⟨m, D, V, hm, rfl, hit⟩ := hrel
        have HI9 := Lib.hid hit
        clear hit
        by_cases hme : m < es.length
        · obtain ⟨dx, hdx⟩ : ∃ dx, dx = es[m]'hme := ⟨_, rfl⟩
          have hdm : es[m]? = some dx := by rw [hdx]; exact List.getElem?_eq_getElem hme
          obtain ⟨d, x⟩ := dx
          obtain ⟨A7, c7, h7, _, hx7⟩ := HSE.out
          injection h7 with f1 f2 f3
          obtain ⟨b5, o5, hA5, hb5, hc5⟩ := hx7 (fun e => by rw [e] at hme; cases hme)
          rw [← f1] at hA5
          subst hA5
          have hbx : Below H w wr := HBw.out.trans (HI9.out.2.1.mono (by rw [HB0.out]; have := HBw.out.size; rw [← HH.out] at this; exact this))
          have hcl := hc5 m (d, x) hdm
          have hb5' : b5 < H := by rw [HH.out]; exact hb5
          have j0 := (hbx.cell (p := ⟨b5, o5 + m * 5 + 0, none⟩) hb5').trans (hcl 0 _ rfl)
          have j1 := (hbx.cell (p := ⟨b5, o5 + m * 5 + 1, none⟩) hb5').trans (hcl 1 _ rfl)
          have j2 := (hbx.cell (p := ⟨b5, o5 + m * 5 + 2, none⟩) hb5').trans (hcl 2 _ rfl)
          have j3 := (hbx.cell (p := ⟨b5, o5 + m * 5 + 3, none⟩) hb5').trans (hcl 3 _ rfl)
          have j4 := (hbx.cell (p := ⟨b5, o5 + m * 5 + 4, none⟩) hb5').trans (hcl 4 _ rfl)
          rw [Nat.add_zero] at j0
          simp only at j0 j1 j2 j3 j4
          obtain ⟨X, hX⟩ : ∃ X, X = wr.alloc (.cells (enA d x) 63) := ⟨_, rfl⟩
          obtain ⟨y8, hy8⟩ : ∃ y8, y8 = wr.heap.size := ⟨_, rfl⟩
          have hbX : Below wr.heap.size wr X := by rw [hX]; exact (Below.refl _ _).alloc (Nat.le_refl _) _
          obtain ⟨ds, hds⟩ : ∃ ds, ds = (es.take m).map Prod.fst := ⟨_, rfl⟩
          obtain ⟨vs, hvs⟩ : ∃ vs, vs = (es.take m).map Prod.snd := ⟨_, rfl⟩
          have H8 := Lib.hid (show Blk X y8 63 (enA d x) by rw [hX, hy8]; exact Blk.new wr _ _)
          have H0 := Lib.hid (show ItW b0 ww y6 e D V X D ds V vs by rw [hds, hvs]; exact HI9.out.keep hbX HB0.out)
          obtain ⟨q, hq⟩ : ∃ q, q = X.heap.size := ⟨_, rfl⟩
          have HQs := Lib.hid (show q ≤ X.drew.heap.size from Nat.le_of_eq hq)
          have HDq := Lib.hid (show ∀ g, D.ownBlock = some g → g < q from fun g hg => by rw [hq]; exact Blk.lt (own_blk H0.out.2.2.1 hg).2.choose_spec)
          have HVq := Lib.hid (show ∀ g, V.ownBlock = some g → g < q from fun g hg => by rw [hq]; exact Blk.lt (own_blk H0.out.2.2.2 hg).2.choose_spec)
          have HDl := Lib.hid (show ds.length ≤ 20000 by rw [hds, List.length_map, List.length_take]; have := HEs.out; omega)
          have HVl := Lib.hid (show vs.length ≤ 20000 by rw [hvs, List.length_map, List.length_take]; have := HEs.out; omega)
          have HSz := Lib.hid (fun (W : World) (h : ((Blk W y8 63 (enA d x) ∧ q ≤ W.heap.size) ∧ ItW b0 ww y6 e D V W D ds V vs) ∨ (∃ v, (Blk W y8 63 (enA d x) ∧ q ≤ W.heap.size) ∧ ItW b0 ww y6 e D V W v (ds ++ [d]) V vs) ∨ ∃ v u, (Blk W y8 63 (enA d x) ∧ q ≤ W.heap.size) ∧ ItW b0 ww y6 e D V W v (ds ++ [d]) u (vs ++ [x])) => show q ≤ W.heap.size by
            rcases h with h | ⟨_, h⟩ | ⟨_, _, h⟩ <;> exact h.1.2)
          have HCx := Lib.hid (fun (W : World) (h : ((Blk W y8 63 (enA d x) ∧ q ≤ W.heap.size) ∧ ItW b0 ww y6 e D V W D ds V vs) ∨ (∃ v, (Blk W y8 63 (enA d x) ∧ q ≤ W.heap.size) ∧ ItW b0 ww y6 e D V W v (ds ++ [d]) V vs) ∨ ∃ v u, (Blk W y8 63 (enA d x) ∧ q ≤ W.heap.size) ∧ ItW b0 ww y6 e D V W v (ds ++ [d]) u (vs ++ [x])) => show Blk W y6 89 (riA e D V) ∧ Blk W y8 63 (enA d x) by
            rcases h with h | ⟨_, h⟩ | ⟨_, _, h⟩ <;> exact ⟨h.2.1, h.1.1⟩)
          have HXe := Lib.hid hX
          have HD9 := Lib.hid (show ds ++ [d] = (es.take (m + 1)).map Prod.fst by rw [hds, List.take_succ_eq_append_getElem hme, List.map_append, ← hdx]; rfl)
          have HV9 := Lib.hid (show vs ++ [x] = (es.take (m + 1)).map Prod.snd by rw [hvs, List.take_succ_eq_append_getElem hme, List.map_append, ← hdx]; rfl)
          have HM9 := Lib.hid hme
          have hm9 : m ≤ 10000 := by have := HEs.out; omega
          clear hdx hdm f1 f2 f3 hx7 hbx hcl hb5' hX hbX hds hvs hq
          go_upto_region 9 with fail
          rw [show #[Value.int .i64 d.r, .int .i64 d.c, .int .i64 x.k, .int .i64 x.n, .string x.t] = enA d x from rfl, ← HXe.out, ← hy8]
          clear j0 j1 j2 j3 j4 hy8
          refine wp_region_any (by kernel_rfl) ?_
          refine Lt.wpAny_four (fun i => [12, 14].contains i) (pN ([some (.pointer (some ⟨y6, 5, none⟩)), some (D), some (.pointer (some ⟨y8, 0, none⟩)), some (.agg #[.int .i64 d.r, .int .i64 d.c]), none, none, some (.pointer (some ⟨y6, 6, none⟩)), some (V), some (.pointer (some ⟨y8, 2, none⟩)), some (.agg #[.int .i64 x.k, .int .i64 x.n, .string x.t]), none, none, some (.pointer (some ⟨y6, 5, none⟩)), none, some (.pointer (some ⟨y6, 6, none⟩)), none]) (pI q d x)) (StI D V) _ X 5 11 13 15 _ _ _ _ (fun W => (Blk W y8 63 (enA d x) ∧ q ≤ W.heap.size) ∧ ItW b0 ww y6 e D V W D ds V vs) (fun v W => (Blk W y8 63 (enA d x) ∧ q ≤ W.heap.size) ∧ ItW b0 ww y6 e D V W v (ds ++ [d]) V vs) (fun v u W => (Blk W y8 63 (enA d x) ∧ q ≤ W.heap.size) ∧ ItW b0 ww y6 e D V W v (ds ++ [d]) u (vs ++ [x]))
            (fun u W => ∃ v, ItW b0 ww y6 e v V W v (ds ++ [d]) u (vs ++ [x])) (fun u W => ∃ v, ItW b0 ww y6 e v u W v (ds ++ [d]) u (vs ++ [x]))
            (by kernel_rfl) (by decide) (by decide) (by decide) rfl rfl rfl rfl ⟨rfl, rfl, rfl, rfl⟩ (by kernel_rfl) (by kernel_rfl) (by kernel_rfl) (by kernel_rfl) (by kernel_rfl) (by kernel_rfl)
            (fun w w' hb => ⟨hb.size, fun g hg _ _ => hb.block g hg⟩) (fun i v w w' hs h => pI_keep HDq.out HVq.out i v w w' hs h) (fun i v w w' hp h => ?_) (fun w w' hb h => ⟨⟨h.1.1.below hb h.1.1.lt, Nat.le_trans h.1.2 hb.size⟩, h.2.keep hb HB0.out⟩) (fun v w w' hb h => ⟨⟨h.1.1.below hb h.1.1.lt, Nat.le_trans h.1.2 hb.size⟩, h.2.keep hb HB0.out⟩) (fun v u w w' hb h => ⟨⟨h.1.1.below hb h.1.1.lt, Nat.le_trans h.1.2 hb.size⟩, h.2.keep hb HB0.out⟩) ⟨⟨H8.out, HQs.out⟩, H0.out.keep (Below.refl _ _).drew HB0.out⟩ ?_ ?_ ?_ ?_ ?_ ?_ ?_
          · have : i = 12 ∨ i = 14 := by simpa using hp
            rcases this with rfl | rfl <;> exact h
          · refine ⟨?_, ?_, ?_, ?_, ?_, ?_, ?_, ?_, ?_, ?_, ?_, ?_, ?_, ?_, ?_, ?_, trivial⟩
            · intro _ _ _ _ _ a W hC hun haft hi
              have hX := HCx.out W hC
              have e6 : a.eval (.tmp 6) = .pointer (some ⟨y6, 0, none⟩) := hun 6 (by kernel_rfl)
              exact wpOp_val hi rfl _ _ (run_fieldAddr_any rfl e6 (at_ri1 _ W)) ⟨_, rfl, rfl, Below.refl _ _⟩
            · intro _ _ _ _ _ a W hC hun haft hi
              have hX := HCx.out W hC
              have f0 : a.eval (.tmp 25) = .pointer (some ⟨y6, 5, none⟩) := haft ⟨0, .data⟩ (by simp) rfl _ _ rfl rfl
              exact wpOp_val hi rfl _ _ (run_load1_op rfl f0 Tryz.underlying86 rfl (hX.1.cell 5)) ⟨_, rfl, rfl, Below.refl _ _⟩
            · intro _ _ _ _ _ a W hC hun haft hi
              have hX := HCx.out W hC
              have e8 : a.eval (.tmp 8) = .pointer (some ⟨y8, 0, none⟩) := hun 8 (by kernel_rfl)
              exact wpOp_val hi rfl _ _ (run_fieldAddr_any rfl e8 (at_en0 _ W)) ⟨_, rfl, rfl, Below.refl _ _⟩
            · intro _ _ _ _ _ a W hC hun haft hi
              have hX := HCx.out W hC
              have f2 : a.eval (.tmp 27) = .pointer (some ⟨y8, 0, none⟩) := haft ⟨2, .data⟩ (by simp) rfl _ _ rfl rfl
              exact wpOp_val hi rfl _ _ (run_loadmid_op (cs := [.int .i64 d.r, .int .i64 d.c]) rfl f2 (World.rangeAt_of_block (C := #[.int .i64 d.r, .int .i64 d.c, .int .i64 x.k, .int .i64 x.n, .string x.t]) hX.2 0 2) Tryz.underlying43 rfl sizeDt) ⟨_, rfl, rfl, Below.refl _ _⟩
            · intro _ _ _ _ _ a W hC hun haft hi
              have hX := HCx.out W hC
              have f3 : a.eval (.tmp 28) = .agg #[.int .i64 d.r, .int .i64 d.c] := haft ⟨3, .data⟩ (by simp) rfl _ _ rfl rfl
              exact wpOp_val hi rfl _ _ (run_buildSlice_op rfl (by simp only [List.map_toArray, List.map_cons, List.map_nil, f3]) (bs_dot d W)) ⟨_, rfl, ⟨_, rfl, HSz.out W hC, Blk.new W _ _⟩, (Below.refl _ _).alloc (Nat.le_refl _) _⟩
            · exact fun h => absurd rfl h
            · intro _ _ _ _ _ a W hC hun haft hi
              have hX := HCx.out W hC
              have e6 : a.eval (.tmp 6) = .pointer (some ⟨y6, 0, none⟩) := hun 6 (by kernel_rfl)
              exact wpOp_val hi rfl _ _ (run_fieldAddr_any rfl e6 (at_ri2 _ W)) ⟨_, rfl, rfl, Below.refl _ _⟩
            · intro _ _ _ _ _ a W hC hun haft hi
              have hX := HCx.out W hC
              have f6 : a.eval (.tmp 31) = .pointer (some ⟨y6, 6, none⟩) := haft ⟨6, .data⟩ (by simp) rfl _ _ rfl rfl
              exact wpOp_val hi rfl _ _ (run_load1_op rfl f6 Tryz.underlying87 rfl (hX.1.cell 6)) ⟨_, rfl, rfl, Below.refl _ _⟩
            · intro _ _ _ _ _ a W hC hun haft hi
              have hX := HCx.out W hC
              have e8 : a.eval (.tmp 8) = .pointer (some ⟨y8, 0, none⟩) := hun 8 (by kernel_rfl)
              exact wpOp_val hi rfl _ _ (run_fieldAddr_any rfl e8 (at_en1 _ W)) ⟨_, rfl, rfl, Below.refl _ _⟩
            · intro _ _ _ _ _ a W hC hun haft hi
              have hX := HCx.out W hC
              have f8 : a.eval (.tmp 33) = .pointer (some ⟨y8, 2, none⟩) := haft ⟨8, .data⟩ (by simp) rfl _ _ rfl rfl
              exact wpOp_val hi rfl _ _ (run_loadmid_op (cs := [.int .i64 x.k, .int .i64 x.n, .string x.t]) rfl f8 (World.rangeAt_of_block (C := #[.int .i64 d.r, .int .i64 d.c, .int .i64 x.k, .int .i64 x.n, .string x.t]) hX.2 2 3) Tryz.underlying47 rfl sizeVl) ⟨_, rfl, rfl, Below.refl _ _⟩
            · intro _ _ _ _ _ a W hC hun haft hi
              have hX := HCx.out W hC
              have f9 : a.eval (.tmp 34) = .agg #[.int .i64 x.k, .int .i64 x.n, .string x.t] := haft ⟨9, .data⟩ (by simp) rfl _ _ rfl rfl
              exact wpOp_val hi rfl _ _ (run_buildSlice_op rfl (by simp only [List.map_toArray, List.map_cons, List.map_nil, f9]) (bs_val x W)) ⟨_, rfl, ⟨_, rfl, HSz.out W hC, Blk.new W _ _⟩, (Below.refl _ _).alloc (Nat.le_refl _) _⟩
            · exact fun _ h => absurd rfl h
            · exact fun _ _ _ _ h => absurd h (by decide)
            · exact fun _ _ h => absurd rfl h
            · exact fun _ _ _ _ h => absurd h (by decide)
            · exact fun _ _ _ h => absurd rfl h
          · refine ⟨?_, ?_, ?_, ?_, ?_, ?_, ?_, ?_, ?_, ?_, ?_, ?_, ?_, ?_, ?_, ?_, trivial⟩
            · exact fun h => absurd h (by decide)
            · exact fun h => absurd h (by decide)
            · exact fun h => absurd h (by decide)
            · exact fun h => absurd h (by decide)
            · exact fun h => absurd h (by decide)
            · exact fun h => absurd h (by decide)
            · exact fun h => absurd h (by decide)
            · exact fun h => absurd h (by decide)
            · exact fun h => absurd h (by decide)
            · exact fun h => absurd h (by decide)
            · exact fun h => absurd h (by decide)
            · exact fun h => absurd h (by decide)
            · intro _ a W hun haft hi
              have e6 : a.eval (.tmp 6) = .pointer (some ⟨y6, 0, none⟩) := hun 6 (by kernel_rfl)
              exact wpOp_val hi rfl _ _ (run_fieldAddr_any rfl e6 (at_ri1 _ W)) ⟨_, rfl, rfl, rfl⟩
            · exact fun h => absurd h (by decide)
            · intro _ a W hun haft hi
              have e6 : a.eval (.tmp 6) = .pointer (some ⟨y6, 0, none⟩) := hun 6 (by kernel_rfl)
              exact wpOp_val hi rfl _ _ (run_fieldAddr_any rfl e6 (at_ri2 _ W)) ⟨_, rfl, rfl, rfl⟩
            · exact fun h => absurd h (by decide)
          · intro a W hJ haft
            have f1 : a.eval (.tmp 26) = D := haft ⟨1, .data⟩ (by simp) rfl _ _ rfl rfl
            obtain ⟨g4, h4, _, hb4⟩ : ∃ g, a.eval (.tmp 29) = .slice (some ⟨g, 0, none⟩) 1 1 ∧ q ≤ g ∧ Blk W g 43 #[.int .i64 d.r, .int .i64 d.c] := haft ⟨4, .data⟩ (by simp) rfl _ _ rfl rfl
            obtain ⟨v', w', hr, ho, hg⟩ := append_dot b0 W D ds hJ.2.2.2.1 (hJ.2.size HB0.out) _ d (sl_blk (enc := encD) (k := 2) hb4) (by have := HDl.out; omega)
            exact wpOp_val rfl rfl v' w' (run_append_op rfl f1 h4 hr) ⟨v', rfl, ⟨hg.size, fun g hg1 hd _ => hg.block g hg1 (fun e => hd e.symm)⟩, trivial, ⟨hJ.1.1.grown_own hg hJ.2.2.2.1 (by decide), Nat.le_trans hJ.1.2 hg.size⟩, hJ.2.dots hg ho HB0.out⟩
          · intro v1 a W hJ haft
            have f7 : a.eval (.tmp 32) = V := haft ⟨7, .data⟩ (by simp) rfl _ _ rfl rfl
            obtain ⟨g4, h4, _, hb4⟩ : ∃ g, a.eval (.tmp 35) = .slice (some ⟨g, 0, none⟩) 1 1 ∧ q ≤ g ∧ Blk W g 47 #[.int .i64 x.k, .int .i64 x.n, .string x.t] := haft ⟨10, .data⟩ (by simp) rfl _ _ rfl rfl
            obtain ⟨v', w', hr, ho, hg⟩ := append_val b0 W V vs hJ.2.2.2.2 (hJ.2.size HB0.out) _ x (sl_blk (enc := encVl) (k := 3) hb4) (by have := HVl.out; omega)
            exact wpOp_val rfl rfl v' w' (run_append_op rfl f7 h4 hr) ⟨v', rfl, ⟨hg.size, fun g hg1 _ hv => hg.block g hg1 (fun e => hv e.symm)⟩, trivial, ⟨hJ.1.1.grown_own hg hJ.2.2.2.2 (by decide), Nat.le_trans hJ.1.2 hg.size⟩, hJ.2.vals hg ho HB0.out⟩
          · intro vals a W hJ hsl haft
            have f12 : a.eval (.tmp 37) = .pointer (some ⟨y6, 5, none⟩) := haft ⟨12, .data⟩ (by simp) rfl rfl _ _ rfl rfl
            have f5 : a.eval (.tmp 30) = vals 5 := hsl 5 _ _ rfl (by decide) rfl rfl
            obtain ⟨A', c', hv, _⟩ := hJ.2.2.2.1.read encD_len
            exact Lt.l_skip rfl rfl _ (run_store1_op rfl f12 f5 (by rw [hv]; rfl) (by rw [hv]; rfl) (by kernel_rfl) (hJ.2.1.cell 5) (hJ.2.1.free 5)) ⟨_, rfl, _, hJ.2.set5 HB0.out HY6.out⟩
          · intro vals a W hJ hsl hp
            obtain ⟨v, hJ⟩ := hJ
            have f14 : a.eval (.tmp 38) = .pointer (some ⟨y6, 6, none⟩) := (hsl 14 _ _ rfl (by decide) rfl).trans (hp 14 (by decide) (by decide))
            have f11 : a.eval (.tmp 36) = vals 11 := hsl 11 _ _ rfl (by decide) rfl
            obtain ⟨A', c', hv, _⟩ := hJ.2.2.2.read encVl_len
            exact Lt.l_skip rfl rfl _ (run_store1_op rfl f14 f11 (by rw [hv]; rfl) (by rw [hv]; rfl) (by kernel_rfl) (hJ.1.cell 6) (hJ.1.free 6)) ⟨_, rfl, _, hJ.set6 HB0.out HY6.out⟩
          · rintro vals W ⟨v, hJ⟩
            have HJ := Lib.hid hJ
            clear hJ
            simp only [layN, List.size_toArray, List.length_cons, List.length_nil, List.range, List.range.loop, if_true, List.getElem?_toArray, List.getElem?_cons_zero, List.getElem?_cons_succ, Act.put, List.setIfInBounds_toArray, List.set_cons_zero, List.set_cons_succ, Nat.zero_add, Nat.reduceAdd]
            go_wp2_with fail
            go_roundw
            case rel => exact ⟨m + 1, v, vals 11, HM9.out, by go_num, by rw [← HD9.out, ← HV9.out]; exact HJ.out⟩
            case measure => simp [intOf]; omega
        · have hmN : m = es.length := by omega
          subst hmN
          have hI := HI9.out
          rw [List.take_length] at hI
          have hww : H ≤ ww.heap.size := by have := HBw.out.size; rw [← HH.out] at this; exact this
          have hbr : Below ww.heap.size ww wr := by have := hI.2.1; rwa [HB0.out] at this
          obtain ⟨L4, ho4, hl4, hq4⟩ := HRi.out.keep hbr
          obtain ⟨AD, cD, hD, _⟩ := hI.2.2.1.read encD_len
          obtain ⟨AV, cV, hV, _⟩ := hI.2.2.2.read encVl_len
          have hn4 : L4.length ≤ 10000 := by rw [hl4, List.length_take]; omega
          have hHr : H ≤ wr.heap.size := Nat.le_trans hww hbr.size
          obtain ⟨u6, w6, hr6, ho6, hT6, hb6⟩ := append_ri H wr _ L4 ho4 hHr (e, D, V) (by rw [hD]; rfl) (by rw [hV]; rfl) (by omega)
          have c0 := hI.1.cell 0
          have c1 := hI.1.cell 1
          have c2 := hI.1.cell 2
          have c3' := hI.1.cell 3
          have c4 := hI.1.cell 4
          have c5' := hI.1.cell 5
          have c6 := hI.1.cell 6
          simp only [riA] at c0 c1 c2 c3' c4 c5' c6
          simp at c0 c1 c2 c3' c4 c5' c6
          dsimp only at hr6
          have e9 : riA e D V = #[.int .i64 e.k, .string e.a, .string e.b, .string e.c, .string e.d, .slice AD es.length cD, .slice AV es.length cV] := by rw [hD, hV]; simp [riA]
          rw [e9] at hr6
          have HA := Lib.hid hr6
          have HHr := Lib.hid hHr
          have HL4 := Lib.hid hl4
          have R6 : Hid (RIts H w6 u6 (I.take (k + 1))) := Lib.hid (by
            refine ⟨L4 ++ [(e, D, V)], ho6, ?_, fun i y q hy hq => ?_⟩
            · rw [List.length_append, hl4, List.length_take, List.length_take]; have := HNl.out; have := HLT.out; simp; omega
            · by_cases hik : i < L4.length
              · rw [List.getElem?_append_left hik] at hy
                have hik2 : i < k := by rw [hl4, List.length_take] at hik; omega
                rw [List.getElem?_take, if_pos (by omega)] at hq
                obtain ⟨z1, z2, z3⟩ := hq4 i y q hy (by rw [List.getElem?_take, if_pos hik2]; exact hq)
                exact ⟨z1, hT6 _ _ _ _ _ _ (by decide) z2, hT6 _ _ _ _ _ _ (by decide) z3⟩
              · have hi2 := (List.getElem?_eq_some_iff.1 hy).1
                rw [List.length_append] at hi2
                have hi3 : i = L4.length := by simp at hi2; omega
                have hLk : L4.length = k := by rw [hl4, List.length_take]; have := HNl.out; have := HLT.out; omega
                rw [hi3, List.getElem?_append_right (Nat.le_refl _), Nat.sub_self] at hy
                rw [hi3, hLk, List.getElem?_take, if_pos (by omega), HQk.out] at hq
                have hy' : y = (e, D, V) := by simpa using hy.symm
                have hq' : q = Q := (Option.some.inj hq).symm
                subst hy' hq'
                have hHb : H ≤ b0 := by rw [HB0.out]; exact hww
                rw [HE2.out] at hI
                exact ⟨HE1.out, hT6 _ _ _ _ _ _ (by decide) (own_base hI.2.2.1 hHb), hT6 _ _ _ _ _ _ (by decide) (own_base hI.2.2.2 hHb)⟩)
          have HB6 := Lib.hid ((HBw.out.trans (hbr.mono hww)).trans hb6)
          have hk9 : k ≤ 10000 := by omega
          obtain ⟨A6, c6', h6, _, _⟩ := ho6.read encRI_len
          subst h6
          obtain ⟨n6, hn6⟩ : ∃ n6, n6 = (L4 ++ [(e, D, V)]).length := ⟨_, rfl⟩
          rw [← hn6] at HA R6
          clear hI hr6 ho6 hT6 hb6 hHr hl4 hq4 ho4 hbr hn6
          go_wp2_with (first
            | (at_builtin; refine Lib.wpList_append_run (o := ⟨some 43, _, _, _, _, _⟩) _ rfl _ _ _ _ rfl _ _ rfl rfl _ _ HA.out ?_)
            | fail)
          go_roundw
          case rel => exact ⟨k + 1, HLT.out, by go_num, R6.out, HB6.out⟩
          case measure => simp [intOf]; omega
    · have hkN : k = N := by omega
      subst hkN
      rw [List.take_of_length_le (by have := HNl.out; omega)] at HRi
      go_wp2
      go_ret
      exact ⟨_, rfl, HRi.out, HBw.out⟩


end Go.Proofs.YtejljikikhecnaaGreat.Ot
