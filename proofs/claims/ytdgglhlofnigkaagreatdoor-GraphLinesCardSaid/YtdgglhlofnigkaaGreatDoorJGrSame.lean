/-
  hedgerowlaw08.same at equal rows of texts. hedgerowlaw08.fixed. Conditions: lengths.
-/import Derived.Test.YtdgglhlofnigkaaGreatDoorGrAsk
import Derived.Test.YtdgglhlofnigkaaGreatDoorJGrFew
set_option maxHeartbeats 8000000
set_option maxRecDepth 100000
namespace Go.Proofs.YtdgglhlofnigkaaGreatDoor
open Lib (hid)
open Go.RowKit Go.MapKept Go.Sort
theorem at_Sq (g o c n k : Nat) (h : k < n) (w : World) : (Instr.indexAt 32 (.slice (some ⟨g, o, none⟩) n c) (.int .i64 k)).run Tryz.prog w = .ok (.pointer (some ⟨g, o + k * 1, none⟩)) w := by
 have h2 : (k : Int) < n := by omega
 go_simp
theorem ne_SS (s : ByteArray) (w : World) : (binOp .neq 9 (.string s) (.string s)).run Tryz.prog w = .ok (.bool false) w := by
 go_simp
set_option maxRecDepth 100000 in
set_option maxHeartbeats 2000000 in
theorem sameS_any (l : List ByteArray) (A A2 : Option Addr) (N c c2 : Nat) (w : World) (h1 : SlK enS 1 w (.slice A N c) l) (h2 : SlK enS 1 w (.slice A2 N c2) l) (hN : l.length = N) (hN2 : N ≤ 1000000) :
  Calls Tryz.prog 11 #[.slice A N c, .slice A2 N c2] w (Gives w (.bool true)) := by
 have H1 := hid h1
 have H2 := hid h2
 have HN := hid hN
 have HN2 := hid hN2
 clear h1 h2 hN hN2
 go_enter Tryz.func11, Tryz.ntmps11
 go_wp2_with fail
 go_loopw [13] (fun v13 wr => ∃ k : Nat, v13 = .int .i64 k ∧ k ≤ N ∧ Below w.heap.size w wr) (fun v13 _ => N - (intOf v13).toNat)
 case atStart => exact ⟨0, rfl, Nat.zero_le _, Below.refl _ _⟩
 case round =>
  obtain ⟨k, rfl, hk, hbw⟩ := hrel
  obtain ⟨wo, rfl⟩ : ∃ wo, wo = wr := ⟨_, rfl⟩
  have HBw := hid hbw
  clear hbw
  by_cases hlt : k < N
  ·obtain ⟨s, hs⟩ : ∃ s, l[k]? = some s := ⟨l[k]'(by rw [HN.out]; exact hlt), List.getElem?_eq_getElem _⟩
   have hne : l ≠ [] := fun e => by rw [e] at hs; simp at hs
   obtain ⟨A', c', hA', _, hx1⟩ := H1.out
   obtain ⟨g, o, rfl, hg, hc1⟩ := hx1 hne
   obtain ⟨A2', c2', hA2', _, hx2⟩ := H2.out
   obtain ⟨g2, o2, rfl, hg2, hc2⟩ := hx2 hne
   simp only [Value.slice.injEq] at hA' hA2'
   obtain ⟨rfl, _, rfl⟩ := hA'
   obtain ⟨rfl, _, rfl⟩ := hA2'
   have HC1 := hid (show ∀ W, Below wo.heap.size wo W → W.cell? ⟨g, o + k * 1, none⟩ = some (.string s) from fun W h => rangeAt_below (hc1 k s hs) hg (HBw.out.trans (h.mono HBw.out.size)) 0 (.string s) rfl)
   have HC2 := hid (show ∀ W, Below wo.heap.size wo W → W.cell? ⟨g2, o2 + k * 1, none⟩ = some (.string s) from fun W h => rangeAt_below (hc2 k s hs) hg2 (HBw.out.trans (h.mono HBw.out.size)) 0 (.string s) rfl)
   have HW1 := hid (IntWalk.i64_in ((k : Int) + 1) (by have := HN2.out; omega))
   have HJ1 := hid (show ¬ 9223372036854775807 < k + 1 by have := HN2.out; omega)
   clear hs hne hg hc1 hg2 hc2 hx1 hx2
   go_upto_region 6 with fail
   try simp only [Act.put]
   refine wp_region_any (by kernel_rfl) ?_
   refine wpAny_below (fun iq uq wq => uq = ([.slice (some ⟨g, o, none⟩) N c, .int .i64 (k : Nat), .pointer (some ⟨g, o + k * 1, none⟩), .string s, .slice (some ⟨g2, o2, none⟩) N c2, .int .i64 (k : Nat), .pointer (some ⟨g2, o2 + k * 1, none⟩), .string s, .bool false] : List Value).getD iq undef) _ wo (by kernel_rfl) (by kernel_rfl) (by kernel_rfl) (fun i v w w' _ h => h) ?_ ?_
   ·refine ⟨?_, ?_, ?_, ?_, ?_, ?_, ?_, ?_, ?_, trivial⟩
    ·intro a W hI hun haft hi
     have e0 := hun 0 (by kernel_rfl)
     exact b_same hi hI rfl _ (run_move_op rfl e0) rfl
    ·intro a W hI hun haft hi
     have e5 := hun 5 (by kernel_rfl)
     exact b_same hi hI rfl _ (run_move_op rfl e5) rfl
    ·intro a W hI hun haft hi
     have f0 := haft ⟨0, .data⟩ (by simp) rfl _ _ rfl rfl
     have f1 := haft ⟨1, .data⟩ (by simp) rfl _ _ rfl rfl
     exact b_same hi hI rfl _ (run_indexAddr_op rfl f0 f1 (at_Sq g o c N k hlt W)) rfl
    ·intro a W hI hun haft hi
     have f2 := haft ⟨2, .data⟩ (by simp) rfl _ _ rfl rfl
     exact b_same hi hI rfl _ (run_loadstr_op rfl f2 Tryz.underlying9 (HC1.out W hI)) rfl
    ·intro a W hI hun haft hi
     have e1 := hun 1 (by kernel_rfl)
     exact b_same hi hI rfl _ (run_move_op rfl e1) rfl
    ·intro a W hI hun haft hi
     have e5 := hun 5 (by kernel_rfl)
     exact b_same hi hI rfl _ (run_move_op rfl e5) rfl
    ·intro a W hI hun haft hi
     have f4 := haft ⟨4, .data⟩ (by simp) rfl _ _ rfl rfl
     have f5 := haft ⟨5, .data⟩ (by simp) rfl _ _ rfl rfl
     exact b_same hi hI rfl _ (run_indexAddr_op rfl f4 f5 (at_Sq g2 o2 c2 N k hlt W)) rfl
    ·intro a W hI hun haft hi
     have f6 := haft ⟨6, .data⟩ (by simp) rfl _ _ rfl rfl
     exact b_same hi hI rfl _ (run_loadstr_op rfl f6 Tryz.underlying9 (HC2.out W hI)) rfl
    ·intro a W hI hun haft hi
     have f3 := haft ⟨3, .data⟩ (by simp) rfl _ _ rfl rfl
     have f7 := haft ⟨7, .data⟩ (by simp) rfl _ _ rfl rfl
     exact b_same hi hI rfl (.bool false) (run_bin_op rfl f3 f7 (by kernel_rfl) (ne_SS s W)) rfl
   ·intro vals W hI hp
    have hl8 : vals 8 = .bool false := hp 8 (by decide)
    have HI := hid hI
    clear hp hI
    simp only [layN, layS, List.range, List.range.loop, if_true, Act.put, Nat.zero_add, Nat.reduceAdd, hl8]
    clear hl8
    have HBe := hid (HBw.out.trans (HI.out.mono HBw.out.size))
    have hw := HW1.out
    have hjm := HJ1.out
    clear HI
    go_wp2_with fail
    go_roundw
    case rel => exact ⟨k + 1, by go_num, by omega, HBe.out⟩
    case measure => simp [intOf] <;> omega
  ·go_wp2_with fail
   go_ret
   exact ⟨rfl, HBw.out⟩
def SmE (x : El) : Prop := x.a.size ≤ 1000 ∧ x.b.size ≤ 1000 ∧ x.c.size ≤ 1000 ∧ x.d.size ≤ 1000
structure SmV (V : Vw) : Prop where
 nodes : ∀ s ∈ V.nodes, s.size ≤ 1000
 links : ∀ x ∈ V.links, x.f.size ≤ 1000 ∧ x.t.size ≤ 1000 ∧ x.y.size ≤ 1000
 lab : ∀ key, ∀ s ∈ V.lab key, s.size ≤ 1000
 part : ∀ x ps, V.part x = some ps → ∀ y ∈ ps, y.d.size ≤ 1000
 val : ∀ x, (V.val x).length ≤ 1000 ∧ ∀ y ∈ V.val x, y.t.size ≤ 1000
theorem sm_no : SmV noV := ⟨(fun s h => by cases h), (fun s h => by cases h), (fun _ s h => by cases h), (fun _ _ h => by cases h), fun _ => ⟨Nat.zero_le _, (fun y h => by cases h)⟩⟩
theorem sm_part {vals : El → List Va} {V : Vw} (h : SmV V) (x y : El) (hy : SmE y) (hv : (vals y).length ≤ 1000 ∧ ∀ z ∈ vals y, z.t.size ≤ 1000) : SmV (partW vals V x y) := by
 unfold partW
 split
 ·exact h
 ·rename_i ps hps
  refine ⟨h.nodes, h.links, h.lab, fun z qs e => ?_, fun z => ?_⟩
  ·dsimp only [updG] at e
   split at e
   ·intro u hu
    rw [← Option.some.inj e] at hu
    rcases List.mem_append.1 hu with hu | hu
    ·exact h.part _ _ hps u hu
    ·rw [List.mem_singleton.1 hu]; exact hy.2.2.2
   ·exact h.part z qs e
  ·dsimp only [updG]
   split
   ·exact hv
   ·exact h.val z
theorem sm_see {vals : El → List Va} {V : Vw} (h : SmV V) (x : El) (hx : SmE x) (hv : (vals x).length ≤ 1000 ∧ ∀ z ∈ vals x, z.t.size ≤ 1000) : SmV (seeV vals V x) := by
 have hnil : ∀ z ps, updG V.part x (some []) z = some ps → ∀ y ∈ ps, y.d.size ≤ 1000 := fun z ps e => by
  dsimp only [updG] at e
  split at e
  ·rw [← Option.some.inj e]; intro y hy; cases hy
  ·exact h.part z ps e
 unfold seeV
 split
 ·exact ⟨fun s hs => by
   rcases List.mem_append.1 hs with hs | hs
   ·exact h.nodes s hs
   ·rw [List.mem_singleton.1 hs]; exact hx.1, h.links, h.lab, hnil, h.val⟩
 split
 ·split
  ·refine ⟨h.nodes, h.links, fun k s hs => ?_, h.part, h.val⟩
   dsimp only [updG] at hs
   split at hs
   ·rcases List.mem_append.1 hs with hs | hs
    ·exact h.lab _ s hs
    ·rw [List.mem_singleton.1 hs]; exact hx.2.2.2
   ·exact h.lab k s hs
  ·exact h
 split
 ·split
  ·exact ⟨h.nodes, fun s hs => by
    rcases List.mem_append.1 hs with hs | hs
    ·exact h.links s hs
    ·rw [List.mem_singleton.1 hs]; exact ⟨hx.1, hx.2.1, hx.2.2.1⟩, h.lab, hnil, h.val⟩
  ·exact h
 split
 ·exact sm_part h _ _ hx hv
 split
 ·exact sm_part h _ _ hx hv
 ·exact h
theorem sm_fold {vals : El → List Va} (hv : ∀ x, (vals x).length ≤ 1000 ∧ ∀ z ∈ vals x, z.t.size ≤ 1000) : ∀ (es : List El) (V : Vw), SmV V → (∀ x ∈ es, SmE x) → SmV (es.foldl (seeV vals) V)
 | [], _, h, _ => h
 | x :: es, _, h, hx => sm_fold hv es _ (sm_see h x (hx x List.mem_cons_self) (hv x)) fun y hy => hx y (List.mem_cons_of_mem _ hy)
theorem text_fold {vals : El → List Va} {es : List El} (hv : ∀ x, (vals x).length ≤ 1000 ∧ ∀ z ∈ vals x, z.t.size ≤ 1000) (hx : ∀ x ∈ es, SmE x) (hn : es.length ≤ 1000) : TextV (finV (foldV vals es)) := by
 have h1 := sm_fold hv es noV sm_no hx
 have h2 := size_fold vals es es.length (Nat.le_refl _)
 rw [List.take_length] at h2
 have h3 := h2.up hn
 have hp := sortK_perm (foldV vals es).links
 refine ⟨⟨h3.1, h1.nodes⟩, ⟨by rw [show (finV (foldV vals es)).links = sortK (foldV vals es).links from rfl, hp.length_eq]; exact h3.2.1, fun x hx => h1.links x (hp.mem_iff.1 hx)⟩, fun key => ⟨h3.2.2.1 key, h1.lab key⟩, fun x => ?_, h1.val⟩
 show (((foldV vals es).part x).getD []).length ≤ 1000 ∧ ∀ y ∈ ((foldV vals es).part x).getD [], y.d.size ≤ 1000
 cases hg : (foldV vals es).part x with
 | none => exact ⟨by simp, fun y hy => by cases hy⟩
 | some ps => exact ⟨h3.2.2.2 x ps hg, h1.part x ps hg⟩
theorem OwnT.same {α : Type} {own : Nat → Option Tg} {t : Tg} {enc : α → List Value} {R k : Nat} {e : TypeId} {w w' : World} {v : Value} {l : List α} (h : OwnT own t enc R e k w v l) (hs : ∀ g, own g ≠ none → w'.heap[g]? = w.heap[g]?) : OwnT own t enc R e k w' v l :=
 ⟨h.1.same fun g hg => hs g (by rw [h.2 g hg]; simp), h.2⟩
theorem RowsIs.same {α β : Type} [DecidableEq α] {eK : α → Value} {enc : β → List Value} {e : TypeId} {k : Nat} {tm : Tg} {tg : α → Tg} {own : Nat → Option Tg} {R b : Nat} {w w' : World} {f : α → Option (List β)} (h : RowsIs eK enc e k tm tg own R w b f) (hs : ∀ g, own g ≠ none → w'.heap[g]? = w.heap[g]?) : RowsIs eK enc e k tm tg own R w' b f := by
 obtain ⟨hb, I, hI, hf⟩ := h
 refine ⟨hb, I, hI.same (hs b (by rw [hb]; simp)), fun x => ?_⟩
 have := hf x
 cases hg : getL x I with
 | none => rw [hg] at this; exact this
 | some v =>
  rw [hg] at this
  obtain ⟨l, h1, h2⟩ := this
  exact ⟨l, h1, h2.same hs⟩
theorem VIs.same {own : Nat → Option Tg} {R vb b1 b2 b3 b4 b5 : Nat} {w w' : World} {V : Vw} {nv lv : Value} (h : VIs own R w vb V nv lv b1 b2 b3 b4 b5) (hs : ∀ g, own g ≠ none → w'.heap[g]? = w.heap[g]?) (hz : w.heap.size ≤ w'.heap.size) : VIs own R w' vb V nv lv b1 b2 b3 b4 b5 := by
 obtain ⟨f1, a1, r1⟩ := h.lab
 obtain ⟨f2, a2, r2⟩ := h.out
 obtain ⟨f3, a3, r3⟩ := h.inn
 obtain ⟨f5, a5, r5⟩ := h.val
 exact ⟨h.self, (hs vb (by rw [h.self]; simp)).trans h.blk, h.nodes.same hs, h.links.same hs, ⟨f1, a1, r1.same hs⟩, ⟨f2, a2, r2.same hs⟩, ⟨f3, a3, r3.same hs⟩, h.part.same hs, ⟨f5, a5, r5.same hs⟩, fun g e => ⟨(h.lt g e).1, Nat.lt_of_lt_of_le (h.lt g e).2 hz⟩⟩
def e81 : Ev := ⟨0, 1, fun _ => 0, 1, 1, ⟨#[97]⟩, ⟨#[]⟩, ⟨#[]⟩, ⟨#[]⟩, 0, 0, ⟨#[]⟩⟩
def e82 : Ev := ⟨0, 2, fun i => if i = 0 then 1 else 0, 1, 2, ⟨#[97]⟩, ⟨#[]⟩, ⟨#[]⟩, ⟨#[80]⟩, 0, 0, ⟨#[]⟩⟩
def e83 : Ev := ⟨0, 3, fun i => if i = 0 then 2 else 0, 1, 3, ⟨#[97]⟩, ⟨#[98]⟩, ⟨#[75]⟩, ⟨#[]⟩, 0, 0, ⟨#[]⟩⟩
def e84 : Ev := ⟨0, 4, fun i => if i = 0 then 3 else 0, 1, 1, ⟨#[98]⟩, ⟨#[]⟩, ⟨#[]⟩, ⟨#[]⟩, 0, 0, ⟨#[]⟩⟩
def x81 : El := ⟨1, ⟨#[97]⟩, ⟨#[]⟩, ⟨#[]⟩, ⟨#[]⟩⟩
def x82 : El := ⟨2, ⟨#[97]⟩, ⟨#[]⟩, ⟨#[]⟩, ⟨#[80]⟩⟩
def x83 : El := ⟨3, ⟨#[97]⟩, ⟨#[98]⟩, ⟨#[75]⟩, ⟨#[]⟩⟩
def x84 : El := ⟨1, ⟨#[98]⟩, ⟨#[]⟩, ⟨#[]⟩, ⟨#[]⟩⟩
def z8 : Va := ⟨0, 0, ⟨#[]⟩⟩
def t81 : List (El × List (Dt × Va)) := [(x81, [(⟨0, 1⟩, z8)])]
def t82 : List (El × List (Dt × Va)) := t81 ++ [(x82, [(⟨0, 2⟩, z8)])]
def t83 : List (El × List (Dt × Va)) := t82 ++ [(x83, [(⟨0, 3⟩, z8)])]
def t84 : List (El × List (Dt × Va)) := t83 ++ [(x84, [(⟨0, 4⟩, z8)])]
def k83 : List El := [x81, x82, x83]
def k84 : List El := [x81, x84, x82, x83]
theorem len81 : Lens e81 := by unfold Lens e81; decide
theorem len82 : Lens e82 := by unfold Lens e82; decide
theorem len83 : Lens e83 := by unfold Lens e83; decide
theorem len84 : Lens e84 := by unfold Lens e84; decide
theorem ok81 : okB e81 = true := by decide +kernel
theorem ok82 : okB e82 = true := by decide +kernel
theorem ok83 : okB e83 = true := by decide +kernel
theorem ok84 : okB e84 = true := by decide +kernel
theorem do81 : doS e81 [] = t81 := by decide +kernel
theorem do82 : doS e82 t81 = t82 := by decide +kernel
theorem do83 : doS e83 t82 = t83 := by decide +kernel
theorem do84 : doS e84 t83 = t84 := by decide +kernel
theorem tot83 : totS t83 ≤ 3 := by decide +kernel
theorem tot84 : totS t84 ≤ 4 := by decide +kernel
theorem perm83 : k83.Perm (keysL t83) := by decide +kernel
theorem perm84 : k84.Perm (keysL t84) := by decide +kernel
theorem sort83 : k83.Pairwise fun x y => ltOf cfE y x = false := by decide +kernel
theorem sort84 : k84.Pairwise fun x y => ltOf cfE y x = false := by decide +kernel
def v83 : Vw := finV (foldV (valsS t83) k83)
def v84 : Vw := finV (foldV (valsS t84) k84)
theorem has83 : hasV v83 ⟨#[97]⟩ = true := by decide +kernel
theorem link83 : v83.links = [] := by decide +kernel
theorem link84 : (v84.part (linkE ⟨⟨#[97]⟩, ⟨#[98]⟩, ⟨#[75]⟩⟩)).isSome = true := by decide +kernel
def l80 : ByteArray := ⟨#[110, 111, 100, 101, 32, 97, 32, 80]⟩
def l81 : ByteArray := ⟨#[110, 111, 100, 101, 32, 98]⟩
def l82 : ByteArray := ⟨#[101, 100, 103, 101, 32, 97, 32, 75, 32, 98]⟩
theorem lines84 : linesV v84 = [l80, l81, l82] := by decide +kernel
theorem vals_small (σ : List (El × List (Dt × Va))) (h1 : ∀ p ∈ σ, p.2.length ≤ 1000 ∧ ∀ q ∈ p.2, q.2.t.size ≤ 1000) : ∀ x, (valsS σ x).length ≤ 1000 ∧ ∀ z ∈ valsS σ x, z.t.size ≤ 1000 := fun x => by
 have he : (entS x σ).length ≤ 1000 ∧ ∀ q ∈ entS x σ, q.2.t.size ≤ 1000 := by
  unfold entS
  cases hg : getL x σ with
  | none => exact ⟨by simp, fun q hq => by cases hq⟩
  | some l => exact h1 _ (getL_mem hg)
 refine ⟨Nat.le_trans (riseC_len _) (by unfold valsL; rw [List.length_map]; exact he.1), fun z hz => ?_⟩
 obtain ⟨q, hq, rfl⟩ := List.mem_map.1 ((riseC_mem _ _).1 hz)
 exact he.2 q hq
theorem text84 : TextV v84 := text_fold (vals_small _ (by decide +kernel)) (by unfold SmE; decide +kernel) (by decide)
theorem seen_nil (w : World) : Calls Tryz.prog 42 #[.pointer none] w fun e w' => e = .returned (.pointer (some ⟨w.heap.size, 0, none⟩)) ∧ w' = w.alloc (.cells #[.slice none 0 0, .slice none 0 0, .map none, .map none, .map none, .map none, .map none] 78) := by
 have hz : (Tryz.prog.info? 78).map (fun i => (i.zero, i.size)) = some (some (.agg #[.slice none 0 0, .slice none 0 0, .map none, .map none, .map none, .map none, .map none]), 7) := by kernel_rfl
 have hz1 := (zero_of_info hz).1
 have hpn : ∀ w, (binOp .eql 29 (.pointer none) (.pointer none)).run Tryz.prog w = .ok (.bool true) w := fun w => by kernel_rfl
 clear hz
 go_enter Tryz.func42, Tryz.ntmps42
 go_wp2_with fail
 go_ret
 exact ⟨rfl, rfl⟩
theorem nodes_nil (w : World) : Calls Tryz.prog 14 #[.pointer none] w fun e w' => ∃ A c, e = .returned (.slice A 0 c) ∧ Below w.heap.size w w' := by
 obtain ⟨X, hX⟩ : ∃ X, X = w.alloc (.cells #[.slice none 0 0, .slice none 0 0, .map none, .map none, .map none, .map none, .map none] 78) := ⟨_, rfl⟩
 have hb : Below w.heap.size w X := by rw [hX]; exact (Below.refl _ _).alloc (Nat.le_refl _) _
 obtain ⟨q, hq⟩ : ∃ q, w.heap.size = q := ⟨_, rfl⟩
 have c0 : X.cell? ⟨q, 0, none⟩ = some (.slice none 0 0) := by rw [hX, ← hq]; exact (Blk.cell (Blk.new w _ _) 0).trans rfl
 have HS := hid (seen_nil w)
 have HC := hid (cloneS_any [] (.slice none 0 0) X (SlK.nil_ _ _ _) (by decide))
 rw [← hX, hq] at HS
 have HB := hid hb
 have HQ := hid hq
 clear hb hX hq
 go_enter Tryz.func14, Tryz.ntmps14
 go_wp2_with fail
 refine HS.out.mono ?_
 rintro e w1 ⟨rfl, rfl⟩
 go_wp2_with fail
 refine HC.out.mono ?_
 rintro e w2 ⟨u, rfl, ho, hb2⟩
 obtain ⟨A, c, rfl, _, _⟩ := ho.read enS_len
 have HB2 := hid (HB.out.trans (hb2.mono HB.out.size))
 clear ho hb2 c0
 go_wp2_with fail
 go_ret
 exact ⟨A, c, rfl, HB2.out⟩
theorem eq_ElB (x y : El) {q : Bool} (h : decide (x = y) = q) (w : World) : (binOp .eql 38 (eE x) (eE y)).run Tryz.prog w = .ok (.bool q) w := by
 have h1 := equal_E w x y
 rw [h] at h1
 unfold eE elV at h1 ⊢
 simp [binOp, h1]
theorem fixed8 (w : World) (hw : WOk w) : Calls Tryz.prog 7 #[] w (Gives w (.bool true)) := by
 obtain ⟨sb, hsb⟩ : ∃ sb, w.heap.size = sb := ⟨_, rfl⟩
 obtain ⟨w1, hw1⟩ : ∃ w1, w1 = w.alloc (.cells #[.map none] 91) := ⟨_, rfl⟩
 have hb1 : Below w.heap.size w w1 := by rw [hw1]; exact (Below.refl _ _).alloc (Nat.le_refl _) _
 have HS1 := hid (show StAt w1 sb (sb + 1) [] by rw [hw1, ← hsb]; exact new_at w _)
 have HZ1 := hid (show sb + 1 ≤ w1.heap.size by rw [hw1, ← hsb]; simp)
 have HB1 := hid hb1
 have HWw := hid (fun wr (h : Below w.heap.size w wr) => hw.below h)
 have HX := hid hw1
 have HSb := hid hsb
 clear hw1 hb1 hw hsb
 go_enter Tryz.func7, Tryz.ntmps7
 go_wp2_with fail
 refine (new_any w).mono ?_
 rintro e wx ⟨rfl, hwx⟩
 rw [← HX.out] at hwx
 have hx1 := hwx.symm
 clear hwx
 subst hx1
 rw [HSb.out]
 go_wp2_with (first
  | (refine wpList_val (o := ⟨some 11, _, _, _, _, _⟩) rfl (evV e81) w1 (by kernel_rfl) ?_)
  | fail)
 refine (do_yes HS1.out HZ1.out e81 len81 (HWw.out w1 HB1.out).cut ok81 t81 do81).mono ?_
 rintro e w2 ⟨rfl, hs, hk⟩
 have HS2 := hid hs
 have HZ2 := hid (Nat.le_trans HZ1.out hk.size)
 have HB2 := hid (HB1.out.trans (hk.below (C := w.heap.size) (by have := HSb.out; omega) (by have := HSb.out; omega) HB1.out.size))
 clear hs hk
 go_wp2_with (first
  | (refine wpList_val (o := ⟨some 17, _, _, _, _, _⟩) rfl (evV e82) w2 (by kernel_rfl) ?_)
  | fail)
 refine (do_yes HS2.out HZ2.out e82 len82 (HWw.out w2 HB2.out).cut ok82 t82 do82).mono ?_
 rintro e w3 ⟨rfl, hs, hk⟩
 have HS3 := hid hs
 have HZ3 := hid (Nat.le_trans HZ2.out hk.size)
 have HB3 := hid (HB2.out.trans (hk.below (C := w.heap.size) (by have := HSb.out; omega) (by have := HSb.out; omega) HB2.out.size))
 clear hs hk
 go_wp2_with (first
  | (refine wpList_val (o := ⟨some 23, _, _, _, _, _⟩) rfl (evV e83) w3 (by kernel_rfl) ?_)
  | fail)
 refine (do_yes HS3.out HZ3.out e83 len83 (HWw.out w3 HB3.out).cut ok83 t83 do83).mono ?_
 rintro e w4 ⟨rfl, hs, hk⟩
 have HB4 := hid (HB3.out.trans (hk.below (C := w.heap.size) (by have := HSb.out; omega) (by have := HSb.out; omega) HB3.out.size))
 obtain ⟨F, hS, hF⟩ := hs
 have HF := hid (show ∀ i, F i → i < w4.heap.size from hS.2.1)
 have HFl := hid (show ∀ i, F i → w.heap.size ≤ i from fun i hi => by have := HSb.out; rcases hF i hi with h | h <;> omega)
 have HS4 := hid hS
 clear hk hS hF
 go_wp2_with fail
 refine (ofP_any sb F t83 w4 HS4.out (by decide) (fun x => by have h1 := tot_ent (x := x) (σ := t83); have h2 := tot83; omega) (by decide +kernel)).mono ?_
 rintro e w5 ⟨es, vb, rfl, hes, hsrt, own, nv, lv, b1, b2, b3, b4, b5, hV, hb⟩
 have hee : es = k83 := el_unique hes hsrt perm83 sort83
 subst hee
 rw [show finV (foldV (valsS t83) k83) = v83 from rfl] at hV
 have HV5 := hid hV
 have HS5 := hid (HS4.out.below hb)
 have HB5 := hid (HB4.out.trans (hb.mono HB4.out.size))
 have H45 := hid hb.size
 clear hes hsrt hV hb
 go_wp2_with fail
 refine (linksP_any w5 HV5.out (by rw [link83]; decide)).mono ?_
 rintro e w6 ⟨u, rfl, hu, hb⟩
 rw [link83] at hu
 obtain ⟨A6, c6, rfl, _, _⟩ := hu.read enK_len
 rw [show ([] : List Lk).length = 0 from rfl]
 have HV6 := hid (HV5.out.keep hb)
 have HS6 := hid (HS5.out.below hb)
 have HB6 := hid (HB5.out.trans (hb.mono HB5.out.size))
 have H56 := hid hb.size
 clear hu hb
 go_wp2_with (first
  | (refine wpList_val (o := ⟨some 34, _, _, _, _, _⟩) rfl (evV e84) w6 (by kernel_rfl) ?_)
  | fail)
 refine (do_any e84 sb F t83 w6 HS6.out len84 (HWw.out w6 HB6.out).cut).mono ?_
 rintro e w7 ⟨rfl, hS7, hO7⟩
 rw [ok84, if_pos rfl, do84] at hS7
 have HV7 := hid (HV6.out.same (w' := w7) (fun g hg => hO7.block g (HV6.out.lt g hg).2 fun hf => by have h1 := HF.out g hf; have h2 := (HV6.out.lt g hg).1; omega) hO7.size)
 have HS7 := hid hS7
 have HB7 := hid (HB6.out.trans (hO7.below HB6.out.size HFl.out))
 clear hS7 hO7
 go_wp2_with fail
 refine (ofP_any sb _ t84 w7 HS7.out (by decide) (fun x => by have h1 := tot_ent (x := x) (σ := t84); have h2 := tot84; omega) (by decide +kernel)).mono ?_
 rintro e w8 ⟨es, vb2, rfl, hes, hsrt, own2, nv2, lv2, d1, d2, d3, d4, d5, hV, hb⟩
 have hee : es = k84 := el_unique hes hsrt perm84 sort84
 subst hee
 rw [show finV (foldV (valsS t84) k84) = v84 from rfl] at hV
 have HW8 := hid hV
 have HV8 := hid (HV7.out.keep hb)
 have HB8 := hid (HB7.out.trans (hb.mono HB7.out.size))
 clear hes hsrt hV hb
 go_wp2_with fail
 refine (lines_any w8 HW8.out text84 (HWw.out w8 HB8.out)).mono ?_
 rintro e w9 ⟨u, rfl, hu, hb⟩
 rw [lines84] at hu
 obtain ⟨g9, c9, cur9, rfl, hg9, hgb9, _⟩ := hu.block (by simp)
 rw [show ([l80, l81, l82] : List ByteArray).length = 3 from rfl] at hu ⊢
 have hL := hu.read enS_len
 have HW9 := hid (HW8.out.keep hb)
 have HV9 := hid (HV8.out.keep hb)
 have HB9 := hid (HB8.out.trans (hb.mono HB8.out.size))
 have HU9 := hid hu
 clear hg9 hgb9 hL hb hu
 go_wp2_with fail
 refine (hasP_any ⟨#[97]⟩ w9 HV9.out).mono ?_
 rintro e w10 ⟨rfl, hb⟩
 rw [has83]
 have HW10 := hid (HW9.out.keep hb)
 have HB10 := hid (HB9.out.trans (hb.mono HB9.out.size))
 have HU10 := hid (HU9.out.keep hb)
 clear hb
 go_wp2_with fail
 refine (hasLinkP_any ⟨⟨#[97]⟩, ⟨#[98]⟩, ⟨#[75]⟩⟩ w10 HW10.out).mono ?_
 rintro e w11 ⟨rfl, hb⟩
 rw [link84]
 have HB11 := hid (HB10.out.trans (hb.mono HB10.out.size))
 have hU11 := HU10.out.keep hb
 have cl0 : w11.cell? ⟨g9, 0, none⟩ = some (.string ⟨#[110, 111, 100, 101, 32, 97, 32, 80]⟩) := by
  obtain ⟨g, h1, _, _, hr⟩ := hU11.at_ enS_len (j := 0) rfl
  injection h1 with h1; injection h1 with h1; subst h1
  have := hr 0 (.string l80) rfl
  exact (show w11.cell? ⟨g9, 0, none⟩ = some (.string l80) by simpa using this)
 have cl2 : w11.cell? ⟨g9, 2, none⟩ = some (.string ⟨#[101, 100, 103, 101, 32, 97, 32, 75, 32, 98]⟩) := by
  obtain ⟨g, h1, _, _, hr⟩ := hU11.at_ enS_len (j := 2) rfl
  injection h1 with h1; injection h1 with h1; subst h1
  have := hr 0 (.string l82) rfl
  exact (show w11.cell? ⟨g9, 2, none⟩ = some (.string l82) by simpa using this)
 clear hb hU11
 go_wp2_with fail
 refine (nodes_nil w11).mono ?_
 rintro e w12 ⟨A12, c12, rfl, hb⟩
 have HB12 := hid (HB11.out.trans (hb.mono HB11.out.size))
 clear hb cl0 cl2
 go_wp2_with fail
 refine (nodeP_any ⟨#[97]⟩ w12).mono ?_
 rintro e w13 ⟨rfl, hb⟩
 have HB13 := hid (HB12.out.trans (hb.mono HB12.out.size))
 have heq := fun w => eq_ElB (nodeE ⟨#[97]⟩) x81 (q := true) (by decide) w
 clear hb
 unfold x81 at heq
 unfold eE elV nodeE at heq ⊢
 dsimp only at heq ⊢
 go_wp2_with fail
 clear heq
 refine (elemP_any ⟨⟨#[97]⟩, ⟨#[98]⟩, ⟨#[75]⟩⟩ w13).mono ?_
 rintro e w14 ⟨rfl, hb⟩
 have HB14 := hid (HB13.out.trans (hb.mono HB13.out.size))
 have heq := fun w => eq_ElB (linkE ⟨⟨#[97]⟩, ⟨#[98]⟩, ⟨#[75]⟩⟩) x83 (q := true) (by decide) w
 clear hb
 unfold x83 at heq
 unfold eE elV linkE at heq ⊢
 dsimp only at heq ⊢
 go_wp2_with fail
 go_ret
 exact ⟨rfl, HB14.out⟩
end Go.Proofs.YtdgglhlofnigkaaGreatDoor
