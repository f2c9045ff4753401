/-
  A node that is removed, and added again: what is seen of a row behind it. hedgerowlaw08.same at equal rows of texts: the contract, by a walk. Conditions: lengths.
-/
import Derived.Test.YtdgglhlofnigkaaGreatDoorJGrFew
import Derived.Test.YtdgglhlofnigkaaGreatDoorJGrAsk
namespace Go.Proofs.YtdgglhlofnigkaaGreatDoor
open Go.RowKit Go.MapKept Go.Sort
def upF (f : Nat → Int) : Nat → Int := fun i => if i = 15 then f 15 + 1 else f i
def goneE (f : Nat → Int) (key : ByteArray) : Ev := ⟨15, f 15 + 1, f, 2, 1, key, ⟨#[]⟩, ⟨#[]⟩, ⟨#[]⟩, 0, 0, ⟨#[]⟩⟩
def backE (f : Nat → Int) (key : ByteArray) : Ev := ⟨15, f 15 + 1 + 1, upF f, 1, 1, key, ⟨#[]⟩, ⟨#[]⟩, ⟨#[]⟩, 0, 0, ⟨#[]⟩⟩
theorem gone_el (f : Nat → Int) (key : ByteArray) : elOf (goneE f key) = nodeE key := rfl
theorem back_el (f : Nat → Int) (key : ByteArray) : elOf (backE f key) = nodeE key := rfl
theorem live_other {L : List Ev} {g : Ev} {x : El} (h : elOf g ≠ x) : liveL (L ++ [g]) x = liveL L x := by
 have hu : ∀ e, undoB x e g = false := fun e => by unfold undoB; rw [decide_eq_false h]; rfl
 have hg : ∀ M, liveB M x g = false := fun M => by unfold liveB; rw [decide_eq_false h]; rfl
 unfold liveL
 rw [List.filter_append, List.filter_cons_of_neg (by rw [hg]; decide), List.filter_nil, List.append_nil]
 refine List.filter_congr fun e _ => ?_
 unfold liveB
 rw [List.all_append]
 simp [hu]
theorem els_same {L : List Ev} {g : Ev} (h : elOf g ∈ elsL L) : elsL (L ++ [g]) = elsL L := by
 refine rise_unique cfE_ok cfE_zero (els_rise _) (els_rise _) fun x => ?_
 rw [els_mem, els_mem]
 constructor
 ·rintro ⟨e, he, rfl⟩
  rcases List.mem_append.1 he with he | he
  ·exact ⟨e, he, rfl⟩
  ·rw [List.mem_singleton.1 he]; exact (els_mem L _).1 h
 ·rintro ⟨e, he, rfl⟩; exact ⟨e, List.mem_append_left _ he, rfl⟩
section
variable {row : List Ev} {f : Nat → Int}
structure Known (row : List Ev) (f : Nat → Int) : Prop where
 is : causC row = (row, f)
 lens : ∀ e ∈ row, Lens e
theorem Known.caus (h : Known row f) : CausL row := by have := caus_row row; rwa [h.is] at this
theorem Known.of (l : List Ev) (h : ∀ e ∈ (causC l).1, Lens e) : Known (causC l).1 (causC l).2 := ⟨caus_all l, h⟩
theorem Known.bounds (h : Known row f) (i : Nat) : 0 ≤ f i ∧ f i ≤ 1048576 := by
 obtain ⟨_, h2, h3⟩ := caus_known row
 rw [h.is] at h2 h3
 refine ⟨h2 i, ?_⟩
 by_cases h1 : 1 ≤ f i
 ·obtain ⟨e, he, _, hc⟩ := h3 i (f i) h1 (Int.le_refl _)
  obtain ⟨_, _, _, _, hl⟩ := ok_dot (h.caus.1 e he).1
  omega
 ·omega
theorem Known.next (h : Known row f) {e : Ev} (hm : mayC f e = true) (hl : Lens e) {g : Nat → Int} (hg : g = fun i => if i = e.r.toNat then e.c else f i) : Known (row ++ [e]) g := by
 refine ⟨?_, fun x hx => ?_⟩
 ·rw [causC_snoc, h.is, comeC_yes hm, hg]
 ·rcases List.mem_append.1 hx with hx | hx
  ·exact h.lens x hx
  ·rw [List.mem_singleton.1 hx]; exact hl
theorem has_ev {key : ByteArray} (h : hasG row (nodeE key) = true) : ∃ e ∈ row, elOf e = nodeE key := (els_mem row _).1 (has_mem row _ h)
theorem Known.name {key : ByteArray} (h : Known row f) (hk : hasG row (nodeE key) = true) : elemB 1 key.data.toList [] [] [] = true ∧ key.size ≤ 4294967280 := by
 obtain ⟨e, he, hx⟩ := has_ev hk
 have ho := (h.caus.1 e he).1
 have hl := (h.lens e he).1
 unfold okB changeB at ho
 simp only [Bool.and_eq_true] at ho
 have h1 := ho.2.1
 unfold elOf nodeE at hx
 simp only [El.mk.injEq] at hx
 obtain ⟨e1, e2, e3, e4, e5⟩ := hx
 rw [e1, e2, e3, e4, e5] at h1
 rw [e2] at hl
 exact ⟨h1, hl⟩
theorem rightV_of {g : Nat → Int} (h : ∀ i, 0 ≤ g i ∧ g i ≤ 1048576) : rightV g = true := by
 unfold rightV
 rw [eqV_iff]
 intro i _
 have := h i
 unfold clampV
 omega
theorem Known.gone {key : ByteArray} (h : Known row f) (hk : hasG row (nodeE key) = true) (hf : f 15 < 1048574) : mayC f (goneE f key) = true := by
 obtain ⟨h1, _⟩ := h.name hk
 have hb := h.bounds 15
 refine may_iff.2 ⟨?_, ?_, fun i _ => Int.le_refl _⟩
 ·unfold okB changeB
  show (nextB f 15 (f 15 + 1) && rightV f && (elemB 1 key.data.toList [] [] [] && fitsB 2 1 0 0 [])) = true
  rw [h1, rightV_of h.bounds]
  have : nextB f 15 (f 15 + 1) = true := by
   unfold nextB dotB
   simp only [Bool.and_eq_true, decide_eq_true_eq, beq_iff_eq]
   exact ⟨⟨by omega, by omega, by omega, by omega⟩, by show f 15 = _; omega⟩
  rw [this]; decide
 ·show f 15 = f 15 + 1 - 1
  omega
theorem Known.up {key : ByteArray} (h : Known row f) (hk : hasG row (nodeE key) = true) (hf : f 15 < 1048574) : Known (row ++ [goneE f key]) (upF f) := by
 refine h.next (h.gone hk hf) ⟨(h.name hk).2, ?_, ?_, ?_, ?_⟩ rfl <;> (show (0 : Nat) ≤ _; omega)
theorem Known.back {key : ByteArray} (h : Known row f) (hk : hasG row (nodeE key) = true) (hf : f 15 < 1048574) : mayC (upF f) (backE f key) = true := by
 obtain ⟨h1, _⟩ := h.name hk
 have hb := (h.up hk hf).bounds
 have hb5 := h.bounds 15
 refine may_iff.2 ⟨?_, ?_, fun i _ => Int.le_refl _⟩
 ·unfold okB changeB
  show (nextB (upF f) 15 (f 15 + 1 + 1) && rightV (upF f) && (elemB 1 key.data.toList [] [] [] && fitsB 1 1 0 0 [])) = true
  rw [h1, rightV_of hb]
  have : nextB (upF f) 15 (f 15 + 1 + 1) = true := by
   unfold nextB dotB
   simp only [Bool.and_eq_true, decide_eq_true_eq, beq_iff_eq]
   exact ⟨⟨by omega, by omega, by omega, by omega⟩, by show upF f 15 = _; unfold upF; rw [if_pos rfl]; omega⟩
  rw [this]; decide
 ·show upF f 15 = f 15 + 1 + 1 - 1
  unfold upF; rw [if_pos rfl]; omega
theorem Known.twice {key : ByteArray} (h : Known row f) (hk : hasG row (nodeE key) = true) (hf : f 15 < 1048574) : ∃ g, Known (row ++ [goneE f key] ++ [backE f key]) g := by
 refine ⟨_, (h.up hk hf).next (h.back hk hf) ⟨(h.name hk).2, ?_, ?_, ?_, ?_⟩ rfl⟩ <;> (show (0 : Nat) ≤ _; omega)
theorem has_gone {key : ByteArray} (h : Known row f) : hasG (row ++ [goneE f key]) (nodeE key) = false := by
 unfold hasG
 apply decide_eq_false
 intro hpos
 obtain ⟨e, he⟩ := List.exists_mem_of_length_pos hpos
 obtain ⟨he1, he2⟩ := List.mem_filter.1 he
 unfold liveB at he2
 simp only [Bool.and_eq_true, decide_eq_true_eq, List.all_eq_true] at he2
 obtain ⟨⟨hx, hop⟩, hall⟩ := he2
 rcases List.mem_append.1 he1 with he1 | he1
 ·have hu := hall (goneE f key) (by simp)
  have hcn := (caus_known row).1 e (by rw [h.is]; exact he1)
  rw [h.is] at hcn
  have hd : dtOf (goneE f key) ≠ dtOf e := fun hd => by
   unfold dtOf goneE at hd
   simp only [Dt.mk.injEq] at hd
   have h2 := hcn.2
   rw [← hd.1, ← hd.2] at h2
   have h3 : f 15 + 1 ≤ f 15 := h2
   omega
  unfold undoB at hu
  rw [decide_eq_true (gone_el f key), decide_eq_false hd, decide_eq_true (show e.c ≤ (goneE f key).p e.r.toNat from hcn.2)] at hu
  exact absurd (show (!(true && !((2 : Int) == 1) && !false && true)) = true from hu) (by decide)
 ·rw [List.mem_singleton.1 he1] at hop
  exact absurd (show ((2 : Int) == 1 || (2 : Int) == 3) = true from hop) (by decide)
theorem has_back {key : ByteArray} {g : Nat → Int} (h : Known (row ++ [goneE f key] ++ [backE f key]) g) : hasG (row ++ [goneE f key] ++ [backE f key]) (nodeE key) = true := by
 unfold hasG
 apply decide_eq_true
 have hm : backE f key ∈ liveL (row ++ [goneE f key] ++ [backE f key]) (nodeE key) := by
  refine List.mem_filter.2 ⟨by simp, ?_⟩
  unfold liveB
  simp only [Bool.and_eq_true, List.all_eq_true]
  refine ⟨⟨decide_eq_true (back_el f key), rfl⟩, fun e he => ?_⟩
  rcases List.mem_append.1 he with he | he
  ·have hp := (List.pairwise_append.1 h.caus.2).2.2 e he (backE f key) (by simp)
   have hk := hp.2
   unfold knD knowsB at hk
   have hdot : dotB (dtOf (backE f key)).r (dtOf (backE f key)).c = true := by
    have ho := (h.caus.1 (backE f key) (by simp)).1
    unfold okB nextB at ho
    simp only [Bool.and_eq_true] at ho
    exact ho.1.1.1
   rw [hdot, Bool.true_and] at hk
   unfold undoB
   rw [show decide ((backE f key).c ≤ e.p (backE f key).r.toNat) = false from hk, Bool.and_false]; rfl
  ·rw [List.mem_singleton.1 he]
   unfold undoB
   rw [show ((backE f key).op == 1) = true from rfl]
   simp
 exact List.length_pos_of_mem hm
theorem has_same_other {key : ByteArray} {x : El} (hx : nodeE key ≠ x) : hasG (row ++ [goneE f key]) x = hasG row x ∧ hasG (row ++ [goneE f key] ++ [backE f key]) x = hasG row x := by
 unfold hasG
 rw [live_other (g := backE f key) hx, live_other (g := goneE f key) hx]
 exact ⟨rfl, rfl⟩
theorem has_again {key : ByteArray} {g : Nat → Int} (h : Known (row ++ [goneE f key] ++ [backE f key]) g) (hk : hasG row (nodeE key) = true) : hasG (row ++ [goneE f key] ++ [backE f key]) = hasG row := by
 funext x
 by_cases hx : nodeE key = x
 ·rw [← hx, has_back h, hk]
 ·exact (has_same_other hx).2
theorem els_again {key : ByteArray} (hk : hasG row (nodeE key) = true) : elsL (row ++ [goneE f key] ++ [backE f key]) = elsL row := by
 have h1 : elsL (row ++ [goneE f key]) = elsL row := els_same (by rw [gone_el]; exact has_mem row _ hk)
 rw [els_same (by rw [h1, back_el]; exact has_mem row _ hk), h1]
theorem pref_vals {v1 v2 : El → List Va} {E : List El} (h : ∀ x, 4 ≤ x.k → v1 x = v2 x) : prefV v1 E E = prefV v2 E E := by
 refine Vw.ext' rfl rfl (fun _ => rfl) (fun _ => rfl) (fun _ => rfl) (fun _ => rfl) fun x => ?_
 unfold prefV
 dsimp only
 split
 ·rename_i hx
  refine h x ?_
  have := hx.2
  unfold seenIn at this
  simp only [Bool.or_eq_true, Bool.and_eq_true, decide_eq_true_eq] at this
  omega
 ·rfl
theorem view_again {key : ByteArray} {g : Nat → Int} (h0 : Known row f) (h : Known (row ++ [goneE f key] ++ [backE f key]) g) (hk : hasG row (nodeE key) = true) : viewL (row ++ [goneE f key] ++ [backE f key]) = viewL row := by
 unfold viewL
 rw [fold_is h.caus h.lens, fold_is h0.caus h0.lens]
 have he : elsG (row ++ [goneE f key] ++ [backE f key]) = elsG row := by unfold elsG; rw [has_again h hk, els_again hk]
 rw [he]
 congr 1
 refine pref_vals fun x hx => ?_
 rw [vals_is h.caus h.lens, vals_is h0.caus h0.lens]
 unfold valsG
 have hne : nodeE key ≠ x := fun e => by rw [← e] at hx; exact absurd (show (4 : Int) ≤ 1 from hx) (by decide)
 rw [live_other (g := backE f key) hne, live_other (g := goneE f key) hne]
theorem view_gone {key : ByteArray} {g : Nat → Int} (h : Known (row ++ [goneE f key]) g) (h0 : Known row f) : hasV (viewL (row ++ [goneE f key])) key = false ∧ (viewL (row ++ [goneE f key])).lab key = [] ∧ ∀ x ∈ (viewL (row ++ [goneE f key])).links, x.f ≠ key ∧ x.t ≠ key := by
 have hh := has_gone (key := key) h0
 have hv := viewL_has h.caus h.lens key
 rw [hh] at hv
 refine ⟨hv, ?_, fun x hx => ?_⟩
 ·unfold viewL finV
  rw [fold_is h.caus h.lens]
  unfold elsG
  show (prefV (valsS (runS (row ++ [goneE f key]))) _ _).lab key = []
  rw [show (prefV (valsS (runS (row ++ [goneE f key]))) ((elsL (row ++ [goneE f key])).filter (hasG (row ++ [goneE f key]))) ((elsL (row ++ [goneE f key])).filter (hasG (row ++ [goneE f key])))).lab key = labR (hasG (row ++ [goneE f key])) (elsL (row ++ [goneE f key])) key from (lab_eq (has_mem _) key).symm]
  unfold labR
  rw [List.map_eq_nil_iff, List.filter_eq_nil_iff]
  intro e _ hq
  simp only [Bool.and_eq_true, decide_eq_true_eq] at hq
  obtain ⟨hk, ha, _, hs⟩ := hq
  unfold seenH at hs
  rw [if_pos (.inl hk), ha, hh] at hs
  cases hs
 ·have he := viewL_ends h.caus h.lens hx
  refine ⟨fun e => ?_, fun e => ?_⟩
  ·have h1 := he.1; rw [e, hv] at h1; exact absurd h1 (by decide)
  ·have h1 := he.2; rw [e, hv] at h1; exact absurd h1 (by decide)
end
end Go.Proofs.YtdgglhlofnigkaaGreatDoor

namespace Go.Proofs.YtdgglhlofnigkaaGreatDoor
open Lib (hid)
open Go.RowKit Go.MapKept Go.Sort
theorem at_Sq (g o c n k : Nat) (h : k < n) (w : World) : (Instr.indexAt 32 (.slice (some ⟨g, o, none⟩) n c) (.int .i64 k)).run Tryz.prog w = .ok (.pointer (some ⟨g, o + k * 1, none⟩)) w := by
 have h2 : (k : Int) < n := by omega
 go_simp
theorem ne_SS (s : ByteArray) (w : World) : (binOp .neq 9 (.string s) (.string s)).run Tryz.prog w = .ok (.bool false) w := by
 go_simp
set_option maxRecDepth 100000 in
set_option maxHeartbeats 2000000 in
theorem sameS_any (l : List ByteArray) (A A2 : Option Addr) (N c c2 : Nat) (w : World) (h1 : SlK enS 1 w (.slice A N c) l) (h2 : SlK enS 1 w (.slice A2 N c2) l) (hN : l.length = N) (hN2 : N ≤ 1000000) :
  Calls Tryz.prog 11 #[.slice A N c, .slice A2 N c2] w (Gives w (.bool true)) := by
 have H1 := hid h1
 have H2 := hid h2
 have HN := hid hN
 have HN2 := hid hN2
 clear h1 h2 hN hN2
 go_enter Tryz.func11, Tryz.ntmps11
 go_wp2_with fail
 go_loopw [13] (fun v13 wr => ∃ k : Nat, v13 = .int .i64 k ∧ k ≤ N ∧ Below w.heap.size w wr) (fun v13 _ => N - (intOf v13).toNat)
 case atStart => exact ⟨0, rfl, Nat.zero_le _, Below.refl _ _⟩
 case round =>
  obtain ⟨k, rfl, hk, hbw⟩ := hrel
  obtain ⟨wo, rfl⟩ : ∃ wo, wo = wr := ⟨_, rfl⟩
  have HBw := hid hbw
  clear hbw
  by_cases hlt : k < N
  ·obtain ⟨s, hs⟩ : ∃ s, l[k]? = some s := ⟨l[k]'(by rw [HN.out]; exact hlt), List.getElem?_eq_getElem _⟩
   have hne : l ≠ [] := fun e => by rw [e] at hs; simp at hs
   obtain ⟨A', c', hA', _, hx1⟩ := H1.out
   obtain ⟨g, o, rfl, hg, hc1⟩ := hx1 hne
   obtain ⟨A2', c2', hA2', _, hx2⟩ := H2.out
   obtain ⟨g2, o2, rfl, hg2, hc2⟩ := hx2 hne
   simp only [Value.slice.injEq] at hA' hA2'
   obtain ⟨rfl, _, rfl⟩ := hA'
   obtain ⟨rfl, _, rfl⟩ := hA2'
   have HC1 := hid (show ∀ W, Below wo.heap.size wo W → W.cell? ⟨g, o + k * 1, none⟩ = some (.string s) from fun W h => rangeAt_below (hc1 k s hs) hg (HBw.out.trans (h.mono HBw.out.size)) 0 (.string s) rfl)
   have HC2 := hid (show ∀ W, Below wo.heap.size wo W → W.cell? ⟨g2, o2 + k * 1, none⟩ = some (.string s) from fun W h => rangeAt_below (hc2 k s hs) hg2 (HBw.out.trans (h.mono HBw.out.size)) 0 (.string s) rfl)
   have HW1 := hid (IntWalk.i64_in ((k : Int) + 1) (by have := HN2.out; omega))
   have HJ1 := hid (show ¬ 9223372036854775807 < k + 1 by have := HN2.out; omega)
   clear hs hne hg hc1 hg2 hc2 hx1 hx2
   go_upto_region 6 with fail
   try simp only [Act.put]
   refine wp_region_any (by kernel_rfl) ?_
   refine wpAny_below (fun iq uq wq => uq = ([.slice (some ⟨g, o, none⟩) N c, .int .i64 (k : Nat), .pointer (some ⟨g, o + k * 1, none⟩), .string s, .slice (some ⟨g2, o2, none⟩) N c2, .int .i64 (k : Nat), .pointer (some ⟨g2, o2 + k * 1, none⟩), .string s, .bool false] : List Value).getD iq undef) _ wo (by kernel_rfl) (by kernel_rfl) (by kernel_rfl) (fun i v w w' _ h => h) ?_ ?_
   ·refine ⟨?_, ?_, ?_, ?_, ?_, ?_, ?_, ?_, ?_, trivial⟩
    ·intro a W hI hun haft hi
     have e0 : a.eval (.tmp 0) = .slice (some ⟨g, o, none⟩) N c := hun 0 (by kernel_rfl)
     exact b_same hi hI rfl _ (run_move_op rfl e0) rfl
    ·intro a W hI hun haft hi
     have e5 : a.eval (.tmp 5) = .int .i64 (k : Nat) := hun 5 (by kernel_rfl)
     exact b_same hi hI rfl _ (run_move_op rfl e5) rfl
    ·intro a W hI hun haft hi
     have f0 : a.eval (.tmp 16) = .slice (some ⟨g, o, none⟩) N c := haft ⟨0, .data⟩ (by simp) rfl _ _ rfl rfl
     have f1 : a.eval (.tmp 17) = .int .i64 (k : Nat) := haft ⟨1, .data⟩ (by simp) rfl _ _ rfl rfl
     exact b_same hi hI rfl _ (run_indexAddr_op rfl f0 f1 (at_Sq g o c N k hlt W)) rfl
    ·intro a W hI hun haft hi
     have f2 : a.eval (.tmp 18) = .pointer (some ⟨g, o + k * 1, none⟩) := haft ⟨2, .data⟩ (by simp) rfl _ _ rfl rfl
     exact b_same hi hI rfl _ (run_loadstr_op rfl f2 Tryz.underlying9 (HC1.out W hI)) rfl
    ·intro a W hI hun haft hi
     have e1 : a.eval (.tmp 1) = .slice (some ⟨g2, o2, none⟩) N c2 := hun 1 (by kernel_rfl)
     exact b_same hi hI rfl _ (run_move_op rfl e1) rfl
    ·intro a W hI hun haft hi
     have e5 : a.eval (.tmp 5) = .int .i64 (k : Nat) := hun 5 (by kernel_rfl)
     exact b_same hi hI rfl _ (run_move_op rfl e5) rfl
    ·intro a W hI hun haft hi
     have f4 : a.eval (.tmp 20) = .slice (some ⟨g2, o2, none⟩) N c2 := haft ⟨4, .data⟩ (by simp) rfl _ _ rfl rfl
     have f5 : a.eval (.tmp 21) = .int .i64 (k : Nat) := haft ⟨5, .data⟩ (by simp) rfl _ _ rfl rfl
     exact b_same hi hI rfl _ (run_indexAddr_op rfl f4 f5 (at_Sq g2 o2 c2 N k hlt W)) rfl
    ·intro a W hI hun haft hi
     have f6 : a.eval (.tmp 22) = .pointer (some ⟨g2, o2 + k * 1, none⟩) := haft ⟨6, .data⟩ (by simp) rfl _ _ rfl rfl
     exact b_same hi hI rfl _ (run_loadstr_op rfl f6 Tryz.underlying9 (HC2.out W hI)) rfl
    ·intro a W hI hun haft hi
     have f3 : a.eval (.tmp 19) = .string s := haft ⟨3, .data⟩ (by simp) rfl _ _ rfl rfl
     have f7 : a.eval (.tmp 23) = .string s := haft ⟨7, .data⟩ (by simp) rfl _ _ rfl rfl
     exact b_same hi hI rfl (.bool false) (run_bin_op rfl f3 f7 (by kernel_rfl) (ne_SS s W)) rfl
   ·intro vals W hI hp
    have hl8 : vals 8 = .bool false := hp 8 (by decide)
    have HI := hid hI
    clear hp hI
    simp only [layN, layS, List.range, List.range.loop, if_true, Act.put, Nat.zero_add, Nat.reduceAdd, hl8]
    clear hl8
    have HBe := hid (HBw.out.trans (HI.out.mono HBw.out.size))
    have hw := HW1.out
    have hjm := HJ1.out
    clear HI
    go_wp2_with fail
    go_roundw
    case rel => exact ⟨k + 1, by go_num, by omega, HBe.out⟩
    case measure => simp [intOf] <;> omega
  ·go_wp2_with fail
   go_ret
   exact ⟨rfl, HBw.out⟩
end Go.Proofs.YtdgglhlofnigkaaGreatDoor
