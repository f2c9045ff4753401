/- hedgerowref08.Has, Node, Elem, HasLink, Seen. -/import Derived.Test.YtdgglhlofnigkaaGreatDoorSLvG
set_option maxHeartbeats 2000000
set_option maxRecDepth 100000
namespace Go.Proofs.YtdgglhlofnigkaaGreatDoor
open Lib (hid)
open Go.RowKit Go.MapKept Go.Sort
structure Lk where
 f : ByteArray
 t : ByteArray
 y : ByteArray
def lkC (x : Lk) : Array Value := #[.string x.f, .string x.t, .string x.y]
def eK (x : Lk) : Value := .agg (lkC x)
def nodeE (k : ByteArray) : El := ⟨1, k, ⟨#[]⟩, ⟨#[]⟩, ⟨#[]⟩⟩
def linkE (x : Lk) : El := ⟨3, x.f, x.t, x.y, ⟨#[]⟩⟩
def hasG (l : List Ev) (x : El) : Bool := decide (0 < (liveL l x).length)
def linkG (l : List Ev) (x : Lk) : Bool := hasG l (linkE x) && (hasG l (nodeE x.f) && hasG l (nodeE x.t))
def seenG (l : List Ev) (x : El) : Bool := if x.k = 2 ∨ x.k = 4 then hasG l (nodeE x.a) else if x.k = 5 then linkG l ⟨x.a, x.b, x.c⟩ else false
theorem infoElG : (Tryz.prog.info? 38).map (fun i => (i.zero, i.size)) = some (some (.agg #[.int .i64 0, .string ⟨#[]⟩, .string ⟨#[]⟩, .string ⟨#[]⟩, .string ⟨#[]⟩]), 5) := by kernel_rfl
theorem sizeK (x : Lk) : (Tryz.prog.info? 36).map (·.size) = some (lkC x).size := by kernel_rfl
theorem has8_any (x : El) (l : List Ev) (A : Option Addr) (N c : Nat) (w : World) (hs : SlK encE 27 w (.slice A N c) l) (hN : l.length = N) (hN2 : N ≤ 10000) (hok : ∀ e ∈ l, okB e = true) :
  Calls Tryz.prog 49 #[.slice A N c, eE x] w (Gives w (.bool (hasG l x))) := by
 obtain ⟨p, hp⟩ : ∃ p, w.heap.size = p := ⟨_, rfl⟩
 obtain ⟨X, hX⟩ : ∃ X, X = w.alloc (.cells #[.int .i64 x.k, .string x.a, .string x.b, .string x.c, .string x.d] 38) := ⟨_, rfl⟩
 have hb : Below w.heap.size w X := by rw [hX]; exact (Below.refl _ _).alloc (Nat.le_refl _) _
 have HE := hid (show Blk X p 38 #[.int .i64 x.k, .string x.a, .string x.b, .string x.c, .string x.d] by rw [hX, ← hp]; exact Blk.new w _ _)
 have HL := hid (live_any x l A N c X (hs.below hb) hN hN2 hok)
 have HB := hid hb
 have HX := hid hX
 have HP := hid hp
 obtain ⟨n, hn⟩ : ∃ n, (liveL l x).length = n := ⟨_, rfl⟩
 obtain ⟨q, hq⟩ : ∃ q, hasG l x = q := ⟨_, rfl⟩
 have HQ := hid (show decide (0 < n) = q by rw [← hq, ← hn]; rfl)
 have HN := hid hn
 rw [hq]
 clear hb hX hp hs hN hN2 hok hn hq
 unfold eE elV at *
 go_enter Tryz.func49, Tryz.ntmps49
 go_upto_region 1 with fail
 rw [← HX.out, HP.out]
 go_wp2_with (first
  | (refine' wpList_load_if ?q1 38 (.tmp 3) ?q2 p ?q3 _ _ _ _ ?q4 Tryz.underlying38 ?q5 ?q6 ?_; (case q2 => rfl); (case q1 => rfl); (case q3 => rfl); (case q4 => exact HE.out); (case q5 => rfl); (case q6 => exact sizeL x))
  | fail)
 refine HL.out.mono ?_
 rintro e w1 ⟨v, rfl, ho, hb1⟩
 obtain ⟨A1, c1, rfl, _, _⟩ := ho.read encE_len
 rw [HN.out]
 have HB1 := hid (HB.out.trans (hb1.mono HB.out.size))
 clear ho hb1
 cases q with
 | true =>
  have hn0 : 0 < n := of_decide_eq_true HQ.out
  go_wp2_with fail
  go_ret
  exact ⟨rfl, HB1.out⟩
 | false =>
  have hn0 : n = 0 := by have := of_decide_eq_false HQ.out; omega
  subst hn0
  go_wp2_with fail
  go_ret
  exact ⟨rfl, HB1.out⟩
theorem node8_any (k : ByteArray) (l : List Ev) (A : Option Addr) (N c : Nat) (w : World) (hs : SlK encE 27 w (.slice A N c) l) (hN : l.length = N) (hN2 : N ≤ 10000) (hok : ∀ e ∈ l, okB e = true) :
  Calls Tryz.prog 19 #[.slice A N c, .string k] w (Gives w (.bool (hasG l (nodeE k)))) := by
 have HH := hid (has8_any (nodeE k) l A N c w hs hN hN2 hok)
 obtain ⟨q, hq⟩ : ∃ q, hasG l (nodeE k) = q := ⟨_, rfl⟩
 rw [hq] at HH ⊢
 clear hs hN hN2 hok hq
 unfold eE elV nodeE at HH
 dsimp only at HH
 have hz := (zero_of_info infoElG).1
 go_enter Tryz.func19, Tryz.ntmps19
 go_wp2_with fail
 refine HH.out.mono ?_
 rintro e w1 ⟨rfl, hb⟩
 go_wp2_with fail
 go_ret
 exact ⟨rfl, hb⟩
theorem ret_cellG {P : Program} {fn : Func} {p : Tmp} {ty : TypeId} (h : fn.results = #[.cell p ty]) (tmps : Array Value) (w : World) (g : Nat) (t : TypeId) (cs : Array Value) (d : TypeDesc)
  (hp : tmps.getD p undef = .pointer (some ⟨g, 0, none⟩)) (hg : Blk w g t cs)
  (hu : P.underlying ty = some d) (hd : (match d with | .struct _ | .array _ _ => true | _ => false) = true) (hi : (P.info? ty).map (·.size) = some cs.size) :
  (results fn tmps).run P w = .ok (.agg cs) w := results_cell_row h tmps w g t cs (0, 0) d hp hg hu hd hi
theorem elem8_any (x : Lk) (w : World) : Calls Tryz.prog 40 #[eK x] w (Gives w (eE (linkE x))) := by
 obtain ⟨f, t, y⟩ := x
 obtain ⟨p, hp⟩ : ∃ p, w.heap.size = p := ⟨_, rfl⟩
 obtain ⟨X, hX⟩ : ∃ X, X = w.alloc (.cells #[.string f, .string t, .string y] 36) := ⟨_, rfl⟩
 have hb : Below w.heap.size w X := by rw [hX]; exact (Below.refl _ _).alloc (Nat.le_refl _) _
 have hB : Blk X p 36 #[.string f, .string t, .string y] := by rw [hX, ← hp]; exact Blk.new w _ _
 obtain ⟨Y, hY⟩ : ∃ Y, Y = X.alloc (.cells #[.int .i64 0, .string ⟨#[]⟩, .string ⟨#[]⟩, .string ⟨#[]⟩, .string ⟨#[]⟩] 38) := ⟨_, rfl⟩
 have hbY : Below X.heap.size X Y := by rw [hY]; exact (Below.refl _ _).alloc (Nat.le_refl _) _
 have hBY := Blk.below hB hbY (Blk.lt hB)
 have c0 : Y.cell? ⟨p, 0, none⟩ = some (.string f) := (Blk.cell hBY 0).trans rfl
 have c1 : Y.cell? ⟨p, 1, none⟩ = some (.string t) := (Blk.cell hBY 1).trans rfl
 have c2 : Y.cell? ⟨p, 2, none⟩ = some (.string y) := (Blk.cell hBY 2).trans rfl
 have HZ := hid (show Blk Y X.heap.size 38 #[.int .i64 0, .string ⟨#[]⟩, .string ⟨#[]⟩, .string ⟨#[]⟩, .string ⟨#[]⟩] by rw [hY]; exact Blk.new X _ _)
 have HAl := hid fun cs => World.setRow_alloc_new X #[.int .i64 0, .string ⟨#[]⟩, .string ⟨#[]⟩, .string ⟨#[]⟩, .string ⟨#[]⟩] cs 38
 have hbR : Below X.heap.size X (X.alloc (.cells #[.int .i64 3, .string f, .string t, .string y, .string ⟨#[]⟩] 38)) := (Below.refl _ _).alloc (Nat.le_refl _) _
 have HBR := hid (show Blk (X.alloc (.cells #[.int .i64 3, .string f, .string t, .string y, .string ⟨#[]⟩] 38)) X.heap.size 38 #[.int .i64 3, .string f, .string t, .string y, .string ⟨#[]⟩] from Blk.new X _ _)
 have hq2 : X.heap.size = p + 1 := by rw [hX, ← hp]; simp
 obtain ⟨q, hq⟩ : ∃ q, X.heap.size = q := ⟨_, rfl⟩
 rw [hq] at HZ HAl HBR
 have HQ2 := hid (show p + 1 = q by rw [← hq2, hq])
 have hz := (zero_of_info infoElG).1
 have HB := hid (hb.trans (hbR.mono hb.size))
 rw [hY] at HZ
 have HX := hid hX
 have HY := hid hY
 have HP := hid hp
 have HQ := hid hq
 clear hb hB hBY hbY hbR hX hY hp hq hq2
 unfold eK lkC eE elV linkE
 dsimp only
 go_enter Tryz.func40, Tryz.ntmps40
 go_upto_region 1 with fail
 rw [← HX.out, HP.out, HQ2.out]
 rw [HY.out] at c0 c1 c2
 go_wp2_with (first
  | (refine wpList_store_row (o := ⟨none, _, _, _, _, _⟩) rfl 38 (.tmp 2) (.tmp 9) rfl q #[.int .i64 3, .string f, .string t, .string y, .string ⟨#[]⟩] rfl rfl _ _ HZ.out (sizeL (nodeE f)) rfl (by kernel_rfl) ?_; rw [HAl.out])
  | fail)
 (try simp only [Exit.inBlock, Exit.then])
 refine bodyPost_ret (ret_cellG rfl _ _ _ _ _ _ rfl HBR.out Tryz.underlying38 rfl (sizeL (nodeE f))) rfl ?_
 exact ⟨rfl, HB.out⟩
theorem link8_any (x : Lk) (l : List Ev) (A : Option Addr) (N c : Nat) (w : World) (hs : SlK encE 27 w (.slice A N c) l) (hN : l.length = N) (hN2 : N ≤ 10000) (hok : ∀ e ∈ l, okB e = true) :
  Calls Tryz.prog 23 #[.slice A N c, eK x] w (Gives w (.bool (linkG l x))) := by
 obtain ⟨p, hp⟩ : ∃ p, w.heap.size = p := ⟨_, rfl⟩
 obtain ⟨X, hX⟩ : ∃ X, X = w.alloc (.cells (lkC x) 36) := ⟨_, rfl⟩
 have hb : Below w.heap.size w X := by rw [hX]; exact (Below.refl _ _).alloc (Nat.le_refl _) _
 have HE := hid (show Blk X p 36 (lkC x) by rw [hX, ← hp]; exact Blk.new w _ _)
 have HS := hid (hs.below hb)
 have HEl := hid (elem8_any x X)
 have HHas := hid (fun W (h : Below X.heap.size X W) => has8_any (linkE x) l A N c W (HS.out.below h) hN hN2 hok)
 have HNf := hid (fun W (h : Below X.heap.size X W) => node8_any x.f l A N c W (HS.out.below h) hN hN2 hok)
 have HNt := hid (fun W (h : Below X.heap.size X W) => node8_any x.t l A N c W (HS.out.below h) hN hN2 hok)
 have HB := hid hb
 have HX := hid hX
 have HP := hid hp
 unfold linkG
 obtain ⟨q1, h1⟩ : ∃ q, hasG l (linkE x) = q := ⟨_, rfl⟩
 obtain ⟨q2, h2⟩ : ∃ q, hasG l (nodeE x.f) = q := ⟨_, rfl⟩
 obtain ⟨q3, h3⟩ : ∃ q, hasG l (nodeE x.t) = q := ⟨_, rfl⟩
 rw [h1] at HHas ⊢
 rw [h2] at HNf ⊢
 rw [h3] at HNt ⊢
 clear hb hX hp hs hN hN2 hok h1 h2 h3
 obtain ⟨E, hE⟩ : ∃ E, eE (linkE x) = E := ⟨_, rfl⟩
 rw [hE] at HEl HHas
 clear hE
 obtain ⟨f, t, y⟩ := x
 unfold eK at *
 unfold lkC at *
 dsimp only at *
 go_enter Tryz.func23, Tryz.ntmps23
 go_upto_region 1 with fail
 rw [← HX.out, HP.out]
 go_wp2_with (first
  | (refine' wpList_load_if ?q1 36 (.tmp 3) ?q2 p ?q3 _ _ _ _ ?q4 Tryz.underlying36 ?q5 ?q6 ?_; (case q2 => rfl); (case q1 => rfl); (case q3 => rfl); (case q4 => exact HE.out); (case q5 => rfl); (case q6 => exact sizeK ⟨f, t, y⟩))
  | fail)
 refine HEl.out.mono ?_
 rintro e w1 ⟨rfl, hb1⟩
 have HB1 := hid hb1
 clear hb1
 go_wp2_with fail
 refine (HHas.out w1 HB1.out).mono ?_
 rintro e w2 ⟨rfl, hb2⟩
 have HB2 := hid (HB1.out.trans (hb2.mono HB1.out.size))
 have HE2 := HE.out.below HB2.out (Blk.lt HE.out)
 have c0 : w2.cell? ⟨p, 0, none⟩ = some (.string f) := (Blk.cell HE2 0).trans rfl
 clear hb2 HE2
 cases q1 with
 | false =>
  go_wp2_with fail
  go_ret
  exact ⟨rfl, HB.out.trans (HB2.out.mono HB.out.size)⟩
 | true =>
  go_wp2_with fail
  refine (HNf.out w2 HB2.out).mono ?_
  rintro e w3 ⟨rfl, hb3⟩
  have HB3 := hid (HB2.out.trans (hb3.mono HB2.out.size))
  have HE3 := HE.out.below HB3.out (Blk.lt HE.out)
  have c1 : w3.cell? ⟨p, 1, none⟩ = some (.string t) := (Blk.cell HE3 1).trans rfl
  clear hb3 HE3 c0
  cases q2 with
  | false =>
   go_wp2_with fail
   go_ret
   exact ⟨rfl, HB.out.trans (HB3.out.mono HB.out.size)⟩
  | true =>
   go_wp2_with fail
   refine (HNt.out w3 HB3.out).mono ?_
   rintro e w4 ⟨rfl, hb4⟩
   have HB4 := hid (HB3.out.trans (hb4.mono HB3.out.size))
   clear hb4
   cases q3 <;>
   ·go_wp2_with fail
    go_ret
    exact ⟨rfl, HB.out.trans (HB4.out.mono HB.out.size)⟩
theorem seen8_any (x : El) (l : List Ev) (A : Option Addr) (N c : Nat) (w : World) (hs : SlK encE 27 w (.slice A N c) l) (hN : l.length = N) (hN2 : N ≤ 10000) (hok : ∀ e ∈ l, okB e = true) :
  Calls Tryz.prog 45 #[.slice A N c, eE x] w (Gives w (.bool (seenG l x))) := by
 obtain ⟨k, a, b, cc, d⟩ := x
 obtain ⟨p, hp⟩ : ∃ p, w.heap.size = p := ⟨_, rfl⟩
 obtain ⟨X, hX⟩ : ∃ X, X = w.alloc (.cells #[.int .i64 k, .string a, .string b, .string cc, .string d] 38) := ⟨_, rfl⟩
 have hb : Below w.heap.size w X := by rw [hX]; exact (Below.refl _ _).alloc (Nat.le_refl _) _
 have hE : Blk X p 38 #[.int .i64 k, .string a, .string b, .string cc, .string d] := by rw [hX, ← hp]; exact Blk.new w _ _
 have c0 : X.cell? ⟨p, 0, none⟩ = some (.int .i64 k) := (Blk.cell hE 0).trans rfl
 have c1 : X.cell? ⟨p, 1, none⟩ = some (.string a) := (Blk.cell hE 1).trans rfl
 have c2 : X.cell? ⟨p, 2, none⟩ = some (.string b) := (Blk.cell hE 2).trans rfl
 have c3 : X.cell? ⟨p, 3, none⟩ = some (.string cc) := (Blk.cell hE 3).trans rfl
 have HNd := hid (node8_any a l A N c X (hs.below hb) hN hN2 hok)
 have HLk := hid (link8_any ⟨a, b, cc⟩ l A N c X (hs.below hb) hN hN2 hok)
 have HB := hid hb
 have HX := hid hX
 have HP := hid hp
 unfold eK lkC at HLk
 dsimp only at HLk
 have hcase : k = 2 ∨ k = 4 ∨ k = 5 ∨ ¬ (k = 2 ∨ k = 4 ∨ k = 5) := by omega
 clear hb hE hX hp hs hN hN2 hok
 unfold eE elV
 dsimp only
 rcases hcase with hk | hk | hk | hk
 ·subst hk
  have HQ := hid (show seenG l ⟨2, a, b, cc, d⟩ = hasG l (nodeE a) from if_pos (.inl rfl))
  go_enter Tryz.func45, Tryz.ntmps45
  go_upto_region 1 with fail
  rw [← HX.out, HP.out]
  go_wp2_with fail
  refine HNd.out.mono ?_
  rintro e w1 ⟨rfl, hb1⟩
  have HB1 := hid (HB.out.trans (hb1.mono HB.out.size))
  clear hb1
  go_wp2_with fail
  go_ret
  exact ⟨by rw [HQ.out]; rfl, HB1.out⟩
 ·subst hk
  have HQ := hid (show seenG l ⟨4, a, b, cc, d⟩ = hasG l (nodeE a) from if_pos (.inr rfl))
  go_enter Tryz.func45, Tryz.ntmps45
  go_upto_region 1 with fail
  rw [← HX.out, HP.out]
  go_wp2_with fail
  refine HNd.out.mono ?_
  rintro e w1 ⟨rfl, hb1⟩
  have HB1 := hid (HB.out.trans (hb1.mono HB.out.size))
  clear hb1
  go_wp2_with fail
  go_ret
  exact ⟨by rw [HQ.out]; rfl, HB1.out⟩
 ·subst hk
  have HQ := hid (show seenG l ⟨5, a, b, cc, d⟩ = linkG l ⟨a, b, cc⟩ from by unfold seenG; dsimp only; rw [if_neg (by decide), if_pos rfl])
  go_enter Tryz.func45, Tryz.ntmps45
  go_upto_region 1 with fail
  rw [← HX.out, HP.out]
  go_wp2_with fail
  refine HLk.out.mono ?_
  rintro e w1 ⟨rfl, hb1⟩
  have HB1 := hid (HB.out.trans (hb1.mono HB.out.size))
  clear hb1
  go_wp2_with fail
  go_ret
  exact ⟨by rw [HQ.out]; rfl, HB1.out⟩
 ·have HQ := hid (show seenG l ⟨k, a, b, cc, d⟩ = false from by unfold seenG; rw [if_neg (by intro h; exact hk (by rcases h with h | h; exact .inl h; exact .inr (.inl h))), if_neg (fun h => hk (.inr (.inr h)))])
  have k2 : (k == 2) = false := by rw [beq_eq_false_iff_ne]; omega
  have k4 : (k == 4) = false := by rw [beq_eq_false_iff_ne]; omega
  have k5 : (k == 5) = false := by rw [beq_eq_false_iff_ne]; omega
  clear hk
  go_enter Tryz.func45, Tryz.ntmps45
  go_upto_region 1 with fail
  rw [← HX.out, HP.out]
  go_wp2_with fail
  go_ret
  exact ⟨by rw [HQ.out]; rfl, HB.out⟩
end Go.Proofs.YtdgglhlofnigkaaGreatDoor
