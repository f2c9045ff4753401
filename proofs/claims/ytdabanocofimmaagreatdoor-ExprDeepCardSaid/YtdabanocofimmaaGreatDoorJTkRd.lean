/-
  (*tokens.Reader).next, Fail, Takes, Needs: the contracts, by walks. (*tokens.Reader).Takes, Needs, Has, One, Name: the contracts, by walks. Conditions: lengths.
-/
import Derived.Test.YtdabanocofimmaaGreatDoorJExMath
import Derived.Deep.DeepCutAuto
namespace Go.Proofs.YtdabanocofimmaaGreatDoor
open Go.RowKit

/-- A reader of tokens, the first two cells of a block: what is left lies below R, and so does nothing of the reader's own. -/
structure RdAt (R : Nat) (w : World) (b : Nat) (t : TypeId) (cs : Array Value) (L : List Lx.Tk) (er : Int) : Prop where
  blk : Blk w b t cs
  lo : R ≤ b
  err : cs[1]? = some (.int .i64 er)
  left : ∃ A c, cs[0]? = some (.slice A L.length c) ∧ SlK encT 3 w (.slice A L.length c) L ∧ ∀ g o s, A = some ⟨g, o, s⟩ → g < R
theorem RdAt.keep {R : Nat} {w w' : World} {b : Nat} {t : TypeId} {cs : Array Value} {L : List Lx.Tk} {er : Int} (h : RdAt R w b t cs L er) (hb : Below w.heap.size w w') : RdAt R w' b t cs L er := by
  obtain ⟨A, c, h1, h2, h3⟩ := h.left
  exact ⟨h.blk.below hb h.blk.lt, h.lo, h.err, A, c, h1, h2.below hb, h3⟩
/-- A token as it may be here. -/
def TkSm (L : List Lx.Tk) : Prop := ∀ t ∈ L, t.2.2.length ≤ 1000000
def zTk : Lx.Tk := (0, 0, [])
def headT (er : Int) (L : List Lx.Tk) : Lx.Tk := if er = 0 then (match L with | [] => zTk | x :: _ => x) else zTk
def headB (er : Int) (L : List Lx.Tk) : Bool := if er = 0 then (match L with | [] => false | _ :: _ => true) else false
theorem at_T0 (g o c n : Nat) (h : 0 < n) (w : World) : (Instr.indexAt 25 (.slice (some ⟨g, o, none⟩) n c) (.int .i64 0)).run Tryz.prog w = .ok (.pointer (some ⟨g, o, none⟩)) w := by
  have h2 : (0 : Int) < n := by omega
  go_simp
theorem sizeT (t : Lx.Tk) : (Tryz.prog.info? 43).map (·.size) = some (tkC t).size := by kernel_rfl
theorem tkC_one (t : Lx.Tk) : (tkC t).all (·.oneCell') = true := by unfold tkC; simp [Value.oneCell']
theorem ret_two {P : Program} {fn : Func} {p u : Tmp} {ty : TypeId} (h : fn.results = #[.cell p ty, .tmp u]) (tmps : Array Value) (w : World) (g : Nat) (t : TypeId) (cs : Array Value) (d : TypeDesc) (v : Value)
    (hp : tmps.getD p undef = .pointer (some ⟨g, 0, none⟩)) (hg : Blk w g t cs) (hu : P.underlying ty = some d) (hd : (match d with | .struct _ | .array _ _ => true | _ => false) = true) (hi : (P.info? ty).map (·.size) = some cs.size) (hv : tmps.getD u undef = v) :
    (results fn tmps).run P w = .ok (.tuple #[.agg cs, v]) w := ret_cell h tmps w g t cs d v hp hg hu hd hi hv

set_option maxRecDepth 100000 in
set_option maxHeartbeats 1000000 in
theorem next_any {R : Nat} {w : World} {b : Nat} {t : TypeId} {cs : Array Value} {L : List Lx.Tk} {er : Int} (h : RdAt R w b t cs L er) :
    Calls Tryz.prog 113 #[.pointer (some ⟨b, 0, none⟩)] w (Gives w (.tuple #[tkV (headT er L), .bool (headB er L)])) := by
  obtain ⟨p, hp⟩ : ∃ p, w.heap.size = p := ⟨_, rfl⟩
  obtain ⟨Z, hZ⟩ : ∃ Z, Z = w.alloc (.cells (tkC zTk) 43) := ⟨_, rfl⟩
  have hbZ : Below w.heap.size w Z := by rw [hZ]; exact (Below.refl _ _).alloc (Nat.le_refl _) _
  have hE : Blk Z p 43 (tkC zTk) := by rw [hZ, ← hp]; exact Blk.new w _ _
  have hk := h.keep hbZ
  obtain ⟨A, c, hc0, hsl, _⟩ := hk.left
  have c0 : Z.cell? ⟨b, 0, none⟩ = some (.slice A L.length c) := (Blk.cell hk.blk 0).trans hc0
  have c1 : Z.cell? ⟨b, 1, none⟩ = some (.int .i64 er) := (Blk.cell hk.blk 1).trans hk.err
  have HAl := Lib.hid (show ∀ cs, Z.setRow p cs = w.alloc (.cells cs 43) from fun cs => by rw [hZ, ← hp]; exact World.setRow_alloc_new w (tkC zTk) cs 43)
  have hFin : ∀ x : Lx.Tk, Blk (w.alloc (.cells (tkC x) 43)) p 43 (tkC x) ∧ Below w.heap.size w (w.alloc (.cells (tkC x) 43)) := fun x => ⟨by rw [← hp]; exact Blk.new w _ _, (Below.refl _ _).alloc (Nat.le_refl _) _⟩
  have HFin := Lib.hid hFin
  have HE := Lib.hid hE
  have HS := Lib.hid hsl
  have HZ := Lib.hid hZ
  have HP := Lib.hid hp
  have hz := (zero_of_info (show (Tryz.prog.info? 43).map (fun i => (i.zero, i.size)) = some (some (.agg (tkC zTk)), 3) by kernel_rfl)).1
  clear hbZ hE hk hc0 hsl hZ hp h hFin
  by_cases her : er = 0
  · subst her
    cases L with
    | nil =>
      go_enter Tryz.func113, Tryz.ntmps113
      go_upto_region 1 with fail
      rw [← HZ.out, HP.out]
      clear hz
      go_wp2_with (first
        | (refine wpList_store_row (o := ⟨none, _, _, _, _, _⟩) rfl 43 (.tmp 2) (.tmp 17) rfl p (tkC zTk) rfl rfl _ _ HE.out (sizeT zTk) rfl (tkC_one _) ?_; rw [HAl.out])
        | fail)
      (try simp only [Exit.inBlock, Exit.then])
      refine bodyPost_ret (ret_two rfl _ _ _ _ _ _ (.bool false) rfl (HFin.out zTk).1 Tryz.underlying43 rfl (sizeT zTk) rfl) rfl ?_
      exact ⟨rfl, (HFin.out zTk).2⟩
    | cons x r =>
      obtain ⟨g, o, rfl, hg, hce⟩ := HS.out.tk (j := 0) rfl
      have hce' : Z.rangeAt g o (encT x) := by have := hce; rwa [Nat.zero_mul, Nat.add_zero] at this
      have d0 : Z.cell? ⟨g, o, none⟩ = some (.int .i64 x.1) := hce' 0 _ rfl
      have d1 : Z.cell? ⟨g, o + 1, none⟩ = some (.int .i64 x.2.1) := hce' 1 _ rfl
      have d2 : Z.cell? ⟨g, o + 2, none⟩ = some (.string ⟨x.2.2.toArray⟩) := hce' 2 _ rfl
      have hn : 0 < (x :: r).length := Nat.succ_pos _
      obtain ⟨n, hnn⟩ : ∃ n, (x :: r).length = n := ⟨_, rfl⟩
      rw [hnn] at c0 hn
      have HAt := Lib.hid (at_T0 g o c n hn Z)
      have hne : ((n : Int) == 0) = false := by rw [beq_eq_false_iff_ne]; omega
      clear hg hce hce' hnn
      go_enter Tryz.func113, Tryz.ntmps113
      go_upto_region 1 with fail
      rw [← HZ.out, HP.out]
      clear hz
      go_wp2_with (first
        | (refine wpList_val (o := ⟨some 22, _, _, _, _, _⟩) rfl (.pointer (some ⟨g, o, none⟩)) Z (run_indexAddr_op rfl rfl rfl HAt.out) ?_)
        | (refine wpList_store_row (o := ⟨none, _, _, _, _, _⟩) rfl 43 (.tmp 2) (.tmp 23) rfl p (tkC x) rfl rfl _ _ HE.out (sizeT x) rfl (tkC_one _) ?_; rw [HAl.out])
        | fail)
      (try simp only [Exit.inBlock, Exit.then])
      refine bodyPost_ret (ret_two rfl _ _ _ _ _ _ (.bool true) rfl (HFin.out x).1 Tryz.underlying43 rfl (sizeT x) rfl) rfl ?_
      exact ⟨rfl, (HFin.out x).2⟩
  · have HV := Lib.hid (show Value.tuple #[tkV (headT er L), .bool (headB er L)] = .tuple #[.agg (tkC zTk), .bool false] by unfold headT headB; rw [if_neg her, if_neg her]; rfl)
    have h1 : (er != 0) = true := by simpa using her
    rw [HV.out]
    go_enter Tryz.func113, Tryz.ntmps113
    go_upto_region 1 with fail
    rw [← HZ.out, HP.out]
    clear hz
    go_wp2_with (first
      | (refine wpList_store_row (o := ⟨none, _, _, _, _, _⟩) rfl 43 (.tmp 2) (.tmp 17) rfl p (tkC zTk) rfl rfl _ _ HE.out (sizeT zTk) rfl (tkC_one _) ?_; rw [HAl.out])
      | fail)
    (try simp only [Exit.inBlock, Exit.then])
    refine bodyPost_ret (ret_two rfl _ _ _ _ _ _ (.bool false) rfl (HFin.out zTk).1 Tryz.underlying43 rfl (sizeT zTk) rfl) rfl ?_
    exact ⟨rfl, (HFin.out zTk).2⟩

/-- A fault is kept, if it is the first one. -/
def FailR (R : Nat) (w : World) (b : Nat) (t : TypeId) (cs : Array Value) (L : List Lx.Tk) (er k : Int) (w' : World) : Prop := if er = 0 then RdAt R w' b t (cs.setIfInBounds 1 (.int .i64 k)) L k ∧ But b w w' else w' = w

set_option maxRecDepth 100000 in
set_option maxHeartbeats 1000000 in
theorem fail_any {R : Nat} {w : World} {b : Nat} {t : TypeId} {cs : Array Value} {L : List Lx.Tk} {er : Int} (k : Int) (h : RdAt R w b t cs L er) :
    Calls Tryz.prog 115 #[.pointer (some ⟨b, 0, none⟩), .int .i64 k] w fun e w' => e = .returned (.tuple #[]) ∧ FailR R w b t cs L er k w' := by
  have c1 : w.cell? ⟨b, 1, none⟩ = some (.int .i64 er) := (Blk.cell h.blk 1).trans h.err
  have HF := Lib.hid (Blk.free h.blk 1)
  by_cases her : er = 0
  · subst her
    have hb2 : Blk (w.setCell ⟨b, 1, none⟩ (.int .i64 k)) b t (cs.setIfInBounds 1 (.int .i64 k)) := h.blk.set_ 1 _
    have hR : RdAt R (w.setCell ⟨b, 1, none⟩ (.int .i64 k)) b t (cs.setIfInBounds 1 (.int .i64 k)) L k := by
      obtain ⟨A, c, h1, h2, h3⟩ := h.left
      have hsz : 1 < cs.size := (Array.getElem?_eq_some_iff.1 h.err).1
      refine ⟨hb2, h.lo, by rw [Array.getElem?_setIfInBounds_self_of_lt hsz], A, c, by rw [Array.getElem?_setIfInBounds_ne (by omega)]; exact h1, ?_, h3⟩
      obtain ⟨A', c', e1, e2, e3⟩ := h2
      refine ⟨A', c', e1, e2, fun hne => ?_⟩
      obtain ⟨g, o, rfl, hg, hc⟩ := e3 hne
      injection e1 with e1 _ _
      have hlt := h3 g o none e1
      have hlo := h.lo
      exact ⟨g, o, rfl, by simpa using hg, fun j x hj q u hu => by
        have := hc j x hj q u hu
        rw [← this]
        exact World.cell?_of_block (Below.heap_setCell w ⟨b, 1, none⟩ _ g (by show g ≠ b; omega))⟩
    have HR := Lib.hid hR
    have HB := Lib.hid (But.setCell w b 1 (.int .i64 k))
    have f1 := HF.out
    clear hR hb2 h
    go_enter Tryz.func115, Tryz.ntmps115
    go_wp2_with fail
    go_end0
    exact ⟨rfl, by unfold FailR; rw [if_pos rfl]; exact ⟨HR.out, HB.out⟩⟩
  · have h1 : (er == 0) = false := by rw [beq_eq_false_iff_ne]; exact her
    have HN := Lib.hid her
    clear h
    go_enter Tryz.func115, Tryz.ntmps115
    go_wp2_with fail
    go_end0
    exact ⟨rfl, by unfold FailR; rw [if_neg HN.out]⟩

end Go.Proofs.YtdabanocofimmaaGreatDoor

namespace Go.Proofs.YtdabanocofimmaaGreatDoor
open Go.RowKit

/-- Does it take? -/
def tkOk (er : Int) (L : List Lx.Tk) (s : List UInt8) : Bool := headB er L && isT (headT er L) s
/-- One token less is left. -/
def RdNext (R : Nat) (w : World) (b : Nat) (t : TypeId) (cs : Array Value) (L : List Lx.Tk) (er : Int) (w' : World) : Prop := ∃ v, RdAt R w' b t (cs.setIfInBounds 0 v) L.tail er ∧ But b w w'
theorem RdAt.next {R : Nat} {w0 w : World} {b : Nat} {t : TypeId} {cs : Array Value} {L : List Lx.Tk} {er : Int} {A : Option Addr} {n c : Nat} (h : RdAt R w b t cs L er) (hb : Below w0.heap.size w0 w) (h0 : cs[0]? = some (.slice A n c)) (hn : 0 < n) :
    RdNext R w0 b t cs L er (w.setCell ⟨b, 0, none⟩ (.slice (slK A c 1 3) (n - 1) (c - 1))) := by
  obtain ⟨A', c', h1, h2, h3⟩ := h.left
  rw [h0] at h1
  injection h1 with h1
  injection h1 with e1 e2 e3
  subst e1 e2 e3
  refine ⟨.slice (slK A c 1 3) (L.length - 1) (c - 1), ?_, (But.of_below hb).trans (But.setCell w b 0 _)⟩
  have hsz : 0 < cs.size := (Array.getElem?_eq_some_iff.1 h0).1
  have hl : L.tail.length = L.length - 1 := List.length_tail
  refine ⟨h.blk.set_ 0 _, h.lo, by rw [Array.getElem?_setIfInBounds_ne (by omega)]; exact h.err, slK A c 1 3, c - 1, by rw [Array.getElem?_setIfInBounds_self_of_lt hsz, hl], ?_, ?_⟩
  · have hp := h2.lo 1 (by omega)
    rw [List.drop_one] at hp
    obtain ⟨A', c', e1, e2, e3⟩ := hp
    rw [hl]
    refine ⟨A', c', e1, e2, fun hne => ?_⟩
    obtain ⟨g, o, rfl, hg, hc⟩ := e3 hne
    injection e1 with e1 _ _
    have hgR : g < R := by
      unfold slK at e1
      split at e1
      · exact h3 g o none e1
      · cases A with
        | none => cases e1
        | some a =>
          obtain ⟨g', o', s'⟩ := a
          simp only [Option.map_some, Option.some.injEq] at e1
          have : g' = g := by have := congrArg Addr.block e1; simpa [Addr.add] using this
          subst this
          exact h3 g' o' s' rfl
    have hlo := h.lo
    exact ⟨g, o, rfl, by simpa using hg, fun j x hj q u hu => by
      have := hc j x hj q u hu
      rw [← this]
      exact World.cell?_of_block (Below.heap_setCell w ⟨b, 0, none⟩ _ g (by show g ≠ b; omega))⟩
  · intro g o s e1
    unfold slK at e1
    split at e1
    · exact h3 g o s e1
    · cases A with
      | none => cases e1
      | some a =>
        obtain ⟨g', o', s'⟩ := a
        simp only [Option.map_some, Option.some.injEq] at e1
        have : g' = g := by have := congrArg Addr.block e1; simpa [Addr.add] using this
        subst this
        exact h3 g' o' s' rfl
theorem headT_sm {er : Int} {L : List Lx.Tk} (h : TkSm L) : (headT er L).2.2.length ≤ 1000000 := by
  unfold headT
  split
  · cases L with
    | nil => exact Nat.zero_le _
    | cons x r => exact h x List.mem_cons_self
  · exact Nat.zero_le _
theorem headB_pos {er : Int} {L : List Lx.Tk} (h : headB er L = true) : 0 < L.length := by
  unfold headB at h
  split at h
  · cases L with
    | nil => cases h
    | cons x r => exact Nat.succ_pos _
  · cases h
def TakesR (R : Nat) (w : World) (b : Nat) (t : TypeId) (cs : Array Value) (L : List Lx.Tk) (er : Int) (q : Bool) (w' : World) : Prop := if q = true then RdNext R w b t cs L er w' else Below w.heap.size w w'

set_option maxRecDepth 100000 in
set_option maxHeartbeats 1500000 in
theorem takes_any {R : Nat} {w : World} {b : Nat} {t : TypeId} {cs : Array Value} {L : List Lx.Tk} {er : Int} (s : ByteArray) (h : RdAt R w b t cs L er) (hw : WOk w) (hL : TkSm L) :
    Calls Tryz.prog 104 #[.pointer (some ⟨b, 0, none⟩), .string s] w fun e w' => e = .returned (.bool (tkOk er L s.data.toList)) ∧ TakesR R w b t cs L er (tkOk er L s.data.toList) w' := by
  obtain ⟨t0, ht0⟩ : ∃ x, headT er L = x := ⟨_, rfl⟩
  obtain ⟨q0, hq0⟩ : ∃ x, headB er L = x := ⟨_, rfl⟩
  have HN := Lib.hid (next_any h)
  rw [ht0, hq0] at HN
  have HLn := Lib.hid (show t0.2.2.length ≤ 1000000 from by rw [← ht0]; exact headT_sm hL)
  have HH := Lib.hid h
  have HW := Lib.hid hw
  have HPos := Lib.hid (show q0 = true → 0 < L.length from fun e => headB_pos (hq0.trans e))
  have HK := Lib.hid (show tkOk er L s.data.toList = (q0 && isT t0 s.data.toList) by unfold tkOk; rw [ht0, hq0])
  rw [HK.out]
  obtain ⟨q1, hq1⟩ : ∃ x, isT t0 s.data.toList = x := ⟨_, rfl⟩
  rw [hq1]
  have HQ1 := Lib.hid hq1
  clear h hw hL ht0 hq0 hq1 HK
  go_enter Tryz.func104, Tryz.ntmps104
  go_wp2_with fail
  refine HN.out.mono ?_
  rintro e w1 ⟨rfl, hb1⟩
  obtain ⟨p, hp⟩ : ∃ p, w1.heap.size = p := ⟨_, rfl⟩
  obtain ⟨Z, hZ⟩ : ∃ Z, Z = w1.alloc (.cells (tkC t0) 43) := ⟨_, rfl⟩
  have hbZ : Below w.heap.size w Z := by rw [hZ]; exact hb1.alloc hb1.size _
  have HE := Lib.hid (show Blk Z p 43 (tkC t0) by rw [hZ, ← hp]; exact Blk.new w1 _ _)
  have hH' := HH.out.keep hbZ
  have HI := Lib.hid (lis_any t0 s Z (HW.out.below hbZ) (by have := HLn.out; omega))
  rw [HQ1.out] at HI
  clear HQ1
  have HB := Lib.hid hbZ
  have HZ := Lib.hid hZ
  have HP := Lib.hid hp
  clear hb1 hZ hp hbZ hH'
  obtain ⟨k0, n0, x0⟩ := t0
  obtain ⟨bx, hbx⟩ : ∃ b : ByteArray, (⟨x0.toArray⟩ : ByteArray) = b := ⟨_, rfl⟩
  unfold tkV
  unfold tkC at *
  dsimp only at *
  unfold tkV at HI
  dsimp only at HI
  rw [hbx] at HZ HE HI ⊢
  clear hbx
  go_upto_region 2 with fail
  rw [← HZ.out, HP.out]
  cases q0
  · clear HI HPos HW
    go_wp2_with fail
    go_ret
    exact ⟨rfl, HB.out⟩
  · have c0 : Z.cell? ⟨p, 0, none⟩ = some (.int .i64 k0) := (Blk.cell HE.out 0).trans rfl
    have c1 : Z.cell? ⟨p, 1, none⟩ = some (.int .i64 n0) := (Blk.cell HE.out 1).trans rfl
    have c2 : Z.cell? ⟨p, 2, none⟩ = some (.string bx) := (Blk.cell HE.out 2).trans rfl
    go_wp2_with fail
    refine HI.out.mono ?_
    rintro e w2 ⟨rfl, hb2⟩
    have hB2 := HB.out.trans (hb2.mono HB.out.size)
    obtain ⟨A, c, hc0, hsl, _⟩ := (HH.out.keep hB2).left
    have HB2 := Lib.hid hB2
    cases q1
    · clear HI c0 c1 c2 hb2 hsl hc0 hB2
      go_wp2_with fail
      go_ret
      exact ⟨rfl, HB2.out⟩
    · have hr := (HH.out.keep hB2)
      have d0 : w2.cell? ⟨b, 0, none⟩ = some (.slice A L.length c) := (Blk.cell hr.blk 0).trans hc0
      have hpos : 0 < L.length := HPos.out (by trivial)
      have HNx := Lib.hid (hr.next (w0 := w) hB2 hc0 hpos)
      have HSl := Lib.hid (run_sliceK_lo (P := Tryz.prog) (k := 3) w2 25 43 (by kernel_rfl) (by kernel_rfl) A L.length c 1 hpos)
      have HF := Lib.hid (Blk.free hr.blk 0)
      obtain ⟨nn, hnn⟩ : ∃ n, L.length = n := ⟨_, rfl⟩
      rw [hnn] at d0 HNx HSl
      have f0 := HF.out
      clear HI c0 c1 c2 hb2 hsl hc0 hB2 hr hnn hpos HPos HH
      go_wp2_with (first
        | (refine wpList_val (o := ⟨some 25, _, _, _, _, _⟩) rfl (.slice (slK A c 1 3) (nn - 1) (c - 1)) w2 (run_sllo_op rfl rfl rfl HSl.out) ?_)
        | fail)
      go_ret
      exact ⟨rfl, HNx.out⟩

end Go.Proofs.YtdabanocofimmaaGreatDoor
