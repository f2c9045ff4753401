/-
  hedgerowlaw12.SnapParses answers true for all arguments, and leaves all memory as it was. Conditions: none.
-/
import Derived.Test.YtejljikikhecnaaGreatSnUn
import Derived.Test.YtejljikikhecnaaGreatArgsB
import Derived.HandedShaped
namespace Go.Proofs.YtejljikikhecnaaGreat
open Go.RowKit Go.MapKept Go.Sort

theorem eql_strP (l : List UInt8) (w : World) : (binOp .eql 9 (.string ⟨l.toArray⟩) (.string ⟨l.toArray⟩)).run Tryz.prog w = .ok (.bool true) w := by
  rw [binOp_string_eql]
  simp [Sem.run_pure]
theorem RIts_form {R : Nat} {w : World} {u : Value} {I : List (El × List (Dt × Va))} (h : Ot.RIts R w u I) : ∃ A c, u = .slice A I.length c := by
  obtain ⟨L, h1, h2, _⟩ := h
  obtain ⟨A, c, hv⟩ := OwnK.form h1
  exact ⟨A, c, by rw [hv, h2]⟩
theorem P2_le (f : Nat → Int) (I : List (El × List (Dt × Va))) (E : List Ev) (k : Nat) : (Ot.P2 f I k).length ≤ (bytesS f I E).length := by
  have h := congrArg (fun l => (l.map fun q : El × List (Dt × Va) => bytesI q.1 q.2).flatten.length) (List.take_append_drop k I)
  simp only [List.map_append, List.flatten_append, List.length_append] at h
  unfold Ot.P2 Ot.P1 bytesS rowIB rowEB
  simp only [List.length_append]
  omega
theorem P4_le (f : Nat → Int) (I : List (El × List (Dt × Va))) (E : List Ev) (k : Nat) : (Ot.P4 f I E k).length ≤ (bytesS f I E).length := by
  have h := congrArg (fun l => (l.map bytesE).flatten.length) (List.take_append_drop k E)
  simp only [List.map_append, List.flatten_append, List.length_append] at h
  unfold Ot.P4 Ot.P3 Ot.P2 Ot.P1 bytesS rowIB rowEB
  rw [List.take_length]
  simp only [List.length_append]
  omega
theorem itsZ (A : Option Addr) (c : Nat) (w : World) : ItsIs w (.slice A 0 c) [] := ⟨[], ⟨A, c, rfl, Nat.zero_le _, fun h => absurd rfl h⟩, rfl, fun i y q hy => by simp at hy⟩
theorem evsZ (A : Option Addr) (c : Nat) (w : World) : SlK encE 27 w (.slice A 0 c) [] := ⟨A, c, rfl, Nat.zero_le _, fun h => absurd rfl h⟩
theorem lright_yes (f : Nat → Int) (I : List (El × List (Dt × Va))) (E : List Ev) (A A2 : Option Addr) (N c N2 c2 : Nat) (hb : rightS f I E = true) (hN : I.length = N) (hM : E.length = N2) (hs : I.length ≤ 600 ∧ E.length ≤ 600 ∧ (∀ q ∈ I, TinyI q ∧ ItFits q) ∧ ∀ e ∈ E, Tiny e ∧ Lens e) (w : World) (hi : ItsIs w (.slice A N c) I) (he : SlK encE 27 w (.slice A2 N2 c2) E) :
    Calls Tryz.prog 9 #[sV f (.slice A N c) (.slice A2 N2 c2)] w (Gives w (.bool true)) := by
  have := lright_any f I E A A2 N c N2 c2 w hi hN (by omega) (fun q hq => (hs.2.2.1 q hq).1) he hM (by omega) (fun e he => (hs.2.2.2 e he).1)
  rwa [hb] at this
theorem refb_small (f : Nat → Int) (I : List (El × List (Dt × Va))) (E : List Ev) (A2 : Option Addr) (N2 c2 : Nat) (hM : E.length = N2) (L : List UInt8) (hL : bytesS f I E = L) (hs : I.length ≤ 600 ∧ E.length ≤ 600 ∧ (∀ q ∈ I, TinyI q ∧ ItFits q) ∧ ∀ e ∈ E, Tiny e ∧ Lens e) (hlen : L.length ≤ 600) (R : Nat) (AI : Option Addr) (cI : Nat) (w : World) (hi : Ot.RIts R w (.slice AI I.length cI) I) (he : SlK encE 27 w (.slice A2 N2 c2) E) :
    Calls Tryz.prog 12 #[.agg (vA f), .slice AI I.length cI, .slice A2 N2 c2] w fun e w' => ∃ v, e = .returned v ∧ Sl bv w' v L ∧ Below w.heap.size w w' := by
  subst hM hL
  exact (Ot.refb12_any f I E AI A2 cI c2 w hi he (fun k => by have := P2_le f I E k; omega) (fun k => by have := P4_le f I E k; omega) (fun e he => (hs.2.2.2 e he).2) ⟨by omega, by omega⟩ (fun q hq => (hs.2.2.1 q hq).2.2.1)).mono fun e w' h => h
/-- What Parse tells of few bytes. -/
theorem sparse_few (l : List UInt8) (hl : l.length ≤ 600) (v : Value) (w : World) (hv : Sl bv w v l) (hw : CutOk w) :
    Calls Tryz.prog 11 #[v] w fun e w' => ∃ x : Nat, Below w.heap.size w w' ∧
      ((x = 1 ∨ x = 2) ∧ (∃ A c B d, e = .returned (.tuple #[sV (fun _ => 0) (.slice A 0 c) (.slice B 0 d), .int .i64 (x : Nat)])) ∨
        x = 0 ∧ ∃ f I E A c B d, e = .returned (.tuple #[sV f (.slice A I.length c) (.slice B E.length d), .int .i64 (x : Nat)]) ∧ ItsIs w' (.slice A I.length c) I ∧ SlK encE 27 w' (.slice B E.length d) E ∧ rightS f I E = true ∧ bytesS f I E = l) := by
  have key : rDone (sE l).2 = true → (bytesS (sF l).1 (sI l).1 (sE l).1).length ≤ 600 := fun h => by rw [un_snap l h]; exact hl
  refine (sparse_any v l w hv (by omega) hw (fun h => by
    obtain ⟨h1, h2, h3, h4⟩ := small_parts _ _ _ (key h)
    exact ⟨by omega, fun q hq => (h3 q hq).2, by omega, fun e he => (h4 e he).2⟩)).mono ?_
  rintro e w' ⟨f, A, a, c, B, b, d, rfl, h1, h2, hb⟩
  refine ⟨snC l, hb, ?_⟩
  by_cases h0 : snC l = 0
  · right
    obtain ⟨rfl, rfl, rfl, hi, he⟩ := h1 h0
    refine ⟨h0, _, _, _, A, c, B, d, rfl, hi, he, ?_⟩
    unfold snC at h0
    by_cases hd : rDone (sE l).2 = true
    · rw [if_pos hd] at h0
      by_cases hr : rightS (sF l).1 (sI l).1 (sE l).1 = true
      · exact ⟨hr, un_snap l hd⟩
      · rw [if_neg hr] at h0; cases h0
    · rw [if_neg hd] at h0; cases h0
  · left
    obtain ⟨rfl, rfl, rfl⟩ := h2 h0
    refine ⟨?_, A, c, B, d, rfl⟩
    unfold snC at h0 ⊢
    split
    · split
      · rename_i h3 h4; rw [if_pos h3, if_pos h4] at h0; exact absurd rfl h0
      · exact Or.inl rfl
    · exact Or.inr rfl

set_option maxRecDepth 100000 in
set_option maxHeartbeats 8000000 in
theorem snparses_walk (v0 : Value) (l : List UInt8) (w : World) (hv : Sl bv w v0 l) (hl63 : l.length ≤ 140737488355328) (hw : CutOk w) :
    Calls Tryz.prog 4 #[v0] w (Gives w (.bool true)) := by
  obtain ⟨P3, c3, rfl⟩ := hv.form
  obtain ⟨n3, hn3⟩ : ∃ n3, l.length = n3 := ⟨_, rfl⟩
  rw [hn3] at hv ⊢
  have HN3 := Lib.hid hn3
  have HL := Lib.hid hl63
  have S0 := Lib.hid hv
  have W0 := Lib.hid hw
  clear hn3 hl63 hv hw
  go_enter Tryz.func4, Tryz.ntmps4
  go_wp2_with fail
  refine (sfixed_any _ W0.out).mono ?_
  rintro x1 A1 ⟨rfl, hb⟩
  have S1 := Lib.hid (Sl.below S0.out hb)
  have W1 := Lib.hid (CutOk.below W0.out hb)
  have Y1 := Lib.hid hb
  clear hb S0 W0
  by_cases hbig : 600 < n3
  · have hbg : decide ((600 : Int) < (n3 : Int)) = true := decide_eq_true (by omega)
    clear hbig
    go_wp2
    go_ret
    exact ⟨rfl, Y1.out⟩
  have hbg : decide ((600 : Int) < (n3 : Int)) = false := decide_eq_false (by omega)
  have HBig := Lib.hid hbig
  clear hbig
  go_wp2_with fail
  refine (sparse_few l (by rw [HN3.out]; have := HBig.out; omega) _ A1 S1.out W1.out).mono ?_
  rintro x2 A5 ⟨x, hb, hres⟩
  have S5 := Lib.hid (Sl.below S1.out hb)
  have W5 := Lib.hid (CutOk.below W1.out hb)
  have Y5 := Lib.hid (Y1.out.trans (hb.mono Y1.out.size))
  clear hb S1 W1 Y1 hbg
  rcases hres with ⟨hx, A, c, B, d, rfl⟩ | ⟨rfl, f, I, E, A, c, B, d, rfl, hi, he, hr, hbs⟩
  · have hz := (zero_of_info zeroSn).1
    have NN := Lib.hid (SB.new_ A5 (fun _ => 0) (.slice none 0 0) (.slice none 0 0))
    unfold sV
    rcases hx with rfl | rfl
    · go_upto_region 7 with (refine wpList_store_row rfl 27 (.tmp 3) (.tmp 13) rfl A5.heap.size (sC (fun _ => 0) (.slice A 0 c) (.slice B 0 d)) rfl rfl _ _ NN.out (sizeSn _ _ _) rfl (sC_one _ _ _ _ _ _ _) ?_)
      have hbb : Below A5.heap.size A5 ((A5.alloc (.cells (sC (fun _ => 0) (.slice none 0 0) (.slice none 0 0)) 27)).setRow A5.heap.size (sC (fun _ => 0) (.slice A 0 c) (.slice B 0 d))) := ((Below.refl _ _).alloc (Nat.le_refl _) _).trans (setRow_below _ _ _ _ (Nat.le_refl _))
      have hq : SB ((A5.alloc (.cells (sC (fun _ => 0) (.slice none 0 0) (.slice none 0 0)) 27)).setRow A5.heap.size (sC (fun _ => 0) (.slice A 0 c) (.slice B 0 d))) A5.heap.size (fun _ => 0) (.slice A 0 c) (.slice B 0 d) := setRow_blk _ _ _ _ _ NN.out
      generalize (A5.alloc (.cells (sC (fun _ => 0) (.slice none 0 0) (.slice none 0 0)) 27)).setRow A5.heap.size (sC (fun _ => 0) (.slice A 0 c) (.slice B 0 d)) = A8 at *
      obtain ⟨q, hqq⟩ : ∃ q, A5.heap.size = q := ⟨_, rfl⟩
      rw [hqq] at hq ⊢
      have K8 := Lib.hid hq
      have Y8 := Lib.hid (Y5.out.trans (hbb.mono Y5.out.size))
      clear hq hbb NN Y5 W5 S5 hqq hz
      try simp only [Act.put]
      go_wp2_with (first
        | (refine wpList_load_if rfl 27 (.tmp 3) rfl q rfl _ _ _ _ K8.out Tryz.underlying27 rfl (sizeSn _ _ _) ?_)
        | (refine wpList_val (o := ⟨some 25, _, _, _, _, _⟩) rfl (.agg (sC (fun _ => 0) (.slice none 0 0) (.slice none 0 0))) A8 (by kernel_rfl) ?_)
        | fail)
      refine (ssame_true (fun _ => 0) [] [] A none B none 0 0 c 0 d 0 A8 (itsZ _ _ _) (itsZ _ _ _) (evsZ _ _ _) (evsZ _ _ _) rfl (by decide) rfl (by decide) (fun q hq => by cases hq)).mono ?_
      rintro x6 A9 ⟨rfl, hb⟩
      have Y9 := Lib.hid (Y8.out.trans (hb.mono Y8.out.size))
      clear hb
      go_wp2
      go_ret
      exact ⟨rfl, Y9.out⟩
    · go_upto_region 7 with (refine wpList_store_row rfl 27 (.tmp 3) (.tmp 13) rfl A5.heap.size (sC (fun _ => 0) (.slice A 0 c) (.slice B 0 d)) rfl rfl _ _ NN.out (sizeSn _ _ _) rfl (sC_one _ _ _ _ _ _ _) ?_)
      have hbb : Below A5.heap.size A5 ((A5.alloc (.cells (sC (fun _ => 0) (.slice none 0 0) (.slice none 0 0)) 27)).setRow A5.heap.size (sC (fun _ => 0) (.slice A 0 c) (.slice B 0 d))) := ((Below.refl _ _).alloc (Nat.le_refl _) _).trans (setRow_below _ _ _ _ (Nat.le_refl _))
      have hq : SB ((A5.alloc (.cells (sC (fun _ => 0) (.slice none 0 0) (.slice none 0 0)) 27)).setRow A5.heap.size (sC (fun _ => 0) (.slice A 0 c) (.slice B 0 d))) A5.heap.size (fun _ => 0) (.slice A 0 c) (.slice B 0 d) := setRow_blk _ _ _ _ _ NN.out
      generalize (A5.alloc (.cells (sC (fun _ => 0) (.slice none 0 0) (.slice none 0 0)) 27)).setRow A5.heap.size (sC (fun _ => 0) (.slice A 0 c) (.slice B 0 d)) = A8 at *
      obtain ⟨q, hqq⟩ : ∃ q, A5.heap.size = q := ⟨_, rfl⟩
      rw [hqq] at hq ⊢
      have K8 := Lib.hid hq
      have Y8 := Lib.hid (Y5.out.trans (hbb.mono Y5.out.size))
      clear hq hbb NN Y5 W5 S5 hqq hz
      try simp only [Act.put]
      go_wp2_with (first
        | (refine wpList_load_if rfl 27 (.tmp 3) rfl q rfl _ _ _ _ K8.out Tryz.underlying27 rfl (sizeSn _ _ _) ?_)
        | (refine wpList_val (o := ⟨some 25, _, _, _, _, _⟩) rfl (.agg (sC (fun _ => 0) (.slice none 0 0) (.slice none 0 0))) A8 (by kernel_rfl) ?_)
        | fail)
      refine (ssame_true (fun _ => 0) [] [] A none B none 0 0 c 0 d 0 A8 (itsZ _ _ _) (itsZ _ _ _) (evsZ _ _ _) (evsZ _ _ _) rfl (by decide) rfl (by decide) (fun q hq => by cases hq)).mono ?_
      rintro x6 A9 ⟨rfl, hb⟩
      have Y9 := Lib.hid (Y8.out.trans (hb.mono Y8.out.size))
      clear hb
      go_wp2
      go_ret
      exact ⟨rfl, Y9.out⟩
  · obtain ⟨N, hN⟩ : ∃ N, I.length = N := ⟨_, rfl⟩
    obtain ⟨N', hM⟩ : ∃ N', E.length = N' := ⟨_, rfl⟩



    rw [hN] at hi ⊢
    rw [hM] at he ⊢
    have hsm := small_parts f I E (by rw [hbs, HN3.out]; have := HBig.out; omega)
    have HRr := Lib.hid (fun W h1 h2 => lright_yes f I E A B N c N' d hr hN hM hsm W h1 h2)
    have HIt := Lib.hid (fun W h1 => Ot.items_any I A N c W h1 hN (by rw [← hN]; omega) (fun q hq => (hsm.2.2.1 q hq).2.2.1))
    have HRb := Lib.hid (fun R AI cI W h1 h2 => refb_small f I E B N' d hM l hbs hsm (by rw [HN3.out]; have := HBig.out; omega) R AI cI W h1 h2)
    have J5 := Lib.hid hi
    have G5 := Lib.hid he
    clear hi he hr hbs hsm hN hM
    have hz := (zero_of_info zeroSn).1
    have NN := Lib.hid (SB.new_ A5 (fun _ => 0) (.slice none 0 0) (.slice none 0 0))
    unfold sV at *
    go_upto_region 8 with (refine wpList_store_row rfl 27 (.tmp 3) (.tmp 13) rfl A5.heap.size (sC f (.slice A N c) (.slice B N' d)) rfl rfl _ _ NN.out (sizeSn _ _ _) rfl (sC_one _ _ _ _ _ _ _) ?_)
    clear hz
    have hbb : Below A5.heap.size A5 ((A5.alloc (.cells (sC (fun _ => 0) (.slice none 0 0) (.slice none 0 0)) 27)).setRow A5.heap.size (sC f (.slice A N c) (.slice B N' d))) := ((Below.refl _ _).alloc (Nat.le_refl _) _).trans (setRow_below _ _ _ _ (Nat.le_refl _))
    have hq : SB ((A5.alloc (.cells (sC (fun _ => 0) (.slice none 0 0) (.slice none 0 0)) 27)).setRow A5.heap.size (sC f (.slice A N c) (.slice B N' d))) A5.heap.size f (.slice A N c) (.slice B N' d) := setRow_blk _ _ _ _ _ NN.out
    generalize (A5.alloc (.cells (sC (fun _ => 0) (.slice none 0 0) (.slice none 0 0)) 27)).setRow A5.heap.size (sC f (.slice A N c) (.slice B N' d)) = A8 at *
    obtain ⟨q, hqq⟩ : ∃ q, A5.heap.size = q := ⟨_, rfl⟩
    rw [hqq] at hq ⊢
    have K8 := Lib.hid hq
    have I8 := Lib.hid (J5.out.below hbb)
    have E8 := Lib.hid (G5.out.below hbb)
    have S8 := Lib.hid (Sl.below S5.out hbb)
    have Y8 := Lib.hid (Y5.out.trans (hbb.mono Y5.out.size))
    clear hq hbb NN Y5 W5 S5 J5 G5 hqq
    try simp only [Act.put]
    refine wp_region_any (by kernel_rfl) ?_
    refine wpAny_below (Ot.pN [some (.agg (sC f (.slice A N c) (.slice B N' d))), some (.bool true), some (.bool true), some (.pointer (some ⟨q, 0, none⟩)), some (.agg (vA f)), some (.pointer (some ⟨q, 16, none⟩)), some (.slice A N c), none, some (.pointer (some ⟨q, 17, none⟩)), some (.slice B N' d), none, some (.string ⟨l.toArray⟩), some (.slice P3 n3 c3), some (.string ⟨l.toArray⟩), some (.bool true), some (.bool true), some (.bool true)] (fun i v W => match i with | 7 => ∃ R, Ot.RIts R W v I | 10 => Sl bv W v l | _ => True)) _ A8 (by kernel_rfl) (by kernel_rfl) (by kernel_rfl) (fun i v w w' hb h => Ot.pN_keep (fun i v w w' hb h => by
      try dsimp only at h ⊢
      split at h
      · exact ⟨h.choose, h.choose_spec.keep hb⟩
      · exact Sl.below h hb
      · trivial) i v w w' hb h) ?_ ?_
    · refine ⟨?_, ?_, ?_, ?_, ?_, ?_, ?_, ?_, ?_, ?_, ?_, ?_, ?_, ?_, ?_, ?_, ?_, trivial⟩
      · intro a W hI hun haft hi
        have e3 : a.eval (.tmp 3) = .pointer (some ⟨q, 0, none⟩) := hun 3 (by kernel_rfl)
        exact b_same hi hI rfl _ (run_load_op rfl e3 (Blk.below K8.out hI (Blk.lt K8.out)) Tryz.underlying27 rfl (sizeSn _ _ _)) rfl
      · intro a W hI hun haft hi
        have f0 : a.eval (.tmp 28) = .agg (sC f (.slice A N c) (.slice B N' d)) := haft ⟨0, .data⟩ (by simp) rfl _ _ rfl rfl
        refine b_call hi hI rfl _ _ (run_call_op (args := #[.agg (sC f (.slice A N c) (.slice B N' d))]) rfl (by simp [f0]) (by kernel_rfl)) ?_
        exact (HRr.out W (I8.out.below hI) (E8.out.below hI)).mono fun e w' H => ⟨_, H.1, rfl, H.2⟩
      · intro a W hI hun haft hi
        have f1 : a.eval (.tmp 29) = .bool true := haft ⟨1, .data⟩ (by simp) rfl _ _ rfl rfl
        exact b_same hi hI rfl _ (run_move_op rfl f1) rfl
      · intro a W hI hun haft hi
        have fg : a.eval (.tmp 30) = .bool true := haft ⟨2, .guard⟩ (by simp) rfl _ _ rfl rfl
        have e3 : a.eval (.tmp 3) = .pointer (some ⟨q, 0, none⟩) := hun 3 (by kernel_rfl)
        exact b_same hi hI (guard_ok rfl rfl rfl fg) _ (run_fieldAddr_any rfl e3 (at_snS0 _ W)) rfl
      · intro a W hI hun haft hi
        have fg : a.eval (.tmp 30) = .bool true := haft ⟨2, .guard⟩ (by simp) rfl _ _ rfl rfl
        have f3 : a.eval (.tmp 31) = .pointer (some ⟨q, 0, none⟩) := haft ⟨3, .data⟩ (by simp) rfl _ _ rfl rfl
        exact b_same hi hI (guard_ok rfl rfl rfl fg) _ (Ot.run_loadmid_op (cs := (vA f).toList) rfl f3 (SB.vec (SB.keep K8.out hI)) Tryz.underlying23 rfl (by kernel_rfl)) rfl
      · intro a W hI hun haft hi
        have fg : a.eval (.tmp 30) = .bool true := haft ⟨2, .guard⟩ (by simp) rfl _ _ rfl rfl
        have e3 : a.eval (.tmp 3) = .pointer (some ⟨q, 0, none⟩) := hun 3 (by kernel_rfl)
        exact b_same hi hI (guard_ok rfl rfl rfl fg) _ (run_fieldAddr_any rfl e3 (at_snS1 _ W)) rfl
      · intro a W hI hun haft hi
        have fg : a.eval (.tmp 30) = .bool true := haft ⟨2, .guard⟩ (by simp) rfl _ _ rfl rfl
        have f5 : a.eval (.tmp 33) = .pointer (some ⟨q, 16, none⟩) := haft ⟨5, .data⟩ (by simp) rfl _ _ rfl rfl
        exact b_same hi hI (guard_ok rfl rfl rfl fg) _ (run_loadsl_op rfl f5 Tryz.underlying24 (SB.its (SB.keep K8.out hI))) rfl
      · intro a W hI hun haft hi
        have fg : a.eval (.tmp 30) = .bool true := haft ⟨2, .guard⟩ (by simp) rfl _ _ rfl rfl
        have f6 : a.eval (.tmp 34) = .slice A N c := haft ⟨6, .data⟩ (by simp) rfl _ _ rfl rfl
        refine b_call hi hI (guard_ok rfl rfl rfl fg) _ _ (run_call_op (args := #[.slice A N c]) rfl (by simp [f6]) (by kernel_rfl)) ?_
        exact (HIt.out W (I8.out.below hI)).mono fun e' w' H => by
          obtain ⟨u, he, hr, hb⟩ := H
          exact ⟨u, he, ⟨_, hr⟩, hb⟩
      · intro a W hI hun haft hi
        have fg : a.eval (.tmp 30) = .bool true := haft ⟨2, .guard⟩ (by simp) rfl _ _ rfl rfl
        have e3 : a.eval (.tmp 3) = .pointer (some ⟨q, 0, none⟩) := hun 3 (by kernel_rfl)
        exact b_same hi hI (guard_ok rfl rfl rfl fg) _ (run_fieldAddr_any rfl e3 (at_snS2 _ W)) rfl
      · intro a W hI hun haft hi
        have fg : a.eval (.tmp 30) = .bool true := haft ⟨2, .guard⟩ (by simp) rfl _ _ rfl rfl
        have f8 : a.eval (.tmp 36) = .pointer (some ⟨q, 17, none⟩) := haft ⟨8, .data⟩ (by simp) rfl _ _ rfl rfl
        exact b_same hi hI (guard_ok rfl rfl rfl fg) _ (run_loadsl_op rfl f8 Tryz.underlying25 (SB.evs (SB.keep K8.out hI))) rfl
      · intro a W hI hun haft hi
        have fg : a.eval (.tmp 30) = .bool true := haft ⟨2, .guard⟩ (by simp) rfl _ _ rfl rfl
        have f4 : a.eval (.tmp 32) = .agg (vA f) := haft ⟨4, .data⟩ (by simp) rfl _ _ rfl rfl
        have f7 : ∃ R, Ot.RIts R W (a.eval (.tmp 35)) I := haft ⟨7, .data⟩ (by simp) rfl _ _ rfl rfl
        have f9 : a.eval (.tmp 37) = .slice B N' d := haft ⟨9, .data⟩ (by simp) rfl _ _ rfl rfl
        obtain ⟨R, hR⟩ := f7
        obtain ⟨AI, cI, hv⟩ := RIts_form hR
        rw [hv] at hR
        refine b_call hi hI (guard_ok rfl rfl rfl fg) _ _ (run_call_op (args := #[.agg (vA f), .slice AI I.length cI, .slice B N' d]) rfl (by simp [f4, hv, f9]) (by kernel_rfl)) ?_
        exact (HRb.out R AI cI W hR (E8.out.below hI)).mono fun e' w' H => by
          obtain ⟨v', he, ho, hb⟩ := H
          exact ⟨v', he, ho, hb⟩
      · intro a W hI hun haft hi
        have fg : a.eval (.tmp 30) = .bool true := haft ⟨2, .guard⟩ (by simp) rfl _ _ rfl rfl
        have f10 : Sl bv W (a.eval (.tmp 38)) l := haft ⟨10, .data⟩ (by simp) rfl _ _ rfl rfl
        exact b_same hi hI (guard_ok rfl rfl rfl fg) _ (run_convert_op rfl rfl (run_string_sl (P := Tryz.prog) W 30 9 5 Tryz.underlying30 Tryz.underlying5 Tryz.underlying9 _ _ f10)) rfl
      · intro a W hI hun haft hi
        have fg : a.eval (.tmp 30) = .bool true := haft ⟨2, .guard⟩ (by simp) rfl _ _ rfl rfl
        have e0 : a.eval (.tmp 0) = .slice P3 n3 c3 := hun 0 (by kernel_rfl)
        exact b_same hi hI (guard_ok rfl rfl rfl fg) _ (run_move_op rfl e0) rfl
      · intro a W hI hun haft hi
        have fg : a.eval (.tmp 30) = .bool true := haft ⟨2, .guard⟩ (by simp) rfl _ _ rfl rfl
        have f12 : a.eval (.tmp 40) = .slice P3 n3 c3 := haft ⟨12, .data⟩ (by simp) rfl _ _ rfl rfl
        exact b_same hi hI (guard_ok rfl rfl rfl fg) _ (run_convert_op rfl f12 (run_string_sl (P := Tryz.prog) W 30 9 5 Tryz.underlying30 Tryz.underlying5 Tryz.underlying9 _ _ (Sl.below S8.out hI))) rfl
      · intro a W hI hun haft hi
        have fg : a.eval (.tmp 30) = .bool true := haft ⟨2, .guard⟩ (by simp) rfl _ _ rfl rfl
        have f11 : a.eval (.tmp 39) = .string ⟨l.toArray⟩ := haft ⟨11, .data⟩ (by simp) rfl _ _ rfl rfl
        have f13 : a.eval (.tmp 41) = .string ⟨l.toArray⟩ := haft ⟨13, .data⟩ (by simp) rfl _ _ rfl rfl
        exact b_same hi hI (guard_ok rfl rfl rfl fg) _ (run_bin_op rfl f11 f13 (by simp [eqGuard]) (eql_strP _ _)) rfl
      · intro a W hI hun haft hi
        have f2 : a.eval (.tmp 30) = .bool true := haft ⟨2, .data⟩ (by simp) rfl _ _ rfl rfl
        have f14 : a.eval (.tmp 42) = .bool true := haft ⟨14, .data⟩ (by simp) rfl _ _ rfl rfl
        exact b_same hi hI rfl _ (run_pick_op (b := true) rfl f2 f14 rfl) rfl
      · intro a W hI hun haft hi
        have f15 : a.eval (.tmp 43) = .bool true := haft ⟨15, .data⟩ (by simp) rfl _ _ rfl rfl
        exact b_same hi hI rfl _ (run_assign_op rfl f15) rfl
    · intro vals W hI hp
      have hl16 : vals 16 = .bool true := hp 16 (by decide)
      have HI := Lib.hid hI
      clear hp hI
      simp only [layN, List.size_toArray, List.length_cons, List.length_nil, List.range, List.range.loop, if_true, List.getElem?_toArray, List.getElem?_cons_zero, List.getElem?_cons_succ, Act.put, List.setIfInBounds_toArray, List.set_cons_zero, List.set_cons_succ, Nat.zero_add, Nat.reduceAdd, hl16]
      clear hl16
      go_wp2_with fail
      go_ret
      exact ⟨rfl, Y8.out.trans (HI.out.mono Y8.out.size)⟩

end Go.Proofs.YtejljikikhecnaaGreat

namespace Go.Proofs.YtejljikikhecnaaGreat
open Go.ChangeShapes Go.WideShapes Go.ChangeAt Go.RowKit
open Go.ChangeMaps (open_string)

theorem cut_of {W : World} (hS : W.ShapedOpen Tryz.prog) : CutOk W := by
  obtain ⟨m, hm⟩ := Tryz.laysM145.s1_3 W hS
  exact ⟨World.block_lt_of_cell? _ ⟨0, 0, none⟩ hm, m, hm⟩
set_option maxRecDepth 100000 in
theorem snparses_lifted (os : Os) (started : os.Started) (H : Type) (enc : TypeId × Value → H) :
    ReturnsInHanded {} Tryz.checked os 4 .any (Rows.snapParsesSpec.pre6 enc Tryz.prog Tryz.f4 Rows.snapParsesRow.domain false) (Rows.snapParsesSpec.post enc Tryz.prog Tryz.f4 false true false false) := by
  refine returnsInHanded_of_change_shaped (C := Tryz.checked) Tryz.own started (by kernel_rfl) Tryz.func4
    (ChangeSpec.witness6 (enc := enc) (C := Tryz.checked) false ⟨#[], #[.slice none 0 0], []⟩ 8 (by kernel_rfl) (by kernel_rfl) (by kernel_rfl) (by kernel_rfl)) ?_
  intro W base args ds gs before hval0 hW _ hsz0 hsh _
  have hsz : (DataW.weightsEach Tryz.prog (Tryz.f4.params.toList ++ Rows.snapParsesSpec.plain.varTypes Tryz.prog) (ds ++ gs)).all (· ≤ reachBytes) = true := hsz0
  clear hsz0
  have hval : ∀ (j : Nat) t v, Tryz.f4.params[j]? = some t → args[j]? = some v → Value.okWide Tryz.prog W .any base t v := hval0
  have hW' := hW
  obtain ⟨p, q, hA0, hV, rfl, _, _⟩ := hW
  have hA : DataW.TrodAll enc Tryz.prog W 0 (fun _ => true) true Tryz.f4.params.toList args.toList ds p := hA0
  rw [Tryz.params4] at hA hval hsz
  obtain ⟨v0, d0, rfl, rfl, h0⟩ := trodAll_one hA
  obtain ⟨rfl, rfl⟩ := trodVars_none hV
  clear hA0 hval0
  have hlt0 : ∀ x ∈ p, x.block < W.heap.size := fun x hx => by simpa using hW'.lt x (by simp [hx])
  obtain ⟨a0, ha0, hd0⟩ := sl_bytes Tryz.underlying30 Tryz.underlying5 cellsU (hval 0 30 v0 rfl rfl) h0 hlt0
  have hr0 := sl_reach hsz (j := 0) rfl rfl hd0
  have hw := snparses_walk v0 a0 W ha0 hr0 (cut_of hsh)
  refine hw.mono fun e W' ⟨he, hb⟩ => ?_
  subst he
  exact ⟨_, rfl, law_post Tryz.laidOut hW' rfl (of_decide_eq_true (by kernel_rfl)) (by kernel_rfl) Tryz.underlying4 rfl rfl rfl hb⟩

theorem snparses_holds : Rows.SnapParsesSaid :=
  OpenClaim.holds_of_wide 4 Tryz.f4 rfl rfl rfl rfl rfl rfl rfl ⟨rfl, rfl, rfl, rfl, rfl⟩ rfl rfl rfl rfl rfl (by kernel_rfl) Tryz.func4 (by kernel_rfl)
    (of_decide_eq_true (by kernel_rfl)) (by unfold Func.isWrapper; first | (rw [if_pos (by decide +kernel)]; kernel_rfl) | (rw [if_neg (by decide +kernel)]; exact ⟨rfl, rfl⟩))
    (fun os started H enc _ => snparses_lifted os started H enc)

end Go.Proofs.YtejljikikhecnaaGreat
