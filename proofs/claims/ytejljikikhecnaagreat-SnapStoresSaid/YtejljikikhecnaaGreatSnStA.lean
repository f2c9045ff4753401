/-
  snap.Store: the contract, by a walk; a store's All as a row of items. Conditions: lengths.
-/
import Derived.Test.YtejljikikhecnaaGreatSnStM
namespace Go.Proofs.YtejljikikhecnaaGreat
open Go.RowKit Go.MapKept Go.Sort

/-- All of a store that has, of each element, the entries that another one has. -/
theorem all_is {w : World} {sb B : Nat} {τ : List (El × List (Dt × Va))} (h : StAt w sb B τ) (hl : τ.length ≤ 60) (hr : ∀ x, (entS x τ).length ≤ 60) :
    Calls Tryz.prog 19 #[.pointer (some ⟨sb, 0, none⟩)] w fun e w' => ∃ A I c, e = .returned (.slice A I.length c) ∧ CanI τ I ∧ ItsIs w' (.slice A I.length c) I ∧ Below w.heap.size w w' := by
  refine (all_at h (by omega) (fun x => by have := hr x; omega)).mono ?_
  rintro e w' ⟨v, es, rfl, h1, h2, h3, hb⟩
  obtain ⟨I, q1, q2, q3⟩ := its_of h3 h1 h2
  obtain ⟨A, c, rfl⟩ := q1.form
  exact ⟨A, I, c, rfl, q2, q1, hb⟩
theorem all_same {w : World} {sb B : Nat} {τ σ I : List (El × List (Dt × Va))} (h : StAt w sb B τ) (hO : OkS σ) (hc : CanI σ I) (hk : (keysL τ).Perm (keysL σ)) (he : ∀ x, (entS x τ).Perm (entS x σ)) (ht : totS τ ≤ 60) (htl : τ.length ≤ 60) :
    Calls Tryz.prog 19 #[.pointer (some ⟨sb, 0, none⟩)] w fun e w' => ∃ A c, e = .returned (.slice A I.length c) ∧ ItsIs w' (.slice A I.length c) I ∧ Below w.heap.size w w' := by
  refine (all_is h htl (fun x => by have := tot_ent (x := x) (σ := τ); omega)).mono ?_
  rintro e w' ⟨A, I', c, rfl, h1, h2, hb⟩
  obtain rfl := canI_unique hO hc h1 hk he
  exact ⟨A, c, rfl, h2, hb⟩

set_option maxRecDepth 100000 in
set_option maxHeartbeats 4000000 in
theorem snstore_any (f : Nat → Int) (I σ : List (El × List (Dt × Va))) (A A' : Option Addr) (N c N' c' : Nat) (w : World) (hs : ItsIs w (.slice A N c) I) (hN : I.length = N) (hN2 : N ≤ 60) (hO : OkS σ) (hc : CanI σ I) (hr : ∀ q ∈ I, rightI q.1 q.2 = true) (hx : ∀ q ∈ I, ItFits q) (hw : CutOk w) :
    Calls Tryz.prog 20 #[sV f (.slice A N c) (.slice A' N' c')] w fun e w' => ∃ sb B τ, e = .returned (.pointer (some ⟨sb, 0, none⟩)) ∧ StAt w' sb B τ ∧ (keysL τ).Perm (keysL σ) ∧ (∀ x, (entS x τ).Perm (entS x σ)) ∧ totS τ = totS σ ∧ Below w.heap.size w w' := by
  obtain ⟨p, hp⟩ : ∃ p, w.heap.size = p := ⟨_, rfl⟩
  obtain ⟨X, hX⟩ : ∃ X, X = w.alloc (.cells (sC f (.slice A N c) (.slice A' N' c')) 27) := ⟨_, rfl⟩
  have hbX : Below w.heap.size w X := by rw [hX]; exact (Below.refl _ _).alloc (Nat.le_refl _) _
  have hmb : SB X p f (.slice A N c) (.slice A' N' c') := by rw [hX, ← hp]; exact SB.new_ w f _ _
  have hXs : X.heap.size = p + 1 := by rw [hX, ← hp]; simp
  obtain ⟨X1, hX1⟩ : ∃ X1, X1 = X.alloc (.cells #[.map none] 98) := ⟨_, rfl⟩
  have hb1 : Below X.heap.size X X1 := by rw [hX1]; exact (Below.refl _ _).alloc (Nat.le_refl _) _
  have hX1s : X1.heap.size = p + 2 := by rw [hX1]; simp [hXs]
  have hst : StAt X1 (p + 1) (p + 2) [] := by
    have := new_at X (p + 2)
    rw [hXs, ← hX1] at this
    exact this
  have HS0 := Lib.hid hs
  have HM := Lib.hid (SB.keep hmb hb1)
  have HSt := Lib.hid hst
  have HX := Lib.hid hX
  have HX1 := Lib.hid hX1
  have HXs := Lib.hid hXs
  have HX1s := Lib.hid hX1s
  have HP := Lib.hid hp
  have HB1 := Lib.hid (hbX.trans (hb1.mono hbX.size))
  have HW := Lib.hid hw
  have HN := Lib.hid hN
  have HN2 := Lib.hid hN2
  have HO := Lib.hid hO
  have HC := Lib.hid hc
  have HR := Lib.hid hr
  have HFt := Lib.hid hx
  have H0 := Lib.hid (show 0 < p by rw [← hp]; exact hw.1)
  have HZi := Lib.hid (zero_of_info zeroI).1
  obtain ⟨es, hes⟩ : ∃ es, I.map Prod.fst = es := ⟨_, rfl⟩
  have HEs := Lib.hid hes
  have HEl := Lib.hid (show es.length = N by rw [← hes]; simpa using hN)
  clear hX hbX hmb hXs hX1 hb1 hX1s hst hp hs hN hN2 hO hc hr hx hw hes
  unfold sV
  go_enter Tryz.func20, Tryz.ntmps20
  go_upto_region 1 with fail
  rw [← HX.out, HP.out]
  go_wp2_with fail
  refine (st_new_any X).mono ?_
  rintro e w1 ⟨rfl, hw1⟩
  rw [HX1.out.symm] at hw1
  subst hw1
  rw [HXs.out]
  have c16 := HM.out.its
  go_wp2_with fail
  clear c16
  go_loopw [10] (fun v10 wr => ∃ (j : Nat) (τ : List (El × List (Dt × Va))), v10 = .int .i64 j ∧ j ≤ N ∧ PutInv σ τ es 0 j ∧ StAt wr (p + 1) (p + 2) τ ∧ Kept (p + 1) (p + 2) w1 wr) (fun v10 _ => N - (intOf v10).toNat)
  case atStart => exact ⟨0, [], rfl, Nat.zero_le _, PutInv.start _ _ _, HSt.out, Kept.refl⟩
  case round =>
    obtain ⟨j, τ, rfl, hj, hinv, hst, hk⟩ := hrel
    obtain ⟨wo, rfl⟩ : ∃ wo, wo = wr := ⟨_, rfl⟩
    have HInv := Lib.hid hinv
    have HSo := Lib.hid hst
    have HKo := Lib.hid hk
    have HBo := Lib.hid (show Below w.heap.size w wo from HB1.out.trans (hk.below (by rw [HP.out]; omega) (by rw [HP.out]; omega) HB1.out.size))
    clear hinv hst hk
    by_cases hlt : j < N
    case neg =>
      have hjN : N = j := by omega
      subst hjN
      have hd := PutInv.done (by rw [HEl.out]; exact HInv.out) (by rw [← HEs.out]; exact HC.out.1) HO.out.1
      have HD := Lib.hid hd
      clear hd hj hlt
      go_wp2
      go_ret
      exact ⟨p + 1, p + 2, τ, rfl, HSo.out, HD.out.2.2.1, HD.out.2.1, HD.out.2.2.2, HBo.out⟩
    obtain ⟨q, hq⟩ : ∃ q, I[j]? = some q := ⟨I[j]'(by rw [HN.out]; exact hlt), List.getElem?_eq_getElem _⟩
    obtain ⟨A3, c3, g, o, rfl, hgl, hce, hsl⟩ := HS0.out.at_ hq
    obtain ⟨x, l⟩ := q
    dsimp only at hce hsl
    obtain ⟨n2, hn2⟩ : ∃ n2, l.length = n2 := ⟨_, rfl⟩
    rw [hn2] at hce hsl
    have hmem := List.mem_of_getElem? hq
    have hxe : es[(j + 0) % es.length]? = some x := by
      rw [HEl.out, Nat.add_zero, Nat.mod_eq_of_lt hlt, ← HEs.out, List.getElem?_map, hq]; rfl
    have hperm := (HC.out.2.2 (x, l) hmem).1
    dsimp only at hperm
    have hnd : (keysL l).Nodup := (hperm.map Prod.fst).nodup_iff.2 (ent_nodup HO.out x)
    have hne : l ≠ [] := by
      obtain ⟨l', _, _, h3, h4⟩ := canI_item HO.out HC.out hmem
      intro e
      dsimp only at h4
      rw [e] at h4
      exact h3.2.2.1 (List.nil_perm.1 h4)
    have HStep := Lib.hid (HInv.out.step hxe hperm hnd hne)
    have HAg := Lib.hid (show ∀ g o, A3 = some ⟨g, o, none⟩ → g ≠ p + 1 ∧ g < p + 2 from fun g' o' e => by
      obtain ⟨A4, c4, hv, _, hh⟩ := hsl
      obtain ⟨b, o2, hA, hlt2, _⟩ := hh hne
      injection hv with e1 _ _
      rw [← e1, e] at hA
      simp only [Option.some.injEq, Addr.mk.injEq, and_true] at hA
      have := HP.out
      omega)
    have HRi := Lib.hid (HR.out (x, l) hmem)
    have HFq := Lib.hid (HFt.out (x, l) hmem)
    have HNq := Lib.hid hn2
    have HCe := Lib.hid (rangeAt_same hce (HBo.out.block g hgl))
    have HAt := Lib.hid (at_It g o c N j hlt wo)
    have HLt := Lib.hid hlt
    have HAl := Lib.hid fun c => World.setRow_alloc_new wo (cI zI) c 61
    have HZz := Lib.hid (show Blk (wo.alloc (.cells (cI zI) 61)) wo.heap.size 61 (cI zI) from Blk.new _ _ _)
    obtain ⟨Y, hY⟩ : ∃ Y, Y = wo.alloc (.cells (cI (x, .slice A3 n2 c3)) 61) := ⟨_, rfl⟩
    have hbY : Below wo.heap.size wo Y := by rw [hY]; exact (Below.refl _ _).alloc (Nat.le_refl _) _
    have HBY := Lib.hid (show Blk Y wo.heap.size 61 (cI (x, .slice A3 n2 c3)) by rw [hY]; exact Blk.new _ _ _)
    have HYe := Lib.hid hY
    have HSl := Lib.hid ((hsl.below HBo.out).below hbY)
    have HSY := Lib.hid (HSo.out.keep hbY)
    have HKY := Lib.hid (HKo.out.trans (Kept.of_below hbY))
    have HWY := Lib.hid (((HKo.out.trans (Kept.of_below hbY)).cut (by omega) (by omega) (HW.out.below HB1.out)))
    clear hq hn2 hgl hce hY hbY hsl hmem hxe hperm hnd hne
    have hz := HZi.out
    go_wp2_with (first
      | (refine wpList_val (o := ⟨some 12, _, _, _, _, _⟩) rfl (.pointer (some ⟨g, o + j * 6, none⟩)) wo (run_indexAddr_op rfl rfl rfl HAt.out) ?_)
      | (refine' wpList_load_midif ?q1 61 (.tmp 12) ?q2 g (o + j * 6) ?q3 (enI (x, .slice A3 n2 c3)) _ ?q4 Tryz.underlying61 ?q5 ?q6 ?_; (case q2 => rfl); (case q1 => rfl); (case q3 => rfl); (case q4 => exact HCe.out); (case q5 => rfl); (case q6 => exact (sizeIi (x, .slice A3 n2 c3))))
      | (refine wpList_store_row (o := ⟨none, _, _, _, _, _⟩) rfl 61 (.tmp 5) (.tmp 13) rfl wo.heap.size (cI (x, .slice A3 n2 c3)) rfl rfl _ _ HZz.out (sizeIi _) rfl (by simp [cI, Value.oneCell']) ?_; rw [HAl.out, ← HYe.out])
      | (refine wpList_load_if rfl 61 (.tmp 5) rfl wo.heap.size rfl _ _ _ _ HBY.out Tryz.underlying61 rfl (sizeIi _) ?_)
      | fail)
    clear hz
    refine (put_yes2 HSY.out (by have := HKY.out.size; have := HX1s.out; omega) x l A3 n2 c3 HSl.out HAg.out HNq.out (by have h1 : l.length ≤ 10000 := HFq.out.2.1; have := HNq.out; omega) HFq.out.1 (fun r hr => HFq.out.2.2 r hr) HWY.out HRi.out).mono ?_
    rintro e2 w7 ⟨rfl, hs7, hk7⟩
    have HS7 := Lib.hid hs7
    have HK7 := Lib.hid (HKY.out.trans hk7)
    clear hs7 hk7
    have hw := IntWalk.i64_in ((j : Int) + 1) (by have := HN2.out; omega)
    have hjm : ¬ 9223372036854775807 < j + 1 := by have := HN2.out; omega
    have hlt := HLt.out
    go_wp2
    go_roundw
    case rel => exact ⟨j + 1, putI x l τ, by go_num, HLt.out, HStep.out, HS7.out, HK7.out⟩
    case measure => simp [intOf] <;> omega

end Go.Proofs.YtejljikikhecnaaGreat
