/- hedgerowref08.Lines. -/import Derived.Test.YtdgglhlofnigkaaGreatDoorGrRefLn
namespace Go.Proofs.YtdgglhlofnigkaaGreatDoor
open Lib (hid)
open Go.RowKit Go.MapKept Go.Sort
def Apart (v u : Value) : Prop := ∀ g, v.ownBlock = some g → u.ownBlock ≠ some g
theorem apart_made {β : Type} {enc2 : β → List Value} {k2 : Nat} {e2 : TypeId} {B B2 : Nat} {w w' : World} {v u : Value} {ls : List ByteArray} {us : List β} (h : OwnK enS B 9 1 w v ls) (hu : OwnK enc2 B2 e2 k2 w' u us) (hB : w.heap.size ≤ B2) : Apart v u := fun g hg e => by
 have h1 := (h.lt g hg).2
 have h2 := (hu.lt g e).1
 omega
theorem own_put2 {B : Nat} {w : World} {v : Value} {ls : List ByteArray} (h : OwnK enS B 9 1 w v ls) (hB : B ≤ w.heap.size) (s : ByteArray) (hl : ls.length ≤ 100000) :
  ∃ v' w', (Builtin.append_ #[32, 32] 32 #[v, .slice (some ⟨w.heap.size, 0, none⟩) 1 1]).run Tryz.prog (w.alloc (.cells #[.string s] 9)) = .ok v' w' ∧ OwnK enS B 9 1 w' v' (ls ++ [s]) ∧ Below B w w' ∧
   ∀ {β : Type} (enc2 : β → List Value) (B2 k2 : Nat) (e2 : TypeId) (u : Value) (us : List β), OwnK enc2 B2 e2 k2 w u us → Apart v u → OwnK enc2 B2 e2 k2 w' u us ∧ Apart v' u := by
 obtain ⟨Z, hZ⟩ : ∃ Z, Z = w.alloc (.cells #[.string s] 9) := ⟨_, rfl⟩
 have hbZ : Below w.heap.size w Z := by rw [hZ]; exact (Below.refl _ _).alloc (Nat.le_refl _) _
 have hsl : SlK enS 1 Z (.slice (some ⟨w.heap.size, 0, none⟩) 1 1) [s] := by rw [hZ]; exact sl_S s w
 rw [← hZ]
 obtain ⟨i, z, h1, h2, h3, h4, h5⟩ := apS.info
 obtain ⟨v', w', hr, ho, hg, hloc⟩ := run_append_at (P := Tryz.prog) apS.len apS.pos B Z 32 32 9 i z 16 apS.under h1 h2 h3 h4 h5 v ls (h.keep hbZ) _ [s] hsl apS.one (by simp only [List.length_cons, List.length_nil]; omega) (by simp only [List.length_cons, List.length_nil]; omega) (Nat.le_trans hB hbZ.size)
 refine ⟨v', w', hr, ho, (hbZ.mono hB).trans ((Below.refl B Z).grown hg (Nat.le_trans hB hbZ.size) fun k hk => (h.lt k hk).1), fun enc2 B2 k2 e2 u us hu ha => ⟨?_, ?_⟩⟩
 ·refine (hu.keep hbZ).same fun g hg2 => ?_
  have hlt := ((hu.keep hbZ).lt g hg2).2
  exact hg.block g hlt fun e => ha g e.symm hg2
 ·intro g hg2 hu2
  rcases hloc with e | ⟨_, hn⟩
  ·rw [e] at hg2; exact ha g hg2 hu2
  ·have h6 := hn g hg2
   have h7 := (hu.lt g hu2).2
   have := hbZ.size
   omega
theorem own_lk1 (x : Lk) (w : World) : OwnK enK w.heap.size 36 3 (w.alloc (.cells #[.string x.f, .string x.t, .string x.y] 36)) (.slice (some ⟨w.heap.size, 0, none⟩) 1 1) [x] :=
 ⟨rfl, .inr ⟨w.heap.size, 1, #[.string x.f, .string x.t, .string x.y], rfl, Nat.le_refl _, heap_alloc_new w _, Nat.le_refl _, by unfold maxLen; omega, rfl, rfl⟩⟩
set_option maxRecDepth 100000 in
set_option maxHeartbeats 8000000 in
theorem lines8_any (l : List Ev) (A : Option Addr) (N c : Nat) (w : World) (hs : SlK encE 27 w (.slice A N c) l) (hN : l.length = N) (hN2 : N ≤ 60) (hok : ∀ e ∈ l, okB e = true) (hsh : ∀ e ∈ l, shortB e = true) :
  Calls Tryz.prog 13 #[.slice A N c] w fun e w' => ∃ v, e = .returned v ∧ OwnK enS w.heap.size 9 1 w' v (linesR l) ∧ Below w.heap.size w w' := by
 have hle : ∀ e ∈ l, Lens e := fun e he => short_lens e (hsh e he)
 have HNo := hid (nodes8_any l A N c w hs hN (by omega) hok)
 have HLa := hid (fun key W (h : Below w.heap.size w W) => labels8_any key l A N c W (hs.below h) hN (by omega) hok)
 have HNm := hid (show ∀ (x : El) (W : World), Below w.heap.size w W → Calls Tryz.prog 25 #[.slice A N c, .agg #[.int .i64 x.k, .string x.a, .string x.b, .string x.c, .string x.d]] W (fun e w' => ∃ v, e = .returned v ∧ OwnK enS W.heap.size 9 1 w' v (namesR (hasG l) (elsL l) x) ∧ Below W.heap.size W w') from fun x W h => names8_any x l A N c W (hs.below h) hN (by omega) hok hle)
 have HKp := hid (show ∀ (word : ByteArray) (x : El) (W : World), word.size ≤ 100000 → Below w.heap.size w W → Calls Tryz.prog 39 #[.slice A N c, .string word, .agg #[.int .i64 x.k, .string x.a, .string x.b, .string x.c, .string x.d]] W (Gives W (.string (keptR word (valsR l x)))) from fun word x W hw h => kept8_any word x l A N c W (hs.below h) hN (by omega) hok hle (fun e he => by have := (short_sizes (hsh e he)).2.2.2.2; omega) hw)
 have HLk := hid (fun W (h : Below w.heap.size w W) => links8_any l A N c W (hs.below h) hN (by omega) hok)
 have HSn := hid (nodes_sizes hsh)
 have HSl := hid (fun key => labs_sizes hsh key)
 have HSm := hid (fun x => names_sizes hsh x)
 have HSk := hid (links_sizes hsh)
 have HRn := hid (fun key => nodeR_len hsh key)
 have HRk := hid (fun x => linkR8_len hsh x)
 have HLen := hid (show l.length ≤ 60 by omega)
 obtain ⟨nodes, hnodes⟩ : ∃ nodes, nodesR (hasG l) (elsL l) = nodes := ⟨_, rfl⟩
 obtain ⟨lks, hlks⟩ : ∃ lks, sortK (linksR (hasG l) (elsL l)) = lks := ⟨_, rfl⟩
 have hz := (zero_of_info infoElG).1
 unfold linesR
 rw [hnodes] at HNo HSn ⊢
 rw [hlks] at HLk HSk ⊢
 have HZ := hid hz
 clear hs hN hN2 hok hsh hle hnodes hlks hz
 go_enter Tryz.func13, Tryz.ntmps13
 go_wp2_with fail
 refine HNo.out.mono ?_
 rintro e w1 ⟨u, rfl, ho, hb1⟩
 obtain ⟨A17, c17, rfl, _, _⟩ := ho.read enS_len
 obtain ⟨n, hn⟩ : ∃ n, nodes.length = n := ⟨_, rfl⟩
 rw [hn] at ho ⊢
 have HO := hid ho
 have HNn := hid hn
 have HB1 := hid hb1
 have HNl := hid (show n ≤ 60 by have h1 := HSn.out.1; have h2 := HLen.out; omega)
 clear ho hn hb1 HNo
 go_wp2_with fail
 go_loopw [3, 19] (fun v3 v19 wr => ∃ j : Nat, v19 = .int .i64 j ∧ j ≤ n ∧ OwnK enS w1.heap.size 9 1 wr v3 ((nodes.take j).flatMap (nodeR l)) ∧ Below w1.heap.size w1 wr) (fun _ v19 _ => n - (intOf v19).toNat)
 case atStart => exact ⟨0, rfl, Nat.zero_le _, OwnK.nil_ _ _ _ _ _, Below.refl _ _⟩
 case round =>
  obtain ⟨j, rfl, hj, ho3, hbw⟩ := hrel
  obtain ⟨wo, rfl⟩ : ∃ wo, wo = wr := ⟨_, rfl⟩
  by_cases hlt : j < n
  ·as_aux_lemma =>
   obtain ⟨key, hkey⟩ : ∃ key, nodes[j]? = some key := ⟨nodes[j]'(by rw [HNn.out]; exact hlt), List.getElem?_eq_getElem _⟩
   obtain ⟨g, rfl, _, hg, hce⟩ := (HO.out.keep hbw).at_ enS_len hkey
   have HFx := hid (flat_next (nodeR l) hkey)
   have HFl := hid (flat_take_le (nodeR l) 61 nodes j (fun x _ => by have := HRn.out x; have := HLen.out; omega) (by have := HNl.out; omega))
   have HKs := hid (HSn.out.2 key (List.mem_of_getElem? hkey))
   have c0 : wo.cell? ⟨g, j * 1, none⟩ = some (.string key) := hce 0 (.string key) rfl
   rw [Nat.mul_one] at c0
   have HAt := hid (at_Ss g c17 n j hlt wo)
   have HBo := hid hbw
   have HBw := hid (HB1.out.trans (hbw.mono HB1.out.size))
   have HO3 := hid ho3
   have HW1 := hid (IntWalk.i64_in ((j : Int) + 1) (by have := HNl.out; omega))
   have HJ1 := hid (show ¬ 9223372036854775807 < j + 1 by have := HNl.out; omega)
   have hks := HKs.out
   have hov0 : ¬ 9223372036854775807 < (ByteArray.mk #[110, 111, 100, 101, 32]).size + key.size := by rw [show (ByteArray.mk #[110, 111, 100, 101, 32]).size = 5 from rfl]; omega
   clear hkey hg hce ho3 hbw
   go_wp2_with (first
    | (refine wpList_val (o := ⟨some 21, _, _, _, _, _⟩) rfl (.pointer (some ⟨g, j, none⟩)) wo (run_indexAddr_op rfl rfl rfl HAt.out) ?_)
    | fail)
   clear c0 HAt hov0 hks
   obtain ⟨L0, hL0⟩ : ∃ L0, (ByteArray.mk #[110, 111, 100, 101, 32]) ++ key = L0 := ⟨_, rfl⟩
   rw [hL0]
   have HL0 := hid hL0
   clear hL0
   refine (HLa.out key wo HBw.out).mono ?_
   rintro e w2 ⟨u, rfl, ho, hb2⟩
   obtain ⟨A27, c27, rfl, _, _⟩ := ho.read enS_len
   obtain ⟨labs, hlabs⟩ : ∃ labs, labR (hasG l) (elsL l) key = labs := ⟨_, rfl⟩
   have hsl := HSl.out key
   rw [hlabs] at ho hsl ⊢
   obtain ⟨n2, hn2⟩ : ∃ n2, labs.length = n2 := ⟨_, rfl⟩
   rw [hn2] at ho hsl ⊢
   have HOl := hid ho
   have HN2 := hid hn2
   have HSl2 := hid (show n2 ≤ 60 ∧ ∀ s ∈ labs, s.size ≤ 300 from ⟨by have := hsl.1; have := HLen.out; omega, hsl.2⟩)
   have HLb := hid hlabs
   have HO32 := hid (HO3.out.keep hb2)
   have HB2 := hid (HBo.out.trans (hb2.mono HBo.out.size))
   have HBw2 := hid (HBw.out.trans (hb2.mono HBw.out.size))
   clear ho hn2 hsl hlabs hb2
   go_wp2_with fail
   go_loopw [6, 29] (fun v6 v29 wr => ∃ i : Nat, v29 = .int .i64 i ∧ i ≤ n2 ∧ v6 = .string (labsR L0 (labs.take i)) ∧ wr = w2) (fun _ v29 _ => n2 - (intOf v29).toNat)
   case atStart => exact ⟨0, rfl, Nat.zero_le _, rfl, rfl⟩
   case round =>
    obtain ⟨i, rfl, hi, rfl, rfl⟩ := hrel
    by_cases hlt2 : i < n2
    ·obtain ⟨s, hs⟩ : ∃ s, labs[i]? = some s := ⟨labs[i]'(by rw [HN2.out]; exact hlt2), List.getElem?_eq_getElem _⟩
     obtain ⟨g2, rfl, _, _, hce2⟩ := HOl.out.at_ enS_len hs
     have c0 : wr.cell? ⟨g2, i * 1, none⟩ = some (.string s) := hce2 0 (.string s) rfl
     rw [Nat.mul_one] at c0
     have HAt2 := hid (at_Ss g2 c27 n2 i hlt2 wr)
     have HNx := hid (labs_next L0 hs)
     have hls := labs_size (labs.take i) L0 fun v hv => by have := HSl2.out.2 v (List.mem_of_mem_take hv); omega
     have hss := HSl2.out.2 s (List.mem_of_getElem? hs)
     obtain ⟨K, hK⟩ : ∃ K, labsR L0 (labs.take i) = K := ⟨_, rfl⟩
     rw [hK] at HNx hls ⊢
     have hL0s : L0.size ≤ 400 := by rw [← HL0.out, ByteArray.size_append, show (ByteArray.mk #[110, 111, 100, 101, 32]).size = 5 from rfl]; have := HKs.out; omega
     have hKl : K.size ≤ 100000 := by have h3 : (labs.take i).length ≤ 60 := by rw [List.length_take]; have := HSl2.out.1; omega
                                      omega
     have hov : ¬ 9223372036854775807 < K.size + (ByteArray.mk #[32]).size := by rw [show (ByteArray.mk #[32]).size = 1 from rfl]; omega
     have hw := IntWalk.i64_in ((i : Int) + 1) (by have := HSl2.out.1; omega)
     have hjm : ¬ 9223372036854775807 < i + 1 := by have := HSl2.out.1; omega
     clear hs hce2 hK hls hL0s hi
     go_wp2_with (first
      | (refine wpList_val (o := ⟨some 31, _, _, _, _, _⟩) rfl (.pointer (some ⟨g2, i, none⟩)) wr (run_indexAddr_op rfl rfl rfl HAt2.out) ?_)
      | fail)
     all_goals go_roundw
     case rel => exact ⟨i + 1, by go_num, by omega, congrArg Value.string HNx.out, by first | trivial | rfl⟩
     case measure => simp [intOf] <;> omega
    ·as_aux_lemma =>
     have hin : i = n2 := by omega
     obtain ⟨L1, hL1⟩ : ∃ L1, labsR L0 (labs.take i) = L1 := ⟨_, rfl⟩
     have hL1' : L1 = labsR L0 labs := by rw [← hL1, hin, List.take_of_length_le (by rw [HN2.out]; exact Nat.le_refl _)]
     rw [hL1]
     have HL1 := hid hL1'
     obtain ⟨v', w', hr, ho', hb', _⟩ := own_put2 HO32.out HB2.out.size L1 (by have := HFl.out; omega)
     obtain ⟨p2, hp2⟩ : ∃ p2, wr.heap.size = p2 := ⟨_, rfl⟩
     obtain ⟨Z, hZ⟩ : ∃ Z, Z = wr.alloc (.cells #[.string L1] 9) := ⟨_, rfl⟩
     rw [← hZ, hp2] at hr
     have HR := hid hr
     have HZe := hid hZ
     have HP2 := hid hp2
     have HO33 := hid ho'
     have HB3 := hid (HB2.out.trans hb')
     have HBw3 := hid (HB1.out.trans (HB3.out.mono HB1.out.size))
     have hz := HZ.out
     clear hL1 hL1' hr ho' hb' hp2 hZ hin
     go_wp2_with (first
      | (at_builtin; rw [← HZe.out, HP2.out]; refine Lib.wpList_append_run (o := ⟨some 41, _, _, _, _, _⟩) _ rfl _ _ _ _ rfl _ _ rfl rfl _ _ HR.out ?_)
      | fail)
     refine (HNm.out (nodeE key) w' HBw3.out).mono ?_
     rintro e w4 ⟨u, rfl, ho, hb4⟩
     obtain ⟨A45, c45, rfl, _, _⟩ := ho.read enS_len
     have hap := apart_made HO33.out ho (Nat.le_refl _)
     obtain ⟨nms, hnms⟩ : ∃ nms, namesR (hasG l) (elsL l) (nodeE key) = nms := ⟨_, rfl⟩
     have hsm := HSm.out (nodeE key)
     rw [hnms] at ho hsm hap ⊢
     obtain ⟨n3, hn3⟩ : ∃ n3, nms.length = n3 := ⟨_, rfl⟩
     rw [hn3] at ho hsm hap ⊢
     have HN3 := hid hn3
     have HSm2 := hid (show n3 ≤ 60 ∧ ∀ s ∈ nms, s.size ≤ 300 from ⟨by have := hsm.1; have := HLen.out; omega, hsm.2⟩)
     have HNs := hid hnms
     have HOn := hid ho
     have HO34 := hid (HO33.out.keep hb4)
     have HB4 := hid (HB3.out.trans (hb4.mono HB3.out.size))
     have HBw4 := hid (HBw3.out.trans (hb4.mono HBw3.out.size))
     have HAp := hid hap
     obtain ⟨fK, hfK⟩ : ∃ fK : ByteArray → ByteArray, (fun nm => keptR (((wProp1 ++ key) ++ sp1) ++ nm) (valsR l (propE key nm))) = fK := ⟨_, rfl⟩
     have HfK := hid hfK
     obtain ⟨base, hbase⟩ : ∃ base, (nodes.take j).flatMap (nodeR l) ++ [L1] = base := ⟨_, rfl⟩
     have HBa := hid hbase
     have HBl := hid (show base.length ≤ 7000 by rw [← hbase, List.length_append]; have := HFl.out; simp only [List.length_cons, List.length_nil]; omega)
     rw [hbase] at HO34
     have HOe := hid (show (nodes.take (j + 1)).flatMap (nodeR l) = base ++ nms.map fK by
      rw [HFx.out]
      show _ ++ (labsR (wNode1 ++ key) (labR (hasG l) (elsL l) key) :: (namesR (hasG l) (elsL l) (nodeE key)).map _) = _
      rw [← HBa.out, ← HfK.out, HNs.out, HLb.out, HL1.out, ← HL0.out, List.append_assoc]
      rfl)
     clear ho hb4 hn3 hsm hnms hap hfK hbase hz
     go_wp2_with fail
     go_loopw [3, 47] (fun v3 v47 wr => ∃ i : Nat, v47 = .int .i64 i ∧ i ≤ n3 ∧ OwnK enS w1.heap.size 9 1 wr v3 (base ++ (nms.take i).map fK) ∧ OwnK enS w'.heap.size 9 1 wr (.slice A45 n3 c45) nms ∧ Apart v3 (.slice A45 n3 c45) ∧ Below w1.heap.size w1 wr) (fun _ v47 _ => n3 - (intOf v47).toNat)
     case atStart => exact ⟨0, rfl, Nat.zero_le _, by rw [List.take_zero, List.map_nil, List.append_nil]; exact HO34.out, HOn.out, HAp.out, HB4.out⟩
     case round =>
      obtain ⟨i, rfl, hi, ho, hon, hap, hbr⟩ := hrel
      obtain ⟨wi, rfl⟩ : ∃ wi, wi = wr := ⟨_, rfl⟩
      by_cases hlt3 : i < n3
      ·obtain ⟨nm, hnm⟩ : ∃ nm, nms[i]? = some nm := ⟨nms[i]'(by rw [HN3.out]; exact hlt3), List.getElem?_eq_getElem _⟩
       obtain ⟨g3, e3, _, _, hce3⟩ := hon.at_ enS_len hnm
       have c0 : wi.cell? ⟨g3, i * 1, none⟩ = some (.string nm) := hce3 0 (.string nm) rfl
       rw [Nat.mul_one] at c0
       have HAt3 := hid (at_Ss g3 c45 n3 i hlt3 wi)
       have HMx := hid (map_next fK hnm)
       have hks := HKs.out
       have hns := HSm2.out.2 nm (List.mem_of_getElem? hnm)
       have HBi := hid (HB1.out.trans (hbr.mono HB1.out.size))
       have HBr := hid hbr
       have HOi := hid ho
       have HNi := hid hon
       have HAi := hid hap
       have HE3 := hid e3
       have hov0 : ¬ 9223372036854775807 < (ByteArray.mk #[112, 114, 111, 112, 32]).size + key.size := by rw [show (ByteArray.mk #[112, 114, 111, 112, 32]).size = 5 from rfl]; omega
       have hz := HZ.out
       subst e3
       have HWs := hid (show ((((ByteArray.mk #[112, 114, 111, 112, 32]) ++ key) ++ (ByteArray.mk #[32])) ++ nm).size ≤ 100000 by
        rw [ByteArray.size_append, ByteArray.size_append, ByteArray.size_append, show (ByteArray.mk #[112, 114, 111, 112, 32]).size = 5 from rfl, show (ByteArray.mk #[32]).size = 1 from rfl]
        omega)
       clear hnm hce3 ho hon hap hbr hi HE3
       go_wp2_with (first
        | (refine wpList_val (o := ⟨some 49, _, _, _, _, _⟩) rfl (.pointer (some ⟨g3, i, none⟩)) wi (run_indexAddr_op rfl rfl rfl HAt3.out) ?_)
        | fail)
       all_goals refine (HKp.out _ (propE key nm) wi HWs.out HBi.out).mono ?_
       all_goals rintro e w5 ⟨rfl, hb5⟩
       all_goals clear c0 hov0 hz hks hns HAt3
       obtain ⟨L2, hL2⟩ : ∃ L2, keptR ((((ByteArray.mk #[112, 114, 111, 112, 32]) ++ key) ++ (ByteArray.mk #[32])) ++ nm) (valsR l (propE key nm)) = L2 := ⟨_, rfl⟩
       rw [hL2]
       have HL2 := hid (show fK nm = L2 by rw [← HfK.out]; exact hL2)
       have hb15 := HBr.out.trans (hb5.mono HBr.out.size)
       obtain ⟨v2', w2', hr2, ho2, hb2', hst⟩ := own_put2 (HOi.out.keep hb5) hb15.size L2 (by rw [List.length_append, List.length_map, List.length_take]; have h1 := HBl.out; have h2 := HSm2.out.1; omega)
       obtain ⟨hon2, hap2⟩ := hst _ _ _ _ _ _ (HNi.out.keep hb5) HAi.out
       rw [List.append_assoc, ← HL2.out, ← HMx.out] at ho2
       obtain ⟨p5, hp5⟩ : ∃ p5, w5.heap.size = p5 := ⟨_, rfl⟩
       obtain ⟨Z2, hZ2⟩ : ∃ Z2, Z2 = w5.alloc (.cells #[.string L2] 9) := ⟨_, rfl⟩
       rw [← hZ2, hp5] at hr2
       have HR2 := hid hr2
       have HZ2 := hid hZ2
       have HP5 := hid hp5
       have HF := hid (And.intro ho2 (And.intro hon2 (And.intro hap2 (hb15.trans hb2'))))
       have hw := IntWalk.i64_in ((i : Int) + 1) (by have := HSm2.out.1; omega)
       have hjm : ¬ 9223372036854775807 < i + 1 := by have := HSm2.out.1; omega
       clear hL2 hb5 hr2 ho2 hb2' hst hon2 hap2 hp5 hZ2 hb15
       go_wp2_with (first
        | (at_builtin; rw [← HZ2.out, HP5.out]; refine Lib.wpList_append_run (o := ⟨some 63, _, _, _, _, _⟩) _ rfl _ _ _ _ rfl _ _ rfl rfl _ _ HR2.out ?_)
        | fail)
       go_roundw
       case rel => exact ⟨i + 1, by go_num, by omega, HF.out.1, HF.out.2.1, HF.out.2.2.1, HF.out.2.2.2⟩
       case measure => simp [intOf] <;> omega
      ·have hin : i = n3 := by omega
       rw [hin, List.take_of_length_le (by rw [HN3.out]; exact Nat.le_refl _), ← HOe.out] at ho
       have HF := hid ho
       have HBF := hid hbr
       have hw := HW1.out
       have hjm := HJ1.out
       clear ho hon hap hbr
       go_wp2_with fail
       go_roundw
       case rel => exact ⟨j + 1, by go_num, by omega, HF.out, HBF.out⟩
       case measure => simp [intOf] <;> omega
  ·as_aux_lemma =>
   have hjN : j = n := by omega
   rw [hjN, List.take_of_length_le (by rw [HNn.out]; exact Nat.le_refl _)] at ho3
   obtain ⟨base1, hbase1⟩ : ∃ base1, nodes.flatMap (nodeR l) = base1 := ⟨_, rfl⟩
   rw [hbase1] at ho3
   have HBe := hid hbase1
   have HBl1 := hid (show base1.length ≤ 3700 by
    rw [← hbase1]
    have h := flat_le (nodeR l) 61 nodes fun x _ => by have := HRn.out x; have := HLen.out; omega
    rw [HNn.out] at h
    have := HNl.out
    omega)
   have HBo := hid hbw
   have HBw := hid (HB1.out.trans (hbw.mono HB1.out.size))
   have HO3 := hid ho3
   clear hbase1 ho3 hbw hjN HSn HRn HNl
   go_wp2_with fail
   refine (HLk.out wo HBw.out).mono ?_
   rintro e w2 ⟨u, rfl, ho, hb2⟩
   obtain ⟨A67, c67, rfl, _, _⟩ := ho.read enK_len
   have hap := apart_made HO3.out ho (Nat.le_refl _)
   have hsk := HSk.out
   obtain ⟨m, hm⟩ : ∃ m, lks.length = m := ⟨_, rfl⟩
   rw [hm] at ho hap hsk ⊢
   have HM := hid hm
   have HMl := hid (show m ≤ 60 by have := hsk.1; have := HLen.out; omega)
   have HSx := hid hsk.2
   have HOk := hid ho
   have HAp := hid hap
   have HO32 := hid (HO3.out.keep hb2)
   have HB2 := hid (HBo.out.trans (hb2.mono HBo.out.size))
   clear ho hap hsk hm hb2 HSk
   go_wp2_with fail
   go_loopw [3, 69] (fun v3 v69 wr => ∃ j : Nat, v69 = .int .i64 j ∧ j ≤ m ∧ OwnK enS w1.heap.size 9 1 wr v3 (base1 ++ (lks.take j).flatMap (linkR8 l)) ∧ OwnK enK wo.heap.size 36 3 wr (.slice A67 m c67) lks ∧ Apart v3 (.slice A67 m c67) ∧ Below w1.heap.size w1 wr) (fun _ v69 _ => m - (intOf v69).toNat)
   case atStart => exact ⟨0, rfl, Nat.zero_le _, by rw [List.take_zero, List.flatMap_nil, List.append_nil]; exact HO32.out, HOk.out, HAp.out, HB2.out⟩
   case round =>
    clear HO32 HOk HAp HB2 HO3 HBo
    obtain ⟨j, rfl, hj, ho3, hok, hap, hbw⟩ := hrel
    obtain ⟨wj, rfl⟩ : ∃ wj, wj = wr := ⟨_, rfl⟩
    by_cases hlt : j < m
    ·as_aux_lemma =>
     obtain ⟨x, hx⟩ : ∃ x, lks[j]? = some x := ⟨lks[j]'(by rw [HM.out]; exact hlt), List.getElem?_eq_getElem _⟩
     obtain ⟨g, rfl, _, hg, hce⟩ := hok.at_ enK_len hx
     have HFx := hid (flat_next (linkR8 l) hx)
     have HFl := hid (flat_take_le (linkR8 l) 61 lks j (fun x _ => by have := HRk.out x; have := HLen.out; omega) (by have := HMl.out; omega))
     have HKs := hid (HSx.out x (List.mem_of_getElem? hx))
     have HCe := hid (show wj.rangeAt g (j * 3) [.string x.f, .string x.t, .string x.y] from hce)
     have HAt := hid (at_Lk0 g c67 m j hlt wj)
     obtain ⟨q, hq⟩ : ∃ q, wj.heap.size = q := ⟨_, rfl⟩
     obtain ⟨Y, hY⟩ : ∃ Y, Y = wj.alloc (.cells #[.string x.f, .string x.t, .string x.y] 36) := ⟨_, rfl⟩
     have hbY : Below wj.heap.size wj Y := by rw [hY]; exact (Below.refl _ _).alloc (Nat.le_refl _) _
     have hEY : Blk Y q 36 #[.string x.f, .string x.t, .string x.y] := by rw [hY, ← hq]; exact Blk.new _ _ _
     have hQr : OwnK enK wj.heap.size 36 3 Y (.slice (some ⟨q, 0, none⟩) 1 1) [x] := by rw [hY, ← hq]; exact own_lk1 x wj
     have HApq := hid (apart_made ho3 hQr (Nat.le_refl _))
     have HQr := hid hQr
     have HBo := hid (hbw.trans (hbY.mono hbw.size))
     have HBw := hid (HB1.out.trans (HBo.out.mono HB1.out.size))
     have HO3 := hid (ho3.keep hbY)
     have HOk := hid (hok.keep hbY)
     have HAp := hid hap
     have HW1 := hid (IntWalk.i64_in ((j : Int) + 1) (by have := HMl.out; omega))
     have HJ1 := hid (show ¬ 9223372036854775807 < j + 1 by have := HMl.out; omega)
     have HYe := hid hY
     have HQ := hid hq
     have c0 : Y.cell? ⟨q, 0, none⟩ = some (.string x.f) := (Blk.cell hEY 0).trans rfl
     have c1 : Y.cell? ⟨q, 1, none⟩ = some (.string x.t) := (Blk.cell hEY 1).trans rfl
     have c2 : Y.cell? ⟨q, 2, none⟩ = some (.string x.y) := (Blk.cell hEY 2).trans rfl
     have hz := (zero_of_info infoKz).1
     rw [HYe.out] at c0 c1 c2
     clear hx hg hce hq hY hbY hEY hQr ho3 hok hap hbw
     go_upto_region 21 with (first
      | (refine wpList_val (o := ⟨some 71, _, _, _, _, _⟩) rfl (.pointer (some ⟨g, j * 3, none⟩)) wj (run_indexAddr_op rfl rfl rfl HAt.out) ?_)
      | (refine wpList_load_midif rfl 36 (.tmp 71) rfl g (j * 3) rfl [.string x.f, .string x.t, .string x.y] _ HCe.out Tryz.underlying36 rfl (by kernel_rfl) ?_)
      | fail)
     clear hz HAt HCe
     rw [← HYe.out] at c0 c1 c2
     rw [HQ.out, ← HYe.out]
     have hkf := HKs.out.1
     have hkt := HKs.out.2.1
     have hky := HKs.out.2.2
     have hov1 : ¬ 9223372036854775807 < x.f.size + (ByteArray.mk #[32]).size := by rw [show (ByteArray.mk #[32]).size = 1 from rfl]; omega
     go_upto_region 22 with fail
     all_goals clear hov1
     obtain ⟨Wd, hWd⟩ : ∃ Wd, (((x.f ++ ByteArray.mk #[32]) ++ x.y) ++ ByteArray.mk #[32]) ++ x.t = Wd := ⟨_, rfl⟩
     rw [hWd]
     have hWs : Wd.size ≤ 902 := by
      rw [← hWd, ByteArray.size_append, ByteArray.size_append, ByteArray.size_append, ByteArray.size_append, show (ByteArray.mk #[32]).size = 1 from rfl]
      omega
     have HWd := hid hWd
     have HWs := hid hWs
     obtain ⟨L1, hL1⟩ : ∃ L1, (ByteArray.mk #[101, 100, 103, 101, 32]) ++ Wd = L1 := ⟨_, rfl⟩
     have HL1 := hid hL1
     obtain ⟨v', w', hr, ho', hb', hst⟩ := own_put2 HO3.out HBo.out.size L1 (by rw [List.length_append]; have := HFl.out; have := HBl1.out; omega)
     obtain ⟨hok2, hap2⟩ := hst _ _ _ _ _ _ HOk.out HAp.out
     obtain ⟨hqr2, hapq2⟩ := hst _ _ _ _ _ _ HQr.out HApq.out
     obtain ⟨p2, hp2⟩ : ∃ p2, Y.heap.size = p2 := ⟨_, rfl⟩
     obtain ⟨Z, hZ⟩ : ∃ Z, Z = Y.alloc (.cells #[.string L1] 9) := ⟨_, rfl⟩
     rw [← hZ, hp2] at hr
     rw [← hL1] at hZ
     have HR := hid hr
     have HZe := hid hZ
     have HP2 := hid hp2
     have HO33 := hid ho'
     have HOk2 := hid hok2
     have HAp2 := hid hap2
     have HQr2 := hid hqr2
     have HApq2 := hid hapq2
     have HB3 := hid (HBo.out.trans hb')
     have HBw3 := hid (HB1.out.trans (HB3.out.mono HB1.out.size))
     have hov1 : ¬ 9223372036854775807 < (ByteArray.mk #[101, 100, 103, 101, 32]).size + Wd.size := by rw [show (ByteArray.mk #[101, 100, 103, 101, 32]).size = 5 from rfl]; omega
     clear hWd hL1 hr ho' hb' hst hok2 hap2 hqr2 hapq2 hp2 hZ hkf hkt hky
     go_upto_region 23 with (first
      | (at_builtin; rw [← HZe.out, HP2.out]; refine Lib.wpList_append_run (o := ⟨some 87, _, _, _, _, _⟩) _ rfl _ _ _ _ rfl _ _ rfl rfl _ _ HR.out ?_)
      | fail)
     clear c0 c1 c2 hov1 hWs
     have hrg := (HQr2.out.at_ enK_len (j := 0) rfl)
     obtain ⟨g', eg, _, _, hcx⟩ := hrg
     have egq : g' = q := by cases eg; rfl
     subst egq
     have c0 : w'.cell? ⟨g', 0, none⟩ = some (.string x.f) := hcx 0 (.string x.f) rfl
     have c1 : w'.cell? ⟨g', 1, none⟩ = some (.string x.t) := hcx 1 (.string x.t) rfl
     have c2 : w'.cell? ⟨g', 2, none⟩ = some (.string x.y) := hcx 2 (.string x.y) rfl
     clear eg hcx
     have HEl := hid (show Calls Tryz.prog 40 #[.agg #[.string x.f, .string x.t, .string x.y]] w' (Gives w' (.agg #[.int .i64 3, .string x.f, .string x.t, .string x.y, .string ⟨#[]⟩])) from elem8_any x w')
     go_wp2_with fail
     refine HEl.out.mono ?_
     rintro e w3 ⟨rfl, hb3⟩
     have HBw33 := hid (HBw3.out.trans (hb3.mono HBw3.out.size))
     have HB33 := hid (HB3.out.trans (hb3.mono HB3.out.size))
     have HO333 := hid (HO33.out.keep hb3)
     have HOk3 := hid (HOk2.out.keep hb3)
     have HQr3 := hid (HQr2.out.keep hb3)
     clear hb3 c0 c1 c2 HEl
     go_wp2_with fail
     refine (HNm.out (linkE x) w3 HBw33.out).mono ?_
     rintro e w4 ⟨u, rfl, ho, hb4⟩
     obtain ⟨A91, c91, rfl, _, _⟩ := ho.read enS_len
     have hap := apart_made HO333.out ho (Nat.le_refl _)
     obtain ⟨nms, hnms⟩ : ∃ nms, namesR (hasG l) (elsL l) (linkE x) = nms := ⟨_, rfl⟩
     have hsm := HSm.out (linkE x)
     rw [hnms] at ho hsm hap ⊢
     obtain ⟨n3, hn3⟩ : ∃ n3, nms.length = n3 := ⟨_, rfl⟩
     rw [hn3] at ho hsm hap ⊢
     have HN3 := hid hn3
     have HSm2 := hid (show n3 ≤ 60 ∧ ∀ s ∈ nms, s.size ≤ 300 from ⟨by have := hsm.1; have := HLen.out; omega, hsm.2⟩)
     have HNs := hid hnms
     have HOn := hid ho
     have HO34 := hid (HO333.out.keep hb4)
     have HOk4 := hid (HOk3.out.keep hb4)
     have HQr4 := hid (HQr3.out.keep hb4)
     have HB4 := hid (HB33.out.trans (hb4.mono HB33.out.size))
     have HAn := hid hap
     obtain ⟨fK, hfK⟩ : ∃ fK : ByteArray → ByteArray, (fun nm => keptR (((wTrait1 ++ wordsR x) ++ sp1) ++ nm) (valsR l (traitE x nm))) = fK := ⟨_, rfl⟩
     have HfK := hid hfK
     obtain ⟨base, hbase⟩ : ∃ base, base1 ++ (lks.take j).flatMap (linkR8 l) ++ [L1] = base := ⟨_, rfl⟩
     have HBl := hid (show base.length ≤ 11000 by rw [← hbase, List.length_append, List.length_append]; have := HFl.out; have := HBl1.out; simp only [List.length_cons, List.length_nil]; omega)
     have HOe := hid (show base1 ++ (lks.take (j + 1)).flatMap (linkR8 l) = base ++ nms.map fK by
      rw [HFx.out]
      show _ ++ (_ ++ ((wEdge1 ++ wordsR x) :: (namesR (hasG l) (elsL l) (linkE x)).map _)) = _
      rw [← hbase, ← HfK.out, HNs.out, ← HL1.out, ← HWd.out, List.append_assoc, List.append_assoc]
      rfl)
     rw [hbase] at HO34
     clear ho hb4 hn3 hsm hnms hap hfK hbase HO3 HOk HAp HQr HApq HO33 HOk2 HQr2 HO333 HOk3 HQr3 HBo HBw HB3 HBw3 HBw33 HB33 HR HZe HYe HQ
     go_wp2_with fail
     go_loopw [3, 93] (fun v3 v93 wr => ∃ i : Nat, v93 = .int .i64 i ∧ i ≤ n3 ∧ OwnK enS w1.heap.size 9 1 wr v3 (base ++ (nms.take i).map fK) ∧ OwnK enS w3.heap.size 9 1 wr (.slice A91 n3 c91) nms ∧ Apart v3 (.slice A91 n3 c91) ∧ OwnK enK wo.heap.size 36 3 wr (.slice (some ⟨g, 0, none⟩) m c67) lks ∧ Apart v3 (.slice (some ⟨g, 0, none⟩) m c67) ∧ OwnK enK wj.heap.size 36 3 wr (.slice (some ⟨g', 0, none⟩) 1 1) [x] ∧ Apart v3 (.slice (some ⟨g', 0, none⟩) 1 1) ∧ Below w1.heap.size w1 wr) (fun _ v93 _ => n3 - (intOf v93).toNat)
     case atStart => exact ⟨0, rfl, Nat.zero_le _, by rw [List.take_zero, List.map_nil, List.append_nil]; exact HO34.out, HOn.out, HAn.out, HOk4.out, HAp2.out, HQr4.out, HApq2.out, HB4.out⟩
     case round =>
      obtain ⟨i, rfl, hi, ho, hon, han, hok, hap, hqr, hapq, hbr⟩ := hrel
      clear HO34 HOn HAn HOk4 HAp2 HQr4 HApq2 HB4
      obtain ⟨wi, rfl⟩ : ∃ wi, wi = wr := ⟨_, rfl⟩
      by_cases hlt3 : i < n3
      ·obtain ⟨nm, hnm⟩ : ∃ nm, nms[i]? = some nm := ⟨nms[i]'(by rw [HN3.out]; exact hlt3), List.getElem?_eq_getElem _⟩
       obtain ⟨g3, e3, _, _, hce3⟩ := hon.at_ enS_len hnm
       have cn : wi.cell? ⟨g3, i * 1, none⟩ = some (.string nm) := hce3 0 (.string nm) rfl
       rw [Nat.mul_one] at cn
       obtain ⟨g5, eg, _, _, hcx⟩ := hqr.at_ enK_len (j := 0) rfl
       have egq : g5 = g' := by cases eg; rfl
       subst egq
       have c0 : wi.cell? ⟨g5, 0, none⟩ = some (.string x.f) := hcx 0 (.string x.f) rfl
       have c1 : wi.cell? ⟨g5, 1, none⟩ = some (.string x.t) := hcx 1 (.string x.t) rfl
       have c2 : wi.cell? ⟨g5, 2, none⟩ = some (.string x.y) := hcx 2 (.string x.y) rfl
       have HAt3 := hid (at_Ss g3 c91 n3 i hlt3 wi)
       have HMx := hid (map_next fK hnm)
       have hks := HWs.out
       have hns := HSm2.out.2 nm (List.mem_of_getElem? hnm)
       have HBi := hid (HB1.out.trans (hbr.mono HB1.out.size))
       have HBr := hid hbr
       have HOi := hid ho
       have HNi := hid hon
       have HAi := hid han
       have HKi := hid hok
       have HPi := hid hap
       have HQi := hid hqr
       have HSi := hid hapq
       have hov0 : ¬ 9223372036854775807 < (ByteArray.mk #[116, 114, 97, 105, 116, 32]).size + Wd.size := by rw [show (ByteArray.mk #[116, 114, 97, 105, 116, 32]).size = 6 from rfl]; omega
       have hz := HZ.out
       subst e3
       have HWt := hid (show ((((ByteArray.mk #[116, 114, 97, 105, 116, 32]) ++ Wd) ++ (ByteArray.mk #[32])) ++ nm).size ≤ 100000 by
        rw [ByteArray.size_append, ByteArray.size_append, ByteArray.size_append, show (ByteArray.mk #[116, 114, 97, 105, 116, 32]).size = 6 from rfl, show (ByteArray.mk #[32]).size = 1 from rfl]
        omega)
       clear hnm hce3 ho hon han hok hap hqr hapq hbr hi eg hcx
       go_wp2_with (first
        | (refine wpList_val (o := ⟨some 95, _, _, _, _, _⟩) rfl (.pointer (some ⟨g3, i, none⟩)) wi (run_indexAddr_op rfl rfl rfl HAt3.out) ?_)
        | fail)
       all_goals refine (HKp.out _ (traitE x nm) wi HWt.out HBi.out).mono ?_
       all_goals rintro e w5 ⟨rfl, hb5⟩
       all_goals clear cn c0 c1 c2 hov0 hz hks hns HAt3
       obtain ⟨L2, hL2⟩ : ∃ L2, keptR ((((ByteArray.mk #[116, 114, 97, 105, 116, 32]) ++ Wd) ++ (ByteArray.mk #[32])) ++ nm) (valsR l (traitE x nm)) = L2 := ⟨_, rfl⟩
       rw [hL2]
       have HL2 := hid (show fK nm = L2 by rw [← HfK.out, ← hL2, ← HWd.out]; rfl)
       have hb15 := HBr.out.trans (hb5.mono HBr.out.size)
       obtain ⟨v2', w2', hr2, ho2, hb2', hst⟩ := own_put2 (HOi.out.keep hb5) hb15.size L2 (by rw [List.length_append, List.length_map, List.length_take]; have h1 := HBl.out; have h2 := HSm2.out.1; omega)
       obtain ⟨hon2, han2⟩ := hst _ _ _ _ _ _ (HNi.out.keep hb5) HAi.out
       obtain ⟨hok2, hap2⟩ := hst _ _ _ _ _ _ (HKi.out.keep hb5) HPi.out
       obtain ⟨hqr2, hapq2⟩ := hst _ _ _ _ _ _ (HQi.out.keep hb5) HSi.out
       rw [List.append_assoc, ← HL2.out, ← HMx.out] at ho2
       obtain ⟨p5, hp5⟩ : ∃ p5, w5.heap.size = p5 := ⟨_, rfl⟩
       obtain ⟨Z2, hZ2⟩ : ∃ Z2, Z2 = w5.alloc (.cells #[.string L2] 9) := ⟨_, rfl⟩
       rw [← hZ2, hp5] at hr2
       have HR2 := hid hr2
       have HZ2 := hid hZ2
       have HP5 := hid hp5
       have HF := hid (And.intro ho2 (And.intro hon2 (And.intro han2 (And.intro hok2 (And.intro hap2 (And.intro hqr2 (And.intro hapq2 (hb15.trans hb2'))))))))
       have hw := IntWalk.i64_in ((i : Int) + 1) (by have := HSm2.out.1; omega)
       have hjm : ¬ 9223372036854775807 < i + 1 := by have := HSm2.out.1; omega
       clear hL2 hb5 hr2 ho2 hb2' hst hon2 han2 hok2 hap2 hqr2 hapq2 hp5 hZ2 hb15
       go_wp2_with (first
        | (at_builtin; rw [← HZ2.out, HP5.out]; refine Lib.wpList_append_run (o := ⟨some 114, _, _, _, _, _⟩) _ rfl _ _ _ _ rfl _ _ rfl rfl _ _ HR2.out ?_)
        | fail)
       go_roundw
       case rel => exact ⟨i + 1, by go_num, by omega, HF.out.1, HF.out.2.1, HF.out.2.2.1, HF.out.2.2.2.1, HF.out.2.2.2.2.1, HF.out.2.2.2.2.2.1, HF.out.2.2.2.2.2.2.1, HF.out.2.2.2.2.2.2.2⟩
       case measure => simp [intOf] <;> omega
      ·have hin : i = n3 := by omega
       rw [hin, List.take_of_length_le (by rw [HN3.out]; exact Nat.le_refl _), ← HOe.out] at ho
       have HF := hid (And.intro ho (And.intro hok (And.intro hap hbr)))
       have hw := HW1.out
       have hjm := HJ1.out
       clear ho hon han hok hap hqr hapq hbr
       go_wp2_with fail
       go_roundw
       case rel => exact ⟨j + 1, by go_num, by omega, HF.out.1, HF.out.2.1, HF.out.2.2.1, HF.out.2.2.2⟩
       case measure => simp [intOf] <;> omega
    ·have hjm2 : j = m := by omega
     rw [hjm2, List.take_of_length_le (by rw [HM.out]; exact Nat.le_refl _)] at ho3
     have HF := hid ho3
     have HBF := hid hbw
     clear ho3 hok hap hbw
     go_wp2_with fail
     go_ret
     exact ⟨_, rfl, by have h := HF.out.base_ HB1.out.size; rw [← HBe.out] at h; exact h, HB1.out.trans (HBF.out.mono HB1.out.size)⟩
end Go.Proofs.YtdgglhlofnigkaaGreatDoor
