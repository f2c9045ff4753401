/- hedgerowref08.kept, Lines. -/import Derived.Test.YtdgglhlofnigkaaGreatDoorGrRefNm
import Derived.Test.YtdgglhlofnigkaaGreatDoorGrLinks
import Derived.Test.YtdgglhlofnigkaaGreatDoorGrLines
import Derived.Test.YtdgglhlofnigkaaGreatDoorJGrFew
import Derived.Test.YtdgglhlofnigkaaGreatDoorJValDigits
namespace Go.Proofs.YtdgglhlofnigkaaGreatDoor
open Lib (hid)
open Go.RowKit Go.MapKept Go.Sort
theorem kept_next (w : ByteArray) {vs : List Va} {j : Nat} {v : Va} (h : vs[j]? = some v) : (keptR w (vs.take j) ++ ⟨#[32]⟩) ++ txV v = keptR w (vs.take (j + 1)) := by
 unfold keptR
 rw [List.take_add_one, h, List.foldl_append]
 rfl
theorem labs_next (w : ByteArray) {vs : List ByteArray} {j : Nat} {v : ByteArray} (h : vs[j]? = some v) : (labsR w (vs.take j) ++ ⟨#[32]⟩) ++ v = labsR w (vs.take (j + 1)) := by
 unfold labsR
 rw [List.take_add_one, h, List.foldl_append]
 rfl
theorem kept_size : ∀ (vs : List Va) (w : ByteArray), (∀ v ∈ vs, v.t.size ≤ 1000) → (keptR w vs).size ≤ w.size + vs.length * 2021
 | [], w, _ => by show w.size ≤ _; simp
 | v :: vs, w, h => by
  have h1 := kept_size vs ((w ++ sp1) ++ txV v) fun x hx => h x (List.mem_cons_of_mem _ hx)
  have h2 := txV_size v
  have h3 := h v List.mem_cons_self
  have h4 : ((w ++ sp1) ++ txV v).size = w.size + 1 + (txV v).size := by rw [ByteArray.size_append, ByteArray.size_append]; rfl
  show (keptR ((w ++ sp1) ++ txV v) vs).size ≤ _
  rw [List.length_cons]
  omega
theorem labs_size : ∀ (vs : List ByteArray) (w : ByteArray), (∀ v ∈ vs, v.size ≤ 1000) → (labsR w vs).size ≤ w.size + vs.length * 1001
 | [], w, _ => by show w.size ≤ _; simp
 | v :: vs, w, h => by
  have h1 := labs_size vs ((w ++ sp1) ++ v) fun x hx => h x (List.mem_cons_of_mem _ hx)
  have h3 := h v List.mem_cons_self
  have h4 : ((w ++ sp1) ++ v).size = w.size + 1 + v.size := by rw [ByteArray.size_append, ByteArray.size_append]; rfl
  show (labsR ((w ++ sp1) ++ v) vs).size ≤ _
  rw [List.length_cons]
  omega
theorem valsR_in {l : List Ev} {x : El} {v : Va} (h : v ∈ valsR l x) : ∃ e ∈ l, vaOf e = v := by
 unfold valsR at h
 split at h
 ·rw [riseC_mem] at h
  obtain ⟨e, he, rfl⟩ := List.mem_map.1 h
  exact ⟨e, (List.mem_filter.1 he).1, rfl⟩
 ·cases h
theorem valsR_len (l : List Ev) (x : El) : (valsR l x).length ≤ l.length := by
 unfold valsR
 split
 ·refine Nat.le_trans (riseC_len _) ?_
  rw [List.length_map]
  exact List.length_filter_le _ _
 ·exact Nat.zero_le _
set_option maxRecDepth 100000 in
set_option maxHeartbeats 4000000 in
theorem kept8_any (word : ByteArray) (x : El) (l : List Ev) (A : Option Addr) (N c : Nat) (w : World) (hs : SlK encE 27 w (.slice A N c) l) (hN : l.length = N) (hN2 : N ≤ 100) (hok : ∀ e ∈ l, okB e = true) (hle : ∀ e ∈ l, Lens e) (hM : ∀ e ∈ l, e.t.size ≤ 1000) (hwd : word.size ≤ 100000) :
  Calls Tryz.prog 39 #[.slice A N c, .string word, eE x] w (Gives w (.string (keptR word (valsR l x)))) := by
 obtain ⟨k, a, b, cc, d⟩ := x
 obtain ⟨p, hp⟩ : ∃ p, w.heap.size = p := ⟨_, rfl⟩
 obtain ⟨X, hX⟩ : ∃ X, X = w.alloc (.cells #[.int .i64 k, .string a, .string b, .string cc, .string d] 38) := ⟨_, rfl⟩
 have hb : Below w.heap.size w X := by rw [hX]; exact (Below.refl _ _).alloc (Nat.le_refl _) _
 have hE : Blk X p 38 #[.int .i64 k, .string a, .string b, .string cc, .string d] := by rw [hX, ← hp]; exact Blk.new w _ _
 have c0 : X.cell? ⟨p, 0, none⟩ = some (.int .i64 k) := (Blk.cell hE 0).trans rfl
 have c1 : X.cell? ⟨p, 1, none⟩ = some (.string a) := (Blk.cell hE 1).trans rfl
 have c2 : X.cell? ⟨p, 2, none⟩ = some (.string b) := (Blk.cell hE 2).trans rfl
 have c3 : X.cell? ⟨p, 3, none⟩ = some (.string cc) := (Blk.cell hE 3).trans rfl
 have c4 : X.cell? ⟨p, 4, none⟩ = some (.string d) := (Blk.cell hE 4).trans rfl
 have HVal := hid (values8_any ⟨k, a, b, cc, d⟩ l A N c X (hs.below hb) hN (by omega) hok hle)
 have hvl := valsR_len l ⟨k, a, b, cc, d⟩
 have hvt : ∀ v ∈ valsR l ⟨k, a, b, cc, d⟩, v.t.size ≤ 1000 := fun v hv => by obtain ⟨e, he, rfl⟩ := valsR_in hv; exact hM e he
 obtain ⟨vs, hvs⟩ : ∃ vs, valsR l ⟨k, a, b, cc, d⟩ = vs := ⟨_, rfl⟩
 rw [hvs] at HVal hvl hvt ⊢
 have HVl := hid (show vs.length ≤ 100 by omega)
 have HVt := hid hvt
 have HWd := hid hwd
 have HB := hid hb
 have HX := hid hX
 have HP := hid hp
 clear hb hE hX hp hs hN hN2 hok hle hM hwd hvl hvt hvs
 unfold eE elV at HVal ⊢
 dsimp only at HVal ⊢
 go_enter Tryz.func39, Tryz.ntmps39
 go_upto_region 1 with fail
 rw [← HX.out, HP.out]
 go_wp2_with fail
 refine HVal.out.mono ?_
 rintro e w1 ⟨u, rfl, ho, hb1⟩
 obtain ⟨A2, cq, rfl, _, _⟩ := ho.read enW_len
 obtain ⟨n, hn⟩ : ∃ n, vs.length = n := ⟨_, rfl⟩
 rw [hn] at ho HVl ⊢
 have HO := hid ho
 have HNn := hid hn
 have HB1 := hid (HB.out.trans (hb1.mono HB.out.size))
 clear ho hn hb1 c0 c1 c2 c3 c4
 go_wp2_with fail
 go_loopw [1, 13] (fun v1 v13 wr => ∃ j : Nat, v13 = .int .i64 j ∧ j ≤ n ∧ v1 = .string (keptR word (vs.take j)) ∧ Below w1.heap.size w1 wr) (fun _ v13 _ => n - (intOf v13).toNat)
 case atStart => exact ⟨0, rfl, Nat.zero_le _, rfl, Below.refl _ _⟩
 case round =>
  obtain ⟨j, rfl, hj, rfl, hbw⟩ := hrel
  obtain ⟨wo, rfl⟩ : ∃ wo, wo = wr := ⟨_, rfl⟩
  by_cases hlt : j < n
  ·obtain ⟨v, hv⟩ : ∃ v, vs[j]? = some v := ⟨vs[j]'(by rw [HNn.out]; exact hlt), List.getElem?_eq_getElem _⟩
   obtain ⟨g, rfl, _, hg, hce⟩ := (HO.out.keep hbw).at_ enW_len hv
   have HNx := hid (kept_next word hv)
   have hks := kept_size (vs.take j) word fun v hv => HVt.out v (List.mem_of_mem_take hv)
   have htx := txV_size v
   have hvt := HVt.out v (List.mem_of_getElem? hv)
   obtain ⟨K, hK⟩ : ∃ K, keptR word (vs.take j) = K := ⟨_, rfl⟩
   obtain ⟨T, hT⟩ : ∃ T, txV v = T := ⟨_, rfl⟩
   rw [hK] at HNx hks ⊢
   rw [hT] at HNx htx
   have hKl : K.size ≤ 400000 := by have h1 := HVl.out; have h2 := HWd.out; have h3 : (vs.take j).length ≤ 100 := by rw [List.length_take]; omega
                                    omega
   have hTl : T.size ≤ 3000 := by omega
   have HTx := hid (fun W => reftext_any v.k v.n v.t W (by omega))
   have HTe := hid (show sv (textB v.k v.n v.t.data.toList) = .string T by rw [← hT]; rfl)
   obtain ⟨vk, vn, vt⟩ := v
   have HCe := hid (show wo.rangeAt g (j * 3) [.int .i64 vk, .int .i64 vn, .string vt] from hce)
   have HAt := hid (at_Va0 g cq n j hlt wo)
   obtain ⟨q, hq⟩ : ∃ q, wo.heap.size = q := ⟨_, rfl⟩
   obtain ⟨Y, hY⟩ : ∃ Y, Y = wo.alloc (.cells #[.int .i64 vk, .int .i64 vn, .string vt] 43) := ⟨_, rfl⟩
   have hbY : Below wo.heap.size wo Y := by rw [hY]; exact (Below.refl _ _).alloc (Nat.le_refl _) _
   have hEY : Blk Y q 43 #[.int .i64 vk, .int .i64 vn, .string vt] := by rw [hY, ← hq]; exact Blk.new _ _ _
   have HbY := hid (hbw.trans (hbY.mono hbw.size))
   have HW1 := hid (IntWalk.i64_in ((j : Int) + 1) (by have := HVl.out; omega))
   have HJ1 := hid (show ¬ 9223372036854775807 < j + 1 by have := HVl.out; omega)
   have d0 : Y.cell? ⟨q, 0, none⟩ = some (.int .i64 vk) := (Blk.cell hEY 0).trans rfl
   have d1 : Y.cell? ⟨q, 1, none⟩ = some (.int .i64 vn) := (Blk.cell hEY 1).trans rfl
   have d2 : Y.cell? ⟨q, 2, none⟩ = some (.string vt) := (Blk.cell hEY 2).trans rfl
   have HYe := hid hY
   have HQ := hid hq
   have hz := (zero_of_info infoVz).1
   have HKl := hid hKl
   have HTl := hid hTl
   clear hv hg hce hq hY hbY hEY hbw hks htx hvt hK hT hKl hTl
   rw [HYe.out] at d0 d1 d2
   go_upto_region 4 with (first
    | (refine wpList_val (o := ⟨some 15, _, _, _, _, _⟩) rfl (.pointer (some ⟨g, j * 3, none⟩)) wo (run_indexAddr_op rfl rfl rfl HAt.out) ?_)
    | (refine wpList_load_midif rfl 43 (.tmp 15) rfl g (j * 3) rfl [.int .i64 vk, .int .i64 vn, .string vt] _ HCe.out Tryz.underlying43 rfl (by kernel_rfl) ?_)
    | fail)
   clear hz HAt HCe
   rw [← HYe.out] at d0 d1 d2
   rw [HQ.out, ← HYe.out]
   have hKl := HKl.out
   have hTl := HTl.out
   go_wp2_with fail
   refine (HTx.out Y).mono ?_
   rintro e w5 ⟨rfl, hb5⟩
   rw [HTe.out]
   have HB5 := hid (HbY.out.trans (hb5.mono HbY.out.size))
   have hov : ¬ 9223372036854775807 < K.size + (ByteArray.mk #[32]).size := by rw [show (ByteArray.mk #[32]).size = 1 from rfl]; omega
   have hw := HW1.out
   have hjm := HJ1.out
   clear hb5 d0 d1 d2
   go_wp2_with fail
   all_goals go_roundw
   case rel => exact ⟨j + 1, by go_num, by omega, congrArg Value.string HNx.out, HB5.out⟩
   case measure => simp [intOf] <;> omega
  ·go_wp2_with fail
   go_ret
   have hjN : j = n := by omega
   rw [hjN, List.take_of_length_le (by rw [HNn.out]; exact Nat.le_refl _)]
   exact ⟨rfl, HB1.out.trans (hbw.mono HB1.out.size)⟩
theorem map_next {α β : Type} (f : α → β) {l : List α} {j : Nat} {x : α} (h : l[j]? = some x) : (l.take (j + 1)).map f = (l.take j).map f ++ [f x] := by
 rw [List.take_add_one, h, List.map_append]
 rfl
theorem short_sizes {e : Ev} (h : shortB e = true) : e.a.size ≤ 300 ∧ e.b.size ≤ 300 ∧ e.cc.size ≤ 300 ∧ e.d.size ≤ 300 ∧ e.t.size ≤ 300 := by
 unfold shortB at h
 have := of_decide_eq_true h
 omega
theorem el_sizes {l : List Ev} (h : ∀ e ∈ l, shortB e = true) {x : El} (hx : x ∈ elsL l) : x.a.size ≤ 300 ∧ x.b.size ≤ 300 ∧ x.c.size ≤ 300 ∧ x.d.size ≤ 300 := by
 obtain ⟨e, he, rfl⟩ := (els_mem l x).1 hx
 have := short_sizes (h e he)
 exact ⟨this.1, this.2.1, this.2.2.1, this.2.2.2.1⟩
theorem nodes_sizes {l : List Ev} (h : ∀ e ∈ l, shortB e = true) : (nodesR (hasG l) (elsL l)).length ≤ l.length ∧ ∀ s ∈ nodesR (hasG l) (elsL l), s.size ≤ 300 := by
 unfold nodesR
 refine ⟨by rw [List.length_map]; exact Nat.le_trans (List.length_filter_le _ _) (els_len l), fun s hs => ?_⟩
 obtain ⟨x, hx, rfl⟩ := List.mem_map.1 hs
 exact (el_sizes h (List.mem_filter.1 hx).1).1
theorem labs_sizes {l : List Ev} (h : ∀ e ∈ l, shortB e = true) (key : ByteArray) : (labR (hasG l) (elsL l) key).length ≤ l.length ∧ ∀ s ∈ labR (hasG l) (elsL l) key, s.size ≤ 300 := by
 unfold labR
 refine ⟨by rw [List.length_map]; exact Nat.le_trans (List.length_filter_le _ _) (els_len l), fun s hs => ?_⟩
 obtain ⟨x, hx, rfl⟩ := List.mem_map.1 hs
 exact (el_sizes h (List.mem_filter.1 hx).1).2.2.2
theorem names_sizes {l : List Ev} (h : ∀ e ∈ l, shortB e = true) (y : El) : (namesR (hasG l) (elsL l) y).length ≤ l.length ∧ ∀ s ∈ namesR (hasG l) (elsL l) y, s.size ≤ 300 := by
 unfold namesR
 refine ⟨by rw [List.length_map]; exact Nat.le_trans (List.length_filter_le _ _) (els_len l), fun s hs => ?_⟩
 obtain ⟨x, hx, rfl⟩ := List.mem_map.1 hs
 exact (el_sizes h (List.mem_filter.1 hx).1).2.2.2
theorem links_sizes {l : List Ev} (h : ∀ e ∈ l, shortB e = true) : (sortK (linksR (hasG l) (elsL l))).length ≤ l.length ∧ ∀ x ∈ sortK (linksR (hasG l) (elsL l)), x.f.size ≤ 300 ∧ x.t.size ≤ 300 ∧ x.y.size ≤ 300 := by
 refine ⟨?_, fun x hx => ?_⟩
 ·rw [(sortK_perm _).length_eq]
  unfold linksR
  rw [List.length_map]
  exact Nat.le_trans (List.length_filter_le _ _) (els_len l)
 ·rw [(sortK_perm _).mem_iff] at hx
  unfold linksR at hx
  obtain ⟨y, hy, rfl⟩ := List.mem_map.1 hx
  have := el_sizes h (List.mem_filter.1 hy).1
  exact ⟨this.1, this.2.1, this.2.2.1⟩
theorem nodeR_len {l : List Ev} (h : ∀ e ∈ l, shortB e = true) (key : ByteArray) : (nodeR l key).length ≤ l.length + 1 := by
 unfold nodeR
 rw [List.length_cons, List.length_map]
 have := (names_sizes h (nodeE key)).1
 omega
theorem linkR8_len {l : List Ev} (h : ∀ e ∈ l, shortB e = true) (x : Lk) : (linkR8 l x).length ≤ l.length + 1 := by
 unfold linkR8
 rw [List.length_cons, List.length_map]
 have := (names_sizes h (linkE x)).1
 omega
theorem flat_take_le {α β : Type} (f : α → List β) (B : Nat) (l : List α) (j : Nat) (h : ∀ x ∈ l, (f x).length ≤ B) (hj : j ≤ 100) : ((l.take j).flatMap f).length ≤ 100 * B := by
 have h1 := flat_le f B (l.take j) fun x hx => h x (List.mem_of_mem_take hx)
 have h2 : (l.take j).length ≤ 100 := by rw [List.length_take]; omega
 exact Nat.le_trans h1 (Nat.mul_le_mul_right _ h2)
end Go.Proofs.YtdgglhlofnigkaaGreatDoor
