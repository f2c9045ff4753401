/-
  What few allows of a snapshot: lengths; Bytes and Parse in short.
-/
import Derived.Test.YtejljikikhecnaaGreatSnFixed
namespace Go.Proofs.YtejljikikhecnaaGreat
open Go.RowKit Go.MapKept Go.Sort

theorem short_lenS (e : Ev) (h : shortB e = true) : (bytesE e).length ≤ 600 := by
  unfold shortB at h
  rw [decide_eq_true_eq] at h
  have t1 := txtB_len e.a
  have t2 := txtB_len e.b
  have t3 := txtB_len e.cc
  have t4 := txtB_len e.d
  have t5 := txtB_len e.t
  have p1 := putB_len e.r
  have p2 := putB_len e.c
  have p3 := pastB_len e.p 16
  have p4 := putB_len e.op
  have p5 := putB_len e.ek
  have p6 := putB_len e.vk
  have p7 := sigB_len e.vn
  have e0 : bytesE e = putB e.r ++ (putB e.c ++ (pastB e.p 16 ++ (putB e.op ++ (putB e.ek ++ (txtB e.a ++ (txtB e.b ++ (txtB e.cc ++ (txtB e.d ++ (putB e.vk ++ (sigB e.vn ++ (txtB e.t ++ []))))))))))) := by
    simp only [bytesE, b11, b10, b9, b8, b7, b6, b5, b4, b3, b2, b1, List.append_assoc, List.nil_append, List.append_nil]
  rw [e0]
  simp only [List.length_append, List.length_nil]
  omega
theorem itemF_parts {q : El × List (Dt × Va)} (h : itemF q = true) : q.2.length ≤ 20 ∧ q.1.a.size + q.1.b.size + q.1.c.size + q.1.d.size ≤ 300 ∧ ∀ r ∈ q.2, r.2.t.size ≤ 300 := by
  unfold itemF at h
  rw [Bool.and_eq_true, Bool.and_eq_true, decide_eq_true_eq, decide_eq_true_eq, List.all_eq_true] at h
  exact ⟨h.1.1, h.1.2, fun r hr => by simpa using h.2 r hr⟩
theorem item_len {q : El × List (Dt × Va)} (h : itemF q = true) : (bytesI q.1 q.2).length ≤ 7300 := by
  obtain ⟨h1, h2, h3⟩ := itemF_parts h
  have p1 := putB_len q.1.k
  have q1 := txtB_len q.1.a
  have q2 := txtB_len q.1.b
  have q3 := txtB_len q.1.c
  have q4 := txtB_len q.1.d
  have q5 := putB_len q.2.length
  have q6 := flat_le 345 (q.2.map bytesN) (fun b hb => by
    obtain ⟨r, hr, rfl⟩ := List.mem_map.1 hb
    have h4 := h3 r hr
    have p1 := putB_len r.1.r
    have p2 := putB_len r.1.c
    have p3 := putB_len r.2.k
    have p4 := sigB_len r.2.n
    have q1 := txtB_len r.2.t
    simp only [bytesN, t4, t3, t2, t1, List.length_append, List.nil_append]
    omega)
  rw [List.length_map] at q6
  have q7 : q.2.length * 345 ≤ 20 * 345 := Nat.mul_le_mul_right _ h1
  unfold bytesI
  simp only [bytesX, s4, s3, s2, s1, List.length_append, List.nil_append]
  omega
theorem fewS_parts {I : List (El × List (Dt × Va))} {E : List Ev} (h : fewS I E = true) : I.length ≤ 30 ∧ E.length ≤ 30 ∧ (∀ q ∈ I, itemF q = true) ∧ ∀ e ∈ E, shortB e = true := by
  unfold fewS at h
  rw [Bool.and_eq_true, Bool.and_eq_true, Bool.and_eq_true, decide_eq_true_eq, decide_eq_true_eq, List.all_eq_true, List.all_eq_true] at h
  exact ⟨h.1.1.1, h.1.1.2, h.1.2, h.2⟩
theorem few_fits {q : El × List (Dt × Va)} (h : itemF q = true) : ItFits q := by
  obtain ⟨h1, h2, h3⟩ := itemF_parts h
  refine ⟨⟨?_, ?_, ?_, ?_⟩, by omega, fun r hr => by have := h3 r hr; omega⟩ <;> omega
theorem few_len (f : Nat → Int) {I : List (El × List (Dt × Va))} {E : List Ev} (h : fewS I E = true) : (bytesS f I E).length ≤ 300000 := by
  obtain ⟨h1, h2, h3, h4⟩ := fewS_parts h
  have p1 := pastB_len f 16
  have p2 := putB_len I.length
  have p3 := putB_len E.length
  have q1 := flat_le 7300 (I.map fun q => bytesI q.1 q.2) (fun b hb => by
    obtain ⟨q, hq, rfl⟩ := List.mem_map.1 hb
    exact item_len (h3 q hq))
  have q2 := flat_le 600 (E.map bytesE) (fun b hb => by
    obtain ⟨e, he, rfl⟩ := List.mem_map.1 hb
    exact short_lenS e (h4 e he))
  rw [List.length_map] at q1 q2
  have q3 : I.length * 7300 ≤ 30 * 7300 := Nat.mul_le_mul_right _ h1
  have q4 : E.length * 600 ≤ 30 * 600 := Nat.mul_le_mul_right _ h2
  unfold bytesS rowIB rowEB
  simp only [List.length_append]
  omega
theorem sE_nil : (sE []).2.2 = true := by decide +kernel
theorem bytes_some {l : List UInt8} (h : (sE l).2 = ([], false)) : 0 < l.length := by
  rcases l with _ | ⟨x, l⟩
  · have h2 := sE_nil
    rw [h] at h2
    cases h2
  · simp
theorem part_two (l : List UInt8) (h : (sE l).2 = ([], false)) (k : Nat) (hk : k < l.length) : snC (l.take k) = 2 ∧ ¬ rDone (sE (l.take k)).2 = true := by
  have h1 := done_part l h k hk
  refine ⟨by unfold snC; rw [h1]; rfl, by rw [h1]; decide⟩
theorem more_two (l t : List UInt8) (h : (sE l).2 = ([], false)) (ht : t ≠ []) : snC (l ++ t) = 2 ∧ ¬ rDone (sE (l ++ t)).2 = true := by
  have h1 := done_more l t h ht
  refine ⟨by unfold snC; rw [h1]; rfl, by rw [h1]; decide⟩
theorem sbytes_no (f : Nat → Int) (I : List (El × List (Dt × Va))) (E : List Ev) (A A' : Option Addr) (N N' c c' : Nat) (w : World) (hs : ItsIs w (.slice A N c) I) (hN : I.length = N) (he : SlK encE 27 w (.slice A' N' c') E) (hN' : E.length = N') (hf : fewS I E = true) (hw : CutOk w) (hr : rightS f I E = false) :
    Calls Tryz.prog 8 #[sV f (.slice A N c) (.slice A' N' c')] w fun e w' => ∃ B d, e = .returned (.tuple #[.slice B 0 d, .int .i64 1]) ∧ Below w.heap.size w w' := by
  obtain ⟨h1, h2, h3, h4⟩ := fewS_parts hf
  refine (sbytes_any f I E A A' N N' c c' w hs hN (by omega) (fun q hq => few_fits (h3 q hq)) he hN' (by omega) (fun e he => short_lens e (h4 e he)) hw (by have := few_len f hf; omega)).mono ?_
  rintro e w' ⟨v, rfl, ho, hb⟩
  rw [hr, if_neg (by decide)] at ho
  have hs : Sl bv w' v [] := Sl.of_own ho
  obtain ⟨B, d, rfl⟩ := hs.form
  exact ⟨B, d, by rw [hr]; rfl, hb⟩
theorem sbytes_yes (f : Nat → Int) (I : List (El × List (Dt × Va))) (E : List Ev) (A A' : Option Addr) (N N' c c' : Nat) (w : World) (hs : ItsIs w (.slice A N c) I) (hN : I.length = N) (he : SlK encE 27 w (.slice A' N' c') E) (hN' : E.length = N') (hf : fewS I E = true) (hw : CutOk w) (hr : rightS f I E = true) (LL : List UInt8) (hL : bytesS f I E = LL) :
    Calls Tryz.prog 8 #[sV f (.slice A N c) (.slice A' N' c')] w fun e w' => ∃ v, e = .returned (.tuple #[v, .int .i64 0]) ∧ w'.ownsRow w.heap.size 5 1 v LL.length (bs LL) ∧ Below w.heap.size w w' := by
  obtain ⟨h1, h2, h3, h4⟩ := fewS_parts hf
  refine (sbytes_any f I E A A' N N' c c' w hs hN (by omega) (fun q hq => few_fits (h3 q hq)) he hN' (by omega) (fun e he => short_lens e (h4 e he)) hw (by have := few_len f hf; omega)).mono ?_
  rintro e w' ⟨v, rfl, ho, hb⟩
  rw [hr, if_pos rfl, hL] at ho
  exact ⟨v, by rw [hr]; rfl, ho, hb⟩
theorem sparse_is (l : List UInt8) (x : Nat) (hx : snC l = x) (hl : l.length ≤ 900000)
    (hF : rDone (sE l).2 = true → (sI l).1.length ≤ 10000 ∧ (∀ q ∈ (sI l).1, ItFits q) ∧ (sE l).1.length ≤ 10000 ∧ ∀ e ∈ (sE l).1, Lens e) (v : Value) (w : World) (hv : Sl bv w v l) (hw : CutOk w) :
    Calls Tryz.prog 11 #[v] w fun e w' => ∃ f A a c B b d, e = .returned (.tuple #[sV f (.slice A a c) (.slice B b d), .int .i64 x]) ∧
      (x = 0 → f = (sF l).1 ∧ a = (sI l).1.length ∧ b = (sE l).1.length ∧ ItsIs w' (.slice A a c) (sI l).1 ∧ SlK encE 27 w' (.slice B b d) (sE l).1) ∧ Below w.heap.size w w' := by
  refine (sparse_any v l w hv hl hw hF).mono ?_
  rintro e w' ⟨f, A, a, c, B, b, d, rfl, h1, _, hb⟩
  rw [hx] at h1 ⊢
  exact ⟨f, A, a, c, B, b, d, rfl, h1, hb⟩
theorem slA_zeroS (A : Option Addr) (c : Nat) : slA A c 0 = A := by
  unfold slA
  split
  · rfl
  · cases A <;> simp [Addr.add]
theorem own_slS {w : World} {B n : Nat} {v : Value} {l : List UInt8} (h : w.ownsRow B 5 1 v n (bs l)) (hn : l.length = n) : Sl bv w v l := by subst hn; exact Sl.of_own h
theorem own_rowS {w : World} {B n : Nat} {e : TypeId} {v : Value} {xs : List Value} (h : w.ownsRow B e 1 v n xs) (hn : 0 < n) : ∃ g c, v = .slice (some ⟨g, 0, none⟩) n c ∧ g < w.heap.size := by
  rcases h.2 with ⟨_, h0⟩ | ⟨g, cap, cur, rfl, _, hg, _⟩
  · omega
  · exact ⟨g, cap, rfl, (Array.getElem?_eq_some_iff.1 hg).1⟩
/-- append onto an empty row just laid, whatever the source. -/
theorem append_freshS (w : World) (v : Value) (l : List UInt8) (hs : Sl bv w v l) (hlen : l.length ≤ 140737488355328) :
    ∃ v' w', (Builtin.append_ #[30, 30] 30 #[.slice (some ⟨w.heap.size, 0, none⟩) 0 0, v]).run Tryz.prog (w.alloc (.cells #[] 5)) = .ok v' w' ∧ w'.ownsRow w.heap.size 5 1 v' l.length (bs l) ∧ Below w.heap.size w w' := by
  obtain ⟨i0, hi, hz0, hz1, hz2⟩ := info_parts infoU
  have hw1 : (w.alloc (.cells #[] 5)).ownsRow w.heap.size 5 1 (.slice (some ⟨w.heap.size, 0, none⟩) 0 0) 0 [] := World.ownsRow_made w #[] 0 (Nat.le_refl _) (by unfold maxLen; omega) rfl
  have hs1 := hs.alloc (.cells #[] 5)
  obtain ⟨v', w2, hr, ho2, hg2⟩ := run_append_sl (P := Tryz.prog) (w.alloc (.cells #[] 5)) w.heap.size 30 30 5 i0 (.int .u8 0) 1 Tryz.underlying30 hi hz0 hz1 hz2 rfl _ _ _ hw1 _ _ hs1 (fun _ => rfl) (by omega) (by omega) (by simp)
  have hb2 : Below w.heap.size w w2 := ((Below.refl _ _).alloc (Nat.le_refl _) _).grown hg2 (by simp) (fun k hk => (hw1.lt k hk).1)
  simp only [Nat.zero_add, List.nil_append] at ho2
  exact ⟨v', w2, hr, ho2, hb2⟩
/-- append onto a row of the call's own. -/
theorem append_moreS (w0 w : World) (v0 : Value) (l0 : List UInt8) (ho : w.ownsRow w0.heap.size 5 1 v0 l0.length (bs l0)) (hb : Below w0.heap.size w0 w) (v : Value) (l : List UInt8) (hs : Sl bv w v l) (hlen : l0.length + l.length ≤ 140737488355328) :
    ∃ v' w', (Builtin.append_ #[30, 30] 30 #[v0, v]).run Tryz.prog w = .ok v' w' ∧ w'.ownsRow w0.heap.size 5 1 v' (l0 ++ l).length (bs (l0 ++ l)) ∧ Below w0.heap.size w0 w' := by
  obtain ⟨i0, hi, hz0, hz1, hz2⟩ := info_parts infoU
  obtain ⟨v', w2, hr, ho2, hg2⟩ := run_append_sl (P := Tryz.prog) w w0.heap.size 30 30 5 i0 (.int .u8 0) 1 Tryz.underlying30 hi hz0 hz1 hz2 rfl _ _ _ ho _ _ hs (fun _ => rfl) (by omega) (by omega) hb.size
  exact ⟨v', w2, hr, by rw [List.length_append, bs_append]; exact ho2, hb.grown hg2 hb.size (fun k hk => (ho.lt k hk).1)⟩
theorem rem_runS (a n : Nat) (ha : a < 65536) (hn : 0 < n) (hn2 : n ≤ 1000000) (w : World) : (binOp .rem 3 (.int .i64 a) (.int .i64 n)).run Tryz.prog w = .ok (.int .i64 ((a % n : Nat) : Int)) w := by
  have h0 : ((n : Int) == 0) = false := by rw [beq_eq_false_iff_ne]; omega
  have h1 : (n : Int) ≠ 0 := by omega
  have h2 : ((a % n : Nat) : Int) = (a : Int).tmod (n : Int) := by
    rw [Int.tmod_eq_emod_of_nonneg (by omega)]
    simp [Int.natCast_emod]
  have h3 : n ≠ 0 := by omega
  rw [h2]
  go_simp
theorem guard_remS (x y : Operand) (a b : Value) (w : World) : (eqGuard .rem 3 x y a b).run Tryz.prog w = .ok () w := by
  unfold eqGuard; simp [Sem.run_pure]

end Go.Proofs.YtejljikikhecnaaGreat
