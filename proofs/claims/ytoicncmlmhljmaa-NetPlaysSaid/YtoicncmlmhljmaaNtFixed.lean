/-
  The fixed facts at the head of layer 16's statements: the call answers true, and turns nothing that was there. Conditions: none.
-/
import Derived.Test.YtoicncmlmhljmaaNtAll
import Derived.Lib.SlBytesConst
namespace Go.Proofs.Ytoicncmlmhljmaa
open Go.RowKit

/-- A net made behind w0. -/
def Nn (w0 w : World) (g : Nat) (v : Value) (l : List Pc) : Prop := Nt w0.heap.size w g v l ∧ Below w0.heap.size w0 w
section
variable {w0 w w' : World} {g : Nat} {v v' : Value} {l l' : List Pc} {t : Int} {b : List UInt8} {m : Bool}
theorem Nn.below (h : Nn w0 w g v l) (hb : Below w.heap.size w w') : Nn w0 w' g v l := ⟨h.1.keep hb, h.2.trans (hb.mono h.2.size)⟩
theorem Nn.alloc (h : Nn w0 w g v l) (o : Obj) : Nn w0 (w.alloc o) g v l := h.below ((Below.refl _ _).alloc (Nat.le_refl _) o)
theorem Nn.put (h : Nn w0 w g v l) (hq : PutQ w0.heap.size g l t b m w w') : ∃ v' u, Nn w0 w' g v' (l ++ [⟨t, b, u, m⟩]) := by
  obtain ⟨v', u, h1, h2⟩ := hq
  exact ⟨v', u, h1, h.2.trans h2.below⟩
theorem Nn.turn (h : Nn w0 w g v l) (h1 : Nt w0.heap.size w' g v' l') (h2 : Tn w0.heap.size w w') : Nn w0 w' g v' l' := ⟨h1, h.2.trans h2.below⟩
end
theorem bytes_str (w : World) (v : Value) (l : List UInt8) (h : Sl bv w v l) : (convert 27 9 v).run Try.prog w = .ok (.string ⟨l.toArray⟩) w :=
  run_string_sl (P := Try.prog) w 27 9 5 Try.underlying27 Try.underlying5 Try.underlying9 v _ h

theorem sl_lit (w : World) (l : List UInt8) (cs : Array Value) (t : TypeId) (fr : Nat × Nat) (n : Nat) (hcs : cs = (bs l).toArray) (hn : n = l.length) : Sl bv (w.alloc (.cells cs t fr)) (.slice (some ⟨w.heap.size, 0, none⟩) n n) l := by
  subst hcs hn
  refine ⟨_, _, rfl, Nat.le_refl _, fun _ => ⟨w.heap.size, 0, rfl, by simp, fun j u hu => ?_⟩⟩
  rw [cell_of_row (w.alloc (.cells (bs l).toArray t fr)) w.heap.size (0 + j) (bs l).toArray t fr (heap_alloc_new w _), Nat.zero_add]
  simp [bs, hu]

set_option maxRecDepth 100000 in
set_option maxHeartbeats 4000000 in
theorem nfixed_any (w : World) : Calls Try.prog 6 #[] w (Law w) := by
  have kc := fun (w : World) (C : Array Value) (n c : Nat) => Lib.run_convert_bytes_const (P := Try.prog) w 27 5 C n c Try.underlying27 Try.underlying5
  go_enter Try.func6, Try.ntmps6
  go_wp2_with fail
  refine (nnew_any w.heap.size w (Nat.le_refl _)).mono ?_
  rintro e w1 ⟨rfl, hd1, hb1⟩
  have D1 : Hid (Nn w w1 w.heap.size _ []) := Lib.hid ⟨hd1, hb1⟩
  generalize w.heap.size = g at *
  clear hd1 hb1
  go_wp2_with fail
  refine (nsend_any 1 _ [97] _ (D1.out.alloc (.cells #[.int .u8 97] 5 (1, 2))).1 (sl_lit _ [97] #[.int .u8 97] 5 (1, 2) 1 rfl rfl) (by decide) (by decide)).mono ?_
  rintro e w2 ⟨rfl, ht⟩
  obtain ⟨v2, u2, d2⟩ := (D1.out.alloc _).put ht
  have D2 : Hid (Nn w w2 g v2 [⟨1, [97], u2, false⟩]) := Lib.hid d2
  clear ht d2
  go_wp2_with fail
  refine (nsend_any 2 _ [98] _ (D2.out.alloc (.cells #[.int .u8 98] 5 (1, 2))).1 (sl_lit _ [98] #[.int .u8 98] 5 (1, 2) 1 rfl rfl) (by decide) (by simp)).mono ?_
  rintro e w3 ⟨rfl, ht⟩
  obtain ⟨v3, u3, d3⟩ := (D2.out.alloc _).put ht
  have D3 : Hid (Nn w w3 g v3 [⟨1, [97], u2, false⟩, ⟨2, [98], u3, false⟩]) := Lib.hid d3
  clear ht d3
  go_wp2_with fail
  refine (nturn_in 0 0 1 w3 D3.out.1 (by simp) (by simp) (by simp)).mono ?_
  rintro e w4 ⟨rfl, h4, t4⟩
  have D4 : Hid (Nn w w4 g v3 [⟨1, [96], u2, true⟩, ⟨2, [98], u3, false⟩]) := Lib.hid (D3.out.turn (by simpa [show (97 : UInt8) ^^^ 1 = 96 from rfl] using h4) t4)
  clear h4 t4
  go_wp2_with fail
  refine (ndouble_in 0 w4 D4.out.1 (by simp) (by simp) (by simp)).mono ?_
  rintro e w5 ⟨rfl, ht⟩
  obtain ⟨v5, u5, d5⟩ := D4.out.put ht
  have D5 : Hid (Nn w w5 g v5 [⟨1, [96], u2, true⟩, ⟨2, [98], u3, false⟩, ⟨1, [96], u5, true⟩]) := Lib.hid d5
  clear ht d5
  go_wp2_with fail
  refine (nturn_was 2 0 1 w5 D5.out.1 (by simp) (by simp) (by simp)).mono ?_
  rintro e w6 ⟨rfl, rfl⟩
  go_wp2_with fail
  refine (ntake_in 1 w5 D5.out.1 (by simp)).mono ?_
  rintro e w7 ⟨rfl, ho7, ⟨v7, h7⟩, t7⟩
  have D7 : Hid (Nn w w7 g v7 [⟨1, [96], u2, true⟩, ⟨1, [96], u5, true⟩]) := Lib.hid (D5.out.turn h7 t7)
  have O7 : Hid (Ob w.heap.size w7 u3 [98]) := Lib.hid ho7
  clear h7 t7 ho7
  simp only [List.getElem_cons_succ, List.getElem_cons_zero]
  obtain ⟨B7, d7, rfl⟩ := O7.out.form
  go_wp2_with fail
  have P7 := Lib.hid (Blk.new w7 35 #[.int .i64 2, .slice B7 1 d7])
  refine (nall_any _ (D7.out.alloc (.cells #[.int .i64 2, .slice B7 1 d7] 35)).1 (by simp) (by simp)).mono ?_
  rintro e w8 ⟨u8, qs, rfl, ⟨ha1, ha2, ha3⟩, hb8⟩
  have D8 := Lib.hid ((D7.out.alloc _).below hb8)
  have P8 := Lib.hid (P7.out.below hb8 P7.out.lt)
  have O8 := Lib.hid ((O7.out.keep ((Below.refl _ _).alloc (Nat.le_refl _) _)).keep hb8)
  obtain ⟨A8, c8, h8, _, hx8⟩ := ha1.read encQ_len
  rw [ha2] at h8
  subst h8
  obtain ⟨r8, o8, hA8, hr8, hc8⟩ := hx8 (fun e => by rw [e] at ha2; cases ha2)
  obtain ⟨x8, hx⟩ : ∃ x, qs[1]? = some x := ⟨_, List.getElem?_eq_getElem (by rw [ha2]; simp)⟩
  obtain ⟨e8, hO8⟩ := ha3 1 _ x8 rfl hx
  have k8 := hc8 1 x8 hx 1 x8.2 rfl
  have ho8 : o8 = 0 := by
    rcases ha1.2 with ⟨hh, _⟩ | ⟨g9, cap9, cur9, hh, _⟩
    · cases hh
    · injection hh with h1 _ _
      rw [hA8] at h1
      simp only [Option.some.injEq, Addr.mk.injEq] at h1
      exact h1.2.1
  subst ho8 hA8
  obtain ⟨B8, d8, hx8v⟩ := hO8.form
  rw [hx8v] at k8 hO8
  have Q8 := Lib.hid hO8
  have K8 := Lib.hid (show w8.cell? ⟨r8, 3, none⟩ = some (.slice B8 1 d8) from k8)
  have R8 := Lib.hid hr8
  clear hb8 ha1 ha2 ha3 hx8 hc8 hx e8 k8 hx8v hO8 hr8 P7
  go_wp2_with fail
  refine (ntake_out 9 w8 D8.out.1 (by simp)).mono ?_
  rintro e w9 ⟨rfl, hb9⟩
  have hbA : Below w8.heap.size w8 (w9.alloc (.cells #[.int .i64 0, .slice none 0 0] 35)) := hb9.alloc hb9.size _
  have D9 := Lib.hid (D8.out.below hbA)
  have p9 := P8.out.below hbA P8.out.lt
  have p90 := p9.cell 0
  have p91 := p9.cell 1
  simp at p90 p91
  have q9 := bytes_str _ _ _ (O8.out.keep hbA).sl
  have q9' : (convert 27 9 (.slice B7 1 d7)).run Try.prog (w9.alloc (.cells #[.int .i64 0, .slice none 0 0] 35)) = .ok (.string ⟨#[98]⟩) _ := q9
  have r9 := bytes_str _ _ _ (Q8.out.keep hbA).sl
  have r9' : (convert 27 9 (.slice B8 1 d8)).run Try.prog (w9.alloc (.cells #[.int .i64 0, .slice none 0 0] 35)) = .ok (.string ⟨#[96]⟩) _ := r9
  have k9 := (hbA.cell (p := ⟨r8, 3, none⟩) R8.out).trans K8.out
  clear q9 r9 hbA hb9 p9
  go_upto_region 10 with fail
  generalize w9.alloc (.cells #[.int .i64 0, .slice none 0 0] 35) = W at *
  go_wp2_with fail
  refine (nsend_nil 1 none 0 0 W).mono ?_
  rintro e w' ⟨rfl, rfl⟩
  go_wp2_with fail
  refine (nlen_nil W).mono ?_
  rintro e w' ⟨rfl, rfl⟩
  go_wp2
  go_ret
  exact ⟨rfl, D9.out.2⟩

end Go.Proofs.Ytoicncmlmhljmaa
