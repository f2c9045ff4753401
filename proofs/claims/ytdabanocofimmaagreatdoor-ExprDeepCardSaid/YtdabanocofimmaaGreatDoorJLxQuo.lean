/-
  lex.quoted, and value.Parse of any text: the contracts, by walks. lex's readers of one token (name, number, text, sign, first): the contracts, by walks. lex's readers of a number, a text and a sign: the contracts, by walks. Conditions: lengths.
-/
import Derived.Test.YtdabanocofimmaaGreatDoorJLxTok
namespace Go.Proofs.YtdabanocofimmaaGreatDoor
open Go.RowKit

theorem drop_at (s : ByteArray) (i : Nat) (h : i < s.size) : s.data.toList.drop i = s[i]'h :: s.data.toList.drop (i + 1) := by
  have h1 : i < s.data.toList.length := by rw [Array.length_toList]; exact h
  rw [List.drop_eq_getElem_cons h1]
  rfl
theorem drop_past (s : ByteArray) (i : Nat) (h : s.size ≤ i) : s.data.toList.drop i = [] := List.drop_eq_nil_of_le (by rw [Array.length_toList]; exact h)
/-- Where the text that begins at the front ends, seen from i on. -/
def QeAt (s : ByteArray) (i : Nat) : Prop := (Lx.qe (s.data.toList.drop i) = 0 → Lx.qe (s.data.toList.drop 1) = 0) ∧ (Lx.qe (s.data.toList.drop i) ≠ 0 → Lx.qe (s.data.toList.drop 1) = Lx.qe (s.data.toList.drop i) + (i - 1))
theorem QeAt.skip {s : ByteArray} {i : Nat} (h : QeAt s i) (hi : i < s.size) (h1 : 1 ≤ i) (hc : s[i]'hi = 92) : QeAt s (i + 2) := by
  unfold QeAt at *
  rw [drop_at s i hi, hc] at h
  have e : Lx.qe (92 :: s.data.toList.drop (i + 1)) = if Lx.qe (s.data.toList.drop (i + 2)) = 0 then 0 else Lx.qe (s.data.toList.drop (i + 2)) + 2 := by
    by_cases h2 : i + 1 < s.size
    · rw [drop_at s (i + 1) h2, Lx.qe.eq_def]; rfl
    · rw [drop_past s (i + 1) (by omega), drop_past s (i + 2) (by omega)]; rfl
  rw [e] at h
  generalize Lx.qe (s.data.toList.drop (i + 2)) = q at *
  obtain ⟨k1, k2⟩ := h
  by_cases hq : q = 0
  · rw [if_pos hq] at k1 k2
    exact ⟨fun _ => k1 rfl, fun h => absurd hq h⟩
  · rw [if_neg hq] at k1 k2
    exact ⟨fun h => absurd h hq, fun _ => by rw [k2 (by omega)]; omega⟩
theorem QeAt.next {s : ByteArray} {i : Nat} (h : QeAt s i) (hi : i < s.size) (h1 : 1 ≤ i) (hc : s[i]'hi ≠ 92) (hd : s[i]'hi ≠ 39) : QeAt s (i + 1) := by
  unfold QeAt at *
  rw [drop_at s i hi] at h
  generalize s[i]'hi = c at *
  have e : Lx.qe (c :: s.data.toList.drop (i + 1)) = if Lx.qe (s.data.toList.drop (i + 1)) = 0 then 0 else Lx.qe (s.data.toList.drop (i + 1)) + 1 := by
    rw [Lx.qe.eq_def]
    simp only [if_neg hc, if_neg hd]
  rw [e] at h
  generalize Lx.qe (s.data.toList.drop (i + 1)) = q at *
  obtain ⟨k1, k2⟩ := h
  by_cases hq : q = 0
  · rw [if_pos hq] at k1 k2
    exact ⟨fun _ => k1 rfl, fun h => absurd hq h⟩
  · rw [if_neg hq] at k1 k2
    exact ⟨fun h => absurd h hq, fun _ => by rw [k2 (by omega)]; omega⟩
theorem QeAt.found {s : ByteArray} {i : Nat} (h : QeAt s i) (hi : i < s.size) (h1 : 1 ≤ i) (hc : s[i]'hi = 39) : Lx.qe (s.data.toList.drop 1) = i := by
  unfold QeAt at *
  rw [drop_at s i hi, hc] at h
  have e : Lx.qe (39 :: s.data.toList.drop (i + 1)) = 1 := by rw [Lx.qe.eq_def]; rfl
  rw [e] at h
  have := h.2 (by decide)
  omega
theorem QeAt.none_ {s : ByteArray} {i : Nat} (h : QeAt s i) (hi : s.size ≤ i) : Lx.qe (s.data.toList.drop 1) = 0 := by
  unfold QeAt at h
  rw [drop_past s i hi] at h
  exact h.1 rfl
theorem quoted_head {l : List UInt8} (h : Lib.hasPrefix l [39] = true) : ∃ t, l = 39 :: t ∧ l.drop 1 = t := by
  have := Lx.pre_iff.1 h
  cases l with
  | nil => cases this
  | cons c t =>
    rw [show ([39] : List UInt8).length = 0 + 1 from rfl, List.take_succ_cons] at this
    obtain ⟨rfl, _⟩ := List.cons.inj this
    exact ⟨t, rfl, rfl⟩
theorem quoted_no {l : List UInt8} (h : Lib.hasPrefix l [39] = false) : Lx.quotedL l = [] := by
  cases l with
  | nil => rfl
  | cons c t =>
    rw [Lx.quotedL_cons, if_neg]
    rintro rfl
    rw [Lx.pre_iff.2 rfl] at h
    cases h
theorem quoted_zero {l : List UInt8} (h : Lib.hasPrefix l [39] = true) (h0 : Lx.qe (l.drop 1) = 0) : Lx.quotedL l = [] := by
  obtain ⟨t, rfl, e⟩ := quoted_head h
  rw [e] at h0
  rw [Lx.quotedL_cons, if_pos rfl, if_pos h0]
theorem quoted_yes {l : List UInt8} {i : Nat} (h : Lib.hasPrefix l [39] = true) (h0 : Lx.qe (l.drop 1) = i) (hi : 1 ≤ i) : Lx.quotedL l = l.take (i + 1) := by
  obtain ⟨t, rfl, e⟩ := quoted_head h
  rw [e] at h0
  rw [Lx.quotedL_cons, if_pos rfl, if_neg (by omega), h0]

set_option maxHeartbeats 2000000 in
theorem lquoted_any (s : ByteArray) (w : World) (hs : s.size ≤ 9223372036854775800) : Calls Tryz.prog 145 #[.string s] w (SameV w (.string ⟨(Lx.quotedL s.data.toList).toArray⟩)) := by
  have HS := Lib.hid hs
  clear hs
  obtain ⟨b, hb⟩ : ∃ b, Lib.hasPrefix s.data.toList [39] = b := ⟨_, rfl⟩
  have HP := Lib.hid (fun w => (Tryz.strings_HasPrefix s ⟨#[39]⟩ w))
  have hd : (ByteArray.mk #[39]).data.toList = [39] := rfl
  rw [hd, hb] at HP
  cases b with
  | false =>
    have HN := Lib.hid (quoted_no hb)
    clear hb hd
    go_enter Tryz.func145, Tryz.ntmps145
    go_wp2_with fail
    refine (HP.out w).mono ?_
    rintro e w1 ⟨rfl, rfl⟩
    go_wp2
    go_ret
    exact ⟨by rw [HN.out]; rfl, rfl⟩
  | true =>
    have HB := Lib.hid hb
    clear hb hd
    go_enter Tryz.func145, Tryz.ntmps145
    go_wp2_with fail
    refine (HP.out w).mono ?_
    rintro e w1 ⟨rfl, rfl⟩
    go_wp2_with fail
    go_loopw [3] (fun x wr => ∃ i : Nat, x = .int .i64 i ∧ wr = w1 ∧ 1 ≤ i ∧ i ≤ s.size + 1 ∧ QeAt s i) (fun x _ => s.size + 1 - (intOf x).toNat)
    case atStart =>
      obtain ⟨t, h1, _⟩ := quoted_head HB.out
      have hlen : s.data.toList.length = s.size := by rw [Array.length_toList]; rfl
      rw [h1] at hlen
      simp at hlen
      exact ⟨1, rfl, rfl, Nat.le_refl _, by omega, ⟨id, fun _ => rfl⟩⟩
    case round =>
      obtain ⟨i, rfl, rfl, h1, hi, hq⟩ := hrel
      have HQ := Lib.hid hq
      clear hq
      by_cases hp : i < s.size
      · have g1 : (i : Int) < (s.size : Int) := by omega
        have g0 : (0 : Int) ≤ (i : Int) := by omega
        obtain ⟨c, hc⟩ : ∃ c : Int, ((s[i]'hp).toNat : Int) = c := ⟨_, rfl⟩
        have HC := Lib.hid hc
        obtain ⟨i1, hi1⟩ : ∃ i1, i + 1 = i1 := ⟨_, rfl⟩
        obtain ⟨i2, hi2⟩ : ∃ i2, i + 2 = i2 := ⟨_, rfl⟩
        have hw1 : wrap64 ((i : Int) + 1) = (i1 : Int) := by have := HS.out; rw [IntWalk.wrap64_in _ ⟨by omega, by omega⟩]; omega
        have hw2 : wrap64 ((i1 : Int) + 1) = (i2 : Int) := by have := HS.out; rw [IntWalk.wrap64_in _ ⟨by omega, by omega⟩]; omega
        have HI := Lib.hid (show i + 1 = i1 ∧ i + 2 = i2 ∧ i < s.size ∧ 1 ≤ i from ⟨hi1, hi2, hp, h1⟩)
        by_cases k1 : c = 92
        · have HQ2 := Lib.hid (HQ.out.skip hp h1 (by apply UInt8.toNat_inj.1; show _ = 92; omega))
          rw [hi2] at HQ2
          have hb1 : (c == 92) = true := by rw [k1]; rfl
          clear k1 hi1 hi2 h1 hi
          go_wp2
          go_roundw
          case rel => exact ⟨i2, by first | rfl | rw [hw2], by first | trivial | rfl, by have := HI.out; omega, by have := HI.out; omega, HQ2.out⟩
          case measure =>
            have := HI.out
            (try rw [hw2])
            (try rw [hw1])
            show s.size + 1 - (intOf (.int .i64 _)).toNat < s.size + 1 - (intOf (.int .i64 _)).toNat
            simp only [intOf, Int.toNat_natCast]
            omega
        by_cases k2 : c = 39
        · have HQ2 := Lib.hid (HQ.out.found hp h1 (by apply UInt8.toNat_inj.1; show _ = 39; omega))
          have HE := Lib.hid (show s.extract 0 i1 = ⟨(Lx.quotedL s.data.toList).toArray⟩ from str_eq (by rw [quoted_yes HB.out HQ2.out h1, hi1]; simp))
          have hb1 : (c == 92) = false := by rw [k2]; rfl
          have hb2 : (c == 39) = true := by rw [k2]; rfl
          have g2 : (i1 : Int) ≤ (s.size : Int) := by omega
          have g3 : (0 : Int) ≤ (i1 : Int) := by omega
          clear k1 k2 hi1 hi2 h1 hi
          go_wp2
          go_ret
          exact ⟨by rw [← HE.out]; rfl, rfl⟩
        · have HQ2 := Lib.hid (HQ.out.next hp h1 (fun e => k1 (by rw [← hc, e]; rfl)) (fun e => k2 (by rw [← hc, e]; rfl)))
          rw [hi1] at HQ2
          have hb1 : (c == 92) = false := beq_eq_false_iff_ne.2 k1
          have hb2 : (c == 39) = false := beq_eq_false_iff_ne.2 k2
          clear k1 k2 hi1 hi2 h1 hi
          go_wp2
          go_roundw
          case rel => exact ⟨i1, by first | rfl | rw [hw1], by first | trivial | rfl, by have := HI.out; omega, by have := HI.out; omega, HQ2.out⟩
          case measure =>
            have := HI.out
            (try rw [hw2])
            (try rw [hw1])
            show s.size + 1 - (intOf (.int .i64 _)).toNat < s.size + 1 - (intOf (.int .i64 _)).toNat
            simp only [intOf, Int.toNat_natCast]
            omega
      · have g1 : ¬ (i : Int) < (s.size : Int) := by omega
        have HN := Lib.hid (quoted_zero HB.out (HQ.out.none_ (by omega)))
        go_wp2
        go_ret
        exact ⟨by rw [HN.out]; rfl, rfl⟩

/-- What value.Parse answers. -/
def parV (o : Option Lx.Tk) : Value := match o with | some c => .tuple #[valV c.1 c.2.1 ⟨c.2.2.toArray⟩, .bool true] | none => noneV
theorem lparse_any (s : ByteArray) (w : World) (hw : WOk w) : Calls Tryz.prog 144 #[.string s] w (Gives w (parV (Lx.parseO s.data.toList))) := by
  refine (parse_full s w hw).mono fun e w' h => ?_
  have hst := str_id s
  have : (if s.size = 0 ∨ 130 < s.size then noneV else parsedV (lik s).1 (lik s).2.1 ⟨(lik s).2.2.toArray⟩ s) = parV (Lx.parseO s.data.toList) := by
    by_cases h0 : s.size = 0
    · rw [if_pos (.inl h0)]
      have : s.data.toList = [] := List.eq_nil_of_length_eq_zero (by rw [Array.length_toList]; exact h0)
      rw [this, Lx.parseO_nil]
      rfl
    · have hlen : s.data.toList.length = s.size := by rw [Array.length_toList]; rfl
      unfold Lx.parseO
      rw [hst]
      cases hf : Lx.fits s (lik s) with
      | true =>
        unfold Lx.fits at hf
        simp only [Bool.and_eq_true, decide_eq_true_eq] at hf
        have := Lx.text_len _ _ _ hf.1
        rw [hf.2, hlen] at this
        rw [if_neg (by omega)]
        unfold parsedV
        rw [if_pos hf.2]
        rfl
      | false =>
        by_cases hb : 130 < s.size
        · rw [if_pos (.inr hb)]; rfl
        · rw [if_neg (by omega)]
          unfold parsedV
          rw [if_neg]
          · rfl
          · intro ht
            have ht : textB (lik s).1 (lik s).2.1 (lik s).2.2 = s.data.toList := ht
            unfold Lx.fits at hf
            rw [decide_eq_true ht, Bool.and_true] at hf
            unfold textB at ht
            rw [if_neg (by rw [hf]; decide)] at ht
            rw [← ht] at hlen
            simp at hlen
            omega
  rw [this] at h
  exact h

end Go.Proofs.YtdabanocofimmaaGreatDoor

namespace Go.Proofs.YtdabanocofimmaaGreatDoor
open Go.RowKit

theorem infoTk : (Tryz.prog.info? 43).map (·.size) = some 3 := by kernel_rfl
theorem contains_is (L : List (List UInt8)) (n : Nat) (hn : L.length = n) (x : List UInt8) : Lib.containsS ((L.map fun y => (⟨y.toArray⟩ : ByteArray)).take n) ⟨x.toArray⟩ = L.contains x := by
  rw [List.take_of_length_le (by rw [List.length_map, hn]; exact Nat.le_refl _)]
  have h : Lib.containsS (L.map fun y => (⟨y.toArray⟩ : ByteArray)) ⟨x.toArray⟩ = true ↔ L.contains x = true := by
    rw [Lib.containsS_iff, List.contains_iff_mem, List.mem_map]
    constructor
    · rintro ⟨y, hy, e⟩
      have : y = x := by
        have := congrArg (fun b : ByteArray => b.data.toList) e
        simpa using this
      exact this ▸ hy
    · intro hx; exact ⟨x, hx, rfl⟩
  cases h1 : Lib.containsS (L.map fun y => (⟨y.toArray⟩ : ByteArray)) ⟨x.toArray⟩ <;> cases h2 : L.contains x <;> simp_all
theorem strA_cell {w : World} {b : Nat} {t : TypeId} {L : List (List UInt8)} (hB : Blk w b t (strA L)) {k : Nat} (hk : k < L.length) : w.cell? ⟨b, k, none⟩ = some (.string ⟨(L[k]'hk).toArray⟩) := by
  rw [hB.cell]
  unfold strA
  rw [List.getElem?_toArray, List.getElem?_map, List.getElem?_eq_getElem hk]
  rfl
theorem contains_any (L : List (List UInt8)) (x : List UInt8) (b n : Nat) (w : World) (hn : L.length = n) (hN : n ≤ 1000) (hB : Blk w b 9 (strA L)) :
    Calls Tryz.prog 142 #[.slice (some ⟨b, 0, none⟩) n n, .string ⟨x.toArray⟩] w (SameV w (.bool (L.contains x))) := by
  refine (Tryz.slices_Contains_string b 0 n n (L.map fun y => (⟨y.toArray⟩ : ByteArray)) ⟨x.toArray⟩ w (by rw [List.length_map]; omega) (by omega) (fun j hj => ?_)).mono fun e w' h => ⟨?_, h.2.symm⟩
  · rw [List.length_map] at hj
    rw [Nat.zero_add, strA_cell hB hj]
    simp [List.getD, hj]
  · rw [h.1, contains_is L n hn x]
set_option maxRecDepth 100000 in
set_option maxHeartbeats 2000000 in
theorem lname_any (s : ByteArray) (w : World) (hs : s.size ≤ 140737488355328) : Calls Tryz.prog 127 #[.string s] w (Gives w (rdV (Lx.nameO s.data.toList))) := by
  have hlen : s.data.toList.length = s.size := by rw [Array.length_toList]; rfl
  have hle := Lx.runL_le Lx.inNames s.data.toList
  have HRun := Lib.hid (fun W => run_any s Lx.inNames W hs (by decide) (by decide))
  have HV : Hid (rdV (Lx.nameO s.data.toList) = if nameB (Lx.runL Lx.inNames s.data.toList) = true then .tuple #[tkV (if Lx.words.contains (Lx.runL Lx.inNames s.data.toList) = true then 2 else 1, 0, Lx.runL Lx.inNames s.data.toList), .int .i64 ((Lx.runL Lx.inNames s.data.toList).length : Nat)] else .tuple #[tkV (0, 0, []), .int .i64 0]) := Lib.hid (by
    unfold Lx.nameO
    split <;> rfl)
  generalize Lx.runL Lx.inNames s.data.toList = a at *
  have HL := Lib.hid (show a.length ≤ 140737488355328 by omega)
  have hsa : (ByteArray.mk a.toArray).size = a.length := size_mk a
  have HN := Lib.hid (fun W => name_any ⟨a.toArray⟩ W (by rw [size_mk]; have := HL.out; omega))
  rw [show (ByteArray.mk a.toArray).data.toList = a by simp] at HN
  clear hlen hle hs
  go_enter Tryz.func127, Tryz.ntmps127
  go_wp2_with fail
  refine (HRun.out _).mono ?_
  rintro e w1 ⟨rfl, hb1⟩
  have k1 := In1.of hb1
  clear hb1
  go_wp2_with fail
  refine (HN.out _).mono ?_
  rintro e w2 ⟨rfl, hb2⟩
  have k2 := k1.then_ hb2
  clear hb2 k1
  cases q1 : nameB a with
  | false =>
    have HF := Lib.hid (show Value.tuple #[tkV (0, 0, []), .int .i64 0] = rdV (Lx.nameO s.data.toList) by rw [HV.out, q1]; rfl)
    clear q1
    obtain ⟨c0, c1, c2, f0, f1, f2, hlt⟩ := k2.three
    have hb := k2.below
    go_wp2_with fail
    (try simp only [Exit.inBlock, Exit.then])
    refine bodyPost_ret (ret_cell rfl _ _ _ _ _ _ (.int .i64 0) rfl (set3_blk k2 _ _ _) Tryz.underlying43 rfl infoTk rfl) rfl ?_
    exact ⟨by rw [← HF.out]; rfl, set3_below hb _ _ _⟩
  | true =>
    have HQ := Lib.hid q1
    clear q1
    go_wp2_with fail
    refine (words_any _).mono ?_
    rintro e w3 ⟨rfl, rfl⟩
    have HBw := Lib.hid (show Blk (w2.alloc (.cells (strA Lx.words) 9)) w2.heap.size 9 (strA Lx.words) from Blk.new _ _ _)
    have k3 := k2.then_ (alloc_below w2 (.cells (strA Lx.words) 9))
    obtain ⟨wv, hwv⟩ : ∃ wv, w2.alloc (.cells (strA Lx.words) 9) = wv := ⟨_, rfl⟩
    rw [hwv] at HBw k3 ⊢
    clear hwv k2
    go_wp2_with fail
    refine (contains_any Lx.words a _ 26 wv rfl (by omega) HBw.out).mono ?_
    rintro e w4 ⟨rfl, rfl⟩
    obtain ⟨c0, c1, c2, f0, f1, f2, hlt⟩ := k3.three
    have hb := k3.below
    cases q2 : Lx.words.contains a with
    | true =>
      have HF := Lib.hid (show Value.tuple #[tkV (2, 0, a), .int .i64 (a.length : Nat)] = rdV (Lx.nameO s.data.toList) by rw [HV.out, HQ.out, q2]; rfl)
      clear q2
      go_wp2_with fail
      (try simp only [Exit.inBlock, Exit.then])
      refine bodyPost_ret (ret_cell rfl _ _ _ _ _ _ (.int .i64 (a.length : Nat)) rfl (set3_blk k3 _ _ _) Tryz.underlying43 rfl infoTk (by first | rfl | (rw [hsa]; rfl))) rfl ?_
      exact ⟨by rw [← HF.out]; rfl, set3_below hb _ _ _⟩
    | false =>
      have HF := Lib.hid (show Value.tuple #[tkV (1, 0, a), .int .i64 (a.length : Nat)] = rdV (Lx.nameO s.data.toList) by rw [HV.out, HQ.out, q2]; rfl)
      clear q2
      go_wp2_with fail
      (try simp only [Exit.inBlock, Exit.then])
      refine bodyPost_ret (ret_cell rfl _ _ _ _ _ _ (.int .i64 (a.length : Nat)) rfl (set3_blk k3 _ _ _) Tryz.underlying43 rfl infoTk (by first | rfl | (rw [hsa]; rfl))) rfl ?_
      exact ⟨by rw [← HF.out]; rfl, set3_below hb _ _ _⟩

end Go.Proofs.YtdabanocofimmaaGreatDoor

namespace Go.Proofs.YtdabanocofimmaaGreatDoor
open Go.RowKit

theorem set3_alloc_blk {w w' : World} {t : TypeId} {a b c : Value} (h : In1 w (.cells #[a, b, c] t) w') (x y z : Value) (o : Obj) : Blk ((((w'.setCell ⟨w.heap.size, 0, none⟩ x).setCell ⟨w.heap.size, 1, none⟩ y).setCell ⟨w.heap.size, 2, none⟩ z).alloc o) w.heap.size t #[x, y, z] := Blk.below (set3_blk h x y z) (alloc_below _ o) (Blk.lt (set3_blk h x y z))
theorem set3_alloc_below {w w' : World} (h : Below w.heap.size w w') (a b c : Value) (o : Obj) : Below w.heap.size w ((((w'.setCell ⟨w.heap.size, 0, none⟩ a).setCell ⟨w.heap.size, 1, none⟩ b).setCell ⟨w.heap.size, 2, none⟩ c).alloc o) := (set3_below h a b c).trans ((alloc_below _ o).mono (set3_below h a b c).size)

set_option maxRecDepth 100000 in
set_option maxHeartbeats 2000000 in
theorem lnumber_any (s : ByteArray) (w : World) (hw : WOk w) (hs : s.size ≤ 140737488355328) : Calls Tryz.prog 128 #[.string s] w (Gives w (rdV (Lx.numO s.data.toList))) := by
  have hlen : s.data.toList.length = s.size := by rw [Array.length_toList]; rfl
  have hle := Lx.runL_le Lx.inNums s.data.toList
  have HRun := Lib.hid (fun W => run_any s Lx.inNums W hs (by decide) (by decide))
  have HW := Lib.hid hw
  have HV : Hid (rdV (Lx.numO s.data.toList) = match Lx.parseO (Lx.runL Lx.inNums s.data.toList) with | some v => .tuple #[tkV (3, v.2.1, []), .int .i64 ((Lx.runL Lx.inNums s.data.toList).length : Nat)] | none => .tuple #[tkV (0, 0, []), .int .i64 0]) := Lib.hid (by
    unfold Lx.numO
    cases Lx.parseO (Lx.runL Lx.inNums s.data.toList) <;> rfl)
  generalize Lx.runL Lx.inNums s.data.toList = a at *
  have hsa : (ByteArray.mk a.toArray).size = a.length := size_mk a
  have HN := Lib.hid (fun W hW => lparse_any ⟨a.toArray⟩ W hW)
  rw [show (ByteArray.mk a.toArray).data.toList = a by simp] at HN
  clear hlen hle hs hw
  cases hp : Lx.parseO a with
  | none =>
    have HF := Lib.hid (show Value.tuple #[tkV (0, 0, []), .int .i64 0] = rdV (Lx.numO s.data.toList) by rw [HV.out, hp])
    rw [hp] at HN
    clear hp
    go_enter Tryz.func128, Tryz.ntmps128
    go_wp2_with fail
    refine (HRun.out _).mono ?_
    rintro e w1 ⟨rfl, hb1⟩
    have k1 := In1.of hb1
    clear hb1
    go_wp2_with fail
    refine (HN.out _ (HW.out.below k1.below)).mono ?_
    rintro e w2 ⟨rfl, hb2⟩
    have k2 := k1.then_ hb2
    clear hb2 k1
    unfold parV noneV valV
    obtain ⟨c0, c1, c2, f0, f1, f2, hlt⟩ := k2.three
    have hb := k2.below
    go_wp2_with fail
    (try simp only [Exit.inBlock, Exit.then])
    refine bodyPost_ret (ret_cell rfl _ _ _ _ _ _ (.int .i64 0) rfl (set3_alloc_blk k2 _ _ _ _) Tryz.underlying43 rfl infoTk rfl) rfl ?_
    exact ⟨by rw [← HF.out]; rfl, set3_alloc_below hb _ _ _ _⟩
  | some v =>
    obtain ⟨vk, vn, vt⟩ := v
    have HF := Lib.hid (show Value.tuple #[tkV (3, vn, []), .int .i64 (a.length : Nat)] = rdV (Lx.numO s.data.toList) by rw [HV.out, hp])
    rw [hp] at HN
    clear hp
    go_enter Tryz.func128, Tryz.ntmps128
    go_wp2_with fail
    refine (HRun.out _).mono ?_
    rintro e w1 ⟨rfl, hb1⟩
    have k1 := In1.of hb1
    clear hb1
    go_wp2_with fail
    refine (HN.out _ (HW.out.below k1.below)).mono ?_
    rintro e w2 ⟨rfl, hb2⟩
    have k2 := k1.then_ hb2
    clear hb2 k1
    unfold parV valV
    obtain ⟨c0, c1, c2, f0, f1, f2, hlt⟩ := k2.three
    have hb := k2.below
    go_wp2_with fail
    (try simp only [Exit.inBlock, Exit.then])
    refine bodyPost_ret (ret_cell rfl _ _ _ _ _ _ (.int .i64 (a.length : Nat)) rfl (set3_alloc_blk k2 _ _ _ _) Tryz.underlying43 rfl infoTk (by first | rfl | (rw [hsa]; rfl))) rfl ?_
    exact ⟨by rw [← HF.out]; rfl, set3_alloc_below hb _ _ _ _⟩

end Go.Proofs.YtdabanocofimmaaGreatDoor
