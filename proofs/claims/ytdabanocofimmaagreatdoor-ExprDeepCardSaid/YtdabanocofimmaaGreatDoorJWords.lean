/-
  WORDS FOR MEMORY: a slice that reads as a list of cells, wherever it lies, nil and empty ones too; a block known whole. NAMES AND PLAIN TEXTS: plain mathematics on bytes; nothing of the program. value.letter, value.digit, value.Name, value.plain: the contracts, by walks. Conditions: lengths.
-/
import Derived.WalkKit
import Derived.WalkSpells
import Derived.WalkLawsBesides
import Derived.Maps.AppendAt
import Derived.Deep.AppendLies
import Derived.Deep.Draws
import Derived.Lib.Hide
import Derived.Laws.BytesArg
import Derived.Lib.ConvBytes
import Derived.Lib.Strings
import Derived.Test.YtdabanocofimmaaGreatDoorRows
namespace Go.Proofs.YtdabanocofimmaaGreatDoor
open Go.RowKit

/-- The cell of a byte; the cells of bytes. -/
def bv (x : UInt8) : Value := .int .u8 (x.toNat : Int)
def bs (l : List UInt8) : List Value := l.map bv
/-- v is a slice whose elements are l, each in the cell that f tells; they lie below the heap's end. -/
def Sl {α : Type} (f : α → Value) (w : World) (v : Value) (l : List α) : Prop :=
  ∃ A c, v = .slice A l.length c ∧ l.length ≤ c ∧ (l ≠ [] → ∃ b o, A = some ⟨b, o, none⟩ ∧ b < w.heap.size ∧ ∀ j u, l[j]? = some u → w.cell? ⟨b, o + j, none⟩ = some (f u))

section
variable {α : Type} {f : α → Value} {w w' : World} {v : Value} {l : List α}
theorem Sl.kept (h : Sl f w v l) (hs : w.heap.size ≤ w'.heap.size) (hc : ∀ p : Addr, p.block < w.heap.size → w'.cell? p = w.cell? p) : Sl f w' v l := by
  obtain ⟨A, c, rfl, hlc, hx⟩ := h
  refine ⟨A, c, rfl, hlc, fun hn => ?_⟩
  obtain ⟨b, o, hA, hb, hcell⟩ := hx hn
  exact ⟨b, o, hA, by omega, fun j u hu => (hc ⟨b, o + j, none⟩ hb).trans (hcell j u hu)⟩
theorem Sl.below (h : Sl f w v l) (hb : Below w.heap.size w w') : Sl f w' v l := h.kept hb.size fun p hp => hb.cell (p := p) hp
theorem Sl.drew (h : Sl f w v l) : Sl f w.drew v l := h
end

/-- append onto a row of the call's own, whatever the source: its run, and what it leaves. -/
theorem run_append_sl {P : Program} {α : Type} {f : α → Value} (w : World) (base : Nat) (t ty e : TypeId) (i : TypeInfo) (z : Value) (bytes : Nat) (ht : P.underlying t = some (.slice e)) (hi : P.info? e = some i) (hz : i.zero = some z)
    (hsize : i.size = 1) (hby : i.bytes = bytes) (hzs : z.cells.size = 1) (v : Value) (n : Nat) (xs : List Value) (hown : w.ownsRow base e 1 v n xs)
    (v2 : Value) (l : List α) (hl : Sl f w v2 l) (h1 : ∀ a, (f a).oneCell' = true)
    (hbytes : (n + l.length) * bytes ≤ 140737488355328) (hnm : n + l.length ≤ 140737488355328) (hbase : base ≤ w.heap.size) :
    ∃ v' w', (Builtin.append_ #[t, t] ty #[v, v2]).run P w = .ok v' w' ∧ w'.ownsRow base e 1 v' (n + l.length) (xs ++ l.map f) ∧ w.grownBy w' v.ownBlock := by
  obtain ⟨A, c, rfl, hlc, hx⟩ := hl
  have h63 : n + l.length ≤ maxLen := by unfold maxLen; omega
  have one : ∀ u ∈ l.map f, u.oneCell' = true := by intro u hu; obtain ⟨x, _, rfl⟩ := List.mem_map.1 hu; exact h1 x
  by_cases hn : l = []
  · subst hn
    rcases A with _ | ad
    · refine ⟨v, w, ?_, by simpa using hown, World.grownBy.refl w _⟩
      rcases hown.2 with ⟨rfl, rfl⟩ | ⟨g, cap, cur, rfl, _, _, hnc, _⟩
      · simp [Builtin.append_, run_underlying ht, sizeOf, typeInfo, hi, Builtin.lenOf, Builtin.firstCells]
      · simp [Builtin.append_, run_underlying ht, sizeOf, typeInfo, hi, Builtin.lenOf, Builtin.firstCells, hnc, storeCells]
    · obtain ⟨v', w', hr, h2, h3, _⟩ := run_append_own (P := P) w base t ty e i z 1 bytes ht hi hz hsize hby hzs (by omega) v n xs hown ad 0 c [] rfl (by simp) (by simp) (by simpa using h63) (by simpa using hbytes) hbase
      exact ⟨v', w', hr, by simpa using h2, h3⟩
  · obtain ⟨b, o, rfl, hb, hcell⟩ := hx hn
    obtain ⟨v', w', hr, h2, h3, _⟩ := run_append_own (P := P) w base t ty e i z 1 bytes ht hi hz hsize hby hzs (by omega) v n xs hown ⟨b, o, none⟩ l.length c (l.map f) (by simp)
      (fun j u hu => by
        obtain ⟨x, hx1, rfl⟩ : ∃ x, l[j]? = some x ∧ f x = u := by simpa using hu
        rw [Addr.add_lit]; exact hcell j x hx1) one h63 hbytes hbase
    exact ⟨v', w', hr, h2, h3⟩

/-- A block that is known whole. -/
def Blk (w : World) (g : Nat) (t : TypeId) (cs : Array Value) : Prop := w.heap[g]? = some (.cells cs t (0, 0))

theorem Blk.lt {w : World} {g : Nat} {t : TypeId} {cs : Array Value} (h : Blk w g t cs) : g < w.heap.size := (Array.getElem?_eq_some_iff.1 h).1
theorem Blk.cell {w : World} {g : Nat} {t : TypeId} {cs : Array Value} (h : Blk w g t cs) (i : Nat) : w.cell? ⟨g, i, none⟩ = cs[i]? := cell_of_row w g i cs t (0, 0) h
theorem Blk.free {w : World} {g : Nat} {t : TypeId} {cs : Array Value} (h : Blk w g t cs) (i : Nat) : w.frozen? ⟨g, i, none⟩ = false := by
  unfold Blk at h; simp [World.frozen?, h]
theorem Blk.new (w : World) (t : TypeId) (cs : Array Value) : Blk (w.alloc (.cells cs t)) w.heap.size t cs := heap_alloc_new w _
theorem Blk.below {w w' : World} {g : Nat} {t : TypeId} {cs : Array Value} {B : Nat} (h : Blk w g t cs) (hb : Below B w w') (hg : g < B) : Blk w' g t cs := (hb.block g hg).trans h
theorem Blk.alloc {w : World} {g : Nat} {t : TypeId} {cs : Array Value} (h : Blk w g t cs) (o : Obj) : Blk (w.alloc o) g t cs :=
  h.below ((Below.refl _ _).alloc (Nat.le_refl _) o) h.lt
theorem Blk.set_ {w : World} {g : Nat} {t : TypeId} {cs : Array Value} (h : Blk w g t cs) (i : Nat) (u : Value) : Blk (w.setCell ⟨g, i, none⟩ u) g t (cs.setIfInBounds i u) := by
  unfold Blk at h ⊢
  simp [World.setCell, Array.getElem?_modify, h]
/-- All but block g is as it was; what is new lies behind. -/
def But (g : Nat) (w w' : World) : Prop := w.grownBy w' (some g)

theorem But.refl (g : Nat) (w : World) : But g w w := World.grownBy.refl w _
theorem But.trans {g : Nat} {a b c : World} (h : But g a b) (k : But g b c) : But g a c :=
  ⟨k.os.trans h.os, k.tape.trans h.tape, k.output.trans h.output, Nat.le_trans h.size k.size, fun i hi hn => (k.block i (Nat.lt_of_lt_of_le hi h.size) hn).trans (h.block i hi hn)⟩
theorem But.of_below {g : Nat} {w w' : World} (h : Below w.heap.size w w') : But g w w' := ⟨h.os, h.tape, h.output, h.size, fun i hi _ => h.block i hi⟩
theorem But.setCell (w : World) (g i : Nat) (u : Value) : But g w (w.setCell ⟨g, i, none⟩ u) :=
  ⟨rfl, rfl, rfl, by simp [World.setCell], fun k _ hn => Below.heap_setCell w ⟨g, i, none⟩ u k (fun e => hn (by rw [e]))⟩
theorem But.blk {g h : Nat} {w w' : World} {t : TypeId} {cs : Array Value} (hb : But g w w') (hk : Blk w h t cs) (hne : h ≠ g) : Blk w' h t cs :=
  (hb.block h hk.lt (by simpa using hne)).trans hk
theorem But.below {g B : Nat} {w w' : World} (hb : But g w w') (hg : B ≤ g) (hB : B ≤ w.heap.size) : Below B w w' :=
  ⟨hb.os, hb.tape, hb.output, hb.size, fun k hk => hb.block k (by omega) (by simp; omega)⟩
end Go.Proofs.YtdabanocofimmaaGreatDoor

namespace Go.Proofs.YtdabanocofimmaaGreatDoor
open Go.RowKit

def lettB (c : Int) : Bool := (decide (97 ≤ c) && decide (c ≤ 122)) || (decide (65 ≤ c) && decide (c ≤ 90))
def digI (c : Int) : Bool := decide (48 ≤ c) && decide (c ≤ 57)
/-- Whether a sign may stand at place i of a name. -/
def okR (c : Int) (i : Nat) : Bool := lettB c || (decide (0 < i) && (digI c || c == 95))
def okAt (l : List UInt8) (i : Nat) : Bool := okR ((l.getD i 0).toNat : Int) i
def nameB (l : List UInt8) : Bool := decide (0 < l.length) && decide (l.length ≤ 16) && (List.range l.length).all (okAt l)
def plnR (c : Int) : Bool := decide (32 ≤ c) && decide (c ≤ 126)
def plnAt (l : List UInt8) (i : Nat) : Bool := plnR ((l.getD i 0).toNat : Int)
def plainB (l : List UInt8) : Bool := decide (l.length ≤ 64) && (List.range l.length).all (plnAt l)

theorem okR_high (c : Int) (i : Nat) (h : 128 ≤ c) : okR c i = false := by
  have h1 : lettB c = false := by simp [lettB]; omega
  have h2 : digI c = false := by simp [digI]; omega
  have h3 : (c == 95) = false := by rw [beq_eq_false_iff_ne]; omega
  simp [okR, h1, h2, h3]
theorem plnR_high (c : Int) (h : 128 ≤ c) : plnR c = false := by simp [plnR]; omega

theorem all_range_false {n i : Nat} {f : Nat → Bool} (hi : i < n) (h : f i = false) : (List.range n).all f = false := by
  rw [List.all_eq_false]
  exact ⟨i, List.mem_range.2 hi, by simp [h]⟩
theorem all_range_true {n : Nat} {f : Nat → Bool} (h : ∀ i, i < n → f i = true) : (List.range n).all f = true := by
  rw [List.all_eq_true]
  exact fun i hi => h i (List.mem_range.1 hi)

end Go.Proofs.YtdabanocofimmaaGreatDoor

namespace Go.Proofs.YtdabanocofimmaaGreatDoor
open Go.RowKit

def SameV (w : World) (v : Value) (e : Ending) (w' : World) : Prop := e = .returned v ∧ w = w'
def Gives (w : World) (v : Value) (e : Ending) (w' : World) : Prop := e = .returned v ∧ Below w.heap.size w w'

set_option maxHeartbeats 400000 in
theorem letter_any (c : Int) (w : World) : Calls Tryz.prog 74 #[.int .i32 c] w (SameV w (.bool (lettB c))) := by
  by_cases h1 : 97 ≤ c <;> by_cases h2 : c ≤ 122 <;> by_cases h3 : 65 ≤ c <;> by_cases h4 : c ≤ 90
  all_goals
    go_enter Tryz.func74, Tryz.ntmps74
    go_wp2
    go_ret
    exact ⟨by simp [lettB, h1, h2, h3, h4], rfl⟩
set_option maxHeartbeats 400000 in
theorem digit_any (c : Int) (w : World) : Calls Tryz.prog 75 #[.int .i32 c] w (SameV w (.bool (digI c))) := by
  by_cases h1 : 48 ≤ c <;> by_cases h2 : c ≤ 57
  all_goals
    go_enter Tryz.func75, Tryz.ntmps75
    go_wp2
    go_ret
    exact ⟨by simp [digI, h1, h2], rfl⟩

/-- A byte, and the sign that is decoded there. -/
theorem sign_at (s : ByteArray) (pos : Nat) (h : pos < s.size) : (((s[pos]'h).toNat < 128 ∧ Utf8.decode s pos = ((s[pos]'h).toNat, 1)) ∨ (128 ≤ (s[pos]'h).toNat ∧ 128 ≤ (Utf8.decode s pos).1)) ∧ s.data.toList.getD pos 0 = s[pos]'h := by
  constructor
  · by_cases ha : (s[pos]'h).toNat < 128
    · exact .inl ⟨ha, decode_ascii s pos h ha⟩
    · exact .inr ⟨by omega, (decode_high s pos h (by omega)).1⟩
  · have : pos < s.data.toList.length := by rw [Array.length_toList]; exact h
    rw [List.getD, List.getElem?_eq_getElem this]; rfl

theorem iter_below (w : World) (s : ByteArray) (pos : Nat) : Below w.heap.size w (w.iter s pos) := (Below.refl _ _).alloc (Nat.le_refl _) _

set_option maxHeartbeats 2000000 in
theorem name_any (s : ByteArray) (w : World) (hs : s.size ≤ 9223372036854775807) : Calls Tryz.prog 51 #[.string s] w (Gives w (.bool (nameB s.data.toList))) := by
  have hlen : s.data.toList.length = s.size := by rw [Array.length_toList]; rfl
  have hN : nameB s.data.toList = (decide (0 < s.size) && decide (s.size ≤ 16) && (List.range s.size).all (okAt s.data.toList)) := by unfold nameB; rw [hlen]
  have HN := Lib.hid hN
  clear hN hlen
  by_cases h0 : s.size = 0
  · have he : s.toList.isEmpty = true := by
      rw [Lib.toList_data]; have : s.data.toList.length = 0 := by rw [Array.length_toList]; exact h0
      simpa using List.eq_nil_of_length_eq_zero this
    have HF : Hid (nameB s.data.toList = false) := Lib.hid (by rw [HN.out, h0]; rfl)
    clear h0
    go_enter Tryz.func51, Tryz.ntmps51
    go_wp2
    go_ret
    exact ⟨by rw [HF.out]; rfl, Below.refl _ _⟩
  · have he : s.toList.isEmpty = false := by
      rw [Lib.toList_data]
      cases hl : s.data.toList with
      | nil => exfalso; apply h0; have : s.data.toList.length = s.size := by rw [Array.length_toList]; rfl
               rw [hl] at this; simpa using this.symm
      | cons a t => rfl
    by_cases h16 : 16 < s.size
    · have HF : Hid (nameB s.data.toList = false) := Lib.hid (by rw [HN.out]; simp; omega)
      go_enter Tryz.func51, Tryz.ntmps51
      go_wp2
      go_ret
      exact ⟨by rw [HF.out]; rfl, Below.refl _ _⟩
    · go_enter Tryz.func51, Tryz.ntmps51
      go_wp2
      go_loopw [] (fun wr => ∃ pos, wr = w.iter s pos ∧ pos ≤ s.size ∧ ∀ i, i < pos → okAt s.data.toList i = true) (fun wr => s.size - wr.iterPos w.heap.size)
      case atStart => exact ⟨0, rfl, Nat.zero_le _, fun i hi => by omega⟩
      case round =>
        obtain ⟨pos, rfl, hps, hall⟩ := hrel
        have HA := Lib.hid hall
        clear hall
        by_cases hp : pos < s.size
        · obtain ⟨hsg, hget⟩ := sign_at s pos hp
          have hnx : ∀ ty, (Instr.next (.pointer (some ⟨w.heap.size, 0, none⟩)) true ty).run Tryz.prog (w.iter s pos) = _ := fun ty => run_next_any w s pos ty hp
          -- the sign and the byte are told apart alike
          have hR : okR ((Utf8.decode s pos).1 : Int) pos = okAt s.data.toList pos := by
            unfold okAt
            rw [hget]
            rcases hsg with ⟨_, h2⟩ | ⟨h1, h2⟩
            · rw [h2]
            · rw [okR_high _ _ (by omega), okR_high _ _ (by omega)]
          have hone : okAt s.data.toList pos = true → (Utf8.decode s pos).2 = 1 := by
            intro hk
            rcases hsg with ⟨_, h2⟩ | ⟨h1, h2⟩
            · rw [h2]
            · unfold okAt at hk; rw [hget, okR_high _ _ (by omega)] at hk; cases hk
          have hF : okAt s.data.toList pos = false → nameB s.data.toList = false := by
            intro hk
            rw [HN.out, all_range_false hp hk, Bool.and_false]
          have hNext : okAt s.data.toList pos = true → ∀ i, i < pos + 1 → okAt s.data.toList i = true := by
            intro hk i hi
            rcases Nat.lt_or_ge i pos with hlt | hge
            · exact HA.out i hlt
            · rw [show i = pos from by omega]; exact hk
          have HF := Lib.hid hF
          have HX := Lib.hid hNext
          have HO := Lib.hid hone
          have HR := Lib.hid hR
          clear hF hNext hone hR hsg hget
          go_wp2_with fail
          refine (letter_any _ _).mono ?_
          rintro e w' ⟨rfl, rfl⟩
          generalize hq : ((Utf8.decode s pos).1 : Int) = R at *
          have HQ := Lib.hid hq; clear hq
          cases hl : lettB R with
          | true =>
            have hk : okAt s.data.toList pos = true := by rw [← HR.out]; simp [okR, hl]
            have H1 := HO.out hk
            have H2 := Lib.hid (HX.out hk)
            clear hk
            go_wp2
            go_roundw
            case rel => exact ⟨pos + 1, rfl, by omega, H2.out⟩
            case measure => simp only [World.iterPos_iter]; omega
          | false =>
            by_cases hp0 : pos = 0
            · have hk : okAt s.data.toList pos = false := by rw [← HR.out]; simp [okR, hl, hp0]
              have H2 := Lib.hid (HF.out hk)
              clear hk
              subst hp0
              go_wp2
              go_ret
              exact ⟨by rw [H2.out]; rfl, iter_below _ _ _⟩
            · have hpb : ((pos : Int) == 0) = false := by rw [beq_eq_false_iff_ne]; omega
              go_wp2_with fail
              refine (digit_any _ _).mono ?_
              rintro e w' ⟨rfl, rfl⟩
              cases hd : digI R with
              | true =>
                have hk : okAt s.data.toList pos = true := by rw [← HR.out]; simp [okR, hl, hd]; omega
                have H1 := HO.out hk
                have H2 := Lib.hid (HX.out hk)
                clear hk
                go_wp2
                go_roundw
                case rel => exact ⟨pos + 1, rfl, by omega, H2.out⟩
                case measure => simp only [World.iterPos_iter]; omega
              | false =>
                by_cases h95 : R = 95
                · have h95' : (R != 95) = false := by simp [h95]
                  have hk : okAt s.data.toList pos = true := by rw [← HR.out]; simp [okR, h95]; omega
                  have H1 := HO.out hk
                  have H2 := Lib.hid (HX.out hk)
                  clear hk
                  have H9 := Lib.hid h95; clear h95
                  go_wp2
                  go_roundw
                  case rel => exact ⟨pos + 1, rfl, by omega, H2.out⟩
                  case measure => simp only [World.iterPos_iter]; omega
                · have h95' : (R != 95) = true := by simp [h95]
                  have hk : okAt s.data.toList pos = false := by rw [← HR.out]; simp [okR, hl, hd, h95]
                  have H2 := Lib.hid (HF.out hk)
                  clear hk h95
                  go_wp2
                  go_ret
                  exact ⟨by rw [H2.out]; rfl, iter_below _ _ _⟩
        · have hnx : ∀ ty, (Instr.next (.pointer (some ⟨w.heap.size, 0, none⟩)) true ty).run Tryz.prog (w.iter s pos) = _ := fun ty => run_next_end w s pos ty hp
          have HF : Hid (nameB s.data.toList = true) := Lib.hid (by rw [HN.out, all_range_true (fun i hi => HA.out i (by omega))]; simp; omega)
          go_wp2
          go_ret
          exact ⟨by rw [HF.out]; rfl, iter_below _ _ _⟩

set_option maxHeartbeats 2000000 in
theorem plain_any (s : ByteArray) (w : World) (hs : s.size ≤ 9223372036854775807) : Calls Tryz.prog 95 #[.string s] w (Gives w (.bool (plainB s.data.toList))) := by
  have hlen : s.data.toList.length = s.size := by rw [Array.length_toList]; rfl
  have hN : plainB s.data.toList = (decide (s.size ≤ 64) && (List.range s.size).all (plnAt s.data.toList)) := by unfold plainB; rw [hlen]
  have HN := Lib.hid hN
  clear hN hlen
  by_cases h64 : 64 < s.size
  · have HF : Hid (plainB s.data.toList = false) := Lib.hid (by rw [HN.out]; simp; omega)
    go_enter Tryz.func95, Tryz.ntmps95
    go_wp2
    go_ret
    exact ⟨by rw [HF.out]; rfl, Below.refl _ _⟩
  · go_enter Tryz.func95, Tryz.ntmps95
    go_wp2
    go_loopw [] (fun wr => ∃ pos, wr = w.iter s pos ∧ pos ≤ s.size ∧ ∀ i, i < pos → plnAt s.data.toList i = true) (fun wr => s.size - wr.iterPos w.heap.size)
    case atStart => exact ⟨0, rfl, Nat.zero_le _, fun i hi => by omega⟩
    case round =>
      obtain ⟨pos, rfl, hps, hall⟩ := hrel
      have HA := Lib.hid hall
      clear hall
      by_cases hp : pos < s.size
      · obtain ⟨hsg, hget⟩ := sign_at s pos hp
        have hnx : ∀ ty, (Instr.next (.pointer (some ⟨w.heap.size, 0, none⟩)) true ty).run Tryz.prog (w.iter s pos) = _ := fun ty => run_next_any w s pos ty hp
        have hR : plnR ((Utf8.decode s pos).1 : Int) = plnAt s.data.toList pos := by
          unfold plnAt
          rw [hget]
          rcases hsg with ⟨_, h2⟩ | ⟨h1, h2⟩
          · rw [h2]
          · rw [plnR_high _ (by omega), plnR_high _ (by omega)]
        have hone : plnAt s.data.toList pos = true → (Utf8.decode s pos).2 = 1 := by
          intro hk
          rcases hsg with ⟨_, h2⟩ | ⟨h1, h2⟩
          · rw [h2]
          · unfold plnAt at hk; rw [hget, plnR_high _ (by omega)] at hk; cases hk
        by_cases hk : plnAt s.data.toList pos = true
        · have H2 : Hid (∀ i, i < pos + 1 → plnAt s.data.toList i = true) := Lib.hid (by
            intro i hi
            rcases Nat.lt_or_ge i pos with hlt | hge
            · exact HA.out i hlt
            · rw [show i = pos from by omega]; exact hk)
          have H1 := hone hk
          have hb : 32 ≤ ((Utf8.decode s pos).1 : Int) ∧ ((Utf8.decode s pos).1 : Int) ≤ 126 := by
            rw [← hR] at hk; simp [plnR] at hk; omega
          obtain ⟨b1, b2⟩ := hb
          clear hk hone hR hsg hget
          go_wp2
          go_roundw
          case rel => exact ⟨pos + 1, rfl, by omega, H2.out⟩
          case measure => simp only [World.iterPos_iter]; omega
        · have hk' : plnAt s.data.toList pos = false := by simpa using hk
          have HF : Hid (plainB s.data.toList = false) := Lib.hid (by rw [HN.out, all_range_false hp hk', Bool.and_false])
          have hb : ((Utf8.decode s pos).1 : Int) < 32 ∨ 126 < ((Utf8.decode s pos).1 : Int) := by
            rw [← hR] at hk'; simp [plnR] at hk'; omega
          clear hk hk' hone hR hsg hget
          rcases hb with hb | hb
          · go_wp2
            go_ret
            exact ⟨by rw [HF.out]; rfl, iter_below _ _ _⟩
          · have hb' : ¬ ((Utf8.decode s pos).1 : Int) < 32 := by omega
            go_wp2
            go_ret
            exact ⟨by rw [HF.out]; rfl, iter_below _ _ _⟩
      · have hnx : ∀ ty, (Instr.next (.pointer (some ⟨w.heap.size, 0, none⟩)) true ty).run Tryz.prog (w.iter s pos) = _ := fun ty => run_next_end w s pos ty hp
        have HF : Hid (plainB s.data.toList = true) := Lib.hid (by rw [HN.out, all_range_true (fun i hi => HA.out i (by omega))]; simp; omega)
        go_wp2
        go_ret
        exact ⟨by rw [HF.out]; rfl, iter_below _ _ _⟩

end Go.Proofs.YtdabanocofimmaaGreatDoor
