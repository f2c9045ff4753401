/-
  The fixed facts at the head of layer 1's statements: the calls' answers at the given texts; the operations of the region that draws its order. Conditions: the world holds the library's tables (WOk).
-/
import Derived.Test.YtaehkgdfciomjaaDoorValParsed
import Derived.Test.YtaehkgdfciomjaaDoorOrder
namespace Go.Proofs.YtaehkgdfciomjaaDoor
open Go.RowKit

theorem num_m7 : numL [45, 55] = -7 := by kernel_rfl
theorem num_07 : numL [48, 55] = 7 := by kernel_rfl
theorem itoa_m7 : Lib.itoa (-7) = [45, 55] := by kernel_rfl
theorem itoa_7 : Lib.itoa 7 = [55] := by kernel_rfl
theorem text_m7 : textB 2 (-7) [] = [45, 55] := by kernel_rfl
theorem text_7 : textB 2 7 [] = [55] := by kernel_rfl
theorem nm_akb : nmB [97, 62, 75, 62, 98] = true := by kernel_rfl
theorem nmA_akb : nmA [97, 62, 75, 62, 98] = [97] := by kernel_rfl
theorem nmK_akb : nmK [97, 62, 75, 62, 98] = [75] := by kernel_rfl
theorem nmT_akb : nmT [97, 62, 75, 62, 98] = [98] := by kernel_rfl
theorem text_akb : textB 5 0 [97, 62, 75, 62, 98] = [91, 97, 62, 75, 62, 98, 93] := by kernel_rfl
theorem text_its : textB 3 0 [105, 116, 39, 115] = [39, 105, 116, 92, 39, 115, 39] := by kernel_rfl
theorem name_a1 : nameB [97, 95, 49] = true := by kernel_rfl
theorem name_1a : nameB [49, 97] = false := by kernel_rfl
theorem cmp_7 : cmpB 2 (-7) [] 5 0 [97, 62, 75, 62, 98] = -1 := by kernel_rfl

def sM7 : ByteArray := ⟨#[45, 55]⟩
def s07 : ByteArray := ⟨#[48, 55]⟩
def sAKB : ByteArray := ⟨#[97, 62, 75, 62, 98]⟩
def sEdge : ByteArray := ⟨#[91, 97, 62, 75, 62, 98, 93]⟩
def sIts : ByteArray := ⟨#[105, 116, 39, 115]⟩

theorem parse_m7 (w : World) (hw : WOk w) : Calls Tryd.prog 9 #[.string sM7] w (Gives w (.tuple #[valV 2 (-7) ⟨#[]⟩, .bool true])) := by
  have h := parse_any 2 (-7) ⟨#[]⟩ sM7 w hw (by decide) (by decide) (by decide) (fun W hW => by
    have := likely_num sM7 W hW ⟨by kernel_rfl, by kernel_rfl, by kernel_rfl⟩ (by decide) (by decide) 45 rfl rfl rfl rfl
    rwa [show numL sM7.data.toList = -7 from num_m7] at this)
  rwa [show parsedV 2 (-7) ⟨#[]⟩ sM7 = .tuple #[valV 2 (-7) ⟨#[]⟩, .bool true] from if_pos text_m7] at h
theorem parse_07 (w : World) (hw : WOk w) : Calls Tryd.prog 9 #[.string s07] w (Gives w noneV) := by
  have h := parse_any 2 7 ⟨#[]⟩ s07 w hw (by decide) (by decide) (by decide) (fun W hW => by
    have := likely_num s07 W hW ⟨by kernel_rfl, by kernel_rfl, by kernel_rfl⟩ (by decide) (by decide) 48 rfl rfl rfl rfl
    rwa [show numL s07.data.toList = 7 from num_07] at this)
  rwa [show parsedV 2 7 ⟨#[]⟩ s07 = noneV from if_neg (by rw [show (ByteArray.mk #[]).data.toList = [] from rfl, text_7]; decide)] at h
theorem parse_edge (w : World) (hw : WOk w) : Calls Tryd.prog 9 #[.string sEdge] w (Gives w (.tuple #[valV 5 0 sAKB, .bool true])) := by
  have h := parse_any 5 0 sAKB sEdge w hw (by decide) (by decide) (by decide) (fun W hW => by
    have := likely_brack sEdge W ⟨by kernel_rfl, by kernel_rfl, by kernel_rfl⟩ (by decide) (by decide) rfl
    rwa [show innerS sEdge = sAKB by kernel_rfl] at this)
  rwa [show parsedV 5 0 sAKB sEdge = .tuple #[valV 5 0 sAKB, .bool true] from if_pos text_akb] at h

section
variable {P : Program}
theorem run_load_op {o : Oper} {ρ : Operand → Value} {w : World} {ty : TypeId} {x : Operand} {g : Nat} {t : TypeId} {cs : Array Value} {d : TypeDesc} (ho : o.op = .load ty x) (hx : ρ x = .pointer (some ⟨g, 0, none⟩)) (hb : Blk w g t cs)
    (hu : P.underlying ty = some d) (hd : (match d with | .struct _ | .array _ _ => true | _ => false) = true) (hi : (P.info? ty).map (·.size) = some cs.size) : (execOp ρ o).run P w = .ok (.value (.agg cs)) w := by
  unfold execOp
  simp only [ho, hx, Instr.loadAt, Instr.sureAddr, Sem.run_bind, Sem.run_pure, Result.andThen_ok, run_loadVar_row w g t ty cs (0, 0) d hb hu hd hi]
theorem run_not_op {o : Oper} {ρ : Operand → Value} {w : World} {t : TypeId} {x : Operand} {b : Bool} (ho : o.op = .unOp .not t x) (hx : ρ x = .bool b) : (execOp ρ o).run P w = .ok (.value (.bool !b)) w := by
  unfold execOp
  simp [ho, hx, go_sem]
theorem run_assign_op {o : Oper} {ρ : Operand → Value} {w : World} {x : Operand} {v : Value} (ho : o.op = .assign x) (hx : ρ x = v) : (execOp ρ o).run P w = .ok (.value v) w := by
  unfold execOp
  simp [ho, hx]
end
theorem eq_val (k n : Int) (s : ByteArray) (w : World) (hs : s = ⟨#[]⟩ ∨ s = sAKB) (hk : (k = 2 ∧ n = -7) ∨ (k = 5 ∧ n = 0)) : (binOp .eql 23 (valV k n s) (valV k n s)).run Tryd.prog w = .ok (.bool true) w := by
  rcases hs with rfl | rfl <;> rcases hk with ⟨rfl, rfl⟩ | ⟨rfl, rfl⟩ <;> kernel_rfl
theorem eq_link (w : World) : (binOp .eql 33 (lkV [97] [98] [75]) (lkV [97] [98] [75])).run Tryd.prog w = .ok (.bool true) w := by kernel_rfl
theorem eq_guard (x y : Operand) (k n : Int) (s : ByteArray) (w : World) : (eqGuard .eql 23 x y (valV k n s) (valV k n s)).run Tryd.prog w = .ok () w := by kernel_rfl

end Go.Proofs.YtaehkgdfciomjaaDoor
