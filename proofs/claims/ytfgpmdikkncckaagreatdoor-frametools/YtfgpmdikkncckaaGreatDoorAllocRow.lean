/-
  Arrays of five numbers, by value and in memory: read, stored, loaded whole. No condition; no program.
-/
import Derived.Test.YtfgpmdikkncckaaGreatDoorAllocMath
import Derived.Test.YtfgpmdikkncckaaGreatDoorModeWide
import Derived.Test.YtfgpmdikkncckaaGreatDoorCostBits
import Derived.Deep.MidRow
import Derived.Deep.WholeRow
import Derived.BigRegion
namespace Go.Proofs.YtfgpmdikkncckaaGreatDoor
set_option linter.unusedVariables false
open Go.ChangeShapes Go.WideShapes Go.ChangeAt Go.RowKit

def row5 (f : Nat → Int) : Array Value := #[.int .i64 (f 0), .int .i64 (f 1), .int .i64 (f 2), .int .i64 (f 3), .int .i64 (f 4)]
theorem row5_size (f : Nat → Int) : (row5 f).size = 5 := rfl
theorem row5_at (f : Nat → Int) {k : Nat} (h : k < 5) : (row5 f)[k]? = some (.int .i64 (f k)) := by
  match k, h with
  | 0, _ | 1, _ | 2, _ | 3, _ | 4, _ => rfl
theorem row5_set (f : Nat → Int) {k : Nat} (h : k < 5) (v : Int) : (row5 f).setIfInBounds k (.int .i64 v) = row5 (fun j => if j = k then v else f j) := by
  match k, h with
  | 0, _ | 1, _ | 2, _ | 3, _ | 4, _ => rfl
theorem row5_same {f f' : Nat → Int} (h : ∀ j, j < 5 → f j = f' j) : row5 f = row5 f' := by
  unfold row5
  rw [h 0 (by omega), h 1 (by omega), h 2 (by omega), h 3 (by omega), h 4 (by omega)]
theorem row5_one (f : Nat → Int) : (row5 f).all (·.oneCell') = true := by simp [row5, Value.oneCell']
theorem row5_more (f : Nat → Int) {k : Nat} (h : k < 5) : (row5 f).setIfInBounds k (.int .i64 (f k + 1)) = row5 (aMore f k) := by
  rw [row5_set f h]
  apply row5_same
  intro j hj
  by_cases e : j = k
  · subst e; rw [if_pos rfl, more_same]
  · rw [if_neg e, more_other _ e]

theorem t5_info : (Tryz.prog.info? 31).map (·.size) = some 5 := by kernel_rfl
theorem t5_under : Tryz.prog.underlying 31 = some (.array 5 3) := by kernel_rfl

section
variable {ops : Array Oper} {rest : List Oper} {o : Oper} {a : Act} {w : World} {Q : Exit → Act → World → Prop}
theorem wl_val (hg : o.guard = none) (v : Value) (w' : World) (hrun : (execOp a.eval o).run Tryz.prog w = .ok (.value v) w') (h : wpList Tryz.prog ops Q rest (a.put o.dst v) w') : wpList Tryz.prog ops Q (o :: rest) a w := by
  refine wpList_plain hg fun K hK => ?_
  unfold Oper.wp
  rw [hrun, Oper.upon_value]
  exact hK _ _ h
/-- A whole array of five is read. -/
theorem wl_load5 (hg : o.guard = none) (x : Operand) (ho : o.op = .load 31 x) (b : Nat) (f : Nat → Int) (hx : a.eval x = .pointer (some ⟨b, 0, none⟩)) (hb : w.heap[b]? = some (.cells (row5 f) 31 (0, 0)))
    (h : wpList Tryz.prog ops Q rest (a.put o.dst (.agg (row5 f))) w) : wpList Tryz.prog ops Q (o :: rest) a w := by
  refine wl_val hg _ w ?_ h
  unfold execOp
  simp only [ho, hx, Instr.loadAt, Instr.sureAddr, Sem.run_bind, Sem.run_pure, Result.andThen_ok, run_loadVar_row w b 31 31 (row5 f) (0, 0) _ hb t5_under rfl (by rw [row5_size]; exact t5_info)]
end
/-- A whole array of five is stored, as the walk opens it. -/
theorem store5 (w : World) (g : Nat) (f f' : Nat → Int) (hb : w.heap[g]? = some (.cells (row5 f) 31 (0, 0))) :
    Sem.run Tryz.prog (storeCells ⟨g, 0, none⟩ (row5 f').toList) w = .ok () (w.setRow g (row5 f')) := by
  have := run_storeVar_row (P := Tryz.prog) w g 31 31 (row5 f) (row5 f') hb (by rw [row5_size]; exact t5_info) rfl (row5_one f')
  cases hq : Tryz.prog.info? 31 with
  | none => have := t5_info; rw [hq] at this; cases this
  | some i =>
    have hs : (row5 f').size = i.size := by have := t5_info; rw [hq] at this; simp at this; rw [row5_size]; omega
    simpa [storeVar, sizeOf, typeInfo, hq, Value.cells, hs] using this
theorem below_setRow5 {B g : Nat} {a w : World} (h : Below B a w) (hg : B ≤ g) (c : Array Value) : Below B a (w.setRow g c) :=
  ⟨h.os, h.tape, h.output, by simp only [World.setRow, Array.size_modify]; exact h.size, fun k hk => by
    simp only [World.setRow, Array.getElem?_modify]
    rw [if_neg (by omega)]
    exact h.block k hk⟩
end Go.Proofs.YtfgpmdikkncckaaGreatDoor
