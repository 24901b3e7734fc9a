/-
  Frames of the program by value and in memory: the frame of noughts, the silent one, how a whole one is made, stored, read and compared. No condition.
-/
import Derived.Test.YtfgpmdikkncckaaGreatDoorTableRow
import Derived.Test.YtfgpmdikkncckaaGreatDoorTableNew
namespace Go.Proofs.YtfgpmdikkncckaaGreatDoor
set_option linter.unusedVariables false
set_option maxRecDepth 100000
open Go.ChangeShapes Go.WideShapes Go.ChangeAt Go.RowKit

/-- A frame of noughts, and a silent one. -/
def ZF : Array Value := (.bool false :: .bool false :: List.replicate 92 (.int .i64 0)).toArray
def SF : Array Value := (.bool true :: .bool false :: List.replicate 92 (.int .i64 0)).toArray
theorem ZF_size : ZF.size = 94 := rfl
theorem SF_size : SF.size = 94 := rfl
theorem ZF_one : ZF.all (·.oneCell') = true := by decide +kernel
theorem SF_one : SF.all (·.oneCell') = true := by decide +kernel
theorem fr_info : (Tryz.prog.info? 37).map (·.size) = some 94 := by kernel_rfl
theorem fr_alloc (w : World) : Sem.run Tryz.prog (Instr.alloc 37 true (.tuple #[])) w = .ok (.pointer (some ⟨w.heap.size, 0, none⟩)) (w.alloc (.cells ZF 37)) := by kernel_rfl
theorem fr_build0 (w : World) : Sem.run Tryz.prog (Instr.build 37 #[]) w = .ok (.agg ZF) w := by kernel_rfl
theorem fr_build1 (w : World) : Sem.run Tryz.prog (Instr.build 37 #[(0, .bool true)]) w = .ok (.agg SF) w := by kernel_rfl
theorem fr_eqZ (w : World) : (binOp .eql 37 (.agg ZF) (.agg ZF)).run Tryz.prog w = .ok (.bool true) w := by kernel_rfl
theorem fr_eqS (w : World) : (binOp .eql 37 (.agg SF) (.agg SF)).run Tryz.prog w = .ok (.bool true) w := by kernel_rfl

section
variable {ops : Array Oper} {rest : List Oper} {o : Oper} {a : Act} {w : World} {Q : Exit → Act → World → Prop}
/-- An operation that is wanted, whatever its guard, and yields a value. -/
theorem wl_want (hw : Region.wanted o (yielded ops a.tmps) = true) (v : Value) (w' : World) (hrun : (execOp a.eval o).run Tryz.prog w = .ok (.value v) w') (h : wpList Tryz.prog ops Q rest (a.put o.dst v) w') : wpList Tryz.prog ops Q (o :: rest) a w := by
  refine BigFrame.wpList_want hw fun K hK => ?_
  unfold Oper.wp
  rw [hrun, Oper.upon_value]
  exact hK _ _ h
theorem wl_allocF (hw : Region.wanted o (yielded ops a.tmps) = true) (ho : o.op = .alloc 37) (h : wpList Tryz.prog ops Q rest (a.put o.dst (.pointer (some ⟨w.heap.size, 0, none⟩))) (w.alloc (.cells ZF 37))) : wpList Tryz.prog ops Q (o :: rest) a w := by
  refine wl_want hw _ _ ?_ h
  unfold execOp
  simp only [ho, Sem.run_bind, fr_alloc, Result.andThen_ok, Sem.run_pure]
theorem wl_buildF0 (hw : Region.wanted o (yielded ops a.tmps) = true) (ho : o.op = .build 37 #[]) (h : wpList Tryz.prog ops Q rest (a.put o.dst (.agg ZF)) w) : wpList Tryz.prog ops Q (o :: rest) a w := by
  refine wl_want hw _ w ?_ h
  unfold execOp
  have e : ((#[] : Array (Nat × Operand)).map fun (i, x) => (i, a.eval x)) = #[] := by simp
  simp only [ho, e, Sem.run_bind, fr_build0, Result.andThen_ok, Sem.run_pure]
theorem wl_buildF1 (hw : Region.wanted o (yielded ops a.tmps) = true) (ho : o.op = .build 37 #[(0, .const (.bool true))]) (h : wpList Tryz.prog ops Q rest (a.put o.dst (.agg SF)) w) : wpList Tryz.prog ops Q (o :: rest) a w := by
  refine wl_want hw _ w ?_ h
  unfold execOp
  have e : ((#[(0, .const (.bool true))] : Array (Nat × Operand)).map fun (i, x) => (i, a.eval x)) = #[(0, .bool true)] := by simp [Act.eval]
  simp only [ho, e, Sem.run_bind, fr_build1, Result.andThen_ok, Sem.run_pure]
/-- A whole frame is read. -/
theorem wl_loadF (hw : Region.wanted o (yielded ops a.tmps) = true) (x : Operand) (ho : o.op = .load 37 x) (b : Nat) (C : Array Value) (hx : a.eval x = .pointer (some ⟨b, 0, none⟩)) (hb : w.heap[b]? = some (.cells C 37 (0, 0))) (hC : C.size = 94)
    (h : wpList Tryz.prog ops Q rest (a.put o.dst (.agg C)) w) : wpList Tryz.prog ops Q (o :: rest) a w := by
  refine wl_want hw _ w ?_ h
  unfold execOp
  simp only [ho, hx, Instr.loadAt, Instr.sureAddr, Sem.run_bind, Sem.run_pure, Result.andThen_ok, run_loadVar_row w b 37 37 C (0, 0) _ hb Tryz.underlying37 rfl (by rw [hC]; exact fr_info)]
end
/-- A whole frame is stored, as the walk opens it. -/
theorem store94 (w : World) (g : Nat) (C D : Array Value) (hb : w.heap[g]? = some (.cells D 37 (0, 0))) (hD : D.size = 94) (hC : C.size = 94) (h1 : C.all (·.oneCell') = true) :
    Sem.run Tryz.prog (storeCells ⟨g, 0, none⟩ C.toList) w = .ok () (w.setRow g C) := by
  have := run_storeVar_row (P := Tryz.prog) w g 37 37 D C hb (by rw [hC]; exact fr_info) (by omega) h1
  cases hq : Tryz.prog.info? 37 with
  | none => have := fr_info; rw [hq] at this; cases this
  | some i =>
    have hs : C.size = i.size := by have := fr_info; rw [hq] at this; simp at this; omega
    simpa [storeVar, sizeOf, typeInfo, hq, Value.cells, hs] using this
theorem store94_new (w : World) (C : Array Value) (hC : C.size = 94) (h1 : C.all (·.oneCell') = true) :
    Sem.run Tryz.prog (storeCells ⟨w.heap.size, 0, none⟩ C.toList) (w.alloc (.cells ZF 37)) = .ok () (w.alloc (.cells C 37)) := by
  have := store94 (w.alloc (.cells ZF 37)) w.heap.size C ZF (heap_alloc_new w _) rfl hC h1
  rwa [World.setRow_alloc_new] at this
end Go.Proofs.YtfgpmdikkncckaaGreatDoor
