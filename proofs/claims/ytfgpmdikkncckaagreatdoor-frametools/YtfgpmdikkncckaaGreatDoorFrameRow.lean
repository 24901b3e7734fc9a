/-
  Arrays of two times five numbers, by value and in memory, and what a function tells in a frame and two numbers. No condition; no program.
-/
import Derived.Test.YtfgpmdikkncckaaGreatDoorFrameBase
namespace Go.Proofs.YtfgpmdikkncckaaGreatDoor
set_option linter.unusedVariables false
set_option maxRecDepth 100000
open Go.ChangeShapes Go.WideShapes Go.ChangeAt Go.RowKit

def row10 (f : Nat → Int) : Array Value := #[.int .i64 (f 0), .int .i64 (f 1), .int .i64 (f 2), .int .i64 (f 3), .int .i64 (f 4), .int .i64 (f 5), .int .i64 (f 6), .int .i64 (f 7), .int .i64 (f 8), .int .i64 (f 9)]
theorem row10_size (f : Nat → Int) : (row10 f).size = 10 := rfl
theorem row10_at (f : Nat → Int) {k : Nat} (h : k < 10) : (row10 f)[k]? = some (.int .i64 (f k)) := by
  match k, h with
  | 0, _ | 1, _ | 2, _ | 3, _ | 4, _ | 5, _ | 6, _ | 7, _ | 8, _ | 9, _ => rfl
theorem row10_set (f : Nat → Int) {k : Nat} (h : k < 10) (v : Int) : (row10 f).setIfInBounds k (.int .i64 v) = row10 (fun j => if j = k then v else f j) := by
  match k, h with
  | 0, _ | 1, _ | 2, _ | 3, _ | 4, _ | 5, _ | 6, _ | 7, _ | 8, _ | 9, _ => rfl
theorem row10_same {f f' : Nat → Int} (h : ∀ j, j < 10 → f j = f' j) : row10 f = row10 f' := by
  unfold row10
  rw [h 0 (by omega), h 1 (by omega), h 2 (by omega), h 3 (by omega), h 4 (by omega), h 5 (by omega), h 6 (by omega), h 7 (by omega), h 8 (by omega), h 9 (by omega)]
theorem row10_one (f : Nat → Int) : (row10 f).all (·.oneCell') = true := by simp [row10, Value.oneCell']
theorem t25_info : (Tryz.prog.info? 32).map (·.size) = some 10 := by kernel_rfl

section
variable {ops : Array Oper} {rest : List Oper} {o : Oper} {a : Act} {w : World} {Q : Exit → Act → World → Prop}
/-- A whole array of two times five is read. -/
theorem wl_load10 (hw : Region.wanted o (yielded ops a.tmps) = true) (x : Operand) (ho : o.op = .load 32 x) (b : Nat) (f : Nat → Int) (hx : a.eval x = .pointer (some ⟨b, 0, none⟩)) (hb : w.heap[b]? = some (.cells (row10 f) 32 (0, 0)))
    (h : wpList Tryz.prog ops Q rest (a.put o.dst (.agg (row10 f))) w) : wpList Tryz.prog ops Q (o :: rest) a w := by
  refine wl_want hw _ w ?_ h
  unfold execOp
  simp only [ho, hx, Instr.loadAt, Instr.sureAddr, Sem.run_bind, Sem.run_pure, Result.andThen_ok, run_loadVar_row w b 32 32 (row10 f) (0, 0) _ hb Tryz.underlying32 rfl (by rw [row10_size]; exact t25_info)]
end
/-- A whole array of two times five is stored, as the walk opens it. -/
theorem store10 (w : World) (g : Nat) (f f' : Nat → Int) (hb : w.heap[g]? = some (.cells (row10 f) 32 (0, 0))) :
    Sem.run Tryz.prog (storeCells ⟨g, 0, none⟩ (row10 f').toList) w = .ok () (w.setRow g (row10 f')) := by
  have := run_storeVar_row (P := Tryz.prog) w g 32 32 (row10 f) (row10 f') hb (by rw [row10_size]; exact t25_info) rfl (row10_one f')
  cases hq : Tryz.prog.info? 32 with
  | none => have := t25_info; rw [hq] at this; cases this
  | some i =>
    have hs : (row10 f').size = i.size := by have := t25_info; rw [hq] at this; simp at this; rw [row10_size]; omega
    simpa [storeVar, sizeOf, typeInfo, hq, Value.cells, hs] using this

theorem gN_of_below {W w : World} (h : Below W.heap.size W w) : W.grownBy w none := ⟨h.os, h.tape, h.output, h.size, fun k hk _ => h.block k hk⟩
theorem setRowF_same {w : World} {g k : Nat} {C : Array Value} (hk : k ≠ g) : (w.setRow g C).heap[k]? = w.heap[k]? := by
  simp only [World.setRow, Array.getElem?_modify]
  rw [if_neg (fun e => hk e.symm)]
theorem setRowF_grown (wr : World) (g : Nat) (C : Array Value) : wr.grownBy (wr.setRow g C) (some g) :=
  ⟨rfl, rfl, rfl, by simp [World.setRow], fun i _ hn => setRowF_same (fun e => hn (by rw [e]))⟩
theorem setRowF_heap {w : World} {g : Nat} {C D : Array Value} {t : TypeId} {z : Nat × Nat} (h : w.heap[g]? = some (.cells C t z)) : (w.setRow g D).heap[g]? = some (.cells D t z) := setRow_heap _ _ _ _ _ _ h
theorem heap_oneF (w : World) (o1 o2 : Obj) : ((w.alloc o1).alloc o2).heap[w.heap.size]? = some o1 := by
  rw [heap_alloc_old _ _ (by simp)]; exact heap_alloc_new w o1
theorem heap_threeF (w : World) (o1 o2 o3 : Obj) : (((w.alloc o1).alloc o2).alloc o3).heap[w.heap.size]? = some o1 ∧ (((w.alloc o1).alloc o2).alloc o3).heap[w.heap.size + 1]? = some o2 ∧ (((w.alloc o1).alloc o2).alloc o3).heap[w.heap.size + 2]? = some o3 := by
  refine ⟨?_, ?_, ?_⟩
  · rw [heap_alloc_old _ _ (by simp; omega)]; exact heap_oneF w o1 o2
  · rw [heap_alloc_old _ _ (by simp)]; exact heap_two w o1 o2
  · have := heap_two (w.alloc o1) o2 o3
    rwa [show (w.alloc o1).heap.size + 1 = w.heap.size + 2 by simp] at this
/-- A frame out of a cell, and two slots. -/
theorem results_frame {fn : Func} {p q r : Tmp} (h : fn.results = #[.cell p 37, .tmp q, .tmp r]) (tmps : Array Value) (w : World) (g : Nat) (C : Array Value) (fr : Nat × Nat) (u v : Value)
    (hp : tmps.getD p undef = .pointer (some ⟨g, 0, none⟩)) (hq : tmps.getD q undef = u) (hr : tmps.getD r undef = v) (hg : w.heap[g]? = some (.cells C 37 fr)) (hC : C.size = 94) :
    (results fn tmps).run Tryz.prog w = .ok (.tuple #[.agg C, u, v]) w := by
  have hp' : tmps[p]?.getD undef = .pointer (some ⟨g, 0, none⟩) := by simpa using hp
  have hq' : tmps[q]?.getD undef = u := by simpa using hq
  have hr' : tmps[r]?.getD undef = v := by simpa using hr
  simp [results, h, hp', hq', hr', asAddr, run_loadVar_row w g 37 37 C fr _ hg Tryz.underlying37 rfl (by rw [hC]; exact fr_info)]
end Go.Proofs.YtfgpmdikkncckaaGreatDoor
