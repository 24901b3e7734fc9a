/-
  Where a reader of the program lies: a block of five cells, its bytes in a block of their own, both between two bounds; and what stores and other calls make of it. No condition.
-/
import Derived.Test.YtfgpmdikkncckaaDoorReaderMath
import Derived.Test.YtfgpmdikkncckaaDoorWriterLaws
import Derived.Test.YtfgpmdikkncckaaDoorNums
namespace Go.Proofs.YtfgpmdikkncckaaDoor
set_option linter.unusedVariables false
open Go.ChangeShapes Go.WideShapes Go.ChangeAt Go.RowKit

structure RCells (w : World) (lo hi b : Nat) (v : Value) (n : Nat) (p : Nat → Int) (r x : Int) (k l : Nat) : Prop where
  row : w.heap[b]? = some (.cells #[v, .int .u32 r, .int .u32 x, .int .i64 k, .int .i64 l] 57 (0, 0))
  d : OwnN w lo 5 .u8 v n p
  b0 : lo ≤ b
  b1 : b < hi
  vh : ∀ g, v.ownBlock = some g → g < hi ∧ g ≠ b

section
variable {w w' : World} {lo hi b n k l : Nat} {v : Value} {p : Nat → Int} {r x : Int}
theorem RCells.lt (h : RCells w lo hi b v n p r x k l) : b < w.heap.size := lt_size_of_block h.row
theorem RCells.c0 (h : RCells w lo hi b v n p r x k l) : w.cell? ⟨b, 0, none⟩ = some v := row_cell h.row 0 rfl
theorem RCells.c1 (h : RCells w lo hi b v n p r x k l) : w.cell? ⟨b, 1, none⟩ = some (.int .u32 r) := row_cell h.row 1 rfl
theorem RCells.c2 (h : RCells w lo hi b v n p r x k l) : w.cell? ⟨b, 2, none⟩ = some (.int .u32 x) := row_cell h.row 2 rfl
theorem RCells.c3 (h : RCells w lo hi b v n p r x k l) : w.cell? ⟨b, 3, none⟩ = some (.int .i64 k) := row_cell h.row 3 rfl
theorem RCells.c4 (h : RCells w lo hi b v n p r x k l) : w.cell? ⟨b, 4, none⟩ = some (.int .i64 l) := row_cell h.row 4 rfl
theorem RCells.fz (h : RCells w lo hi b v n p r x k l) (o : Nat) : w.frozen? ⟨b, o, none⟩ = false := frozen_of_row _ _ o _ _ h.row
theorem RCells.kept {row : Option Nat} (h : RCells w lo hi b v n p r x k l) (hg : w.grownBy w' row) (hrow : ∀ q, row = some q → q < lo ∨ hi ≤ q) : RCells w' lo hi b v n p r x k l := by
  have hne : ∀ q, lo ≤ q → q < hi → some q ≠ row := by
    intro q h1 h2 e
    have := hrow q e.symm
    omega
  refine ⟨(hg.block b h.lt (hne b h.b0 h.b1)).trans h.row, h.d.kept hg ?_, h.b0, h.b1, h.vh⟩
  cases hb : v.ownBlock with
  | none => exact .inl rfl
  | some q => right; exact hne q (h.d.lt hb).1 (h.vh q hb).1
/-- A cell of the reader's own block is written. -/
theorem RCells.own (h : RCells w lo hi b v n p r x k l) (o : Nat) (u : Value) : OwnN (w.setCell ⟨b, o, none⟩ u) lo 5 .u8 v n p := by
  refine h.d.kept (grown_setb w b o u) ?_
  cases hb : v.ownBlock with
  | none => exact .inl rfl
  | some q => right; intro e; cases e; exact (h.vh b hb).2 rfl
theorem RCells.set1 (h : RCells w lo hi b v n p r x k l) (y : Int) : RCells (w.setCell ⟨b, 1, none⟩ (.int .u32 y)) lo hi b v n p y x k l := ⟨heap_set_row h.row, h.own _ _, h.b0, h.b1, h.vh⟩
theorem RCells.set2 (h : RCells w lo hi b v n p r x k l) (y : Int) : RCells (w.setCell ⟨b, 2, none⟩ (.int .u32 y)) lo hi b v n p r y k l := ⟨heap_set_row h.row, h.own _ _, h.b0, h.b1, h.vh⟩
theorem RCells.set3 (h : RCells w lo hi b v n p r x k l) (y : Nat) : RCells (w.setCell ⟨b, 3, none⟩ (.int .i64 y)) lo hi b v n p r x y l := ⟨heap_set_row h.row, h.own _ _, h.b0, h.b1, h.vh⟩
theorem RCells.set4 (h : RCells w lo hi b v n p r x k l) (y : Nat) : RCells (w.setCell ⟨b, 4, none⟩ (.int .i64 y)) lo hi b v n p r x k y := ⟨heap_set_row h.row, h.own _ _, h.b0, h.b1, h.vh⟩
theorem RCells.drew (h : RCells w lo hi b v n p r x k l) : RCells w.drew lo hi b v n p r x k l := h.kept (grown_drew (grown_refl w none)) (by intro q e; cases e)
end

/-- A reader of n bytes p lies at block b, and is m. -/
def RdAt (w : World) (lo hi b n : Nat) (p : Nat → Int) (m : Re) : Prop := ∃ v, RCells w lo hi b v n p m.rng m.val m.tk m.nb
theorem RdAt.kept {w w' : World} {lo hi b n : Nat} {p : Nat → Int} {m : Re} {row : Option Nat} (h : RdAt w lo hi b n p m) (hg : w.grownBy w' row) (hrow : ∀ q, row = some q → q < lo ∨ hi ≤ q) : RdAt w' lo hi b n p m := by
  obtain ⟨v, h⟩ := h
  exact ⟨v, h.kept hg hrow⟩
theorem RdAt.keep {w w' : World} {lo hi b n : Nat} {p : Nat → Int} {m : Re} (h : RdAt w lo hi b n p m) (hg : w.grownBy w' none) : RdAt w' lo hi b n p m := h.kept hg (by intro q e; cases e)
theorem RdAt.lt {w : World} {lo hi b n : Nat} {p : Nat → Int} {m : Re} (h : RdAt w lo hi b n p m) : lo ≤ b ∧ b < hi ∧ b < w.heap.size := by
  obtain ⟨v, h⟩ := h
  exact ⟨h.b0, h.b1, h.lt⟩
end Go.Proofs.YtfgpmdikkncckaaDoor
