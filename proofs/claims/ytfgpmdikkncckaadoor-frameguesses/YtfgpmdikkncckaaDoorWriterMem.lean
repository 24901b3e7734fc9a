/-
  Where a writer of the program lies: five numbers and 1275 bytes in one block, none of them frozen; and what stores and other calls make of it. No condition; no program.
-/
import Derived.Test.YtfgpmdikkncckaaDoorWriterMath
import Derived.WalkKit
import Derived.Below
import Derived.Laws.OwnMore
namespace Go.Proofs.YtfgpmdikkncckaaDoor
set_option linter.unusedVariables false
open Go.RowKit

structure WCells (w : World) (b : Nat) (z : Nat) (r l : Int) (n k : Nat) (f : Nat → Int) : Prop where
  c0 : w.cell? ⟨b, 0, none⟩ = some (.int .i64 z)
  c1 : w.cell? ⟨b, 1, none⟩ = some (.int .u32 r)
  c2 : w.cell? ⟨b, 2, none⟩ = some (.int .u32 l)
  c3 : w.cell? ⟨b, 3, none⟩ = some (.int .i64 n)
  c4 : w.cell? ⟨b, 4, none⟩ = some (.int .i64 k)
  ck : ∀ i, i < 1275 → w.cell? ⟨b, 5 + i, none⟩ = some (.int .u8 (f i))
  fz : ∀ o, w.frozen? ⟨b, o, none⟩ = false

section
variable {w w' : World} {b z n k : Nat} {r l : Int} {f : Nat → Int}

theorem WCells.lt (h : WCells w b z r l n k f) : b < w.heap.size := block_lt_of_cell h.c0
theorem cell_off {o o' : Nat} {v u : Value} (h : w.cell? ⟨b, o', none⟩ = some u) (hne : o' ≠ o) : (w.setCell ⟨b, o, none⟩ v).cell? ⟨b, o', none⟩ = some u :=
  (World.cell?_setCell_other _ _ _ _ (by intro e; cases e; exact hne rfl)).trans h
theorem WCells.set1 (h : WCells w b z r l n k f) (x : Int) : WCells (w.setCell ⟨b, 1, none⟩ (.int .u32 x)) b z x l n k f :=
  ⟨cell_off h.c0 (by decide), World.cell?_setCell_same _ _ _ h.c1, cell_off h.c2 (by decide), cell_off h.c3 (by decide), cell_off h.c4 (by decide), fun i hi => cell_off (h.ck i hi) (by omega), fun o => (World.frozen?_setCell _ _ _ _).trans (h.fz o)⟩
theorem WCells.set2 (h : WCells w b z r l n k f) (x : Int) : WCells (w.setCell ⟨b, 2, none⟩ (.int .u32 x)) b z r x n k f :=
  ⟨cell_off h.c0 (by decide), cell_off h.c1 (by decide), World.cell?_setCell_same _ _ _ h.c2, cell_off h.c3 (by decide), cell_off h.c4 (by decide), fun i hi => cell_off (h.ck i hi) (by omega), fun o => (World.frozen?_setCell _ _ _ _).trans (h.fz o)⟩
theorem WCells.set3 (h : WCells w b z r l n k f) (x : Nat) : WCells (w.setCell ⟨b, 3, none⟩ (.int .i64 x)) b z r l x k f :=
  ⟨cell_off h.c0 (by decide), cell_off h.c1 (by decide), cell_off h.c2 (by decide), World.cell?_setCell_same _ _ _ h.c3, cell_off h.c4 (by decide), fun i hi => cell_off (h.ck i hi) (by omega), fun o => (World.frozen?_setCell _ _ _ _).trans (h.fz o)⟩
theorem WCells.set4 (h : WCells w b z r l n k f) (x : Nat) : WCells (w.setCell ⟨b, 4, none⟩ (.int .i64 x)) b z r l n x f :=
  ⟨cell_off h.c0 (by decide), cell_off h.c1 (by decide), cell_off h.c2 (by decide), cell_off h.c3 (by decide), World.cell?_setCell_same _ _ _ h.c4, fun i hi => cell_off (h.ck i hi) (by omega), fun o => (World.frozen?_setCell _ _ _ _).trans (h.fz o)⟩
theorem WCells.setk (h : WCells w b z r l n k f) (j : Nat) (x : Int) : WCells (w.setCell ⟨b, 5 + j, none⟩ (.int .u8 x)) b z r l n k (setF f j x) := by
  refine ⟨cell_off h.c0 (by omega), cell_off h.c1 (by omega), cell_off h.c2 (by omega), cell_off h.c3 (by omega), cell_off h.c4 (by omega), fun i hi => ?_, fun o => (World.frozen?_setCell _ _ _ _).trans (h.fz o)⟩
  by_cases e : i = j
  · subst e; rw [setF_same]; exact World.cell?_setCell_same _ _ _ (h.ck i hi)
  · rw [setF_other _ _ e]; exact cell_off (h.ck i hi) (by omega)
theorem WCells.kept {row : Option Nat} (h : WCells w b z r l n k f) (hg : w.grownBy w' row) (hne : some b ≠ row) : WCells w' b z r l n k f := by
  have hb : w'.heap[b]? = w.heap[b]? := hg.block b h.lt hne
  have hc : ∀ o, w'.cell? ⟨b, o, none⟩ = w.cell? ⟨b, o, none⟩ := fun o => World.cell?_of_block (a := ⟨b, o, none⟩) hb
  exact ⟨(hc _).trans h.c0, (hc _).trans h.c1, (hc _).trans h.c2, (hc _).trans h.c3, (hc _).trans h.c4, fun i hi => (hc _).trans (h.ck i hi), fun o => (World.frozen?_of_block (a := ⟨b, o, none⟩) hb).trans (h.fz o)⟩
theorem WCells.drew (h : WCells w b z r l n k f) : WCells w.drew b z r l n k f := ⟨h.c0, h.c1, h.c2, h.c3, h.c4, h.ck, h.fz⟩
end

theorem grown_refl (w : World) (row : Option Nat) : w.grownBy w row := ⟨rfl, rfl, rfl, Nat.le_refl _, fun _ _ _ => rfl⟩
theorem grown_trans {a b c : World} {row : Option Nat} (h : a.grownBy b row) (k : b.grownBy c row) : a.grownBy c row :=
  ⟨k.os.trans h.os, k.tape.trans h.tape, k.output.trans h.output, Nat.le_trans h.size k.size, fun i hi hne => (k.block i (Nat.lt_of_lt_of_le hi h.size) hne).trans (h.block i hi hne)⟩
theorem wgrown_set {a w : World} {b o : Nat} (h : a.grownBy w (some b)) (v : Value) : a.grownBy (w.setCell ⟨b, o, none⟩ v) (some b) :=
  grown_trans h ⟨rfl, rfl, rfl, by simp [World.setCell], fun i hi hne => Below.heap_setCell _ _ _ _ (by intro e; apply hne; exact congrArg some e)⟩
theorem heap_set_row {w : World} {b o : Nat} {cs : Array Value} {t : TypeId} {u : Value} (h : w.heap[b]? = some (.cells cs t (0, 0))) : (w.setCell ⟨b, o, none⟩ u).heap[b]? = some (.cells (cs.setIfInBounds o u) t (0, 0)) := heap_setCell_same w b o cs t u h
theorem grown_setb (w : World) (b o : Nat) (u : Value) : w.grownBy (w.setCell ⟨b, o, none⟩ u) (some b) := wgrown_set (grown_refl _ _) u
theorem grown_drew {a w : World} {row : Option Nat} (h : a.grownBy w row) : a.grownBy w.drew row := ⟨h.os, h.tape, h.output, h.size, h.block⟩
theorem grown_alloc {a w : World} {row : Option Nat} (h : a.grownBy w row) (o : Obj) : a.grownBy (w.alloc o) row := grown_trans h (World.grownBy_alloc w o row)
theorem grown_none {a w : World} (h : a.grownBy w none) (row : Option Nat) : a.grownBy w row := ⟨h.os, h.tape, h.output, h.size, fun k hk _ => h.block k hk (by simp)⟩
theorem grown_below {w w' : World} (h : Below w.heap.size w w') (row : Option Nat) : w.grownBy w' row := ⟨h.os, h.tape, h.output, h.size, fun k hk _ => h.block k hk⟩

/-- A writer of size z lies at block b, and is m. -/
def WrAt (w : World) (b z : Nat) (m : Mo) : Prop := ∃ low f, Inv z m low f ∧ WCells w b z m.rng low (m.nD - 3) m.nR f
theorem WrAt.kept {w w' : World} {b z : Nat} {m : Mo} {row : Option Nat} (h : WrAt w b z m) (hg : w.grownBy w' row) (hne : some b ≠ row) : WrAt w' b z m := by
  obtain ⟨low, f, h1, h2⟩ := h
  exact ⟨low, f, h1, h2.kept hg hne⟩
theorem WrAt.lt {w : World} {b z : Nat} {m : Mo} (h : WrAt w b z m) : b < w.heap.size := by
  obtain ⟨low, f, h1, h2⟩ := h
  exact h2.lt
theorem WrAt.ok {w : World} {b z : Nat} {m : Mo} (h : WrAt w b z m) : m.Ok := by
  obtain ⟨low, f, h1, h2⟩ := h
  exact h1.ok
end Go.Proofs.YtfgpmdikkncckaaDoor
