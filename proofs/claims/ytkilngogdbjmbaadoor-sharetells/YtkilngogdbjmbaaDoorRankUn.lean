/-
  What Unrank of package rank does over a book: the vector of a rank that there is, as a list of the call's own; else nothing. Nothing that was there is turned but the book's own block and its map.
-/
import Derived.Test.YtkilngogdbjmbaaDoorRankBook
import Derived.Deep.OwnRows
namespace Go.Proofs.YtkilngogdbjmbaaDoor
set_option linter.unusedVariables false
open Go.ChangeShapes Go.WideShapes Go.ChangeAt Go.RowKit

section
variable {w w' : World} {B : Nat} {r : List Int}
theorem OwnL.made (w : World) {B : Nat} (hB : B ≤ w.heap.size) (n : Nat) (hn : n ≤ 1000) : OwnL (w.alloc (.cells (madeCells #[.int .i64 0] n) 3)) B (.slice (some ⟨w.heap.size, 0, none⟩) n n) (List.replicate n 0) := by
  unfold OwnL
  rw [List.length_replicate]
  refine ⟨by rw [intL_len, List.length_replicate, Nat.mul_one], .inr ⟨_, n, _, rfl, hB, heap_alloc_new _ _, Nat.le_refl _, by unfold maxLen; omega, by rw [size_madeCells, Nat.mul_one], ?_⟩⟩
  rw [toList_madeCells_one, Nat.mul_one, intL, List.map_replicate, List.take_of_length_le (by simp)]
theorem OwnL.free {g n cap : Nat} (h : OwnL w B (.slice (some ⟨g, 0, none⟩) n cap) r) (j : Nat) : w.frozen? ⟨g, j, none⟩ = false := by
  rcases h.2 with ⟨h0, _⟩ | ⟨g', cap', cur, e, _, hg, _⟩
  · cases h0
  · cases e
    exact frozen_of_row _ _ j _ _ hg
theorem OwnL.set {g n cap : Nat} (h : OwnL w B (.slice (some ⟨g, 0, none⟩) n cap) r) (j : Nat) (x : Int) : OwnL (w.setCell ⟨g, j, none⟩ (.int .i64 x)) B (.slice (some ⟨g, 0, none⟩) n cap) (r.set j x) ∧ w.grownBy (w.setCell ⟨g, j, none⟩ (.int .i64 x)) (some g) := by
  have hn : n = r.length := by
    rcases h.2 with ⟨h0, _⟩ | ⟨g', cap', cur, e, _⟩
    · cases h0
    · cases e; rfl
  subst hn
  have := World.ownsRow.stored h j (.int .i64 x)
  refine ⟨?_, this.2⟩
  unfold OwnL
  rw [List.length_set, intL, List.map_set]
  exact this.1
theorem OwnL.gb {v : Value} {b : Nat} {mo mo' : Option Nat} (h : OwnL w B v r) (hB : Bk w b mo) (hG : Gb w w' b mo mo') (hb : b < B) : OwnL w' B v r := by
  obtain ⟨S, _, hB⟩ := hB
  refine ⟨h.1, ?_⟩
  rcases h.2 with h0 | ⟨g, cap, cur, h1, h2, h3, h4⟩
  · exact .inl h0
  · exact .inr ⟨g, cap, cur, h1, h2, hG.cells hB h3 (by omega), h4⟩
/-- A book is kept while a list of the call's own is written. -/
theorem Bk.row {v : Value} {b : Nat} {mo : Option Nat} (hB : Bk w b mo) (h : OwnL w B v r) (hb : b < B) (hg : w.grownBy w' v.ownBlock) : Bk w' b mo := by
  obtain ⟨S, hO, hB⟩ := hB
  refine ⟨S, hO, ?_⟩
  rcases h.2 with ⟨rfl, _⟩ | ⟨g, cap, cur, rfl, h2, h3, h4⟩
  · exact hB.keep hg
  · have hx := hB.apart h3
    exact hB.kept hg (by simp [Value.ownBlock]; omega) (fun m e => by simp only [Value.ownBlock]; intro e2; exact hx (by rw [← e2, e]))
theorem Gb.row' {w1 w2 : World} {b : Nat} {mo mo' : Option Nat} {row : Option Nat} (h : Gb w w1 b mo mo') (hg : w1.grownBy w2 row) (hr : ∀ g, row = some g → w.heap.size ≤ g) : Gb w w2 b mo mo' :=
  ⟨hg.os.trans h.os, hg.tape.trans h.tape, hg.output.trans h.output, Nat.le_trans h.size hg.size, fun i hi h1 h2 => (hg.block i (Nat.lt_of_lt_of_le hi h.size) (fun e => by have := hr i e.symm; omega)).trans (h.block i hi h1 h2), h.map⟩
end
end Go.Proofs.YtkilngogdbjmbaaDoor
