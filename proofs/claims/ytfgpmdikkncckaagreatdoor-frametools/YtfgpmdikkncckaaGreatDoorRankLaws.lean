/-
  The laws RankTells and RankBack of layer 11 (rank) as walks: called at any input each returns true, and nothing that was there has turned.
-/
import Derived.Test.YtfgpmdikkncckaaGreatDoorMrgK
import Derived.Test.YtfgpmdikkncckaaGreatDoorRankRef
import Derived.Test.YtfgpmdikkncckaaGreatDoorOpen
namespace Go.Proofs.YtfgpmdikkncckaaGreatDoor
set_option linter.unusedVariables false
open Go.ChangeShapes Go.WideShapes Go.ChangeAt Go.RowKit

theorem LAt.two (w : World) (x y : Int) (t : TypeId) : LAt (w.alloc (.cells #[.int .i64 x, .int .i64 y] t)) (some ⟨w.heap.size, 0, none⟩) [x, y] := by
  intro i z hz
  match i with
  | 0 => simp at hz; subst hz; exact ⟨_, _, rfl, cell_of_row _ _ 0 _ _ _ (heap_alloc_new _ _)⟩
  | 1 => simp at hz; subst hz; exact ⟨_, _, rfl, cell_of_row _ _ 1 _ _ _ (heap_alloc_new _ _)⟩
  | i + 2 => simp at hz
theorem Gb.drewN' {w w' : World} {b : Nat} {mo mo' : Option Nat} (h : Gb w w' b mo mo') (d : Nat) : Gb w (w'.drewN d) b mo mo' := ⟨h.os, h.tape, h.output, h.size, h.block, h.map⟩
theorem LAt.drewN {w : World} {ao : Option Addr} {r : List Int} (h : LAt w ao r) (d : Nat) : LAt (w.drewN d) ao r := h

theorem WfL.of_wf {n : Nat} {f : Nat → Int} (h : ∀ i, i < n → (Lit.int .i64 (f i)).wf = true) : WfL ((List.range n).map f) := by
  intro i x hx
  have hi : i < n := by have := (List.getElem?_eq_some_iff.1 hx).1; simpa using this
  simp [hi] at hx
  subst hx
  have := bounds_i64 (h i hi)
  omega
end Go.Proofs.YtfgpmdikkncckaaGreatDoor
