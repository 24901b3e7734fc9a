/-
  Worlds behind a call that made memory and turned nothing old ('Below'), written out: grow (redrawn W d) os. How cells, marks, stores, sizes and draws are read off it. No condition; no program.
-/
import Derived.Lib.QuietBelow
import Derived.Below
import Derived.WalkKit
import Derived.WalkSmall
namespace Go.Proofs.YtfgpmdikkncckaaGreatDoor
set_option linter.unusedVariables false
open Go.RowKit Go.Sort

theorem heap_redrawn (W : World) (d : Nat) : (redrawn W d).heap = W.heap := rfl
theorem cell?_gr (W : World) (d : Nat) (os : Array Obj) (b o : Nat) (h : b < W.heap.size) : (grow (redrawn W d) os).cell? ⟨b, o, none⟩ = W.cell? ⟨b, o, none⟩ := by
  rw [cell?_grow _ _ _ (by exact h)]; rfl
theorem frozen?_gr (W : World) (d : Nat) (os : Array Obj) (b o : Nat) (h : b < W.heap.size) : (grow (redrawn W d) os).frozen? ⟨b, o, none⟩ = W.frozen? ⟨b, o, none⟩ := by
  rw [frozen?_grow _ _ _ (by exact h)]; rfl
theorem setCell_gr (W : World) (d : Nat) (os : Array Obj) (b o : Nat) (v : Value) (h : b < W.heap.size) : (grow (redrawn W d) os).setCell ⟨b, o, none⟩ v = grow (redrawn (W.setCell ⟨b, o, none⟩ v) d) os := by
  simp only [World.setCell, grow, redrawn]
  rw [modify_append_left _ _ _ _ h]
theorem size_gr (W : World) (d : Nat) (os : Array Obj) : (grow (redrawn W d) os).heap.size = W.heap.size + os.size := by rw [size_grow]; rfl
theorem drew_gr (W : World) (d : Nat) (os : Array Obj) : (grow (redrawn W d) os).drew = grow (redrawn W (d + 1)) os := rfl
theorem redrawn_redrawn (W : World) (d d' : Nat) : redrawn (redrawn W d) d' = redrawn W d' := rfl
theorem redrawn_drew (W : World) (d : Nat) : redrawn W.drew d = redrawn W d := rfl
theorem redrawn_drewN (W : World) (n d : Nat) : redrawn (W.drewN n) d = redrawn W d := rfl
theorem drewN_gr (W : World) (d n : Nat) (os : Array Obj) : (grow (redrawn W d) os).drewN n = grow (redrawn W (d + n)) os := rfl
theorem gr_gr (W : World) (d d' : Nat) (os os' : Array Obj) : grow (redrawn (grow (redrawn W d) os) d') os' = grow (redrawn W d') (os ++ os') := by
  rw [← grow_grow]; rfl
/-- Behind a contract that ends in 'Below'. -/
theorem more_of {W w1 : World} (hb : Below W.heap.size W w1) : ∃ (d : Nat) (os : Array Obj), w1 = grow (redrawn W d) os := by
  obtain ⟨p, hp⟩ := regrown_of_below hb
  exact ⟨p.d, p.os, hp⟩
theorem below_gr {B : Nat} {w W : World} (h : Below B w W) (hB : B ≤ W.heap.size) (d : Nat) (os : Array Obj) : Below B w (grow (redrawn W d) os) :=
  h.trans ((below_regrown W d os).mono hB)
end Go.Proofs.YtfgpmdikkncckaaGreatDoor
