/-
  The laws CountTells, CountGrows and CountNotes of layer 10 (count) as walks: called at any input each returns true, and nothing that was there has turned.
-/
import Derived.Test.YtfgpmdikkncckaaDoorCountCalls
import Derived.Test.YtfgpmdikkncckaaDoorCountRef
namespace Go.Proofs.YtfgpmdikkncckaaDoor
set_option linter.unusedVariables false
open Go.ChangeShapes Go.WideShapes Go.ChangeAt Go.RowKit

theorem v_calls (w : World) (b : Nat) (mo : Option Nat) (S : Int → Int → Bool) (n k : Int) (h : Hid (BkAt w b mo S)) (hO : Hid (Ok S)) :
    Calls Tryd.prog 77 #[.pointer (some ⟨b, 0, none⟩), .int .i64 n, .int .i64 k] w fun e w' => e = .returned (.int .u64 (vI n k : Nat)) ∧ ∃ mo', BkAt w' b mo' (un S n k) ∧ Gb w w' b mo mo' :=
  v_any _ w b mo S n k (Nat.le_refl _) h hO

/-- A book that was made when there were lo blocks: its map lies behind them. -/
theorem new_calls (w : World) : Calls Tryd.prog 22 #[] w fun e w' => ∃ b, e = .returned (.pointer (some ⟨b, 0, none⟩)) ∧ BkAt w' b none noS ∧ Below w.heap.size w w' ∧ w.heap.size ≤ b := by
  refine (new_any w).mono ?_
  rintro e w' ⟨rfl, h1, h2⟩
  exact ⟨_, rfl, h1, h2, Nat.le_refl _⟩
theorem below_book {w w1 w2 : World} {b : Nat} {mo : Option Nat} (h : Below w.heap.size w w1) (hb : w.heap.size ≤ b) (hG : Gb w1 w2 b none mo) : Below w.heap.size w w2 :=
  h.trans (hG.below hb h.size (fun m e => by cases e))

theorem grows_math {x y : Nat} (hx : x < 14) (hy : y < 31) : ∃ v v1 v2 v3 : Nat, vI (2 + (x : Int)) (1 + (y : Int)) = v ∧ vI (2 + (x : Int)) (1 + (y : Int) + 1) = v1 ∧ vI (2 + (x : Int) + 1) (1 + (y : Int)) = v2 ∧ vI (2 + (x : Int) + 1) (1 + (y : Int) + 1) = v3 ∧
    v < v1 ∧ v < v2 ∧ v3 = v1 + v2 + v ∧ v % 2 = 0 ∧ v1 ≤ 2460955893981184 ∧ v2 ≤ 2460955893981184 := by
  have e1 : vI (2 + (x : Int)) (1 + (y : Int)) = vv (x + 2) (y + 1) := by unfold vI; rw [if_pos (by omega)]; congr 1 <;> omega
  have e2 : vI (2 + (x : Int)) (1 + (y : Int) + 1) = vv (x + 2) (y + 2) := by unfold vI; rw [if_pos (by omega)]; congr 1 <;> omega
  have e3 : vI (2 + (x : Int) + 1) (1 + (y : Int)) = vv (x + 3) (y + 1) := by unfold vI; rw [if_pos (by omega)]; congr 1 <;> omega
  have e4 : vI (2 + (x : Int) + 1) (1 + (y : Int) + 1) = vv (x + 3) (y + 2) := by unfold vI; rw [if_pos (by omega)]; congr 1 <;> omega
  have h := vv_more hx hy
  exact ⟨_, _, _, _, e1, e2, e3, e4, h.1, h.2.1, vv_sum (n := x + 2) (k := y + 1) (by omega) (by omega), h.2.2, vv_bd (by omega) (by omega), vv_bd (by omega) (by omega)⟩
end Go.Proofs.YtfgpmdikkncckaaDoor
