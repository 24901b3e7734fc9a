/-
  More of worlds behind calls that made memory: a call inside a region, in a world that had grown before; small facts on sums that a walk wants. No condition; no program.
-/
import Derived.Test.YtammpmfhflnbhaaMore
namespace Go.Proofs.Ytammpmfhflnbhaa
set_option linter.unusedVariables false
open Go.RowKit
open Go.Sort (grow)

/-- A callee's contract that ends in 'Below', met in a world that had grown before the region began. -/
theorem regrown_more {P : Program} {f : FuncId} {args : Array Value} {X : World} {d : Nat} {o0 os : Array Obj} {v : Value}
    (h : Calls P f args (grow (redrawn X d) (o0 ++ os)) fun e w' => e = .returned v ∧ Below (grow (redrawn X d) (o0 ++ os)).heap.size (grow (redrawn X d) (o0 ++ os)) w') :
    Calls P f args (grow (redrawn X d) (o0 ++ os)) fun e w'' => e = .returned v ∧ ∃ p : Regrown, w'' = grow (redrawn X p.d) (o0 ++ p.os) :=
  h.mono fun _ _ ⟨he, hb⟩ => by
    obtain ⟨d', os', e'⟩ := more_of hb
    refine ⟨he, ⟨d', os ++ os'⟩, ?_⟩
    rw [e', gr_gr, Array.append_assoc]
theorem lt_1 (a b : Nat) : a < a + 1 + b := by omega
theorem lt_11 (a b : Nat) : a < a + 1 + 1 + b := by omega
theorem lt_2 (a b c : Nat) : a < a + 1 + b + c := by omega
theorem lt_21 (a b c : Nat) : a < a + 1 + 1 + b + c := by omega
theorem lt_3 (a b c d : Nat) : a < a + 1 + b + c + d := by omega
theorem lt_31 (a b c d : Nat) : a < a + 1 + 1 + b + c + d := by omega
theorem lt_4 (a b c d e : Nat) : a < a + 1 + b + c + d + e := by omega
theorem lt_41 (a b c d e : Nat) : a < a + 1 + 1 + b + c + d + e := by omega
theorem lt_5 (a b c d e f : Nat) : a < a + 1 + b + c + d + e + f := by omega
theorem lt_51 (a b c d e f : Nat) : a < a + 1 + 1 + b + c + d + e + f := by omega
theorem lt_6 (a b c d e f g : Nat) : a < a + 1 + b + c + d + e + f + g := by omega
theorem lt_61 (a b c d e f g : Nat) : a < a + 1 + 1 + b + c + d + e + f + g := by omega
end Go.Proofs.Ytammpmfhflnbhaa
