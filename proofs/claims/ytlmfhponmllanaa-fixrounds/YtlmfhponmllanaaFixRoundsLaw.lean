/-
  The law FixRounds of layer 1 as a walk: at every int64, int and pair of int32 it returns true, and nothing that was there has turned.
-/
import Derived.Test.YtlmfhponmllanaaFixLaws
import Derived.Below
import Derived.Deep.QuietTactic
import Derived.BigQuiet
import Derived.WalkSmall
namespace Go.Proofs.Ytlmfhponmllanaa
set_option linter.unusedVariables false
open Go.ChangeShapes Go.WideShapes Go.ChangeAt Go.RowKit

set_option maxHeartbeats 400000 in
theorem rounds_law (x s a b : Int) (w : World) (h1 : -9223372036854775808 ≤ x) (h2 : x ≤ 9223372036854775807)
    (h3 : -2147483648 ≤ a) (h4 : a ≤ 2147483647) (h5 : -2147483648 ≤ b) (h6 : b ≤ 2147483647) :
    Calls Try.prog 4 #[.int .i64 x, .int .i64 s, .agg #[.int .i32 a, .int .i32 b]] w fun e w' => e = .returned (.bool true) ∧ Below w.heap.size w w' := by
  have hm : -4611686018427387904 ≤ mulF a b ∧ mulF a b ≤ 4611686018427387903 := satF_bd _ _
  go_enter Try.func4, Try.ntmps4
  go_wp2_with (first | (go_at_call 10; refine (awake_any _).mono ?_; rintro e w' ⟨rfl, rfl⟩))
  go_quiet (first | (go_at_call 15; refine Calls.quiet_of_same (round_any _ _ _ (by omega) (by omega))) | (go_at_call 16; refine Calls.quiet_of_same (rround_any _ _ _ (by omega) (by omega))) | (go_at_call 17; refine Calls.quiet_of_same (mul15_any _ _ _ (by omega) (by omega) (by omega) (by omega))) | (go_at_call 18; refine Calls.quiet_of_same (rmul15_any _ _ _ (by omega) (by omega) (by omega) (by omega))))
  go_wp2
  go_ret
  exact ⟨rfl, below_drewN ((Below.refl _ _).alloc (Nat.le_refl _) _) _⟩
end Go.Proofs.Ytlmfhponmllanaa
