/-
  What each function of package fix answers, as a function on whole numbers: contracts for every input of its types (integer arguments within their kinds).
-/
import Derived.Test.YtohgbdhackmooaaFixMath
import Derived.Test.YtohgbdhackmooaaRows
import Derived.ProofKit
import Derived.OpenShut
import Derived.WalkSpells
import Derived.Handy
import Derived.WalkLawsBesides
namespace Go.Proofs.Ytohgbdhackmooaa
set_option linter.unusedVariables false
open Go.ChangeShapes Go.WideShapes Go.ChangeAt Go.RowKit

theorem ret_int {k : IntKind} {a b : Int} (h : a = b) : Ending.returned (.int k a) = .returned (.int k b) := by rw [h]

set_option maxHeartbeats 400000 in
theorem within_any (a b c : Int) (w : World) (h1 : 0 ≤ b) (h2 : b ≤ c) (h3 : c ≤ 64) :
    Calls Try.prog 17 #[.int .i64 a, .int .i64 b, .int .i64 c] w fun e w' => e = .returned (.int .u64 (clamp a b c)) ∧ w' = w := by
  by_cases ha : a < b
  · go_enter Try.func17, Try.ntmps17
    go_wp2
    go_ret
    exact ⟨ret_int (by unfold clamp; rw [if_pos ha]), rfl⟩
  · by_cases hc : c < a
    · go_enter Try.func17, Try.ntmps17
      go_wp2
      go_ret
      exact ⟨ret_int (by unfold clamp; rw [if_neg (by omega), if_pos hc]), rfl⟩
    · go_enter Try.func17, Try.ntmps17
      go_wp2
      go_ret
      exact ⟨ret_int (by unfold clamp; rw [if_neg (by omega), if_neg (by omega)]), rfl⟩

set_option maxHeartbeats 400000 in
theorem low_any (a b : Int) (w : World) (h1 : 0 ≤ a) (h2 : a ≤ 18446744073709551615) :
    Calls Try.prog 13 #[.int .u64 a, .int .i64 b] w fun e w' => e = .returned (.int .u64 (lowF a b)) ∧ w' = w := by
  have hb := clamp_bd b 0 64 (by omega)
  have F := low_is (n := b) h1 h2
  have FH : Hid _ := F
  clear F
  go_enter Try.func13, Try.ntmps13
  go_wp2_with (go_at_call 17; refine (within_any _ _ _ _ (by omega) (by omega) (by omega)).mono ?_; rintro e w' ⟨rfl, rfl⟩)
  go_ret
  exact ⟨ret_int FH.out, rfl⟩
end Go.Proofs.Ytohgbdhackmooaa
