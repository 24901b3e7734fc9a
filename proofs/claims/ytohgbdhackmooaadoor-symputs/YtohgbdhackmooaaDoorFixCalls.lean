/-
  What each function of package fix answers, as a function on whole numbers: contracts for every input of its types (integer arguments within their kinds).
-/
import Derived.Test.YtohgbdhackmooaaDoorFixMath
import Derived.Test.YtohgbdhackmooaaDoorRows
import Derived.ProofKit
import Derived.OpenShut
import Derived.WalkSpells
import Derived.Handy
import Derived.WalkLawsBesides
namespace Go.Proofs.YtohgbdhackmooaaDoor
set_option linter.unusedVariables false
open Go.ChangeShapes Go.WideShapes Go.ChangeAt Go.RowKit

theorem ret_int {k : IntKind} {a b : Int} (h : a = b) : Ending.returned (.int k a) = .returned (.int k b) := by rw [h]

set_option maxHeartbeats 400000 in
theorem within_any (a b c : Int) (w : World) (h1 : 0 ≤ b) (h2 : b ≤ c) (h3 : c ≤ 64) :
    Calls Tryd.prog 52 #[.int .i64 a, .int .i64 b, .int .i64 c] w fun e w' => e = .returned (.int .u64 (clamp a b c)) ∧ w' = w := by
  by_cases ha : a < b
  · go_enter Tryd.func52, Tryd.ntmps52
    go_wp2
    go_ret
    exact ⟨ret_int (by unfold clamp; rw [if_pos ha]), rfl⟩
  · by_cases hc : c < a
    · go_enter Tryd.func52, Tryd.ntmps52
      go_wp2
      go_ret
      exact ⟨ret_int (by unfold clamp; rw [if_neg (by omega), if_pos hc]), rfl⟩
    · go_enter Tryd.func52, Tryd.ntmps52
      go_wp2
      go_ret
      exact ⟨ret_int (by unfold clamp; rw [if_neg (by omega), if_neg (by omega)]), rfl⟩

set_option maxHeartbeats 400000 in
theorem low_any (a b : Int) (w : World) (h1 : 0 ≤ a) (h2 : a ≤ 18446744073709551615) :
    Calls Tryd.prog 46 #[.int .u64 a, .int .i64 b] w fun e w' => e = .returned (.int .u64 (lowF a b)) ∧ w' = w := by
  have hb := clamp_bd b 0 64 (by omega)
  have F := low_is (n := b) h1 h2
  have FH : Hid _ := F
  clear F
  go_enter Tryd.func46, Tryd.ntmps46
  go_wp2_with (go_at_call 52; refine (within_any _ _ _ _ (by omega) (by omega) (by omega)).mono ?_; rintro e w' ⟨rfl, rfl⟩)
  go_ret
  exact ⟨ret_int FH.out, rfl⟩

set_option maxHeartbeats 400000 in
theorem zig_any (x : Int) (w : World) (h1 : -9223372036854775808 ≤ x) (h2 : x ≤ 9223372036854775807) :
    Calls Tryd.prog 44 #[.int .i64 x] w fun e w' => e = .returned (.int .u64 (zigF x)) ∧ w' = w := by
  have F := zig_is h1 h2
  have FH : Hid _ := F
  clear F
  go_enter Tryd.func44, Tryd.ntmps44
  go_wp2
  go_ret
  exact ⟨ret_int FH.out, rfl⟩

set_option maxHeartbeats 400000 in
theorem zag_any (x : Int) (w : World) (h1 : 0 ≤ x) (h2 : x ≤ 18446744073709551615) :
    Calls Tryd.prog 39 #[.int .u64 x] w fun e w' => e = .returned (.int .i64 (zagF x)) ∧ w' = w := by
  have F := zag_is h1 h2
  have FH : Hid _ := F
  clear F
  go_enter Tryd.func39, Tryd.ntmps39
  go_wp2
  go_ret
  exact ⟨ret_int FH.out, rfl⟩
end Go.Proofs.YtohgbdhackmooaaDoor
