/-
  What each function of package fix answers, as a function on whole numbers: contracts for every input of its types (integer arguments within their kinds).
-/
import Derived.Test.YtfgpmdikkncckaaDoorFixMath
import Derived.Test.YtfgpmdikkncckaaDoorRows
import Derived.ProofKit
import Derived.OpenShut
import Derived.WalkSpells
import Derived.Handy
import Derived.WalkLawsBesides
namespace Go.Proofs.YtfgpmdikkncckaaDoor
set_option linter.unusedVariables false
open Go.ChangeShapes Go.WideShapes Go.ChangeAt Go.RowKit

theorem fret_int {k : IntKind} {a b : Int} (h : a = b) : Ending.returned (.int k a) = .returned (.int k b) := by rw [h]

set_option maxHeartbeats 400000 in
theorem zag_any (x : Int) (w : World) (h1 : 0 ≤ x) (h2 : x ≤ 18446744073709551615) :
    Calls Tryd.prog 50 #[.int .u64 x] w fun e w' => e = .returned (.int .i64 (zagF x)) ∧ w' = w := by
  have F := zag_is h1 h2
  have FH : Hid _ := F
  clear F
  go_enter Tryd.func50, Tryd.ntmps50
  go_wp2
  go_ret
  exact ⟨fret_int FH.out, rfl⟩
end Go.Proofs.YtfgpmdikkncckaaDoor
