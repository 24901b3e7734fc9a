/-
  What Left, Rng and push of package writer do to a writer that lies somewhere. Nothing else is turned.
-/
import Derived.Test.YtfgpmdikkncckaaDoorWriterMem
import Derived.Test.YtfgpmdikkncckaaDoorRows
import Derived.ProofKit
import Derived.OpenShut
import Derived.WalkSpells
import Derived.Handy
import Derived.WalkLawsBesides
import Derived.Deep.QuietTactic
import Derived.BigQuiet
import Derived.WalkSmall
import Derived.BigRegion
namespace Go.Proofs.YtfgpmdikkncckaaDoor
set_option linter.unusedVariables false
open Go.ChangeShapes Go.WideShapes Go.ChangeAt Go.RowKit

def leftF (z n k : Nat) : Int := 8 * ((z : Int) - 3 - n) - k
end Go.Proofs.YtfgpmdikkncckaaDoor
