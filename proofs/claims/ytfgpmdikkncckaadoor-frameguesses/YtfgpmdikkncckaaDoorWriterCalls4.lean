/-
  What New and Done of package writer make: a writer of its own; the packet in memory of its own. Nothing that was there is turned.
-/
import Derived.Test.YtfgpmdikkncckaaDoorWriterCalls3
import Derived.Lib.QuietBelow
namespace Go.Proofs.YtfgpmdikkncckaaDoor
set_option linter.unusedVariables false
open Go.ChangeShapes Go.WideShapes Go.ChangeAt Go.RowKit
end Go.Proofs.YtfgpmdikkncckaaDoor
