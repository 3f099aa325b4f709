
/-
  What the document's first and different do, by walks.
-/
import Derived.Test.YthhpbhpfagoapabGreatRVals
import Derived.Test.YthhpbhpfagoapabGreatPWays
namespace Go.Proofs.YthhpbhpfagoapabGreat
open Go.RowKit
set_option linter.unusedVariables false
set_option maxRecDepth 100000

end Go.Proofs.YthhpbhpfagoapabGreat
