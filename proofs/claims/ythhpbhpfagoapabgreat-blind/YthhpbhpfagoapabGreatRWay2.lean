
/-
  What the document's ways of writing values do, by walks: way 2.
-/
import Derived.Test.YthhpbhpfagoapabGreatRWay
import Derived.Deep.QuietTactic
import Derived.BigQuiet
import Derived.WalkSmall
import Derived.Deep.RegionHeld3
namespace Go.Proofs.YthhpbhpfagoapabGreat
open Go.RowKit
set_option linter.unusedVariables false
set_option maxRecDepth 100000

end Go.Proofs.YthhpbhpfagoapabGreat
