import Derived.Test.YthhpbhpfagoapaaGreatJAT
import Derived.Deep.QuietTactic
import Derived.BigQuiet
import Derived.WalkSmall
import Derived.Deep.RegionHeld3
import Derived.Lib.Strings
namespace Go.Proofs.YthhpbhpfagoapaaGreat
set_option linter.unusedVariables false
set_option linter.unusedSimpArgs false
set_option maxRecDepth 100000
set_option maxHeartbeats 16000000
open Go.RowKit
theorem UJ (tx:List UInt8) (m:Nat) (h:m < tx.length) (h2:m < (⟨tx.toArray⟩:ByteArray).size):(⟨tx.toArray⟩:ByteArray)[m]'h2=tx[m]:=rfl
end Go.Proofs.YthhpbhpfagoapaaGreat
