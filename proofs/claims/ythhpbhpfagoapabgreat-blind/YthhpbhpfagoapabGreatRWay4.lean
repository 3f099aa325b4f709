
/-
  What the document's ways of writing values do, by walks: way 4.
-/
import Derived.Test.YthhpbhpfagoapabGreatRWay2
import Derived.Lib.Strings
namespace Go.Proofs.YthhpbhpfagoapabGreat
open Go.RowKit
set_option linter.unusedVariables false
set_option maxRecDepth 100000

theorem ext_drop (tx : List UInt8) (m : Nat) : ((⟨tx.toArray⟩ : ByteArray).extract m tx.length).data.toList = tx.drop m := by
  rw [Lib.extract_data, mk_data, List.take_of_length_le (by rw [List.length_drop]; omega)]

theorem ext_le (tx : List UInt8) (m : Nat) (h : tx.length ≤ 12) : ((⟨tx.toArray⟩ : ByteArray).extract m tx.length).size ≤ 1000000 := by
  rw [Lib.size_eq, ext_drop, List.length_drop]; omega

theorem byte_mk (tx : List UInt8) (m : Nat) (h : m < tx.length) (h2 : m < (⟨tx.toArray⟩ : ByteArray).size) : (⟨tx.toArray⟩ : ByteArray)[m]'h2 = tx[m] := rfl

end Go.Proofs.YthhpbhpfagoapabGreat
