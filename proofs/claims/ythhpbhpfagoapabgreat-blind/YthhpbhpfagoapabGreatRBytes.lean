
/-
  What the document's numbers and texts as bytes do (U, Z, B, X), by walks.
-/
import Derived.Test.YthhpbhpfagoapabGreatTag
import Derived.Test.YthhpbhpfagoapabGreatPMath
import Derived.WalkKit
import Derived.WalkSpells
import Derived.WalkLawsBesides
import Derived.Laws.IdiomStrings
namespace Go.Proofs.YthhpbhpfagoapabGreat
open Go.RowKit
set_option linter.unusedVariables false
set_option maxRecDepth 100000



theorem mk_data (l : List UInt8) : (⟨l.toArray⟩ : ByteArray).data.toList = l := rfl

theorem conv_one (w : World) (a : Int) (ha : 0 ≤ a) (ha' : a ≤ 255) :
    Sem.run Tryz.prog (convert 64 9 (.slice (some ⟨w.heap.size, 0, none⟩) 1 1)) (w.alloc (.cells #[.int .u8 a] 5)) =
      .ok (strB [byB a]) (w.alloc (.cells #[.int .u8 a] 5)) := by
  refine run_convert_bytes_back (P := Tryz.prog) _ 64 9 5 ⟨w.heap.size, 0, none⟩ 1 [byB a] Tryz.underlying64 Tryz.underlying5 Tryz.underlying9 ?_
  intro j hj
  match j, hj with
  | 0, _ => simp [Addr.add, byB_toNat a ha ha']

theorem app_str (a b : List UInt8) : (⟨a.toArray⟩ ++ ⟨b.toArray⟩ : ByteArray) = ⟨(a ++ b).toArray⟩ := ByteArray.mk_append_mk a b

theorem ret_app {a b l : List UInt8} (h : a ++ b = l) : Ending.returned (.string (⟨a.toArray⟩ ++ ⟨b.toArray⟩)) = .returned (strB l) := by rw [app_str, h]

theorem ret_app' {a l : List UInt8} {s : ByteArray} (h : a ++ s.data.toList = l) : Ending.returned (.string (⟨a.toArray⟩ ++ s)) = .returned (strB l) := by
  obtain ⟨⟨t⟩⟩ := s
  exact ret_app h

def natOf : Value → Nat
  | .int _ q => q.toNat
  | _ => 0

theorem i64_u64 {n : Int} (h0 : 0 ≤ n) (h1 : n ≤ 9223372036854775807) : IntKind.u64.wrap n = n := by rw [IntKind.wrap_u64]; omega

theorem u64_of (n : Int) : IntKind.u64.wrap n = n % 18446744073709551616 := by rw [IntKind.wrap_u64]

end Go.Proofs.YthhpbhpfagoapabGreat
