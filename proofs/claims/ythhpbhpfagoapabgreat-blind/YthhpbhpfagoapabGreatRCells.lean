
/-
  What the document's functions on cells do (Fits, Cells, values, row, head), by walks over cells that lie in memory.
-/
import Derived.Test.YthhpbhpfagoapabGreatRBytes
import Derived.Test.YthhpbhpfagoapabGreatPCells
namespace Go.Proofs.YthhpbhpfagoapabGreat
open Go.RowKit
set_option linter.unusedVariables false
set_option maxRecDepth 100000

theorem ret_bool {a b : Bool} (h : a = b) : Ending.returned (.bool a) = .returned (.bool b) := by rw [h]

/-- A cell as a value. -/
abbrev cellV (c : CellB) : Value := .agg #[.bool c.null, .int .i64 c.int, strB c.text]

/-- A cell's number fits, its text is a string that may be. -/
def okC (c : CellB) : Prop := -9223372036854775808 ≤ c.int ∧ c.int ≤ 9223372036854775807 ∧ c.text.length ≤ maxLen

/-- A list of cells lies in memory. -/
structure Lies (w : World) (a : Option Addr) (l : List CellB) : Prop where
  ok : ∀ c ∈ l, okC c
  at_ : l ≠ [] → ∃ b off, a = some ⟨b, off, none⟩ ∧ b < w.heap.size ∧ ∀ j (h : j < l.length),
    w.cell? ⟨b, off + j * 3, none⟩ = some (.bool (l[j]).null) ∧ w.cell? ⟨b, off + j * 3 + 1, none⟩ = some (.int .i64 (l[j]).int) ∧ w.cell? ⟨b, off + j * 3 + 2, none⟩ = some (strB (l[j]).text)

theorem Lies.later {w w' : World} {a : Option Addr} {l : List CellB} (h : Lies w a l) (hb : Below w.heap.size w w') : Lies w' a l := by
  refine ⟨h.ok, fun hne => ?_⟩
  obtain ⟨b, off, ha, hlt, hc⟩ := h.at_ hne
  refine ⟨b, off, ha, Nat.lt_of_lt_of_le hlt hb.size, fun j hj => ?_⟩
  obtain ⟨h1, h2, h3⟩ := hc j hj
  exact ⟨(hb.cell (p := ⟨b, _, none⟩) hlt).trans h1, (hb.cell (p := ⟨b, _, none⟩) hlt).trans h2, (hb.cell (p := ⟨b, _, none⟩) hlt).trans h3⟩

end Go.Proofs.YthhpbhpfagoapabGreat
