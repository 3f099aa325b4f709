/-
  What Pack answers, and what is asked of it.
-/
import Derived.Test.YthhpbhpfagoapaaRCells
import Derived.Test.YthhpbhpfagoapaaPPage
namespace Go.Proofs.Ythhpbhpfagoapaa
open Go.RowKit
set_option linter.unusedVariables false
set_option maxRecDepth 100000

/-- Cells that may be are small. -/
theorem ok_small {kind : Int} {l : List CellB} (h : cellsOkB kind l = true) (hok : ∀ c ∈ l, okC c) : (∀ c ∈ l, smallC c) ∧ l.length ≤ 60 := by
  unfold cellsOkB at h
  simp only [Bool.and_eq_true, Bool.or_eq_true, decide_eq_true_eq, List.all_eq_true] at h
  obtain ⟨⟨hk, hl⟩, hf⟩ := h
  refine ⟨fun c hc => ?_, hl⟩
  obtain ⟨h0, h1, _⟩ := hok c hc
  refine ⟨h0, h1, ?_⟩
  have := hf c hc
  unfold fitsB at this
  split at this
  · simp at this; rw [this.2]; simp
  · split at this
    · simp at this; rw [this]; simp
    · simp at this; exact this.2

/-- What Pack answers. -/
def packS (kind : Int) (l : List CellB) : List UInt8 := if cellsOkB kind l = true then pageB kind l else []
def packE (kind : Int) (l : List CellB) : Int := if cellsOkB kind l = true then 0 else 5

end Go.Proofs.Ythhpbhpfagoapaa
