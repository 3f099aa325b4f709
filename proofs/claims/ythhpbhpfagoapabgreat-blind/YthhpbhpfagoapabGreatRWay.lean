
/-
  What the document's ways of writing values do, by walks: ways 0, 1 and 5.
-/
import Derived.Test.YthhpbhpfagoapabGreatRDiff
import Derived.Deep.DeepCutAuto
namespace Go.Proofs.YthhpbhpfagoapabGreat
open Go.RowKit
set_option linter.unusedVariables false
set_option maxRecDepth 100000

/-- What a round of a way asks of the list, where it lies. -/
structure Vals (w : World) (a : Option Addr) (l : List CellB) : Prop where
  lies : Lies w a l
  small : ∀ c ∈ l, smallC c
  few : l.length ≤ 60

theorem Vals.later {w w' : World} {a : Option Addr} {l : List CellB} (h : Vals w a l) (hb : Below w.heap.size w w') : Vals w' a l := ⟨h.lies.later hb, h.small, h.few⟩

theorem okC_of {c : CellB} (h : smallC c) : okC c := ⟨h.1, h.2.1, by have := h.2.2; unfold maxLen; omega⟩

/-- A block of a cell. -/
def Holds3 (w : World) (g : Nat) (c : CellB) : Prop :=
  w.cell? ⟨g, 0, none⟩ = some (.bool c.null) ∧ w.cell? ⟨g, 1, none⟩ = some (.int .i64 c.int) ∧ w.cell? ⟨g, 2, none⟩ = some (strB c.text)

theorem Holds3.later {w w' : World} {g : Nat} {c : CellB} (h : Holds3 w g c) (hg : g < w.heap.size) (hb : Below w.heap.size w w') : Holds3 w' g c :=
  ⟨(hb.cell (p := ⟨g, _, none⟩) hg).trans h.1, (hb.cell (p := ⟨g, _, none⟩) hg).trans h.2.1, (hb.cell (p := ⟨g, _, none⟩) hg).trans h.2.2⟩

theorem two_blocks (wr : World) (c d : CellB) :
    Holds3 ((wr.alloc (.cells #[.bool c.null, .int .i64 c.int, strB c.text] 34)).alloc (.cells #[.bool d.null, .int .i64 d.int, strB d.text] 34)) wr.heap.size c ∧
    Holds3 ((wr.alloc (.cells #[.bool c.null, .int .i64 c.int, strB c.text] 34)).alloc (.cells #[.bool d.null, .int .i64 d.int, strB d.text] 34)) (wr.heap.size + 1) d ∧
    Below wr.heap.size wr ((wr.alloc (.cells #[.bool c.null, .int .i64 c.int, strB c.text] 34)).alloc (.cells #[.bool d.null, .int .i64 d.int, strB d.text] 34)) ∧
    ((wr.alloc (.cells #[.bool c.null, .int .i64 c.int, strB c.text] 34)).alloc (.cells #[.bool d.null, .int .i64 d.int, strB d.text] 34)).heap.size = wr.heap.size + 2 := by
  refine ⟨⟨?_, ?_, ?_⟩, ⟨?_, ?_, ?_⟩, ((Below.refl _ _).alloc (Nat.le_refl _) _).alloc (by simp) _, by simp⟩
  all_goals simp [go_sem]

end Go.Proofs.YthhpbhpfagoapabGreat
