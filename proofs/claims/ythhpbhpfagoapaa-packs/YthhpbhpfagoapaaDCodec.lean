/-
  The program's codecs, of numbers and of texts: what they hold.
-/
import Derived.Test.YthhpbhpfagoapaaDRuns
import Derived.Laws.EntriesVeiled
namespace Go.Proofs.Ythhpbhpfagoapaa
open Go.RowKit
set_option linter.unusedVariables false
set_option maxRecDepth 100000

/-- A function as a value. -/
abbrev fnV (k : Nat) : Value := .func (.func k) #[] #[]

/-- The codec of numbers; its ways lie in block g. -/
abbrev numC (g : Nat) : Value := .agg #[.slice (some ⟨g, 0, none⟩) 3 3, fnV 75, fnV 76, fnV 77, fnV 78, fnV 79, fnV 80]
abbrev txtC (g : Nat) : Value := .agg #[.slice (some ⟨g, 0, none⟩) 3 3, fnV 89, fnV 90, fnV 91, fnV 92, fnV 93, fnV 94]

/-- The ways of numbers lie in block g. -/
def NumW (w : World) (g : Nat) : Prop := w.heap[g]? = some (.cells #[.int .u8 0, fnV 69, fnV 70, .int .u8 1, fnV 71, fnV 72, .int .u8 2, fnV 73, fnV 74] 104 (0, 0))
def TxtW (w : World) (g : Nat) : Prop := w.heap[g]? = some (.cells #[.int .u8 0, fnV 83, fnV 84, .int .u8 3, fnV 85, fnV 86, .int .u8 4, fnV 87, fnV 88] 112 (0, 0))

theorem NumW.later {w w' : World} {g : Nat} (h : NumW w g) (hg : g < w.heap.size) (hb : Below w.heap.size w w') : NumW w' g := (hb.block g hg).trans h
theorem TxtW.later {w w' : World} {g : Nat} (h : TxtW w g) (hg : g < w.heap.size) (hb : Below w.heap.size w w') : TxtW w' g := (hb.block g hg).trans h

set_option maxHeartbeats 1000000 in
theorem numbers_any (w : World) :
    Calls Try.prog 50 #[] w fun e w' => ∃ g, e = .returned (numC g) ∧ g < w'.heap.size ∧ NumW w' g ∧ Below w.heap.size w w' := by
  go_enter Try.func50, Try.ntmps50
  go_wp2
  refine bodyPost_ret (v := numC (w.heap.size + 1)) (by simp [results, Try.results50, go_sem]) rfl ⟨w.heap.size + 1, rfl, by simp, ?_, ((Below.refl _ _).alloc (Nat.le_refl _) _).alloc (by simp) _⟩
  have := heap_alloc_new (w.alloc (Obj.cells #[Value.slice (some ⟨w.heap.size + 1, 0, none⟩) 3 3, fnV 75, fnV 76, fnV 77, fnV 78, fnV 79, fnV 80] 74)) (Obj.cells #[.int .u8 0, fnV 69, fnV 70, .int .u8 1, fnV 71, fnV 72, .int .u8 2, fnV 73, fnV 74] 104)
  simpa [NumW] using this

set_option maxHeartbeats 1000000 in
theorem texts_any (w : World) :
    Calls Try.prog 52 #[] w fun e w' => ∃ g, e = .returned (txtC g) ∧ g < w'.heap.size ∧ TxtW w' g ∧ Below w.heap.size w w' := by
  go_enter Try.func52, Try.ntmps52
  go_wp2
  refine bodyPost_ret (v := txtC (w.heap.size + 1)) (by simp [results, Try.results52, go_sem]) rfl ⟨w.heap.size + 1, rfl, by simp, ?_, ((Below.refl _ _).alloc (Nat.le_refl _) _).alloc (by simp) _⟩
  have := heap_alloc_new (w.alloc (Obj.cells #[Value.slice (some ⟨w.heap.size + 1, 0, none⟩) 3 3, fnV 89, fnV 90, fnV 91, fnV 92, fnV 93, fnV 94] 84)) (Obj.cells #[.int .u8 0, fnV 83, fnV 84, .int .u8 3, fnV 85, fnV 86, .int .u8 4, fnV 87, fnV 88] 112)
  simpa [TxtW] using this

/-- Values of a page: few, small. -/
structure Small (l : List CellB) : Prop where
  small : ∀ c ∈ l, smallC c
  few : l.length ≤ 60
  some_ : l ≠ []

/-- Numbers lie in memory. -/
structure IntsLie (w : World) (b : Nat) (l : List CellB) : Prop where
  lt : b < w.heap.size
  cell : ∀ j (h : j < l.length), w.cell? ⟨b, j, none⟩ = some (.int .i64 (l[j]).int)

/-- Texts lie in memory. -/
structure TextsLie (w : World) (b : Nat) (l : List CellB) : Prop where
  lt : b < w.heap.size
  cell : ∀ j (h : j < l.length), w.cell? ⟨b, j, none⟩ = some (strB (l[j]).text)

theorem IntsLie.later {w w' : World} {b : Nat} {l : List CellB} (h : IntsLie w b l) (hb : Below w.heap.size w w') : IntsLie w' b l :=
  ⟨Nat.lt_of_lt_of_le h.lt hb.size, fun j hj => (hb.cell (p := ⟨b, j, none⟩) h.lt).trans (h.cell j hj)⟩
theorem TextsLie.later {w w' : World} {b : Nat} {l : List CellB} (h : TextsLie w b l) (hb : Below w.heap.size w w') : TextsLie w' b l :=
  ⟨Nat.lt_of_lt_of_le h.lt hb.size, fun j hj => (hb.cell (p := ⟨b, j, none⟩) h.lt).trans (h.cell j hj)⟩

/-- A struct parameter's new block. -/
theorem boxed (w : World) (C : Array Value) (t : TypeId) : Below w.heap.size w (w.alloc (.cells C t)) ∧ (w.alloc (.cells C t)).heap.size = w.heap.size + 1 ∧ ∀ j, (w.alloc (.cells C t)).cell? ⟨w.heap.size, j, none⟩ = C[j]? :=
  ⟨(Below.refl _ _).alloc (Nat.le_refl _) _, by simp, fun j => World.cell?_alloc_mark ..⟩

end Go.Proofs.Ythhpbhpfagoapaa
