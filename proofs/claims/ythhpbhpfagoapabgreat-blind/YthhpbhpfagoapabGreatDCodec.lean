
/-
  The program's codecs, of numbers and of texts: what they hold.
-/
import Derived.Test.YthhpbhpfagoapabGreatDRuns
import Derived.Laws.EntriesVeiled
namespace Go.Proofs.YthhpbhpfagoapabGreat
open Go.RowKit
set_option linter.unusedVariables false
set_option maxRecDepth 100000

/-- A function as a value. -/
abbrev fnV (k : Nat) : Value := .func (.func k) #[] #[]

/-- The codec of numbers; its ways lie in block g. -/
abbrev numC (g : Nat) : Value := .agg #[.slice (some ⟨g, 0, none⟩) 3 3, fnV 151, fnV 152, fnV 153, fnV 154, fnV 155, fnV 156]
abbrev txtC (g : Nat) : Value := .agg #[.slice (some ⟨g, 0, none⟩) 3 3, fnV 165, fnV 166, fnV 115, fnV 167, fnV 168, fnV 169]

/-- The ways of numbers lie in block g. -/
def NumW (w : World) (g : Nat) : Prop := w.heap[g]? = some (.cells #[.int .u8 0, fnV 145, fnV 146, .int .u8 1, fnV 147, fnV 148, .int .u8 2, fnV 149, fnV 150] 228 (0, 0))
def TxtW (w : World) (g : Nat) : Prop := w.heap[g]? = some (.cells #[.int .u8 0, fnV 159, fnV 160, .int .u8 3, fnV 161, fnV 162, .int .u8 4, fnV 163, fnV 164] 234 (0, 0))

theorem NumW.later {w w' : World} {g : Nat} (h : NumW w g) (hg : g < w.heap.size) (hb : Below w.heap.size w w') : NumW w' g := (hb.block g hg).trans h
theorem TxtW.later {w w' : World} {g : Nat} (h : TxtW w g) (hg : g < w.heap.size) (hb : Below w.heap.size w w') : TxtW w' g := (hb.block g hg).trans h

set_option maxHeartbeats 1000000 in
theorem numbers_any (w : World) :
    Calls Tryz.prog 134 #[] w fun e w' => ∃ g, e = .returned (numC g) ∧ g < w'.heap.size ∧ NumW w' g ∧ Below w.heap.size w w' := by
  go_enter Tryz.func134, Tryz.ntmps134
  go_wp2
  refine bodyPost_ret (v := numC (w.heap.size + 1)) (by simp [results, Tryz.results134, go_sem]) rfl ⟨w.heap.size + 1, rfl, by simp, ?_, ((Below.refl _ _).alloc (Nat.le_refl _) _).alloc (by simp) _⟩
  have := heap_alloc_new (w.alloc (Obj.cells #[Value.slice (some ⟨w.heap.size + 1, 0, none⟩) 3 3, fnV 151, fnV 152, fnV 153, fnV 154, fnV 155, fnV 156] 205)) (Obj.cells #[.int .u8 0, fnV 145, fnV 146, .int .u8 1, fnV 147, fnV 148, .int .u8 2, fnV 149, fnV 150] 228)
  simpa [NumW] using this

set_option maxHeartbeats 1000000 in
theorem texts_any (w : World) :
    Calls Tryz.prog 136 #[] w fun e w' => ∃ g, e = .returned (txtC g) ∧ g < w'.heap.size ∧ TxtW w' g ∧ Below w.heap.size w w' := by
  go_enter Tryz.func136, Tryz.ntmps136
  go_wp2
  refine bodyPost_ret (v := txtC (w.heap.size + 1)) (by simp [results, Tryz.results136, go_sem]) rfl ⟨w.heap.size + 1, rfl, by simp, ?_, ((Below.refl _ _).alloc (Nat.le_refl _) _).alloc (by simp) _⟩
  have := heap_alloc_new (w.alloc (Obj.cells #[Value.slice (some ⟨w.heap.size + 1, 0, none⟩) 3 3, fnV 165, fnV 166, fnV 115, fnV 167, fnV 168, fnV 169] 214)) (Obj.cells #[.int .u8 0, fnV 159, fnV 160, .int .u8 3, fnV 161, fnV 162, .int .u8 4, fnV 163, fnV 164] 234)
  simpa [TxtW] using this

/-- Values of a page: few, small. -/
structure Small (l : List CellB) : Prop where
  small : ∀ c ∈ l, smallC c
  few : l.length ≤ 60
  some_ : l ≠ []

/-- Numbers lie in memory. -/
structure IntsLie (w : World) (b : Nat) (l : List CellB) : Prop where
  lt : b < w.heap.size
  cell : ∀ j (h : j < l.length), w.cell? ⟨b, j, none⟩ = some (.int .i64 (l[j]).int)

/-- Texts lie in memory. -/
structure TextsLie (w : World) (b : Nat) (l : List CellB) : Prop where
  lt : b < w.heap.size
  cell : ∀ j (h : j < l.length), w.cell? ⟨b, j, none⟩ = some (strB (l[j]).text)

theorem IntsLie.later {w w' : World} {b : Nat} {l : List CellB} (h : IntsLie w b l) (hb : Below w.heap.size w w') : IntsLie w' b l :=
  ⟨Nat.lt_of_lt_of_le h.lt hb.size, fun j hj => (hb.cell (p := ⟨b, j, none⟩) h.lt).trans (h.cell j hj)⟩
theorem TextsLie.later {w w' : World} {b : Nat} {l : List CellB} (h : TextsLie w b l) (hb : Below w.heap.size w w') : TextsLie w' b l :=
  ⟨Nat.lt_of_lt_of_le h.lt hb.size, fun j hj => (hb.cell (p := ⟨b, j, none⟩) h.lt).trans (h.cell j hj)⟩

/-- A struct parameter's new block. -/
theorem boxed (w : World) (C : Array Value) (t : TypeId) : Below w.heap.size w (w.alloc (.cells C t)) ∧ (w.alloc (.cells C t)).heap.size = w.heap.size + 1 ∧ ∀ j, (w.alloc (.cells C t)).cell? ⟨w.heap.size, j, none⟩ = C[j]? :=
  ⟨(Below.refl _ _).alloc (Nat.le_refl _) _, by simp, fun j => World.cell?_alloc_mark ..⟩

end Go.Proofs.YthhpbhpfagoapabGreat
