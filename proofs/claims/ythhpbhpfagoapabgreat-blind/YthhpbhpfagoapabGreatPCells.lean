
/-
  Cells, and pages of them, as lists: plain mathematics, nothing of the program.
-/
import Derived.Test.YthhpbhpfagoapabGreatPMath
namespace Go.Proofs.YthhpbhpfagoapabGreat

/-- A cell. -/
structure CellB where
  null : Bool
  int : Int
  text : List UInt8

/-- The document's test of a cell. -/
def fitsB (kind : Int) (c : CellB) : Bool :=
  if c.null = true then c.int == 0 && c.text.isEmpty else if kind = 0 then c.text.isEmpty else c.int == 0 && decide (c.text.length ≤ 12)

/-- The document's test of cells. -/
def cellsOkB (kind : Int) (l : List CellB) : Bool := (decide (kind = 0) || decide (kind = 1)) && decide (l.length ≤ 60) && l.all (fitsB kind)

/-- Their runs: so many of this kind so far. -/
def runsC : Bool → Nat → List CellB → List UInt8
  | _, n, [] => uB n
  | b, n, c :: l => if c.null = b then runsC b (n + 1) l else uB n ++ runsC (!b) 1 l

/-- How many cells at the head are null, or are not. -/
def rowB (b : Bool) : List CellB → Nat
  | [] => 0
  | c :: l => if c.null = b then rowB b l + 1 else 0

theorem rowB_le (b : Bool) (l : List CellB) : rowB b l ≤ l.length := by
  induction l with
  | nil => exact Nat.le_refl _
  | cons c l ih => simp only [rowB, List.length_cons]; split <;> omega

theorem rowB_lt (b : Bool) (l : List CellB) : ∀ m, m < rowB b l → ∃ h : m < l.length, (l[m]).null = b := by
  induction l with
  | nil => intro m h; simp [rowB] at h
  | cons c l ih =>
    intro m h
    simp only [rowB] at h
    split at h
    · cases m with
      | zero => exact ⟨by simp, by assumption⟩
      | succ m =>
        obtain ⟨h1, h2⟩ := ih m (by omega)
        exact ⟨by simp; omega, by simpa using h2⟩
    · omega

theorem rowB_end (b : Bool) (l : List CellB) : ∀ (h : rowB b l < l.length), (l[rowB b l]).null = !b := by
  induction l with
  | nil => intro h; simp [rowB] at h
  | cons c l ih =>
    intro h
    by_cases hc : c.null = b
    · have e : rowB b (c :: l) = rowB b l + 1 := by simp [rowB, hc]
      have h' : rowB b l < l.length := by rw [e] at h; simpa using h
      have := ih h'
      simp only [e, List.getElem_cons_succ]
      exact this
    · have e : rowB b (c :: l) = 0 := by simp [rowB, hc]
      simp only [e, List.getElem_cons_zero]
      cases hn : c.null <;> cases b <;> simp_all

def restRuns (b : Bool) (l : List CellB) : List UInt8 := if l = [] then [] else runsC b 0 l

theorem runsC_row (b : Bool) (l : List CellB) : ∀ n, runsC b n l = uB (n + rowB b l) ++ restRuns (!b) (l.drop (rowB b l)) := by
  induction l with
  | nil => intro n; simp [runsC, rowB, restRuns]
  | cons c l ih =>
    intro n
    by_cases h : c.null = b
    · simp only [runsC, rowB, if_pos h, List.drop_succ_cons]
      rw [ih (n + 1)]
      congr 2
      omega
    · simp only [runsC, rowB, if_neg h, Nat.add_zero, List.drop_zero, restRuns]
      have hb : c.null = !b := by cases hc : c.null <;> cases b <;> simp_all
      simp [hb]

/-- The head of a page. -/
def headB (l : List CellB) : List UInt8 := uB l.length ++ restRuns false l

theorem restRuns_step (b : Bool) (l : List CellB) (h : l ≠ []) : restRuns b l = uB (rowB b l) ++ restRuns (!b) (l.drop (rowB b l)) := by
  rw [restRuns, if_neg h, runsC_row b l 0, Nat.zero_add]

theorem headB_len (l : List CellB) (h : l.length ≤ 60) : (headB l).length ≤ 1000 := by
  have hr : ∀ (l : List CellB) (b : Bool) (n : Nat), n + l.length ≤ 60 → (runsC b n l).length ≤ 10 * (l.length + 1) := by
    intro l
    induction l with
    | nil => intro b n hn; have := uB_len10 n (by simp at hn; omega); simp only [runsC, List.length_nil]; omega
    | cons c l ih =>
      intro b n hn
      simp only [List.length_cons] at hn ⊢
      simp only [runsC]
      split
      · have := ih b (n + 1) (by omega); omega
      · have h1 := uB_len10 n (by omega)
        have h2 := ih (!b) 1 (by omega)
        rw [List.length_append]; omega
  unfold headB restRuns
  have h1 := uB_len10 l.length (by omega)
  rw [List.length_append]
  split
  · simp; omega
  · have := hr l false 0 (by omega); omega

/-- The cells that are not null. -/
def valuesB (l : List CellB) : List CellB := l.filter fun c => !c.null

end Go.Proofs.YthhpbhpfagoapabGreat
