
/-
  What the document's values, row and head do, by walks.
-/
import Derived.Test.YthhpbhpfagoapabGreatRCells
namespace Go.Proofs.YthhpbhpfagoapabGreat
open Go.RowKit
set_option linter.unusedVariables false
set_option maxRecDepth 100000

/-- Cells as they lie. -/
def cellsC (l : List CellB) : List Value := l.flatMap fun c => [.bool c.null, .int .i64 c.int, strB c.text]

theorem cellsC_length (l : List CellB) : (cellsC l).length = l.length * 3 := by
  induction l with
  | nil => rfl
  | cons c l ih => simp only [cellsC, List.flatMap_cons, List.length_append, List.length_cons, List.length_nil] at ih ⊢; omega

theorem cellsC_append (a b : List CellB) : cellsC (a ++ b) = cellsC a ++ cellsC b := by simp [cellsC]

theorem cellsC_at (l : List CellB) : ∀ (j : Nat) (h : j < l.length), (cellsC l)[j * 3]? = some (.bool (l[j]).null) ∧ (cellsC l)[j * 3 + 1]? = some (.int .i64 (l[j]).int) ∧ (cellsC l)[j * 3 + 2]? = some (strB (l[j]).text) := by
  induction l with
  | nil => intro j h; simp at h
  | cons c l ih =>
    intro j h
    cases j with
    | zero => simp [cellsC]
    | succ j =>
      have hj : j < l.length := by simpa using h
      have e : cellsC (c :: l) = [.bool c.null, .int .i64 c.int, strB c.text] ++ cellsC l := by simp [cellsC]
      obtain ⟨h1, h2, h3⟩ := ih j hj
      rw [e]
      refine ⟨?_, ?_, ?_⟩
      · rw [List.getElem?_append_right (by simp; omega)]
        simpa [show (j + 1) * 3 - 3 = j * 3 by omega] using h1
      · rw [List.getElem?_append_right (by simp; omega)]
        simpa [show (j + 1) * 3 + 1 - 3 = j * 3 + 1 by omega] using h2
      · rw [List.getElem?_append_right (by simp; omega)]
        simpa [show (j + 1) * 3 + 2 - 3 = j * 3 + 2 by omega] using h3

/-- An owned row of cells: the list lies there. -/
theorem own_lies {w : World} {base n : Nat} {v : Value} {l : List CellB} (h : w.ownsRow base 34 3 v n (cellsC l)) (hok : ∀ c ∈ l, okC c) :
    ∃ a cap, v = .slice a l.length cap ∧ n = l.length ∧ Lies w a l := by
  have hn : n = l.length := by have := h.1; rw [cellsC_length] at this; omega
  subst hn
  rcases h.2 with ⟨rfl, h0⟩ | ⟨g, cap, cur, rfl, _, hg, _⟩
  · have : l = [] := List.eq_nil_of_length_eq_zero h0
    subst this
    exact ⟨none, 0, rfl, rfl, hok, fun hne => absurd rfl hne⟩
  · refine ⟨_, _, rfl, rfl, hok, fun _ => ⟨g, 0, rfl, (h.lt g rfl).2, fun j hj => ?_⟩⟩
    obtain ⟨h1, h2, h3⟩ := cellsC_at l j hj
    simp only [Nat.zero_add]
    exact ⟨by rw [h.cellAt (j * 3) (by omega)]; exact h1, by rw [h.cellAt (j * 3 + 1) (by omega)]; exact h2, by rw [h.cellAt (j * 3 + 2) (by omega)]; exact h3⟩

theorem Tryz.infoCell : (Tryz.prog.info? 34).map (fun i => (i.zero, i.size, i.bytes)) = some (some (.agg #[.bool false, .int .i64 0, .string ⟨#[]⟩]), 3, 32) := by kernel_rfl

/-- The cells of a block that was just laid down. -/
theorem cell_laid (w : World) (C : Array Value) (t : TypeId) : ∀ (j : Nat) (u : Value), C.toList[j]? = some u → (w.alloc (.cells C t)).cell? ((⟨w.heap.size, 0, none⟩ : Addr).add j) = some u := by
  intro j u h
  have : (⟨w.heap.size, 0, none⟩ : Addr).add j = ⟨w.heap.size, j, none⟩ := by unfold Addr.add; split <;> simp_all
  rw [this, World.cell?_alloc_mark]
  simpa using h

/-- A step: an owned list of cells grows by one. -/
theorem grow_cell {w wr w2 : World} {v v' : Value} {n : Nat} {l : List CellB} {c : CellB} {o : Obj} (hB : Below w.heap.size w wr) (hn : n = l.length)
    (hl : wr.ownsRow w.heap.size 34 3 v n (cellsC l)) (hl2 : w2.ownsRow w.heap.size 34 3 v' (n + 1) (cellsC l ++ [.bool c.null, .int .i64 c.int, strB c.text])) (hg : (wr.alloc o).grownBy w2 v.ownBlock) :
    w2.ownsRow w.heap.size 34 3 v' (l ++ [c]).length (cellsC (l ++ [c])) ∧ Below w.heap.size w w2 := by
  have hz := hB.size
  subst hn
  refine ⟨?_, (hB.alloc hz o).grown hg (by simp; omega) (fun k hk => (hl.lt k hk).1)⟩
  rw [cellsC_append, List.length_append]
  exact hl2

theorem filter_take (l : List CellB) (k : Nat) (h : k < l.length) : valuesB (l.take (k + 1)) = valuesB (l.take k) ++ (if (l[k]).null = true then [] else [l[k]]) := by
  unfold valuesB
  rw [List.take_succ_eq_append_getElem h, List.filter_append]
  congr 1
  cases hc : (l[k]).null <;> simp [hc]

theorem values_len (l : List CellB) (k : Nat) : (valuesB (l.take k)).length ≤ k := by
  have h1 : (valuesB (l.take k)).length ≤ (l.take k).length := List.length_filter_le _ _
  have h2 : (l.take k).length ≤ k := List.length_take_le _ _
  omega

theorem bool_measure (l : List CellB) (i : Nat) (b : Bool) (h : i < l.length) :
    2 * (l.length - (i + rowB b (l.drop i))) + (if rowB (!b) (l.drop (i + rowB b (l.drop i))) = 0 then 1 else 0) < 2 * (l.length - i) + (if rowB b (l.drop i) = 0 then 1 else 0) := by
  by_cases h0 : rowB b (l.drop i) = 0
  · rw [h0, Nat.add_zero, if_pos rfl]
    have hne : rowB (!b) (l.drop i) ≠ 0 := by
      have hd : l.drop i ≠ [] := by intro e; have := congrArg List.length e; simp at this; omega
      cases hl : l.drop i with
      | nil => exact absurd hl hd
      | cons c t =>
        rw [hl] at h0
        simp only [rowB] at h0 ⊢
        have hc : ¬ c.null = b := by intro e; simp [e] at h0
        have hc2 : c.null = !b := by cases hn : c.null <;> cases b <;> simp_all
        simp [hc2]
    rw [if_neg hne]
    omega
  · rw [if_neg h0]
    have hr := rowB_le b (l.drop i)
    rw [List.length_drop] at hr
    split <;> omega

def boolOf : Value → Bool
  | .bool b => b
  | _ => false

end Go.Proofs.YthhpbhpfagoapabGreat
