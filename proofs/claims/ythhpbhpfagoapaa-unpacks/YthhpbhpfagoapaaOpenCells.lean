/-
  An argument that is a list of cells, opened: its cells as they lie in memory.
-/
import Derived.Test.YthhpbhpfagoapaaRCells
import Derived.ProofKit
import Derived.OpenShut
import Derived.Deep.Slices
import Derived.Deep.Strs
import Derived.SizedLaws
namespace Go.Proofs.Ythhpbhpfagoapaa
open Go.ChangeShapes Go.WideShapes Go.ChangeAt Go.RowKit Go.Deep
set_option linter.unusedVariables false
set_option maxRecDepth 100000

theorem lt_of_cell {w : World} {b o : Nat} {v : Value} (h : w.cell? ⟨b, o, none⟩ = some v) : b < w.heap.size := by
  rcases Nat.lt_or_ge b w.heap.size with h1 | h1
  · exact h1
  · simp [World.cell?, Array.getElem?_eq_none h1] at h

theorem wf_range {x : Int} (h : (Lit.int .i64 x).wf = true) : -9223372036854775808 ≤ x ∧ x ≤ 9223372036854775807 := by
  simp [Lit.wf, IntKind.min, IntKind.max, IntKind.signed, IntKind.bits] at h
  exact ⟨by omega, by omega⟩

theorem Try.cellsCell : Try.prog.cellsOf 48 = 3 := by kernel_rfl
theorem Try.cellsBool : Try.prog.cellsOf 4 = 1 := by kernel_rfl
theorem Try.cellsInt : Try.prog.cellsOf 3 = 1 := by kernel_rfl
theorem Try.cellsString : Try.prog.cellsOf 9 = 1 := by kernel_rfl

/-- One cell, read. -/
theorem open_cell {H : Type} {enc : TypeId × Value → H} {W : World} {base : Nat} {spare : Nat → Bool} {held : Bool} {fuel : Nat} {cs : List Value} {x : DataW H × List MemPlace}
    (h : DataW.trod enc Try.prog W base spare held fuel 48 cs = some x) : ∃ c : CellB, okC c ∧ cs = [.bool c.null, .int .i64 c.int, strB c.text] := by
  obtain ⟨y0, y1, y2, n, hx, hlen, h0, h1, h2⟩ := trod_struct3 Try.underlying48 h
  rw [Try.cellsCell] at hlen
  match cs, hlen with
  | [c0, c1, c2], _ =>
    simp only [Try.cellsBool, Try.cellsInt, Try.cellsString] at h0 h1 h2
    obtain ⟨b, e0, _⟩ := DataW.trod_bool Try.underlying4 h0
    obtain ⟨i, e1, _, wi⟩ := DataW.trod_int Try.underlying3 h1
    obtain ⟨s, e2, _, ws⟩ := DataW.trod_string Try.underlying9 h2
    simp at e0 e1 e2
    subst e0 e1 e2
    obtain ⟨i0, i1⟩ := wf_range wi
    refine ⟨⟨b, i, s.data.toList⟩, ⟨i0, i1, by simpa using ws⟩, ?_⟩
    obtain ⟨⟨t⟩⟩ := s
    rfl

/-- A list of cells, read. -/
theorem open_cells {H : Type} {enc : TypeId × Value → H} {W : World} {fuel len cap : Nat} {a : Option Addr} {x : DataW H × List MemPlace}
    (h : DataW.trod enc Try.prog W 0 (fun _ => true) true fuel 30 [.slice a len cap] = some x) :
    ∃ l : List CellB, l.length = len ∧ len ≤ cap ∧ cap ≤ maxLen ∧ Lies W a l ∧ (len = 0 ∨ ∃ es sp, x.1 = .slice es sp ∧ es.length + sp.length = cap) := by
  rcases open_slice Try.underlying30 h with ⟨hcs, _⟩ | ⟨a', len', cap', m, n, D, Pl, hcs, _, hl, hm, hmm, rfl, hx⟩
  · simp at hcs
    obtain ⟨rfl, rfl, rfl⟩ := hcs
    exact ⟨[], rfl, Nat.le_refl _, by decide, ⟨by simp, fun h => absurd rfl h⟩, .inl rfl⟩
  · simp at hcs
    obtain ⟨rfl, rfl, rfl⟩ := hcs
    simp only [if_true] at hmm
    subst hmm
    rw [Try.cellsCell] at hx
    have each : ∀ i, i < len → ∃ c : CellB, okC c ∧ W.cell? (a'.add (i * 3)) = some (.bool c.null) ∧ W.cell? (a'.add (i * 3 + 1)) = some (.int .i64 c.int) ∧ W.cell? (a'.add (i * 3 + 2)) = some (strB c.text) := by
      intro i hi
      obtain ⟨cs', h1, h2⟩ := hx i (by omega)
      obtain ⟨c, hok, rfl⟩ := open_cell h2
      obtain ⟨_, _, hcell⟩ := World.cells?_some h1
      have e0 := hcell 0 (by omega)
      have e1 := hcell 1 (by omega)
      have e2 := hcell 2 (by omega)
      rw [add_add] at e0 e1 e2
      exact ⟨c, hok, by simpa using e0, by simpa using e1, by simpa using e2⟩
    have inh : Inhabited CellB := ⟨⟨false, 0, []⟩⟩
    obtain ⟨f, hf⟩ := choose_lt each
    refine ⟨(List.range len).map f, by simp, hl, hm, ⟨?_, ?_⟩, .inr ⟨_, _, rfl, by simp; omega⟩⟩
    · intro c hc
      simp only [List.mem_map, List.mem_range] at hc
      obtain ⟨i, hi, rfl⟩ := hc
      exact (hf i hi).1
    · intro hne
      have hp : 0 < len := by
        rcases Nat.eq_zero_or_pos len with h0 | h0
        · subst h0; simp at hne
        · exact h0
      obtain ⟨b, off, spot⟩ := a'
      have hspot : spot = none := by simpa [Addr.add] using World.cell?_spot (hf 0 hp).2.1
      subst hspot
      have hb : b < W.heap.size := by
        have := (hf 0 hp).2.1
        rw [add_plain] at this
        exact lt_of_cell this
      refine ⟨b, off, rfl, hb, fun j hj => ?_⟩
      have hj' : j < len := by simpa using hj
      obtain ⟨_, g1, g2, g3⟩ := hf j hj'
      rw [add_plain] at g1 g2 g3
      simp only [List.getElem_map, List.getElem_range]
      exact ⟨g1, g2, g3⟩

end Go.Proofs.Ythhpbhpfagoapaa
