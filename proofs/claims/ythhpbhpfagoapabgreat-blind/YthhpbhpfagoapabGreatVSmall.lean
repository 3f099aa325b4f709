
/-
  Modules of a table: their columns and how many cells they have: plain mathematics.
-/
import Derived.Test.YthhpbhpfagoapabGreatWMath
namespace Go.Proofs.YthhpbhpfagoapabGreat
set_option linter.unusedVariables false

theorem chunk_small {R G P g c : Nat} : ∀ s ∈ chunkSpots R G P g c, s.c = c ∧ s.many ≤ G := by
  intro s hs
  rcases List.mem_append.1 hs with hs | hs
  · simp only [pageSpots, List.mem_map, List.mem_range] at hs
    obtain ⟨k, _, rfl⟩ := hs
    exact ⟨rfl, Nat.le_trans (part_le _ _ _).2 (part_le _ _ _).1⟩
  · simp only [List.mem_cons, List.not_mem_nil, or_false] at hs
    subst hs
    exact ⟨rfl, (part_le _ _ _).1⟩

theorem group_small {R G P g C : Nat} : ∀ s ∈ groupSpots R G P g C, s.c < C ∧ s.many ≤ G := by
  intro s hs
  simp only [groupSpots, List.mem_flatMap, List.mem_range] at hs
  obtain ⟨c, hc, hs⟩ := hs
  obtain ⟨h1, h2⟩ := chunk_small s hs
  exact ⟨by omega, h2⟩

theorem to_small {R C G P n : Nat} : ∀ s ∈ spotsTo R C G P n, s.c < C ∧ s.many ≤ G := by
  intro s hs
  simp only [spotsTo, List.mem_flatMap, List.mem_range] at hs
  obtain ⟨g, _, hs⟩ := hs
  exact group_small s hs

end Go.Proofs.YthhpbhpfagoapabGreat
