
/-
  What the laws' own makers and lookers on cells do (markCell, cellsOf, sameCells, stillCells), by walks.
-/
import Derived.Test.YthhpbhpfagoapabGreatRVals
import Derived.Laws.CopyOwn
import Derived.OwnWalk
import Derived.Deep.QuietTactic
import Derived.BigQuiet
import Derived.WalkSmall
import Derived.Deep.RegionWith
namespace Go.Proofs.YthhpbhpfagoapabGreat
open Go.RowKit
set_option linter.unusedVariables false
set_option maxRecDepth 100000

/-- What a caller has in the spare room of cells. -/
def markC : CellB := ⟨false, -77, [109, 97, 114, 107]⟩

/-- 'copy' of elements of several cells, into a row of the call's own. -/
theorem run_copy_wide (w : World) (dT sT ty elem : TypeId) (g dLen dCap size : Nat) (a : Addr) (sLen sCap : Nat) (cur : Array Value) (t : TypeId) (cs : List Value)
    (hu : Tryz.prog.underlying dT = some (.slice elem)) (hs : (Tryz.prog.info? elem).map (·.size) = some size)
    (hg : w.heap[g]? = some (.cells cur t (0, 0))) (hn : cs.length = Nat.min sLen dLen * size)
    (hsrc : ∀ j v, cs[j]? = some v → w.cell? (a.add j) = some v) (hfit : cs.length ≤ cur.size) (h1 : ∀ v ∈ cs, v.oneCell' = true) :
    (Builtin.copy_ #[dT, sT] ty #[.slice (some ⟨g, 0, none⟩) dLen dCap, .slice (some a) sLen sCap]).run Tryz.prog w =
      .ok (goInt (Nat.min sLen dLen)) (w.setRow g (cs ++ cur.toList.drop cs.length).toArray) := by
  have hl := run_loadCells_list (P := Tryz.prog) w a cs hsrc
  have hst := run_storeCells_at Tryz.prog g 0 t cs 0 cur w hg (by simpa using hfit) h1
  cases hq : Tryz.prog.info? elem with
  | none => simp [hq] at hs
  | some i =>
    have hi : i.size = size := by simpa [hq] using hs
    simp only [Nat.zero_add, List.take_zero, List.nil_append] at hst
    simp [Builtin.copy_, run_underlying hu, Builtin.lenOf, Builtin.firstCells, sizeOf, typeInfo, hq, hi, ← hn, hl, hst]

theorem run_copy_none (w : World) (dT sT ty elem : TypeId) (g dLen dCap size sCap : Nat)
    (hu : Tryz.prog.underlying dT = some (.slice elem)) (hs : (Tryz.prog.info? elem).map (·.size) = some size) :
    (Builtin.copy_ #[dT, sT] ty #[.slice (some ⟨g, 0, none⟩) dLen dCap, .slice none 0 sCap]).run Tryz.prog w = .ok (goInt 0) w := by
  cases hq : Tryz.prog.info? elem with
  | none => simp [hq] at hs
  | some i => simp [Builtin.copy_, run_underlying hu, Builtin.lenOf, Builtin.firstCells, sizeOf, typeInfo, hq, storeCells]

/-- The cells of a list, where it lies. -/
theorem Lies.cells {w : World} {b off : Nat} {l : List CellB} (h : ∀ j (h : j < l.length),
    w.cell? ⟨b, off + j * 3, none⟩ = some (.bool (l[j]).null) ∧ w.cell? ⟨b, off + j * 3 + 1, none⟩ = some (.int .i64 (l[j]).int) ∧ w.cell? ⟨b, off + j * 3 + 2, none⟩ = some (strB (l[j]).text)) :
    ∀ i v, (cellsC l)[i]? = some v → w.cell? ((⟨b, off, none⟩ : Addr).add i) = some v := by
  intro i v hi
  have hil : i < (cellsC l).length := (List.getElem?_eq_some_iff.1 hi).1
  rw [cellsC_length] at hil
  have hj : i / 3 < l.length := by omega
  obtain ⟨h1, h2, h3⟩ := h (i / 3) hj
  obtain ⟨c1, c2, c3⟩ := cellsC_at l (i / 3) hj
  have ha : (⟨b, off, none⟩ : Addr).add i = ⟨b, off + i, none⟩ := by unfold Addr.add; split <;> simp_all
  rw [ha]
  have hm : i % 3 = 0 ∨ i % 3 = 1 ∨ i % 3 = 2 := by omega
  rcases hm with hm | hm | hm
  · have e : i = i / 3 * 3 := by omega
    rw [e] at hi ⊢
    rw [c1] at hi
    rw [h1]; exact hi
  · have e : i = i / 3 * 3 + 1 := by omega
    rw [e] at hi ⊢
    rw [c2] at hi
    rw [← Nat.add_assoc, h2]; exact hi
  · have e : i = i / 3 * 3 + 2 := by omega
    rw [e] at hi ⊢
    rw [c3] at hi
    rw [← Nat.add_assoc, h3]; exact hi

theorem cellsC_one (l : List CellB) : ∀ v ∈ cellsC l, v.oneCell' = true := by
  intro v hv
  simp only [cellsC, List.mem_flatMap] at hv
  obtain ⟨c, _, hc⟩ := hv
  simp at hc
  rcases hc with rfl | rfl | rfl <;> rfl

theorem sizeCell : (Tryz.prog.info? 34).map (·.size) = some 3 := by kernel_rfl

theorem copy_cells (w : World) (ty : TypeId) (g n : Nat) (sa : Option Addr) (scap base : Nat) (l : List CellB) (xs : List Value) (hln : l.length ≤ n)
    (hown : w.ownsRow base 34 3 (.slice (some ⟨g, 0, none⟩) n n) n xs) (hl : Lies w sa l) :
    ∃ w', (Builtin.copy_ #[29, 29] ty #[.slice (some ⟨g, 0, none⟩) n n, .slice sa l.length scap]).run Tryz.prog w = .ok (goInt l.length) w' ∧
      w'.ownsRow base 34 3 (.slice (some ⟨g, 0, none⟩) n n) n (cellsC l ++ xs.drop (l.length * 3)) ∧ w.grownBy w' (some g) := by
  obtain ⟨hlen, hrow⟩ := hown
  rcases hrow with ⟨h', _⟩ | ⟨g', cap', cur, h', hb, hg, hnc, hcm, hcs, htake⟩
  · simp at h'
  simp only [Value.slice.injEq, Option.some.injEq, Addr.mk.injEq, and_true, true_and] at h'
  obtain ⟨rfl, rfl⟩ := h'
  have hcl := cellsC_length l
  have hfull : cur.toList = xs := by rw [← htake, List.take_of_length_le (by rw [Array.length_toList, hcs]; exact Nat.le_refl _)]
  have hmin : Nat.min l.length n = l.length := Nat.min_eq_left hln
  by_cases hne : l = []
  · subst hne
    have hown1 : w.ownsRow base 34 3 (.slice (some ⟨g, 0, none⟩) n n) n xs := ⟨hlen, .inr ⟨g, n, cur, rfl, hb, hg, hnc, hcm, hcs, htake⟩⟩
    have e1 : cellsC [] ++ xs.drop (([] : List CellB).length * 3) = xs := by simp [cellsC]
    have hown0 : w.ownsRow base 34 3 (.slice (some ⟨g, 0, none⟩) n n) n (cellsC [] ++ xs.drop (([] : List CellB).length * 3)) := by rw [e1]; exact hown1
    cases sa with
    | none => exact ⟨w, run_copy_none w 29 29 ty 34 g n n 3 scap Tryz.underlying29 sizeCell, hown0, World.grownBy.refl _ _⟩
    | some ad =>
      have hrun := run_copy_wide w 29 29 ty 34 g n n 3 ad 0 scap cur 34 [] Tryz.underlying29 sizeCell hg (by simp) (by simp) (by simp) (by simp)
      have hself : w.setRow g (([] : List Value) ++ cur.toList.drop ([] : List Value).length).toArray = w := by
        simpa using setRow_self w g cur 34 (0, 0) hg
      rw [hself] at hrun
      have e0 : Nat.min 0 n = 0 := Nat.min_eq_left (Nat.zero_le _)
      rw [e0] at hrun
      exact ⟨w, hrun, hown0, World.grownBy.refl _ _⟩
  · obtain ⟨b, off, rfl, hbw, hcell⟩ := hl.at_ hne
    have hrun := run_copy_wide w 29 29 ty 34 g n n 3 ⟨b, off, none⟩ l.length scap cur 34 (cellsC l) Tryz.underlying29 sizeCell hg (by rw [hmin, hcl]) (Lies.cells hcell) (by rw [hcl, hcs]; omega) (cellsC_one l)
    rw [hmin, hfull] at hrun
    refine ⟨_, hrun, ⟨?_, .inr ⟨g, n, _, rfl, hb, setRow_heap w g cur _ 34 _ hg, hnc, hcm, ?_, ?_⟩⟩, ⟨rfl, rfl, rfl, by simp, fun k _ hk => setRow_other w g k _ (fun e => hk (by simp [e]))⟩⟩
    · rw [List.length_append, List.length_drop, hcl, hlen]; omega
    · simp only [List.size_toArray, List.length_append, List.length_drop, hcl, hlen]; omega
    · rw [List.toList_toArray, hcl, List.take_of_length_le (by rw [List.length_append, List.length_drop, hcl, hlen]; omega)]

def zeroC : CellB := ⟨false, 0, []⟩

/-- What a maker of cells has after k marks. -/
def marked (l : List CellB) (k : Nat) : List CellB := l ++ List.replicate k markC ++ List.replicate (8 - k) zeroC

theorem cellsC_zero (n : Nat) : cellsC (List.replicate n zeroC) = (madeCells (Value.agg #[.bool false, .int .i64 0, .string ⟨#[]⟩]).cells (n * 3)).toList := by
  apply List.ext_getElem?
  intro i
  by_cases h : i < n * 3
  · have hj : i / 3 < (List.replicate n zeroC).length := by simp; omega
    obtain ⟨c1, c2, c3⟩ := cellsC_at (List.replicate n zeroC) (i / 3) hj
    simp only [List.getElem_replicate] at c1 c2 c3
    have hm : i % 3 = 0 ∨ i % 3 = 1 ∨ i % 3 = 2 := by omega
    have hz : (Value.agg #[.bool false, .int .i64 0, .string ⟨#[]⟩]).cells = #[.bool false, .int .i64 0, .string ⟨#[]⟩] := rfl
    rcases hm with hm | hm | hm
    · have e : i = i / 3 * 3 := by omega
      rw [e, c1, hz]
      simp [madeCells, show i / 3 * 3 < n * 3 by omega, zeroC]
    · have e : i = i / 3 * 3 + 1 := by omega
      rw [e, c2, hz]
      simp [madeCells, show i / 3 * 3 + 1 < n * 3 by omega, zeroC, show (i / 3 * 3 + 1) % 3 = 1 by omega]
    · have e : i = i / 3 * 3 + 2 := by omega
      rw [e, c3, hz]
      simp [madeCells, show i / 3 * 3 + 2 < n * 3 by omega, zeroC, show (i / 3 * 3 + 2) % 3 = 2 by omega]
  · rw [List.getElem?_eq_none (by rw [cellsC_length]; simp; omega), List.getElem?_eq_none (by rw [Array.length_toList, size_madeCells]; omega)]

theorem copied (l : List CellB) : cellsC l ++ (cellsC (List.replicate (l.length + 8) zeroC)).drop (l.length * 3) = cellsC (marked l 0) := by
  have e : List.replicate (l.length + 8) zeroC = List.replicate l.length zeroC ++ List.replicate 8 zeroC := by rw [List.replicate_append_replicate]
  rw [e, cellsC_append, List.drop_left' (by rw [cellsC_length]; simp)]
  simp [marked, cellsC_append]

theorem set3 (A B : List CellB) (z c : CellB) : (((cellsC (A ++ z :: B)).set (A.length * 3) (.bool c.null)).set (A.length * 3 + 1) (.int .i64 c.int)).set (A.length * 3 + 2) (strB c.text) = cellsC (A ++ c :: B) := by
  have hA := cellsC_length A
  have e1 : ∀ d : CellB, cellsC (A ++ d :: B) = cellsC A ++ (.bool d.null :: .int .i64 d.int :: strB d.text :: cellsC B) := by intro d; simp [cellsC]
  rw [e1, e1, ← hA]
  rw [List.set_append_right _ _ (Nat.le_refl _), List.set_append_right _ _ (by omega), List.set_append_right _ _ (by omega)]
  simp

theorem marked_step (l : List CellB) (k : Nat) (hk : k < 8) : marked l k = (l ++ List.replicate k markC) ++ zeroC :: List.replicate (7 - k) zeroC ∧ marked l (k + 1) = (l ++ List.replicate k markC) ++ markC :: List.replicate (7 - k) zeroC := by
  unfold marked
  constructor
  · rw [show 8 - k = (7 - k) + 1 by omega, List.replicate_succ]
  · rw [show 8 - (k + 1) = 7 - k by omega, List.replicate_succ']
    simp

theorem mark_step {W : World} {base g : Nat} {l : List CellB} {k : Nat} (hk : k < 8) (h : W.ownsRow base 34 3 (.slice (some ⟨g, 0, none⟩) (l.length + 8) (l.length + 8)) (l.length + 8) (cellsC (marked l k))) :
    (((W.setCell ⟨g, (l.length + k) * 3, none⟩ (.bool markC.null)).setCell ⟨g, (l.length + k) * 3 + 1, none⟩ (.int .i64 markC.int)).setCell ⟨g, (l.length + k) * 3 + 2, none⟩ (strB markC.text)).ownsRow base 34 3 (.slice (some ⟨g, 0, none⟩) (l.length + 8) (l.length + 8)) (l.length + 8) (cellsC (marked l (k + 1))) := by
  have h1 := (h.stored ((l.length + k) * 3) (.bool markC.null)).1
  have h2 := (h1.stored ((l.length + k) * 3 + 1) (.int .i64 markC.int)).1
  have h3 := (h2.stored ((l.length + k) * 3 + 2) (strB markC.text)).1
  obtain ⟨e1, e2⟩ := marked_step l k hk
  rw [e1] at h3
  rw [e2, ← set3 (l ++ List.replicate k markC) (List.replicate (7 - k) zeroC) zeroC markC]
  have hl : (l ++ List.replicate k markC).length = l.length + k := by simp
  rw [hl]
  exact h3

/-- The cells of an owned row: they are there. -/
theorem row_at {W : World} {base g n : Nat} {xs : List Value} (h : W.ownsRow base 34 3 (.slice (some ⟨g, 0, none⟩) n n) n xs) (j : Nat) (hj : j < n) :
    (∃ v, W.cell? ⟨g, j * 3, none⟩ = some v) ∧ (∃ v, W.cell? ⟨g, j * 3 + 1, none⟩ = some v) ∧ (∃ v, W.cell? ⟨g, j * 3 + 2, none⟩ = some v) := by
  have hl := h.1
  refine ⟨?_, ?_, ?_⟩
  · rw [h.cellAt (j * 3) (by omega), List.getElem?_eq_getElem (by omega)]; exact ⟨_, rfl⟩
  · rw [h.cellAt (j * 3 + 1) (by omega), List.getElem?_eq_getElem (by omega)]; exact ⟨_, rfl⟩
  · rw [h.cellAt (j * 3 + 2) (by omega), List.getElem?_eq_getElem (by omega)]; exact ⟨_, rfl⟩

/-- The beginning of an owned row of cells lies there. -/
theorem own_prefix {W : World} {base g n : Nat} {l r : List CellB} (h : W.ownsRow base 34 3 (.slice (some ⟨g, 0, none⟩) n n) n (cellsC (l ++ r))) (hok : ∀ c ∈ l, okC c) : Lies W (some ⟨g, 0, none⟩) l := by
  refine ⟨hok, fun hne => ⟨g, 0, rfl, (h.lt g rfl).2, fun j hj => ?_⟩⟩
  have hn := h.1
  rw [cellsC_length, List.length_append] at hn
  obtain ⟨h1, h2, h3⟩ := cellsC_at (l ++ r) j (by rw [List.length_append]; omega)
  rw [List.getElem_append_left hj] at h1 h2 h3
  simp only [Nat.zero_add]
  exact ⟨by rw [h.cellAt (j * 3) (by omega)]; exact h1, by rw [h.cellAt (j * 3 + 1) (by omega)]; exact h2, by rw [h.cellAt (j * 3 + 2) (by omega)]; exact h3⟩

theorem marked_full (l : List CellB) : marked l 8 = l ++ List.replicate 8 markC := by simp [marked]

theorem mark_cells {W : World} {base g : Nat} {l : List CellB} (h : W.ownsRow base 34 3 (.slice (some ⟨g, 0, none⟩) (l.length + 8) (l.length + 8)) (l.length + 8) (cellsC (marked l 8))) (k : Nat) (hk : k < 8) :
    W.cell? ⟨g, (l.length + k) * 3, none⟩ = some (.bool markC.null) ∧ W.cell? ⟨g, (l.length + k) * 3 + 1, none⟩ = some (.int .i64 markC.int) ∧ W.cell? ⟨g, (l.length + k) * 3 + 2, none⟩ = some (strB markC.text) := by
  rw [marked_full] at h
  obtain ⟨h1, h2, h3⟩ := cellsC_at (l ++ List.replicate 8 markC) (l.length + k) (by simp; omega)
  have e : (l ++ List.replicate 8 markC)[l.length + k]'(by simp; omega) = markC := by rw [List.getElem_append_right (by omega)]; simp only [List.getElem_replicate]
  rw [e] at h1 h2 h3
  exact ⟨by rw [h.cellAt _ (by omega)]; exact h1, by rw [h.cellAt _ (by omega)]; exact h2, by rw [h.cellAt _ (by omega)]; exact h3⟩

end Go.Proofs.YthhpbhpfagoapabGreat
