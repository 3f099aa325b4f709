
/-
  Tables that a caller made to hand over, as they lie in memory.
-/
import Derived.Test.YthhpbhpfagoapabGreatWJob
import Derived.Test.YthhpbhpfagoapabGreatLCells
namespace Go.Proofs.YthhpbhpfagoapabGreat
open Go.RowKit
set_option linter.unusedVariables false
set_option maxRecDepth 100000

/-- Columns as they lie, their lists of cells beside. -/
def colsC (P : List (ColB × Value)) : List Value := P.flatMap fun p => [strB p.1.name, .int .i64 p.1.kind, .int .i64 p.1.key, p.2]

theorem colsC_length (l : List (ColB × Value)) : (colsC l).length = l.length * 4 := flat_length _ 4 (fun _ => rfl) l
theorem colsC_append (a b : List (ColB × Value)) : colsC (a ++ b) = colsC a ++ colsC b := by simp [colsC]
theorem colsC_at (l : List (ColB × Value)) (j : Nat) (h : j < l.length) : (colsC l)[j * 4]? = some (strB (l[j]).1.name) ∧ (colsC l)[j * 4 + 1]? = some (.int .i64 (l[j]).1.kind) ∧ (colsC l)[j * 4 + 2]? = some (.int .i64 (l[j]).1.key) ∧ (colsC l)[j * 4 + 3]? = some (l[j]).2 :=
  ⟨flat_at _ 4 (fun _ => rfl) l j 0 h (by decide), flat_at _ 4 (fun _ => rfl) l j 1 h (by decide), flat_at _ 4 (fun _ => rfl) l j 2 h (by decide), flat_at _ 4 (fun _ => rfl) l j 3 h (by decide)⟩

abbrev markCol : ColB := ⟨[109, 97, 114, 107], -77, 0, []⟩
def markT : ColB × Value := (markCol, .slice none 0 0)
def zeroT : ColB × Value := (⟨[], 0, 0, []⟩, .slice none 0 0)

theorem Tryz.infoColumn : (Tryz.prog.info? 31).map (fun i => (i.zero, i.size, i.bytes)) = some (some (.agg #[.string ⟨#[]⟩, .int .i64 0, .int .i64 0, .slice none 0 0]), 4, 56) := by kernel_rfl

theorem colsC_zero (n : Nat) : colsC (List.replicate n zeroT) = (madeCells (Value.agg #[.string ⟨#[]⟩, .int .i64 0, .int .i64 0, .slice none 0 0]).cells (n * 4)).toList := by
  apply List.ext_getElem?
  intro i
  by_cases h : i < n * 4
  · have hj : i / 4 < (List.replicate n zeroT).length := by simp; omega
    obtain ⟨c1, c2, c3, c4⟩ := colsC_at (List.replicate n zeroT) (i / 4) hj
    simp only [List.getElem_replicate] at c1 c2 c3 c4
    have hm : i % 4 = 0 ∨ i % 4 = 1 ∨ i % 4 = 2 ∨ i % 4 = 3 := by omega
    have hz : (Value.agg #[.string ⟨#[]⟩, .int .i64 0, .int .i64 0, .slice none 0 0]).cells = #[.string ⟨#[]⟩, .int .i64 0, .int .i64 0, .slice none 0 0] := rfl
    rcases hm with hm | hm | hm | hm
    · have e : i = i / 4 * 4 := by omega
      rw [e, c1, hz]
      simp [madeCells, show i / 4 * 4 < n * 4 by omega, zeroT]
    · have e : i = i / 4 * 4 + 1 := by omega
      rw [e, c2, hz]
      simp [madeCells, show i / 4 * 4 + 1 < n * 4 by omega, zeroT, show (i / 4 * 4 + 1) % 4 = 1 by omega]
    · have e : i = i / 4 * 4 + 2 := by omega
      rw [e, c3, hz]
      simp [madeCells, show i / 4 * 4 + 2 < n * 4 by omega, zeroT, show (i / 4 * 4 + 2) % 4 = 2 by omega]
    · have e : i = i / 4 * 4 + 3 := by omega
      rw [e, c4, hz]
      simp [madeCells, show i / 4 * 4 + 3 < n * 4 by omega, zeroT, show (i / 4 * 4 + 3) % 4 = 3 by omega]
  · rw [List.getElem?_eq_none (by rw [colsC_length]; simp; omega), List.getElem?_eq_none (by rw [Array.length_toList, size_madeCells]; omega)]

theorem set4T (A B : List (ColB × Value)) (z p : ColB × Value) : ((((colsC (A ++ z :: B)).set (A.length * 4) (strB p.1.name)).set (A.length * 4 + 1) (.int .i64 p.1.kind)).set (A.length * 4 + 2) (.int .i64 p.1.key)).set (A.length * 4 + 3) p.2 = colsC (A ++ p :: B) := by
  have hA := colsC_length A
  have e1 : ∀ d : ColB × Value, colsC (A ++ d :: B) = colsC A ++ (strB d.1.name :: .int .i64 d.1.kind :: .int .i64 d.1.key :: d.2 :: colsC B) := by intro d; simp [colsC]
  rw [e1, e1, ← hA]
  rw [List.set_append_right _ _ (Nat.le_refl _), List.set_append_right _ _ (by omega), List.set_append_right _ _ (by omega), List.set_append_right _ _ (by omega)]
  simp

theorem set1T (A B : List (ColB × Value)) (c : ColB) (v v' : Value) : (colsC (A ++ (c, v) :: B)).set (A.length * 4 + 3) v' = colsC (A ++ (c, v') :: B) := by
  have hA := colsC_length A
  have e1 : ∀ d : ColB × Value, colsC (A ++ d :: B) = colsC A ++ (strB d.1.name :: .int .i64 d.1.kind :: .int .i64 d.1.key :: d.2 :: colsC B) := by intro d; simp [colsC]
  rw [e1, e1, ← hA]
  rw [List.set_append_right _ _ (by omega)]
  simp

/-- A row of columns of the call's own. -/
abbrev OwnT (W : World) (base g n : Nat) (P : List (ColB × Value)) : Prop := W.ownsRow base 31 4 (.slice (some ⟨g, 0, none⟩) n n) n (colsC P)

theorem OwnT.heap {W : World} {base g n : Nat} {P : List (ColB × Value)} (h : OwnT W base g n P) : ∃ cur, W.heap[g]? = some (.cells cur 31 (0, 0)) := by
  rcases h.2 with ⟨h', _⟩ | ⟨g', cap', cur, h', _, hg, _⟩
  · simp at h'
  · simp only [Value.slice.injEq, Option.some.injEq, Addr.mk.injEq, and_true, true_and] at h'
    obtain ⟨rfl, rfl⟩ := h'
    exact ⟨cur, hg⟩

theorem OwnT.at_ {W : World} {base g n : Nat} {P : List (ColB × Value)} (h : OwnT W base g n P) (j : Nat) (hj : j < P.length) :
    W.cell? ⟨g, j * 4, none⟩ = some (strB (P[j]).1.name) ∧ W.cell? ⟨g, j * 4 + 1, none⟩ = some (.int .i64 (P[j]).1.kind) ∧ W.cell? ⟨g, j * 4 + 2, none⟩ = some (.int .i64 (P[j]).1.key) ∧ W.cell? ⟨g, j * 4 + 3, none⟩ = some (P[j]).2 := by
  have hn := h.1
  rw [colsC_length] at hn
  obtain ⟨h1, h2, h3, h4⟩ := colsC_at P j hj
  exact ⟨by rw [h.cellAt _ (by omega)]; exact h1, by rw [h.cellAt _ (by omega)]; exact h2, by rw [h.cellAt _ (by omega)]; exact h3, by rw [h.cellAt _ (by omega)]; exact h4⟩

/-- A column is set. -/
theorem OwnT.set4 {W : World} {base g n k : Nat} {A B : List (ColB × Value)} {z : ColB × Value} (h : OwnT W base g n (A ++ z :: B)) (hk : A.length = k) (p : ColB × Value) :
    OwnT ((((W.setCell ⟨g, k * 4, none⟩ (strB p.1.name)).setCell ⟨g, k * 4 + 1, none⟩ (.int .i64 p.1.kind)).setCell ⟨g, k * 4 + 2, none⟩ (.int .i64 p.1.key)).setCell ⟨g, k * 4 + 3, none⟩ p.2) base g n (A ++ p :: B) := by
  subst hk
  have h1 := (h.stored (A.length * 4) (strB p.1.name)).1
  have h2 := (h1.stored (A.length * 4 + 1) (.int .i64 p.1.kind)).1
  have h3 := (h2.stored (A.length * 4 + 2) (.int .i64 p.1.key)).1
  have h4 := (h3.stored (A.length * 4 + 3) p.2).1
  rw [set4T] at h4
  exact h4

/-- A column's cells are set. -/
theorem OwnT.set1 {W : World} {base g n k : Nat} {A B : List (ColB × Value)} {c : ColB} {v : Value} (h : OwnT W base g n (A ++ (c, v) :: B)) (hk : A.length = k) (v' : Value) :
    OwnT (W.setCell ⟨g, k * 4 + 3, none⟩ v') base g n (A ++ (c, v') :: B) := by
  subst hk
  have h4 := (h.stored (A.length * 4 + 3) v').1
  rw [set1T] at h4
  exact h4

/-- Cells of the call's own, eight of the caller's behind them. -/
def OwnCells (w : World) (base : Nat) (v : Value) (l : List CellB) : Prop :=
  ∃ g, v = .slice (some ⟨g, 0, none⟩) l.length (l.length + 8) ∧ w.ownsRow base 34 3 (.slice (some ⟨g, 0, none⟩) (l.length + 8) (l.length + 8)) (l.length + 8) (cellsC (marked l 8))

theorem OwnCells.keptT {T : List TypeId} {B : Nat} {w w' : World} {base : Nat} {v : Value} {l : List CellB} (h : OwnCells w base v l) (hk : KeptT T B w w') (hT : ¬ 34 ∈ T) : OwnCells w' base v l := by
  obtain ⟨g, hv, ho⟩ := h
  exact ⟨g, hv, hk.owns ho hT⟩

theorem own_laterT {W W' : World} {base e size n : Nat} {v : Value} {xs : List Value} (h : W.ownsRow base e size v n xs) (hb : Below W.heap.size W W') : W'.ownsRow base e size v n xs :=
  h.kept (bgrown hb) (Classical.em _)

theorem OwnCells.later {w w' : World} {base : Nat} {v : Value} {l : List CellB} (h : OwnCells w base v l) (hb : Below w.heap.size w w') : OwnCells w' base v l := by
  obtain ⟨g, hv, ho⟩ := h
  exact ⟨g, hv, own_laterT ho hb⟩

theorem OwnCells.base_ {w : World} {b b' : Nat} {v : Value} {l : List CellB} (h : OwnCells w b v l) (hb : b' ≤ b) : OwnCells w b' v l := by
  obtain ⟨g, hv, h1, h2⟩ := h
  refine ⟨g, hv, h1, ?_⟩
  rcases h2 with h2 | ⟨g, cap, cur, hv, hg, rest⟩
  · exact .inl h2
  · exact .inr ⟨g, cap, cur, hv, Nat.le_trans hb hg, rest⟩

/-- A table that was made to be handed over: each column's cells are the caller's, and there are marks behind each list. -/
structure HandedT (w : World) (base g : Nat) (t : List ColB) : Prop where
  ex : ∃ P : List (ColB × Value), P.map Prod.fst = t ∧ (∀ p ∈ P, OwnCells w base p.2 p.1.cells) ∧ OwnT w base g (t.length + 8) (P ++ List.replicate 8 markT)

theorem HandedT.later {w w' : World} {base g : Nat} {t : List ColB} (h : HandedT w base g t) (hb : Below w.heap.size w w') : HandedT w' base g t := by
  obtain ⟨P, h1, h2, h3⟩ := h.ex
  exact ⟨P, h1, fun p hp => (h2 p hp).later hb, own_laterT h3 hb⟩

theorem HandedT.keptT {T : List TypeId} {B : Nat} {w w' : World} {base g : Nat} {t : List ColB} (h : HandedT w base g t) (hk : KeptT T B w w') (hT : ¬ 34 ∈ T) (hT2 : ¬ 31 ∈ T) : HandedT w' base g t := by
  obtain ⟨P, h1, h2, h3⟩ := h.ex
  exact ⟨P, h1, fun p hp => (h2 p hp).keptT hk hT, hk.owns h3 hT2⟩

theorem LiesT.parts {w : World} {a : Option Addr} {t : List ColB} (h : LiesT w a t) : ∀ c ∈ t, (∀ x ∈ c.cells, okC x) ∧ c.cells.length * 32 ≤ 140737488351232 := by
  intro c hc
  obtain ⟨k, hk, rfl⟩ := List.mem_iff_getElem.1 hc
  obtain ⟨b, off, _, _, hcell⟩ := h.at_ (List.ne_nil_of_length_pos (by omega))
  obtain ⟨_, _, _, v, _, ca, cap, _, _, hl, hm⟩ := hcell k hk
  exact ⟨hl.ok, hm⟩

/-- What was made lies there. -/
theorem HandedT.lies {w w0 : World} {base g : Nat} {t : List ColB} {a : Option Addr} (h : HandedT w base g t) (hl : LiesT w0 a t) : LiesT w (some ⟨g, 0, none⟩) t := by
  obtain ⟨P, h1, h2, h3⟩ := h.ex
  have hp := hl.parts
  have hlen : P.length = t.length := by rw [← h1, List.length_map]
  refine ⟨hl.ok, fun hne => ⟨g, 0, rfl, (h3.lt g rfl).2, fun j hj => ?_⟩⟩
  have hjP : j < P.length := by omega
  obtain ⟨c1, c2, c3, c4⟩ := h3.at_ j (by rw [List.length_append]; omega)
  rw [List.getElem_append_left hjP] at c1 c2 c3 c4
  have e : P[j].1 = t[j] := by
    have : (P.map Prod.fst)[j]'(by rw [List.length_map]; exact hjP) = t[j] := by simp only [h1]
    simpa using this
  rw [e] at c1 c2 c3
  simp only [Nat.zero_add]
  refine ⟨c1, c2, c3, _, c4, ?_⟩
  obtain ⟨gi, hv, ho⟩ := h2 P[j] (List.getElem_mem _)
  rw [e] at hv ho
  obtain ⟨p1, p2⟩ := hp t[j] (List.getElem_mem _)
  rw [marked_full] at ho
  exact ⟨_, _, hv, by omega, own_prefix ho p1, p2⟩

end Go.Proofs.YthhpbhpfagoapabGreat
