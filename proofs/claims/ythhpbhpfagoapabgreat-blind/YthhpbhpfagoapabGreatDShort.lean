
/-
  What the program's choice of the shortest way does, by walks.
-/
import Derived.Test.YthhpbhpfagoapabGreatDPlaces
namespace Go.Proofs.YthhpbhpfagoapabGreat
open Go.RowKit
set_option linter.unusedVariables false
set_option linter.unusedSimpArgs false
set_option maxRecDepth 100000

theorem way_cell {w : World} {g : Nat} {C : Array Value} {t : TypeId} (h : w.heap[g]? = some (.cells C t (0, 0))) (j : Nat) {v : Value} (hv : C[j]? = some v) : w.cell? ⟨g, j, none⟩ = some v := by
  rw [cell_of_row w g j C t (0, 0) h]
  exact hv

theorem conv_byte (w : World) (q : Nat) (a : Int) (h0 : 0 ≤ a) (h1 : a ≤ 255) (h : w.cell? ⟨q, 0, none⟩ = some (.int .u8 a)) :
    Sem.run Tryz.prog (convert 64 9 (.slice (some ⟨q, 0, none⟩) 1 1)) w = .ok (strB [byB a]) w := by
  refine run_convert_bytes_back (P := Tryz.prog) _ 64 9 5 ⟨q, 0, none⟩ 1 [byB a] Tryz.underlying64 Tryz.underlying5 Tryz.underlying9 ?_
  intro j hj
  match j, hj with
  | 0, _ => simpa [Addr.add, byB_toNat a h0 h1] using h

theorem byteS_any (a : Int) (w : World) (h0 : 0 ≤ a) (h1 : a ≤ 255) :
    Calls Tryz.prog 94 #[.int .u8 a] w fun e w' => e = .returned (strB [byB a]) ∧ Below w.heap.size w w' := by
  have hc := conv_byte (w.alloc (.cells #[.int .u8 a] 5)) w.heap.size a h0 h1 (World.cell?_alloc_mark ..)
  go_enter Tryz.func94, Tryz.ntmps94
  go_wp2
  go_ret
  exact ⟨rfl, (Below.refl _ _).alloc (Nat.le_refl _) _⟩

/-- Join of texts that were just laid down, at a block by its number. -/
theorem join_at (ps : List (List UInt8)) (C : Array Value) (n : Nat) (w : World) (G : Nat) (hG : w.heap.size = G) (hC : C = (strs ps).toArray) (hl : ps.length = n) (hn : n ≤ 1000) (hs : ps.flatten.length ≤ 1000000) :
    Calls Tryz.prog 93 #[.slice (some ⟨G, 0, none⟩) n n] (w.alloc (.cells C 9)) fun e w' => e = .returned (strB ps.flatten) ∧ Below w.heap.size w w' := by
  subst hG
  exact join_lit ps C n w hC hl hn hs

theorem bestTo_ne (kind : Int) (l : List CellB) (k : Nat) : bestTo kind l (k + 1) ≠ [] := by
  induction k with
  | zero => simp [bestTo, candB]
  | succ k ih =>
    rw [bestTo]
    split
    · simp [candB]
    · exact ih

theorem below_self_drew (w : World) : Below w.heap.size w w.drew := below_undrew (Below.refl _ _)

theorem IntsLie.drew {w : World} {b : Nat} {l : List CellB} (h : IntsLie w b l) : IntsLie w.drew b l := h.later (below_self_drew w)
theorem TextsLie.drew {w : World} {b : Nat} {l : List CellB} (h : TextsLie w b l) : TextsLie w.drew b l := h.later (below_self_drew w)
theorem IntsLie.alloc {w : World} {b : Nat} {l : List CellB} (h : IntsLie w b l) (o : Obj) : IntsLie (w.alloc o) b l := h.later ((Below.refl _ _).alloc (Nat.le_refl _) _)
theorem TextsLie.alloc {w : World} {b : Nat} {l : List CellB} (h : TextsLie w b l) (o : Obj) : TextsLie (w.alloc o) b l := h.later ((Below.refl _ _).alloc (Nat.le_refl _) _)

theorem below_alloc {w w' : World} {o : Obj} (h : Below (w.alloc o).heap.size (w.alloc o) w') : Below w.heap.size w w' :=
  ((Below.refl _ _).alloc (Nat.le_refl _) _).trans (h.mono (by simp))

theorem below_alloc_undrew {w w' : World} {o : Obj} (h : Below (w.drew.alloc o).heap.size (w.drew.alloc o) w') : Below w.heap.size w w' :=
  below_undrew (below_alloc h)

theorem mid_cell {w w' : World} {v : Value} {t : TypeId} (h : Below (w.drew.alloc (.cells #[v] t)).heap.size (w.drew.alloc (.cells #[v] t)) w') : w'.cell? ⟨w.heap.size, 0, none⟩ = some v :=
  (h.cell (p := ⟨w.heap.size, 0, none⟩) (by show w.heap.size < (w.drew.alloc (.cells #[v] t)).heap.size; simp)).trans (World.cell?_alloc_mark ..)

abbrev SI (w : World) (G : Nat) (e : Int) (F g B : Nat) : Prop := w.cell? ⟨G, 0, none⟩ = some (.int .u8 e) ∧ w.cell? ⟨G, 1, none⟩ = some (fnV F) ∧ BoxI w g B
abbrev ST (w : World) (G : Nat) (e : Int) (F g B : Nat) : Prop := w.cell? ⟨G, 0, none⟩ = some (.int .u8 e) ∧ w.cell? ⟨G, 1, none⟩ = some (fnV F) ∧ BoxT w g B

theorem sI_later {w w' : World} {G F g B b : Nat} {e : Int} (h : SI w G e F g B) (hb : Below b w w') (hG : G < b) (hl : B < b) : SI w' G e F g B :=
  ⟨(hb.cell (p := ⟨G, 0, none⟩) hG).trans h.1, (hb.cell (p := ⟨G, 1, none⟩) hG).trans h.2.1, boxI_later h.2.2 hb hl⟩
theorem sT_later {w w' : World} {G F g B b : Nat} {e : Int} (h : ST w G e F g B) (hb : Below b w w') (hG : G < b) (hl : B < b) : ST w' G e F g B :=
  ⟨(hb.cell (p := ⟨G, 0, none⟩) hG).trans h.1, (hb.cell (p := ⟨G, 1, none⟩) hG).trans h.2.1, boxT_later h.2.2 hb hl⟩
theorem sI_alloc {w : World} {G F g B : Nat} {e : Int} (o : Obj) (h : SI w G e F g B) : SI (w.alloc o) G e F g B := ⟨cell_alloc_keep o h.1, cell_alloc_keep o h.2.1, boxI_alloc o h.2.2⟩
theorem sT_alloc {w : World} {G F g B : Nat} {e : Int} (o : Obj) (h : ST w G e F g B) : ST (w.alloc o) G e F g B := ⟨cell_alloc_keep o h.1, cell_alloc_keep o h.2.1, boxT_alloc o h.2.2⟩

end Go.Proofs.YthhpbhpfagoapabGreat
