
/-
  A frame by the types of what lies in memory: blocks ahead of a mark, and all blocks that are not rows of some types, are as they were.
-/
import Derived.Test.YthhpbhpfagoapabGreatJoin
namespace Go.Proofs.YthhpbhpfagoapabGreat
open Go.RowKit
set_option linter.unusedVariables false
set_option maxRecDepth 100000

/-- A row of one of these types. -/
def RowOf (T : List TypeId) (o : Obj) : Prop := ∃ cur t, o = .cells cur t (0, 0) ∧ t ∈ T

/-- Ahead of B, and of all blocks that are no rows of these types, w' is as w was. -/
structure KeptT (T : List TypeId) (B : Nat) (w w' : World) : Prop where
  os : w'.os = w.os
  tape : w'.tape = w.tape
  output : w'.output = w.output
  size : w.heap.size ≤ w'.heap.size
  block : ∀ k, k < B → w'.heap[k]? = w.heap[k]?
  other : ∀ (k : Nat) (o : Obj), w.heap[k]? = some o → ¬ RowOf T o → w'.heap[k]? = some o

variable {T : List TypeId} {B : Nat}

theorem KeptT.refl (T : List TypeId) (B : Nat) (w : World) : KeptT T B w w := ⟨rfl, rfl, rfl, Nat.le_refl _, fun _ _ => rfl, fun _ _ h _ => h⟩

theorem KeptT.trans {a b c : World} (h : KeptT T B a b) (k : KeptT T B b c) : KeptT T B a c :=
  ⟨k.os.trans h.os, k.tape.trans h.tape, k.output.trans h.output, Nat.le_trans h.size k.size, fun i hi => (k.block i hi).trans (h.block i hi), fun i o hi ho => k.other i o (h.other i o hi ho) ho⟩

theorem KeptT.below {a b : World} (h : KeptT T B a b) : Below B a b := ⟨h.os, h.tape, h.output, h.size, h.block⟩

/-- Whatever touches nothing that was there. -/
theorem Below.keptT {a b : World} (h : Below a.heap.size a b) (hB : B ≤ a.heap.size) : KeptT T B a b :=
  ⟨h.os, h.tape, h.output, h.size, fun k hk => h.block k (by omega), fun k o hk _ => (h.block k (Array.getElem?_eq_some_iff.1 hk).1).trans hk⟩

theorem KeptT.drew {a b : World} (h : KeptT T B a b) : KeptT T B a b.drew := ⟨h.os, h.tape, h.output, h.size, h.block, h.other⟩
theorem KeptT.undrew {a b : World} (h : KeptT T B a.drew b) : KeptT T B a b := ⟨h.os, h.tape, h.output, h.size, h.block, h.other⟩

theorem KeptT.alloc {a b : World} (h : KeptT T B a b) (hB : B ≤ b.heap.size) (o : Obj) : KeptT T B a (b.alloc o) :=
  h.trans (Below.keptT ((Below.refl _ _).alloc (Nat.le_refl _) _) hB)

/-- Behind a law that ends in 'grownBy': the row that may have been written is one of these types, from B on. -/
theorem KeptT.grown {a b c : World} {row : Option Nat} (h : KeptT T B a b) (hg : b.grownBy c row) (hB : B ≤ b.heap.size)
    (hr : ∀ k, row = some k → B ≤ k ∧ ∃ o, b.heap[k]? = some o ∧ RowOf T o) : KeptT T B a c := by
  refine h.trans ⟨hg.os, hg.tape, hg.output, hg.size, fun k hk => hg.block k (by omega) (fun e => by have := (hr k e.symm).1; omega), fun k o hk ho => ?_⟩
  rw [hg.block k (Array.getElem?_eq_some_iff.1 hk).1 ?_]
  · exact hk
  · intro e
    obtain ⟨_, o', h1, h2⟩ := hr k e.symm
    rw [hk] at h1
    cases h1
    exact ho h2

theorem rowOf_own {w : World} {base : Nat} {e : TypeId} {size : Nat} {v : Value} {n : Nat} {xs : List Value} (h : w.ownsRow base e size v n xs) (he : e ∈ T) :
    ∀ k, v.ownBlock = some k → base ≤ k ∧ ∃ o, w.heap[k]? = some o ∧ RowOf T o := by
  intro k hk
  rcases h.2 with ⟨rfl, _⟩ | ⟨g, cap, cur, rfl, hb, hg, _⟩
  · simp [Value.ownBlock] at hk
  · simp [Value.ownBlock] at hk
    subst hk
    exact ⟨hb, _, hg, cur, e, rfl, he⟩

/-- A row of another type stays owned. -/
theorem KeptT.owns {w w' : World} {base : Nat} {e : TypeId} {size : Nat} {v : Value} {n : Nat} {xs : List Value} (hk : KeptT T B w w') (h : w.ownsRow base e size v n xs) (he : ¬ e ∈ T) : w'.ownsRow base e size v n xs := by
  refine ⟨h.1, ?_⟩
  rcases h.2 with hn | ⟨g, cap, cur, rfl, hb, hg, rest⟩
  · exact .inl hn
  · refine .inr ⟨g, cap, cur, rfl, hb, hk.other g _ hg ?_, rest⟩
    rintro ⟨cur', t, e1, ht⟩
    cases e1
    exact he ht

/-- A block of another type stays as it is. -/
theorem KeptT.row {w w' : World} {g : Nat} {cur : Array Value} {e : TypeId} (hk : KeptT T B w w') (h : w.heap[g]? = some (.cells cur e (0, 0))) (he : ¬ e ∈ T) : w'.heap[g]? = some (.cells cur e (0, 0)) := by
  refine hk.other g _ h ?_
  rintro ⟨cur', t, e1, ht⟩
  cases e1
  exact he ht

theorem cell_of_heap {w : World} {g j : Nat} {cur : Array Value} {e : TypeId} (h : w.heap[g]? = some (.cells cur e (0, 0))) : w.cell? ⟨g, j, none⟩ = cur[j]? := cell_of_row w g j cur e (0, 0) h

/-- A block's cell is set. -/
theorem KeptT.set {a w : World} {g j : Nat} {cur : Array Value} {e : TypeId} (h : KeptT T B a w) (hg : w.heap[g]? = some (.cells cur e (0, 0))) (hB : B ≤ g) (he : e ∈ T) (v : Value) : KeptT T B a (w.setCell ⟨g, j, none⟩ v) := by
  refine h.trans ⟨rfl, rfl, rfl, by simp, fun k hk => heap_setCell_other w ⟨g, j, none⟩ k v (by simp; omega), fun k o hk ho => ?_⟩
  rw [heap_setCell_other w ⟨g, j, none⟩ k v ?_]
  · exact hk
  · intro e1
    simp only at e1
    subst e1
    rw [hg] at hk
    cases hk
    exact ho ⟨cur, e, rfl, he⟩

/-- Rows of things of several cells each. -/
theorem flat_at {α : Type} (f : α → List Value) (m : Nat) (hf : ∀ x, (f x).length = m) (l : List α) : ∀ (j i : Nat) (hj : j < l.length) (hi : i < m), (l.flatMap f)[j * m + i]? = (f l[j])[i]? := by
  induction l with
  | nil => intro j i hj; simp at hj
  | cons x l ih =>
    intro j i hj hi
    rw [List.flatMap_cons]
    cases j with
    | zero => rw [List.getElem?_append_left (by rw [hf]; omega)]; simp
    | succ j =>
      have hj' : j < l.length := by simpa using hj
      rw [List.getElem?_append_right (by rw [hf, Nat.succ_mul]; omega), hf]
      rw [show (j + 1) * m + i - m = j * m + i by rw [Nat.succ_mul]; omega]
      exact ih j i hj' hi

theorem flat_length {α : Type} (f : α → List Value) (m : Nat) (hf : ∀ x, (f x).length = m) (l : List α) : (l.flatMap f).length = l.length * m := by
  induction l with
  | nil => simp
  | cons x l ih => rw [List.flatMap_cons, List.length_append, hf, ih, List.length_cons, Nat.succ_mul]; omega

/-- A value that was laid down by itself. -/
theorem boxedW (w : World) (C : Array Value) (t : TypeId) : Below w.heap.size w (w.alloc (.cells C t)) ∧ w.heap.size < (w.alloc (.cells C t)).heap.size ∧ (∀ j, (w.alloc (.cells C t)).cell? ⟨w.heap.size, j, none⟩ = C[j]?) ∧ (w.alloc (.cells C t)).heap[w.heap.size]? = some (.cells C t (0, 0)) :=
  ⟨(Below.refl _ _).alloc (Nat.le_refl _) _, by simp, fun j => World.cell?_alloc_mark .., heap_alloc_new w _⟩

theorem self_drew (w : World) : Below w.heap.size w w.drew := below_undrew (Below.refl _ _)

end Go.Proofs.YthhpbhpfagoapabGreat
