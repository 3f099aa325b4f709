/-
  What the document's functions on cells do (Fits, Cells, values, row, head), by walks over cells that lie in memory.
-/
import Derived.Test.YthhpbhpfagoapaaGreatRBytes
import Derived.Test.YthhpbhpfagoapaaGreatPCells
namespace Go.Proofs.YthhpbhpfagoapaaGreat
open Go.RowKit
set_option linter.unusedVariables false
set_option maxRecDepth 100000

theorem ret_bool {a b : Bool} (h : a = b) : Ending.returned (.bool a) = .returned (.bool b) := by rw [h]

/-- A cell as a value. -/
abbrev cellV (c : CellB) : Value := .agg #[.bool c.null, .int .i64 c.int, strB c.text]

/-- A cell's number fits, its text is a string that may be. -/
def okC (c : CellB) : Prop := -9223372036854775808 ≤ c.int ∧ c.int ≤ 9223372036854775807 ∧ c.text.length ≤ maxLen

/-- A list of cells lies in memory. -/
structure Lies (w : World) (a : Option Addr) (l : List CellB) : Prop where
  ok : ∀ c ∈ l, okC c
  at_ : l ≠ [] → ∃ b off, a = some ⟨b, off, none⟩ ∧ b < w.heap.size ∧ ∀ j (h : j < l.length),
    w.cell? ⟨b, off + j * 3, none⟩ = some (.bool (l[j]).null) ∧ w.cell? ⟨b, off + j * 3 + 1, none⟩ = some (.int .i64 (l[j]).int) ∧ w.cell? ⟨b, off + j * 3 + 2, none⟩ = some (strB (l[j]).text)

theorem Lies.later {w w' : World} {a : Option Addr} {l : List CellB} (h : Lies w a l) (hb : Below w.heap.size w w') : Lies w' a l := by
  refine ⟨h.ok, fun hne => ?_⟩
  obtain ⟨b, off, ha, hlt, hc⟩ := h.at_ hne
  refine ⟨b, off, ha, Nat.lt_of_lt_of_le hlt hb.size, fun j hj => ?_⟩
  obtain ⟨h1, h2, h3⟩ := hc j hj
  exact ⟨(hb.cell (p := ⟨b, _, none⟩) hlt).trans h1, (hb.cell (p := ⟨b, _, none⟩) hlt).trans h2, (hb.cell (p := ⟨b, _, none⟩) hlt).trans h3⟩

set_option maxHeartbeats 1000000 in
theorem fits_any (kind : Int) (c : CellB) (w : World) (hc : okC c) :
    Calls Tryz.prog 113 #[.int .i64 kind, cellV c] w fun e w' => e = .returned (.bool (fitsB kind c)) ∧ Below w.heap.size w w' := by
  obtain ⟨h0, h1, h2⟩ := hc
  unfold maxLen at h2
  obtain ⟨nl, it, tx⟩ := c
  simp only at h0 h1 h2
  cases nl with
  | true =>
    by_cases hi : it = 0
    · subst hi
      have HF : Hid (fitsB kind ⟨true, 0, tx⟩ = tx.isEmpty) := by simp [Hid, fitsB]
      go_enter Tryz.func113, Tryz.ntmps113
      go_wp2
      go_ret
      exact ⟨ret_bool HF.out.symm, (Below.refl _ _).alloc (Nat.le_refl _) _⟩
    · have hi2 : (it == 0) = false := by simp [hi]
      have HF : Hid (fitsB kind ⟨true, it, tx⟩ = false) := by simp [Hid, fitsB, hi]
      go_enter Tryz.func113, Tryz.ntmps113
      go_wp2
      go_ret
      exact ⟨ret_bool HF.out.symm, (Below.refl _ _).alloc (Nat.le_refl _) _⟩
  | false =>
    by_cases hk : kind = 0
    · subst hk
      have HF : Hid (fitsB 0 ⟨false, it, tx⟩ = tx.isEmpty) := by simp [Hid, fitsB]
      go_enter Tryz.func113, Tryz.ntmps113
      go_wp2
      go_ret
      exact ⟨ret_bool HF.out.symm, (Below.refl _ _).alloc (Nat.le_refl _) _⟩
    · have hk2 : (kind == 0) = false := by simp [hk]
      by_cases hi : it = 0
      · subst hi
        by_cases ht : tx.length ≤ 12
        · have HF : Hid (fitsB kind ⟨false, 0, tx⟩ = true) := by simp [Hid, fitsB, hk, ht]
          clear hk
          go_enter Tryz.func113, Tryz.ntmps113
          go_wp2
          go_ret
          exact ⟨ret_bool (by rw [HF.out]; simp; omega), (Below.refl _ _).alloc (Nat.le_refl _) _⟩
        · have HF : Hid (fitsB kind ⟨false, 0, tx⟩ = false) := by simp [Hid, fitsB, hk, ht]
          clear hk
          go_enter Tryz.func113, Tryz.ntmps113
          go_wp2
          go_ret
          exact ⟨ret_bool (by rw [HF.out]; simp; omega), (Below.refl _ _).alloc (Nat.le_refl _) _⟩
      · have hi2 : (it == 0) = false := by simp [hi]
        have HF : Hid (fitsB kind ⟨false, it, tx⟩ = false) := by simp [Hid, fitsB, hi, hk]
        clear hk hi
        go_enter Tryz.func113, Tryz.ntmps113
        go_wp2
        go_ret
        exact ⟨ret_bool HF.out.symm, (Below.refl _ _).alloc (Nat.le_refl _) _⟩

set_option maxHeartbeats 1000000 in
/-- Cells, of a kind and a number of cells that may be. -/
theorem cells_in (kind : Int) (a : Option Addr) (cap : Nat) (l : List CellB) (w : World) (hk : kind = 0 ∨ kind = 1) (hn : l.length ≤ 60) (hl : Lies w a l) :
    Calls Tryz.prog 51 #[.int .i64 kind, .slice a l.length cap] w fun e w' => e = .returned (.bool (l.all (fitsB kind))) ∧ Below w.heap.size w w' := by
  have Hl := hid hl
  clear hl
  have hk1 : (kind != 0) = false ∨ (kind != 0) = true ∧ (kind != 1) = false := by rcases hk with rfl | rfl <;> simp
  have hni : (l.length : Int) ≤ 60 := by omega
  clear hk
  rcases hk1 with hk0 | ⟨hk0, hk1⟩
  all_goals
    go_enter Tryz.func51, Tryz.ntmps51
    go_wp2
    go_loopw [5] (fun i wr => ∃ k : Nat, k ≤ l.length ∧ i = .int .i64 k ∧ (l.take k).all (fitsB kind) = true ∧ Below w.heap.size w wr) (fun i _ => l.length - (intOf i).toNat)
    case atStart => exact ⟨0, Nat.zero_le _, rfl, rfl, Below.refl _ _⟩
    case round =>
      obtain ⟨k, hkl, rfl, hall, hB⟩ := hrel
      have Hall := hid hall
      clear hall
      by_cases hlt : k < l.length
      · obtain ⟨b, off, rfl, hbw, hcell⟩ := (Hl.out.later hB).at_ (List.ne_nil_of_length_pos (by omega))
        obtain ⟨g1, g2, g3⟩ := hcell k hlt
        clear hcell
        have hokc := Hl.out.ok l[k] (List.getElem_mem hlt)
        have Hok := hid hokc
        clear hokc
        have HT : Hid ((l.take (k + 1)).all (fitsB kind) = fitsB kind l[k]) := by
          show (l.take (k + 1)).all (fitsB kind) = fitsB kind l[k]
          rw [List.take_succ_eq_append_getElem hlt, List.all_append, Hall.out]
          simp
        have HA : Hid (fitsB kind l[k] = false → l.all (fitsB kind) = false) := by
          intro hf
          rw [List.all_eq_false]
          exact ⟨l[k], List.getElem_mem hlt, by simp [hf]⟩
        go_wp2_with fail
        refine (fits_any kind l[k] _ Hok.out).mono ?_
        rintro e w1 ⟨rfl, hb1⟩
        clear g1 g2 g3
        cases hf : fitsB kind l[k] with
        | false =>
          have Hf := hid hf
          clear hf
          go_wp2
          go_ret
          exact ⟨ret_bool (HA.out Hf.out).symm, hB.trans (hb1.mono hB.size)⟩
        | true =>
          have Hf := hid hf
          clear hf
          go_wp2
          go_roundw
          case rel => exact ⟨k + 1, by omega, by go_num, by rw [HT.out]; exact Hf.out, hB.trans (hb1.mono hB.size)⟩
          case measure => simp [intOf]; omega
      · go_wp2
        go_ret
        exact ⟨ret_bool (by rw [← Hall.out, List.take_of_length_le (by omega)]), hB⟩

set_option maxHeartbeats 1000000 in
/-- Cells, of any. -/
theorem cells_any (kind : Int) (a : Option Addr) (cap : Nat) (l : List CellB) (w : World) (hm : l.length ≤ maxLen) (hl : Lies w a l) :
    Calls Tryz.prog 51 #[.int .i64 kind, .slice a l.length cap] w fun e w' => e = .returned (.bool (cellsOkB kind l)) ∧ Below w.heap.size w w' := by
  by_cases hk : kind = 0 ∨ kind = 1
  · by_cases hn : l.length ≤ 60
    · have e : cellsOkB kind l = l.all (fitsB kind) := by
        unfold cellsOkB
        rcases hk with rfl | rfl <;> simp [hn]
      rw [e]
      exact cells_in kind a cap l w hk hn hl
    · have HE : Hid (cellsOkB kind l = false) := by simp [Hid, cellsOkB, hn]
      have hk1 : (kind != 0) = false ∨ (kind != 0) = true ∧ (kind != 1) = false := by rcases hk with rfl | rfl <;> simp
      have hni : (60 : Int) < (l.length : Int) := by omega
      unfold maxLen at hm
      clear hk hl
      rcases hk1 with hk0 | ⟨hk0, hk1⟩
      all_goals
        go_enter Tryz.func51, Tryz.ntmps51
        go_wp2
        go_ret
        exact ⟨ret_bool HE.out.symm, Below.refl _ _⟩
  · have HE : Hid (cellsOkB kind l = false) := by
      have h1 : ¬ kind = 0 := fun h => hk (.inl h)
      have h2 : ¬ kind = 1 := fun h => hk (.inr h)
      simp [Hid, cellsOkB, h1, h2]
    have hk0 : (kind != 0) = true := by rw [bne_iff_ne]; exact fun h => hk (.inl h)
    have hk1 : (kind != 1) = true := by rw [bne_iff_ne]; exact fun h => hk (.inr h)
    clear hk hl
    go_enter Tryz.func51, Tryz.ntmps51
    go_wp2
    go_ret
    exact ⟨ret_bool HE.out.symm, Below.refl _ _⟩

end Go.Proofs.YthhpbhpfagoapaaGreat
