
/-
  Jobs that are made of raw numbers: plain mathematics.
-/
import Derived.Test.YthhpbhpfagoapabGreatKeep
import Derived.Test.YthhpbhpfagoapabGreatWMath
namespace Go.Proofs.YthhpbhpfagoapabGreat
set_option linter.unusedVariables false
set_option maxRecDepth 100000

/-- The i-th raw number of a list, which begins anew at its end. -/
def atB (raw : List Int) (i : Nat) : Int := raw.getD (i % raw.length) 0

def inI64 (x : Int) : Prop := -9223372036854775808 ≤ x ∧ x ≤ 9223372036854775807

theorem atB_range (raw : List Int) (i : Nat) (h : ∀ x ∈ raw, inI64 x) : inI64 (atB raw i) := by
  unfold atB
  rw [List.getD_eq_getElem?_getD]
  cases hq : raw[i % raw.length]? with
  | none => simp [inI64]
  | some x => exact h x (List.mem_of_getElem? hq)

def thirdB (v : Int) : Nat → Int
  | 0 => v
  | k + 1 => thirdB v k / 3

theorem thirdB_range (v : Int) (h0 : 0 ≤ v) (h1 : v ≤ 1099511627776) (k : Nat) : 0 ≤ thirdB v k ∧ thirdB v k ≤ 1099511627776 := by
  induction k with
  | zero => exact ⟨h0, h1⟩
  | succ k ih => obtain ⟨a, b⟩ := ih; simp only [thirdB]; omega

def textTo (v : Int) : Nat → List UInt8
  | 0 => []
  | k + 1 => textTo v k ++ [byB (97 + thirdB v k % 3)]

theorem textTo_length (v : Int) (k : Nat) : (textTo v k).length = k := by
  induction k with
  | zero => rfl
  | succ k ih => simp [textTo, ih]

def textRaw (c : Int) : List UInt8 := textTo (pickB c 1099511627776 / 13) (pickB c 1099511627776 % 13).toNat

theorem textRaw_len (c : Int) : (textRaw c).length ≤ 12 := by
  unfold textRaw; rw [textTo_length]; omega

/-- The cell of a kind that a raw number makes. -/
def cellRaw (kind c : Int) : CellB :=
  if pickB c 1099511627776 % 5 = 0 then ⟨true, 0, []⟩
  else if kind = 1 then ⟨false, 0, textRaw (pickB c 1099511627776 / 5)⟩
  else if pickB c 1099511627776 % 5 = 1 then ⟨false, c, []⟩ else ⟨false, pickB c 1099511627776 / 5 % 40, []⟩

theorem cellRaw_fits (kind c : Int) (hk : kind = 0 ∨ kind = 1) (hc : inI64 c) : fitsB kind (cellRaw kind c) = true ∧ inI64 (cellRaw kind c).int := by
  have ht := textRaw_len (pickB c 1099511627776 / 5)
  unfold cellRaw
  split
  · exact ⟨by simp [fitsB], by simp [inI64]⟩
  · split
    · rename_i h; subst h; exact ⟨by simp [fitsB, ht], by simp [inI64]⟩
    · rename_i h
      have h0 : kind = 0 := by omega
      subst h0
      split
      · exact ⟨by simp [fitsB], hc⟩
      · exact ⟨by simp [fitsB], by simp only [inI64]; omega⟩

def nameRaw (i : Nat) : List UInt8 := [99, UInt8.ofNat (97 + i)]

def rowsRaw (raw : List Int) : Nat := (pickB (atB raw 1) 20).toNat
def colsRaw (raw : List Int) : Nat := (1 + pickB (atB raw 0) 4).toNat
def kindRaw (raw : List Int) (i : Nat) : Int := pickB (atB raw (6 + i)) 2
def colRaw (raw : List Int) (i n : Nat) : ColB :=
  ⟨nameRaw i, kindRaw raw i, pickB (atB raw (10 + i)) 5, (List.range n).map fun k => cellRaw (kindRaw raw i) (atB raw (14 + i * rowsRaw raw + k))⟩
def tableRaw (raw : List Int) (k : Nat) : List ColB := (List.range k).map fun i => colRaw raw i (rowsRaw raw)
def planRaw (raw : List Int) : PlanB := ⟨1 + pickB (atB raw 3) 12, 1 + pickB (atB raw 4) 6, 5, decide (pickB (atB raw 5) 2 = 1)⟩

/-- The job that raw numbers make. -/
def jobRaw (raw : List Int) (pre : List UInt8) : JobB := ⟨tableRaw raw (colsRaw raw), planRaw raw, pre.take 20, pickB (atB raw 2) 65536⟩

theorem colsRaw_range (raw : List Int) : 1 ≤ colsRaw raw ∧ colsRaw raw ≤ 4 := by
  have := pickB_range (atB raw 0) 4 (by decide)
  unfold colsRaw; omega
theorem rowsRaw_range (raw : List Int) : rowsRaw raw ≤ 19 := by
  have := pickB_range (atB raw 1) 20 (by decide)
  unfold rowsRaw; omega
theorem kindRaw_range (raw : List Int) (i : Nat) : kindRaw raw i = 0 ∨ kindRaw raw i = 1 := by
  have := pickB_range (atB raw (6 + i)) 2 (by decide)
  unfold kindRaw; omega
theorem tableRaw_length (raw : List Int) (k : Nat) : (tableRaw raw k).length = k := by simp [tableRaw]
theorem tableRaw_at (raw : List Int) (k i : Nat) (h : i < (tableRaw raw k).length) : (tableRaw raw k)[i] = colRaw raw i (rowsRaw raw) := by simp [tableRaw]

theorem nameRaw_ok {i : Nat} (h : i < 4) : nameOkB (nameRaw i) = true := by
  have : i = 0 ∨ i = 1 ∨ i = 2 ∨ i = 3 := by omega
  rcases this with rfl | rfl | rfl | rfl <;> decide

theorem nameRaw_inj {i k : Nat} (hi : i < 4) (hk : k < 4) (h : nameRaw i = nameRaw k) : i = k := by
  have : i = 0 ∨ i = 1 ∨ i = 2 ∨ i = 3 := by omega
  have : k = 0 ∨ k = 1 ∨ k = 2 ∨ k = 3 := by omega
  rcases ‹i = 0 ∨ _› with rfl | rfl | rfl | rfl <;> rcases ‹k = 0 ∨ _› with rfl | rfl | rfl | rfl <;> first | rfl | (exfalso; revert h; decide)

theorem headsTo_raw (t : List ColB) (n : Nat) (hn : n ≤ t.length) (h4 : t.length ≤ 4) (ht : ∀ k (hk : k < t.length), (t[k]).name = nameRaw k ∧ ((t[k]).kind = 0 ∨ (t[k]).kind = 1) ∧ 0 ≤ (t[k]).key ∧ (t[k]).key ≤ 9) : headsTo t n = true := by
  induction n with
  | zero => rfl
  | succ n ih =>
    have hlt : n < t.length := by omega
    obtain ⟨h1, h2, h3, h4'⟩ := ht n hlt
    simp only [headsTo, ih (by omega), Bool.true_and]
    rw [List.getElem?_eq_getElem hlt]
    simp only [headOkB, h1, nameRaw_ok (show n < 4 by omega), Bool.true_and, Bool.and_eq_true, decide_eq_true_eq, Bool.not_eq_true']
    refine ⟨⟨⟨by omega, by omega⟩, h3, h4'⟩, ?_⟩
    unfold hasNameB
    rw [List.any_eq_false]
    intro c hc
    obtain ⟨k, hk, rfl⟩ := List.mem_iff_getElem.1 hc
    rw [List.length_take] at hk
    rw [List.getElem_take, (ht k (by omega)).1]
    simp only [beq_iff_eq]
    intro e
    have := nameRaw_inj (by omega) (by omega) e
    omega

/-- A table with such heads, whose cells fit, may be. -/
theorem good_raw (t : List ColB) (n : Nat) (h1 : 1 ≤ t.length) (h4 : t.length ≤ 4) (hn : n ≤ 60) (ht : ∀ k (hk : k < t.length), (t[k]).name = nameRaw k ∧ ((t[k]).kind = 0 ∨ (t[k]).kind = 1) ∧ 0 ≤ (t[k]).key ∧ (t[k]).key ≤ 9)
    (hc : ∀ c ∈ t, c.cells.length = n ∧ ∀ x ∈ c.cells, fitsB c.kind x = true ∧ inI64 x.int) : GoodT t := by
  have hr : rowsB t = n := by
    cases t with
    | nil => simp at h1
    | cons c l => exact (hc c (List.mem_cons_self ..)).1
  refine ⟨?_, fun c hc' x hx => ((hc c hc').2 x hx).2⟩
  simp only [tableOkB, headsOkB, Bool.and_eq_true, decide_eq_true_eq, List.all_eq_true]
  refine ⟨⟨headsTo_raw t _ (Nat.le_refl _) h4 ht, h1, by omega⟩, fun c hc' => ?_⟩
  obtain ⟨k, hk, rfl⟩ := List.mem_iff_getElem.1 hc'
  obtain ⟨a, b⟩ := hc _ hc'
  have h2 := (ht k hk).2.1
  simp only [cellsOkB, Bool.and_eq_true, Bool.or_eq_true, decide_eq_true_eq, List.all_eq_true]
  exact ⟨⟨⟨h2, by omega⟩, fun x hx => (b x hx).1⟩, by rw [hr]; exact a⟩

theorem planOk_of {p : PlanB} (h : (1 ≤ p.group ∧ p.group ≤ 60) ∧ ((1 ≤ p.page ∧ p.page ≤ 60) ∧ (1 ≤ p.foot ∧ p.foot ≤ 9))) : planOkB p = true := by
  simp only [planOkB, Bool.and_eq_true, decide_eq_true_eq]
  exact h

theorem planRaw_ok (raw : List Int) : planOkB (planRaw raw) = true := by
  have h1 := pickB_range (atB raw 3) 12 (by decide)
  have h2 := pickB_range (atB raw 4) 6 (by decide)
  refine planOk_of ⟨⟨?_, ?_⟩, ⟨?_, ?_⟩, ?_, ?_⟩ <;> simp only [planRaw] <;> omega

/-- The ring of a raw number, without some. -/
def ringRaw (c without : Int) : List KeyB := (ringB c without 5).map fun x => ⟨(x.1 : Int), x.2⟩

end Go.Proofs.YthhpbhpfagoapabGreat
