/-
  Values are read back from each way of writing: plain mathematics, nothing of the program.
-/
import Derived.Test.YthhpbhpfagoapaaPBack
import Derived.Test.YthhpbhpfagoapaaPPage
namespace Go.Proofs.Ythhpbhpfagoapaa
open Go.RowKit

/-- A round of the document's guess: the value, how many times, what is left. -/
def stepG (kind : Int) (e : Nat) (words : List (List UInt8)) (n len : Nat) (last : CellB) (st : Option (List UInt8)) : CellB × Nat × Option (List UInt8) :=
  if kind = 0 ∧ e = 0 then (⟨false, (bR st).1, []⟩, 1, (bR st).2)
  else if kind = 0 ∧ e = 1 then (⟨false, wrap64 (last.int + zOf (uR st).1), []⟩, 1, (uR st).2)
  else if kind = 0 ∧ e = 2 then (⟨false, zOf (uR (fewR (n - len) st).2).1, []⟩, (fewR (n - len) st).1, if (fewR (n - len) st).1 = 0 then none else (uR (fewR (n - len) st).2).2)
  else if kind = 1 ∧ e = 0 then (⟨false, 0, (xR 12 st).1⟩, 1, (xR 12 st).2)
  else if kind = 1 ∧ e = 3 ∧ words ≠ [] then (⟨false, 0, words.getD (fewR (words.length - 1) st).1 []⟩, 1, (fewR (words.length - 1) st).2)
  else if kind = 1 ∧ e = 4 then (⟨false, 0, last.text.take (fewR last.text.length st).1 ++ (xR 12 (fewR last.text.length st).2).1⟩, 1, (xR 12 (fewR last.text.length st).2).2)
  else (⟨false, 0, []⟩, 1, none)

def guessF (kind : Int) (e : Nat) (words : List (List UInt8)) (n : Nat) : Nat → List CellB → CellB → Option (List UInt8) → List CellB × Option (List UInt8)
  | 0, l, _, st => (l, st)
  | f + 1, l, last, st =>
    if l.length < n ∧ st.isSome = true then
      guessF kind e words n f (l ++ List.replicate (stepG kind e words n l.length last st).2.1 (stepG kind e words n l.length last st).1) (stepG kind e words n l.length last st).1 (stepG kind e words n l.length last st).2.2
    else (l, st)

/-- What a way writes from the i-th value on, for k values. -/
def tailB (w : Nat) (v : List CellB) : Nat → Nat → List UInt8
  | _, 0 => []
  | i, k + 1 => stepB w v i ++ tailB w v (i + 1) k

theorem steps_tail (w : Nat) (v : List CellB) : ∀ (k i : Nat), stepsTo w v (i + k) = stepsTo w v i ++ tailB w v i k := by
  intro k
  induction k with
  | zero => intro i; simp [tailB]
  | succ k ih =>
    intro i
    rw [show i + (k + 1) = (i + 1) + k by omega, ih (i + 1)]
    simp [stepsTo, tailB]

theorem steps_all (w : Nat) (v : List CellB) : stepsTo w v v.length = tailB w v 0 v.length := by
  have := steps_tail w v v.length 0
  simpa [stepsTo] using this

/-- A way whose rounds each give one value. -/
theorem guess_one (kind : Int) (e w : Nat) (words : List (List UInt8)) (v : List CellB) (r : List UInt8)
    (hstep : ∀ i (h : i < v.length) (rest : List UInt8), stepG kind e words v.length i (prevB v i) (some (stepB w v i ++ rest)) = (v[i], 1, some rest)) :
    ∀ (k i : Nat), i + k = v.length → guessF kind e words v.length (k + 1) (v.take i) (prevB v i) (some (tailB w v i k ++ r)) = (v, some r) := by
  intro k
  induction k with
  | zero =>
    intro i hi
    have hl : (v.take i).length = v.length := by rw [List.length_take]; omega
    simp only [guessF, tailB, List.nil_append]
    rw [if_neg (by rw [hl]; omega)]
    rw [List.take_of_length_le (by omega)]
  | succ k ih =>
    intro i hi
    have hlt : i < v.length := by omega
    have hl : (v.take i).length = i := by rw [List.length_take]; omega
    rw [guessF, if_pos (by rw [hl]; exact ⟨hlt, rfl⟩), hl]
    simp only [tailB, List.append_assoc]
    rw [hstep i hlt (tailB w v (i + 1) k ++ r)]
    have e1 : v.take i ++ List.replicate 1 v[i] = v.take (i + 1) := by rw [List.take_succ_eq_append_getElem hlt]; rfl
    have e2 : v[i] = prevB v (i + 1) := by
      unfold prevB
      rw [if_neg (by omega), Nat.add_sub_cancel, nthB_at v i hlt]
    simp only [e1]
    rw [e2]
    exact ih (i + 1) (by omega)

/-- Numbers that are not null. -/
def intV (c : CellB) : Prop := c.null = false ∧ c.text = [] ∧ -9223372036854775808 ≤ c.int ∧ c.int ≤ 9223372036854775807
/-- Texts that are not null. -/
def textV (c : CellB) : Prop := c.null = false ∧ c.int = 0 ∧ c.text.length ≤ 12

theorem intV_eq {c : CellB} (h : intV c) : c = ⟨false, c.int, []⟩ := by
  obtain ⟨n, i, t⟩ := c
  obtain ⟨h1, h2, _⟩ := h
  simp at h1 h2
  subst h1 h2
  rfl

theorem textV_eq {c : CellB} (h : textV c) : c = ⟨false, 0, c.text⟩ := by
  obtain ⟨n, i, t⟩ := c
  obtain ⟨h1, h2, _⟩ := h
  simp at h1 h2
  subst h1 h2
  rfl

theorem guess0 (v : List CellB) (r : List UInt8) (hv : ∀ c ∈ v, intV c) : guessF 0 0 [] v.length (v.length + 1) [] cellD (some (tailB 0 v 0 v.length ++ r)) = (v, some r) := by
  have := guess_one 0 0 0 [] v r (fun i h rest => by
    have hc := hv v[i] (List.getElem_mem h)
    have hs : stepB 0 v i = bB (v[i]).int := by show bB (nthB v i).int = _; rw [nthB_at v i h]
    unfold stepG
    rw [if_pos ⟨rfl, rfl⟩, hs, bR_bB _ rest hc.2.2.1 hc.2.2.2]
    exact Prod.ext (intV_eq hc).symm rfl) v.length 0 (by omega)
  simpa [prevB] using this

theorem wrap_back (a b : Int) (h0 : -9223372036854775808 ≤ b) (h1 : b ≤ 9223372036854775807) : wrap64 (a + wrap64 (b - a)) = b := by
  unfold wrap64; omega

theorem guess1 (v : List CellB) (r : List UInt8) (hv : ∀ c ∈ v, intV c) : guessF 0 1 [] v.length (v.length + 1) [] cellD (some (tailB 1 v 0 v.length ++ r)) = (v, some r) := by
  have := guess_one 0 1 1 [] v r (fun i h rest => by
    have hc := hv v[i] (List.getElem_mem h)
    have hs : stepB 1 v i = zB (wrap64 ((v[i]).int - (prevB v i).int)) := by show zB (wrap64 ((nthB v i).int - (prevB v i).int)) = _; rw [nthB_at v i h]
    have hr := wrap64_range ((v[i]).int - (prevB v i).int)
    unfold stepG
    rw [if_neg (by omega), if_pos ⟨rfl, rfl⟩, hs, uR_zB _ rest hr.1 hr.2, zOf_zN, wrap_back _ _ hc.2.2.1 hc.2.2.2]
    exact Prod.ext (intV_eq hc).symm rfl) v.length 0 (by omega)
  simpa [prevB] using this

theorem guess5 (v : List CellB) (r : List UInt8) (hv : ∀ c ∈ v, textV c) : guessF 1 0 [] v.length (v.length + 1) [] cellD (some (tailB 5 v 0 v.length ++ r)) = (v, some r) := by
  have := guess_one 1 0 5 [] v r (fun i h rest => by
    have hc := hv v[i] (List.getElem_mem h)
    have hs : stepB 5 v i = xB (v[i]).text := by show xB (nthB v i).text = _; rw [nthB_at v i h]
    unfold stepG
    rw [if_neg (by omega), if_neg (by omega), if_neg (by omega), if_pos ⟨rfl, rfl⟩, hs, xR_xB 12 _ rest hc.2.2 (by omega)]
    exact Prod.ext (textV_eq hc).symm rfl) v.length 0 (by omega)
  simpa [prevB] using this

theorem take_shared (s t : List UInt8) : t.take (sharedB s t) ++ s.drop (sharedB s t) = s := by
  have h := sharedB_le s t
  have e : t.take (sharedB s t) = s.take (sharedB s t) := by
    apply List.ext_getElem
    · rw [List.length_take, List.length_take]; omega
    · intro i h1 h2
      rw [List.length_take] at h1
      simp only [List.getElem_take]
      exact (sharedB_lt s t i (by omega) (by omega) (by omega)).symm
  rw [e, List.take_append_drop]

theorem guess4 (v : List CellB) (r : List UInt8) (hv : ∀ c ∈ v, textV c) : guessF 1 4 [] v.length (v.length + 1) [] cellD (some (tailB 4 v 0 v.length ++ r)) = (v, some r) := by
  have := guess_one 1 4 4 [] v r (fun i h rest => by
    have hc := hv v[i] (List.getElem_mem h)
    have hp : (prevB v i).text.length ≤ 12 := by
      unfold prevB; split
      · decide
      · rw [nthB_at v (i - 1) (by omega)]; exact (hv _ (List.getElem_mem _)).2.2
    have hs : stepB 4 v i = uB (sharedB (v[i]).text (prevB v i).text) ++ xB ((v[i]).text.drop (sharedB (v[i]).text (prevB v i).text)) := by simp only [stepB, nthB_at v i h]
    have hle := sharedB_le (v[i]).text (prevB v i).text
    unfold stepG
    rw [if_neg (by omega), if_neg (by omega), if_neg (by omega), if_neg (by omega), if_neg (by omega), if_pos ⟨rfl, rfl⟩, hs, List.append_assoc,
      fewR_uB _ _ _ hle.2 (by omega), xR_xB 12 _ rest (by rw [List.length_drop]; have := hc.2.2; omega) (by omega), take_shared]
    exact Prod.ext (textV_eq hc).symm rfl) v.length 0 (by omega)
  simpa [prevB] using this

end Go.Proofs.Ythhpbhpfagoapaa
