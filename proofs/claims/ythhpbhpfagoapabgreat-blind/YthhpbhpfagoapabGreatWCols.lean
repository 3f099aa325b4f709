
/-
  Tables, rings and lists of what was sealed, as they lie in memory.
-/
import Derived.Test.YthhpbhpfagoapabGreatWMath
import Derived.Test.YthhpbhpfagoapabGreatWKeep
import Derived.Test.YthhpbhpfagoapabGreatRVals
namespace Go.Proofs.YthhpbhpfagoapabGreat
open Go.RowKit
set_option linter.unusedVariables false
set_option maxRecDepth 100000

/-- A column's numbers fit, its name is a string that may be. -/
def okCol (c : ColB) : Prop := c.name.length ≤ maxLen ∧ (-9223372036854775808 ≤ c.kind ∧ c.kind ≤ 9223372036854775807) ∧ (-9223372036854775808 ≤ c.key ∧ c.key ≤ 9223372036854775807)
def okKey (c : KeyB) : Prop := c.secret.length ≤ maxLen ∧ (-9223372036854775808 ≤ c.number ∧ c.number ≤ 9223372036854775807)

/-- A column's cells lie where its list says. -/
def HasCells (w : World) (v : Value) (l : List CellB) : Prop := ∃ ca cap, v = .slice ca l.length cap ∧ l.length ≤ cap ∧ Lies w ca l ∧ l.length * 32 ≤ 140737488351232

/-- A column as a value, its list of cells beside. -/
abbrev colV (c : ColB) (v : Value) : Value := .agg #[strB c.name, .int .i64 c.kind, .int .i64 c.key, v]
abbrev keyV (c : KeyB) : Value := .agg #[.int .i64 c.number, strB c.secret]

structure LiesT (w : World) (a : Option Addr) (t : List ColB) : Prop where
  ok : ∀ c ∈ t, okCol c
  at_ : t ≠ [] → ∃ b off, a = some ⟨b, off, none⟩ ∧ b < w.heap.size ∧ ∀ j (h : j < t.length),
    w.cell? ⟨b, off + j * 4, none⟩ = some (strB (t[j]).name) ∧ w.cell? ⟨b, off + j * 4 + 1, none⟩ = some (.int .i64 (t[j]).kind) ∧ w.cell? ⟨b, off + j * 4 + 2, none⟩ = some (.int .i64 (t[j]).key) ∧
      ∃ v, w.cell? ⟨b, off + j * 4 + 3, none⟩ = some v ∧ HasCells w v (t[j]).cells

structure LiesK (w : World) (a : Option Addr) (r : List KeyB) : Prop where
  ok : ∀ c ∈ r, okKey c
  at_ : r ≠ [] → ∃ b off, a = some ⟨b, off, none⟩ ∧ b < w.heap.size ∧ ∀ j (h : j < r.length),
    w.cell? ⟨b, off + j * 2, none⟩ = some (.int .i64 (r[j]).number) ∧ w.cell? ⟨b, off + j * 2 + 1, none⟩ = some (strB (r[j]).secret)

theorem HasCells.later {w w' : World} {v : Value} {l : List CellB} (h : HasCells w v l) (hb : Below w.heap.size w w') : HasCells w' v l := by
  obtain ⟨ca, cap, hv, hc, hl, hm⟩ := h
  exact ⟨ca, cap, hv, hc, hl.later hb, hm⟩

theorem LiesT.later {w w' : World} {a : Option Addr} {t : List ColB} (h : LiesT w a t) (hb : Below w.heap.size w w') : LiesT w' a t := by
  refine ⟨h.ok, fun hne => ?_⟩
  obtain ⟨b, off, ha, hlt, hc⟩ := h.at_ hne
  refine ⟨b, off, ha, Nat.lt_of_lt_of_le hlt hb.size, fun j hj => ?_⟩
  obtain ⟨h1, h2, h3, v, h4, h5⟩ := hc j hj
  exact ⟨(hb.cell (p := ⟨b, _, none⟩) hlt).trans h1, (hb.cell (p := ⟨b, _, none⟩) hlt).trans h2, (hb.cell (p := ⟨b, _, none⟩) hlt).trans h3, v, (hb.cell (p := ⟨b, _, none⟩) hlt).trans h4, h5.later hb⟩

theorem LiesK.later {w w' : World} {a : Option Addr} {r : List KeyB} (h : LiesK w a r) (hb : Below w.heap.size w w') : LiesK w' a r := by
  refine ⟨h.ok, fun hne => ?_⟩
  obtain ⟨b, off, ha, hlt, hc⟩ := h.at_ hne
  refine ⟨b, off, ha, Nat.lt_of_lt_of_le hlt hb.size, fun j hj => ?_⟩
  obtain ⟨h1, h2⟩ := hc j hj
  exact ⟨(hb.cell (p := ⟨b, _, none⟩) hlt).trans h1, (hb.cell (p := ⟨b, _, none⟩) hlt).trans h2⟩

/-- What was sealed, as cells. -/
def sealsC (l : List SealB) : List Value := l.flatMap fun s => [strB s.secret, strB s.nonce, strB s.extra, strB s.body]

theorem sealsC_length (l : List SealB) : (sealsC l).length = l.length * 4 := flat_length _ 4 (fun _ => rfl) l

theorem sealsC_snoc (l : List SealB) (s : SealB) : sealsC (l ++ [s]) = sealsC l ++ [strB s.secret, strB s.nonce, strB s.extra, strB s.body] := by simp [sealsC]

theorem sealsC_at (l : List SealB) (j : Nat) (h : j < l.length) : (sealsC l)[j * 4]? = some (strB (l[j]).secret) ∧ (sealsC l)[j * 4 + 1]? = some (strB (l[j]).nonce) ∧ (sealsC l)[j * 4 + 2]? = some (strB (l[j]).extra) ∧ (sealsC l)[j * 4 + 3]? = some (strB (l[j]).body) :=
  ⟨flat_at _ 4 (fun _ => rfl) l j 0 h (by decide), flat_at _ 4 (fun _ => rfl) l j 1 h (by decide), flat_at _ 4 (fun _ => rfl) l j 2 h (by decide), flat_at _ 4 (fun _ => rfl) l j 3 h (by decide)⟩

theorem sealsC_one (l : List SealB) : ∀ v ∈ sealsC l, v.oneCell' = true := by
  intro v hv
  simp only [sealsC, List.mem_flatMap] at hv
  obtain ⟨c, _, hc⟩ := hv
  simp at hc
  rcases hc with rfl | rfl | rfl | rfl <;> rfl

end Go.Proofs.YthhpbhpfagoapabGreat
