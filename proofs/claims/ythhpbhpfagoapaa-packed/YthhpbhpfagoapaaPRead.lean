/-
  Reading numbers and texts back from bytes: plain mathematics, nothing of the program.
-/
import Derived.Test.YthhpbhpfagoapaaPMath
import Derived.RowKit
namespace Go.Proofs.Ythhpbhpfagoapaa
open Go.RowKit

/-- The next n bytes; none: they were not there, or nothing was there any more. -/
def takeP (n : Int) : Option (List UInt8) → List UInt8 × Option (List UInt8)
  | none => ([], none)
  | some r => if n < 0 ∨ (r.length : Int) < n then ([], none) else (r.take n.toNat, some (r.drop n.toNat))

theorem takeP_no {n : Int} {r : List UInt8} (h : n < 0 ∨ (r.length : Int) < n) : takeP n (some r) = ([], none) := by
  show (if n < 0 ∨ (r.length : Int) < n then ([], none) else (r.take n.toNat, some (r.drop n.toNat))) = _
  rw [if_pos h]

theorem takeP_yes {n : Int} {r : List UInt8} (h0 : 0 ≤ n) (h1 : n ≤ (r.length : Int)) : takeP n (some r) = (r.take n.toNat, some (r.drop n.toNat)) := by
  show (if n < 0 ∨ (r.length : Int) < n then ([], none) else (r.take n.toNat, some (r.drop n.toNat))) = _
  rw [if_neg (by omega)]

/-- A number in groups of seven bits, as it is read: k groups so far. -/
def uP : Nat → Nat → Nat → Option (List UInt8) → Nat × Option (List UInt8)
  | 0, _, _, _ => (0, none)
  | k + 1, n, sc, st =>
    match takeP 1 st with
    | (c :: _, some r) => if c.toNat < 128 then ((n + sc * (c.toNat % 128)) % 18446744073709551616, some r) else uP k ((n + sc * (c.toNat % 128)) % 18446744073709551616) (sc * 128 % 18446744073709551616) (some r)
    | _ => (0, none)

theorem takeP_one (st : Option (List UInt8)) : (takeP 1 st = ([], none)) ∨ ∃ c r, st = some (c :: r) ∧ takeP 1 st = ([c], some r) := by
  cases st with
  | none => exact .inl rfl
  | some r =>
    cases r with
    | nil => left; exact takeP_no (.inr (by simp))
    | cons c r => right; exact ⟨c, r, rfl, by rw [takeP_yes (by omega) (by simp; omega)]; rfl⟩

def uR (st : Option (List UInt8)) : Nat × Option (List UInt8) := uP 10 0 1 st

theorem uP_lt : ∀ (k n sc : Nat) (st : Option (List UInt8)), (uP k n sc st).1 < 18446744073709551616 := by
  intro k
  induction k with
  | zero => intro n sc st; exact Nat.zero_lt_succ _
  | succ k ih =>
    intro n sc st
    simp only [uP]
    split
    · split
      · exact Nat.mod_lt _ (by decide)
      · exact ih _ _ _
    · exact Nat.zero_lt_succ _

theorem uR_lt (st : Option (List UInt8)) : (uR st).1 < 18446744073709551616 := uP_lt _ _ _ _

/-- Such a number, at most max. -/
def fewR (max : Nat) (st : Option (List UInt8)) : Nat × Option (List UInt8) := if max < (uR st).1 then (0, none) else uR st

/-- A text of at most max bytes. -/
def xR (max : Nat) (st : Option (List UInt8)) : List UInt8 × Option (List UInt8) := takeP ((fewR max st).1 : Int) (fewR max st).2

theorem fewR_le (max : Nat) (st : Option (List UInt8)) : (fewR max st).1 ≤ max := by
  unfold fewR; split
  · exact Nat.zero_le _
  · omega

/-- A whole number out of one without a sign. -/
def zOf (n : Nat) : Int := if n % 2 = 0 then (n / 2 : Nat) else -((n / 2 : Nat) : Int) - 1

/-- Bytes as a number, the low one first. -/
def lowN : List UInt8 → Nat
  | [] => 0
  | c :: l => (256 * lowN l + c.toNat) % 18446744073709551616

theorem low_step (t : List UInt8) (k : Nat) (h : k < t.length) : lowN (t.drop k) = (256 * lowN (t.drop (k + 1)) + (t[k]).toNat) % 18446744073709551616 := by
  rw [List.drop_eq_getElem_cons h]
  rfl

theorem lowN_lt (l : List UInt8) : lowN l < 18446744073709551616 := by
  cases l with
  | nil => exact Nat.zero_lt_succ _
  | cons c l => exact Nat.mod_lt _ (by decide)

def bR (st : Option (List UInt8)) : Int × Option (List UInt8) := (wrap64 (lowN (takeP 8 st).1 : Int), (takeP 8 st).2)

theorem takeP_len8 (st : Option (List UInt8)) : (takeP 8 st).1.length ≤ 8 := by
  cases st with
  | none => simp [takeP]
  | some r =>
    by_cases h : (r.length : Int) < 8
    · rw [takeP_no (.inr h)]; simp
    · rw [takeP_yes (by omega) (by omega)]
      simp only [List.length_take]
      omega

end Go.Proofs.Ythhpbhpfagoapaa
