
/-
  The plain mathematics of numbers and texts as bytes: lists of bytes and whole numbers alone, nothing of the program.
-/
import Derived.WalkKit
namespace Go.Proofs.YthhpbhpfagoapabGreat

/-- The byte of a number. -/
def byB (a : Int) : UInt8 := UInt8.ofNat a.toNat

theorem byB_toNat (a : Int) (h0 : 0 ≤ a) (h1 : a ≤ 255) : ((byB a).toNat : Int) = a := by
  unfold byB
  simp only [UInt8.toNat_ofNat']
  omega

theorem byB_byte (b : UInt8) : byB (b.toNat : Int) = b := by
  unfold byB
  simp

/-- A number in groups of seven bits, the lowest first. -/
def uB (n : Nat) : List UInt8 := if _h : n > 127 then byB ((n : Int) % 128 + 128) :: uB (n / 128) else [byB (n : Int)]

theorem uB_small {n : Nat} (h : n ≤ 127) : uB n = [byB (n : Int)] := by
  rw [uB, dif_neg (by omega)]

theorem uB_big {n : Nat} (h : 127 < n) : uB n = byB ((n : Int) % 128 + 128) :: uB (n / 128) := by
  rw [uB, dif_pos h]

theorem uB_len : ∀ (k n : Nat), n < 128 ^ (k + 1) → (uB n).length ≤ k + 1 := by
  intro k
  induction k with
  | zero => intro n h; rw [uB_small (by omega)]; simp
  | succ k ih =>
    intro n h
    by_cases hn : n ≤ 127
    · rw [uB_small hn]; simp
    · rw [uB_big (by omega)]
      have : n / 128 < 128 ^ (k + 1) := by
        rw [Nat.div_lt_iff_lt_mul (by decide)]
        rw [Nat.pow_succ] at h
        exact h
      have := ih _ this
      simp; omega

theorem uB_len10 (n : Nat) (h : n < 18446744073709551616) : (uB n).length ≤ 10 := uB_len 9 n (by omega)

theorem uB_pos (n : Nat) : 1 ≤ (uB n).length := by
  by_cases h : n ≤ 127
  · rw [uB_small h]; simp
  · rw [uB_big (by omega)]; simp

/-- A whole number with a sign. -/
def zN (n : Int) : Nat := if 0 ≤ n then 2 * n.toNat else 2 * (-(n + 1)).toNat + 1
def zB (n : Int) : List UInt8 := uB (zN n)

theorem zN_lt (n : Int) (h0 : -9223372036854775808 ≤ n) (h1 : n ≤ 9223372036854775807) : zN n < 18446744073709551616 := by
  unfold zN; split <;> omega

/-- A number, divided by 256 over and over. -/
def shr8 (v : Nat) : Nat → Nat
  | 0 => v
  | k + 1 => shr8 v k / 256

theorem shr8_lt (v k : Nat) (h : v < 18446744073709551616) : shr8 v k < 18446744073709551616 := by
  induction k with
  | zero => exact h
  | succ k ih => simp only [shr8]; omega

/-- Its lowest bytes. -/
def lowB (v : Nat) : Nat → List UInt8
  | 0 => []
  | k + 1 => lowB v k ++ [byB ((shr8 v k : Int) % 256)]

theorem lowB_length (v k : Nat) : (lowB v k).length = k := by
  induction k with
  | zero => rfl
  | succ k ih => simp [lowB, ih]

/-- The eight bytes of a whole number. -/
def bB (n : Int) : List UInt8 := lowB (n % 18446744073709551616).toNat 8

theorem bB_length (n : Int) : (bB n).length = 8 := lowB_length _ _

/-- A text with its length. -/
def xB (s : List UInt8) : List UInt8 := uB s.length ++ s

theorem uB_len_small (n : Nat) (h : n ≤ 16383) : (uB n).length ≤ 2 := uB_len 1 n (by omega)

end Go.Proofs.YthhpbhpfagoapabGreat
