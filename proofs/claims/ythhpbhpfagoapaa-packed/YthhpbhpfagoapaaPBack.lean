/-
  What is written is read back: numbers, texts: plain mathematics, nothing of the program.
-/
import Derived.Test.YthhpbhpfagoapaaPRead
namespace Go.Proofs.Ythhpbhpfagoapaa
open Go.RowKit

theorem takeP_cons (c : UInt8) (r : List UInt8) : takeP 1 (some (c :: r)) = ([c], some r) := by
  rw [takeP_yes (by omega) (by simp; omega)]; rfl

theorem takeP_app (s r : List UInt8) : takeP (s.length : Int) (some (s ++ r)) = (s, some r) := by
  rw [takeP_yes (by omega) (by simp; omega)]
  simp

theorem byB_nat (n : Nat) (h : n ≤ 255) : (byB (n : Int)).toNat = n := by
  have := byB_toNat (n : Int) (by omega) (by omega)
  omega

theorem uP_step (k acc sc : Nat) (c : UInt8) (r : List UInt8) : uP (k + 1) acc sc (some (c :: r)) =
    if c.toNat < 128 then ((acc + sc * (c.toNat % 128)) % 18446744073709551616, some r) else uP k ((acc + sc * (c.toNat % 128)) % 18446744073709551616) (sc * 128 % 18446744073709551616) (some r) := by
  simp only [uP, takeP_cons]

theorem uP_uB (r : List UInt8) : ∀ (k n acc sc : Nat), n < 128 ^ (k + 1) → acc + sc * n < 18446744073709551616 → uP (k + 1) acc sc (some (uB n ++ r)) = (acc + sc * n, some r) := by
  intro k
  induction k with
  | zero =>
    intro n acc sc hn hs
    have hn' : n ≤ 127 := by omega
    rw [uB_small hn']
    show uP (0 + 1) acc sc (some (byB (n : Int) :: r)) = _
    rw [uP_step, byB_nat n (by omega), if_pos (by omega), Nat.mod_eq_of_lt (show n < 128 by omega), Nat.mod_eq_of_lt hs]
  | succ k ih =>
    intro n acc sc hn hs
    by_cases hsm : n ≤ 127
    · rw [uB_small hsm]
      show uP (k + 1 + 1) acc sc (some (byB (n : Int) :: r)) = _
      rw [uP_step, byB_nat n (by omega), if_pos (by omega), Nat.mod_eq_of_lt (show n < 128 by omega), Nat.mod_eq_of_lt hs]
    · rw [uB_big (by omega)]
      have hc : (byB ((n : Int) % 128 + 128)).toNat = n % 128 + 128 := by
        have := byB_nat (n % 128 + 128) (by omega)
        have e : (((n % 128 + 128 : Nat)) : Int) = (n : Int) % 128 + 128 := by omega
        rw [e] at this
        exact this
      show uP (k + 1 + 1) acc sc (some (byB ((n : Int) % 128 + 128) :: (uB (n / 128) ++ r))) = _
      rw [uP_step, hc, if_neg (by omega)]
      have e1 : (n % 128 + 128) % 128 = n % 128 := by omega
      have e2 : sc * n = sc * (n % 128) + sc * 128 * (n / 128) := by
        have h := Nat.mod_add_div n 128
        have h3 : sc * (n % 128 + 128 * (n / 128)) = sc * (n % 128) + sc * 128 * (n / 128) := by rw [Nat.mul_add, Nat.mul_assoc]
        rw [h] at h3
        exact h3
      have h1 : 1 ≤ n / 128 := by omega
      have h2 : sc * 128 ≤ sc * 128 * (n / 128) := Nat.le_mul_of_pos_right _ (by omega)
      rw [e1, Nat.mod_eq_of_lt (show acc + sc * (n % 128) < 18446744073709551616 by omega), Nat.mod_eq_of_lt (show sc * 128 < 18446744073709551616 by omega)]
      rw [ih (n / 128) (acc + sc * (n % 128)) (sc * 128) (by rw [Nat.div_lt_iff_lt_mul (by decide)]; rw [Nat.pow_succ] at hn; exact hn) (by omega)]
      rw [e2, Nat.add_assoc]

/-- A number is read back. -/
theorem uR_uB (n : Nat) (r : List UInt8) (h : n < 18446744073709551616) : uR (some (uB n ++ r)) = (n, some r) := by
  unfold uR
  rw [uP_uB r 9 n 0 1 (by omega) (by omega)]
  simp

theorem fewR_uB (max n : Nat) (r : List UInt8) (h : n ≤ max) (hm : max < 18446744073709551616) : fewR max (some (uB n ++ r)) = (n, some r) := by
  unfold fewR
  rw [uR_uB n r (by omega), if_neg (by omega)]

theorem xR_xB (max : Nat) (s r : List UInt8) (h : s.length ≤ max) (hm : max < 18446744073709551616) : xR max (some (xB s ++ r)) = (s, some r) := by
  unfold xR xB
  rw [List.append_assoc, fewR_uB max s.length (s ++ r) h hm]
  exact takeP_app s r

theorem zOf_zN (x : Int) : zOf (zN x) = x := by
  unfold zN
  split
  · unfold zOf; rw [if_pos (by omega)]; omega
  · unfold zOf; rw [if_neg (by omega)]; omega

theorem uR_zB (x : Int) (r : List UInt8) (h0 : -9223372036854775808 ≤ x) (h1 : x ≤ 9223372036854775807) : uR (some (zB x ++ r)) = (zN x, some r) := uR_uB _ r (zN_lt x h0 h1)

theorem low_back (v : Nat) (h : v < 18446744073709551616) : lowN (lowB v 8) = v := by
  have hb : ∀ k, (byB ((shr8 v k : Int) % 256)).toNat = shr8 v k % 256 := by
    intro k
    have := byB_nat (shr8 v k % 256) (by omega)
    have e : ((shr8 v k % 256 : Nat) : Int) = (shr8 v k : Int) % 256 := by omega
    rw [e] at this
    exact this
  simp only [lowB, List.nil_append, List.cons_append, lowN, hb]
  simp only [shr8]
  omega

theorem bR_bB (x : Int) (r : List UInt8) (h0 : -9223372036854775808 ≤ x) (h1 : x ≤ 9223372036854775807) : bR (some (bB x ++ r)) = (x, some r) := by
  unfold bR
  have hl := bB_length x
  have e : takeP 8 (some (bB x ++ r)) = (bB x, some r) := by
    have := takeP_app (bB x) r
    rw [hl] at this
    exact this
  rw [e]
  unfold bB
  rw [low_back _ (by omega)]
  simp only [Prod.mk.injEq, and_true]
  unfold wrap64
  omega

end Go.Proofs.Ythhpbhpfagoapaa
