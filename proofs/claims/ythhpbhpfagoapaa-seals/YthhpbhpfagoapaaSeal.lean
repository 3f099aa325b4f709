/-
  The sizes of what is sealed, and what Seal does, by walks.
-/
import Derived.Test.YthhpbhpfagoapaaBody
namespace Go.Proofs.Ythhpbhpfagoapaa
open Go.RowKit
set_option linter.unusedVariables false

/-- The document's test of sizes. -/
def sizedB (a b c d m : Nat) : Int := if a ≠ 8 then 1 else if b ≠ 4 then 2 else if 5000 < c ∨ 5000 + m < d then 3 else 0

set_option maxHeartbeats 1000000 in
theorem sized_any (sec non ext text : ByteArray) (m : Nat) (w : World) (hm : m ≤ 2) (h1 : sec.size ≤ maxLen) (h2 : non.size ≤ maxLen) (h3 : ext.size ≤ maxLen) (h4 : text.size ≤ maxLen) :
    Calls Try.prog 10 #[.string sec, .string non, .string ext, .string text, .int .i64 (m : Int)] w fun e w' =>
      e = .returned (.int .i64 (sizedB sec.size non.size ext.size text.size m)) ∧ w' = w := by
  unfold maxLen at h1 h2 h3 h4
  by_cases g1 : sec.size = 8
  · by_cases g2 : non.size = 4
    · by_cases g3 : 5000 < ext.size
      · have e1 : ((sec.size : Int) != 8) = false := by simp [g1]
        have e2 : ((non.size : Int) != 4) = false := by simp [g2]
        have HE : Hid (sizedB sec.size non.size ext.size text.size m = 3) := by simp [Hid, sizedB, g1, g2, g3]
        clear g1 g2
        go_enter Try.func10, Try.ntmps10
        go_wp2
        go_ret
        exact ⟨ret_int HE.out.symm, rfl⟩
      · by_cases g4 : 5000 + m < text.size
        · have e1 : ((sec.size : Int) != 8) = false := by simp [g1]
          have e2 : ((non.size : Int) != 4) = false := by simp [g2]
          have HE : Hid (sizedB sec.size non.size ext.size text.size m = 3) := by simp [Hid, sizedB, g1, g2, g4]
          clear g1 g2
          go_enter Try.func10, Try.ntmps10
          go_wp2
          go_ret
          exact ⟨ret_int HE.out.symm, rfl⟩
        · have e1 : ((sec.size : Int) != 8) = false := by simp [g1]
          have e2 : ((non.size : Int) != 4) = false := by simp [g2]
          have HE : Hid (sizedB sec.size non.size ext.size text.size m = 0) := by simp [Hid, sizedB, g1, g2, g3, g4]
          clear g1 g2
          go_enter Try.func10, Try.ntmps10
          go_wp2
          go_ret
          exact ⟨ret_int HE.out.symm, rfl⟩
    · have e1 : ((sec.size : Int) != 8) = false := by simp [g1]
      have e2 : ((non.size : Int) != 4) = true := by rw [bne_iff_ne]; omega
      have HE : Hid (sizedB sec.size non.size ext.size text.size m = 2) := by simp [Hid, sizedB, g1, g2]
      clear g1 g2
      go_enter Try.func10, Try.ntmps10
      go_wp2
      go_ret
      exact ⟨ret_int HE.out.symm, rfl⟩
  · have e1 : ((sec.size : Int) != 8) = true := by rw [bne_iff_ne]; omega
    have HE : Hid (sizedB sec.size non.size ext.size text.size m = 1) := by simp [Hid, sizedB, g1]
    clear g1
    go_enter Try.func10, Try.ntmps10
    go_wp2
    go_ret
    exact ⟨ret_int HE.out.symm, rfl⟩

/-- The program's test of sizes. -/
def checkB (a b : Nat) : Int := if a ≠ 8 then 1 else if b ≠ 4 then 2 else 0

set_option maxHeartbeats 400000 in
theorem check_any (sec non : ByteArray) (w : World) (h1 : sec.size ≤ maxLen) (h2 : non.size ≤ maxLen) :
    Calls Try.prog 25 #[.string sec, .string non] w fun e w' => e = .returned (.int .i64 (checkB sec.size non.size)) ∧ w' = w := by
  unfold maxLen at h1 h2
  by_cases g1 : sec.size = 8
  · have e1 : ((sec.size : Int) != 8) = false := by simp [g1]
    by_cases g2 : non.size = 4
    · have e2 : ((non.size : Int) != 4) = false := by simp [g2]
      have HE : Hid (checkB sec.size non.size = 0) := by simp [Hid, checkB, g1, g2]
      clear g1 g2
      go_enter Try.func25, Try.ntmps25
      go_wp2
      go_ret
      exact ⟨ret_int HE.out.symm, rfl⟩
    · have e2 : ((non.size : Int) != 4) = true := by rw [bne_iff_ne]; omega
      have HE : Hid (checkB sec.size non.size = 2) := by simp [Hid, checkB, g1, g2]
      clear g1 g2
      go_enter Try.func25, Try.ntmps25
      go_wp2
      go_ret
      exact ⟨ret_int HE.out.symm, rfl⟩
  · have e1 : ((sec.size : Int) != 8) = true := by rw [bne_iff_ne]; omega
    have HE : Hid (checkB sec.size non.size = 1) := by simp [Hid, checkB, g1]
    clear g1
    go_enter Try.func25, Try.ntmps25
    go_wp2
    go_ret
    exact ⟨ret_int HE.out.symm, rfl⟩

theorem sized_of_check (a b c d m : Nat) (h : checkB a b ≠ 0) : sizedB a b c d m = checkB a b := by
  unfold checkB at h ⊢; unfold sizedB
  by_cases g1 : a = 8 <;> by_cases g2 : b = 4 <;> simp_all

theorem sized_zero {a b c d m : Nat} (h : sizedB a b c d m = 0) : a = 8 ∧ b = 4 ∧ c ≤ 5000 ∧ d ≤ 5000 + m := by
  unfold sizedB at h
  by_cases g1 : a = 8 <;> by_cases g2 : b = 4 <;> by_cases g3 : 5000 < c <;> by_cases g4 : 5000 + m < d <;> simp_all

theorem sized_range (a b c d m : Nat) : 0 ≤ sizedB a b c d m ∧ sizedB a b c d m ≤ 3 := by
  unfold sizedB
  by_cases g1 : a ≠ 8
  · rw [if_pos g1]; decide
  · rw [if_neg g1]
    by_cases g2 : b ≠ 4
    · rw [if_pos g2]; decide
    · rw [if_neg g2]
      by_cases g3 : 5000 < c ∨ 5000 + m < d
      · rw [if_pos g3]; decide
      · rw [if_neg g3]; decide

theorem check_zero {a b : Nat} (h : checkB a b = 0) : a = 8 ∧ b = 4 := by
  unfold checkB at h
  by_cases g1 : a = 8 <;> by_cases g2 : b = 4 <;> simp_all

theorem check_bne {x : Int} (h : x ≠ 0) : (x != 0) = true := by rw [bne_iff_ne]; exact h

set_option maxHeartbeats 1000000 in
/-- Seal, of sizes that may be. -/
theorem seal_ok (sec non ext plain : ByteArray) (w : World) (h1 : sec.size ≤ maxLen) (h2 : non.size ≤ maxLen) (h3 : ext.size ≤ maxLen) (h4 : plain.size ≤ maxLen)
    (hz : sizedB sec.size non.size ext.size plain.size 0 = 0) :
    Calls Try.prog 9 #[.string sec, .string non, .string ext, .string plain] w fun e w' =>
      e = .returned (.tuple #[strB (bodyB sec.data.toList non.data.toList ext.data.toList plain.data.toList), .int .i64 0]) ∧ Below w.heap.size w w' := by
  obtain ⟨a1, a2, a3, a4⟩ := sized_zero hz
  have HA := hid a1
  have HB := hid a2
  have hc : checkB sec.size non.size = 0 := by simp [checkB, a1, a2]
  have Hc := hid hc
  clear hz a1 a2 hc
  go_enter Try.func9, Try.ntmps9
  go_wp2_with fail
  refine (check_any sec non w h1 h2).mono ?_
  rintro e w1 ⟨rfl, rfl⟩
  rw [Hc.out]
  go_wp2_with fail
  refine (body_any sec non ext plain _ (by rw [HA.out]; decide) (by rw [HB.out]; decide) a3 (by omega)).mono ?_
  rintro e w2 ⟨rfl, hb2⟩
  go_wp2
  go_ret2
  exact ⟨rfl, hb2⟩

set_option maxHeartbeats 1000000 in
/-- Seal, of sizes that may not be. -/
theorem seal_no (sec non ext plain : ByteArray) (w : World) (h1 : sec.size ≤ maxLen) (h2 : non.size ≤ maxLen) (h3 : ext.size ≤ maxLen) (h4 : plain.size ≤ maxLen)
    (hz : sizedB sec.size non.size ext.size plain.size 0 ≠ 0) :
    Calls Try.prog 9 #[.string sec, .string non, .string ext, .string plain] w fun e w' =>
      e = .returned (.tuple #[strB [], .int .i64 (sizedB sec.size non.size ext.size plain.size 0)]) ∧ w' = w := by
  by_cases hc : checkB sec.size non.size = 0
  · obtain ⟨a1, a2⟩ := check_zero hc
    have hb : 5000 < ext.size ∨ 5000 < plain.size := by
      unfold sizedB at hz; simp [a1, a2] at hz; omega
    have HE : Hid (sizedB sec.size non.size ext.size plain.size 0 = 3) := by
      simp [Hid, sizedB, a1, a2]; omega
    have Hc := hid hc
    clear hc a1 a2 hz
    unfold maxLen at h1 h2 h3 h4
    by_cases g3 : 5000 < ext.size
    · clear hb
      go_enter Try.func9, Try.ntmps9
      go_wp2_with fail
      refine (check_any sec non w h1 h2).mono ?_
      rintro e w1 ⟨rfl, rfl⟩
      rw [Hc.out]
      go_wp2
      go_ret2
      exact ⟨by rw [HE.out]; rfl, rfl⟩
    · have g4 : 5000 < plain.size := by omega
      clear hb
      go_enter Try.func9, Try.ntmps9
      go_wp2_with fail
      refine (check_any sec non w h1 h2).mono ?_
      rintro e w1 ⟨rfl, rfl⟩
      rw [Hc.out]
      go_wp2
      go_ret2
      exact ⟨by rw [HE.out]; rfl, rfl⟩
  · have HE := hid (sized_of_check sec.size non.size ext.size plain.size 0 hc)
    have hbn := check_bne hc
    clear hz hc
    go_enter Try.func9, Try.ntmps9
    go_wp2_with fail
    refine (check_any sec non w h1 h2).mono ?_
    rintro e w1 ⟨rfl, rfl⟩
    generalize checkB sec.size non.size = x at *
    go_wp2
    go_ret2
    exact ⟨by rw [HE.out]; rfl, rfl⟩

set_option maxHeartbeats 1000000 in
/-- THE LAW Seals. -/
theorem seals_walk (a0 a1 a2 a3 : ByteArray) (w : World) (w0 : a0.size ≤ maxLen) (w1 : a1.size ≤ maxLen) (w2 : a2.size ≤ maxLen) (w3 : a3.size ≤ maxLen) :
    Calls Try.prog 3 #[.string a0, .string a1, .string a2, .string a3] w fun e w' => e = .returned (.bool true) ∧ Below w.heap.size w w' := by
  by_cases hz : sizedB a0.size a1.size a2.size a3.size 0 = 0
  · have Hz := hid hz
    obtain ⟨e1, e2, b3, b4⟩ := sized_zero hz
    have E1 := hid e1
    have E2 := hid e2
    clear hz e1 e2
    go_enter Try.func3, Try.ntmps3
    go_wp2_with fail
    refine (seal_ok a0 a1 a2 a3 w w0 w1 w2 w3 Hz.out).mono ?_
    rintro e x1 ⟨rfl, hb1⟩
    go_wp2_with fail
    refine (sized_any a0 a1 a2 a3 0 _ (by decide) w0 w1 w2 w3).mono ?_
    rintro e x2 ⟨rfl, rfl⟩
    rw [Hz.out]
    go_wp2_with fail
    refine (sealRef_any a0 a1 a2 a3 _ (by rw [E1.out]; decide) (by rw [E2.out]; decide) b3 (by omega)).mono ?_
    rintro e x3 ⟨rfl, hb3⟩
    generalize bodyB a0.data.toList a1.data.toList a2.data.toList a3.data.toList = body at *
    go_wp2
    go_ret
    exact ⟨by simp, hb1.trans (hb3.mono hb1.size)⟩
  · have hzn := check_bne hz
    have Hz := hid hz
    clear hz
    go_enter Try.func3, Try.ntmps3
    go_wp2_with fail
    refine (seal_no a0 a1 a2 a3 w w0 w1 w2 w3 Hz.out).mono ?_
    rintro e x1 ⟨rfl, rfl⟩
    go_wp2_with fail
    refine (sized_any a0 a1 a2 a3 0 _ (by decide) w0 w1 w2 w3).mono ?_
    rintro e x2 ⟨rfl, rfl⟩
    generalize sizedB a0.size a1.size a2.size a3.size 0 = z at *
    go_wp2
    go_ret
    exact ⟨by simp, Below.refl _ _⟩

end Go.Proofs.Ythhpbhpfagoapaa
