/-
  What the program's reading of a number does, by a walk.
-/
import Derived.Test.YthhpbhpfagoapaaDRead
namespace Go.Proofs.Ythhpbhpfagoapaa
open Go.RowKit
set_option linter.unusedVariables false
set_option linter.unusedSimpArgs false
set_option maxRecDepth 100000

theorem andNot128 (a : Int) (h0 : 0 ≤ a) (h1 : a ≤ 255) : bits .andNot .u8 a 128 = a % 128 := by
  obtain ⟨k, rfl⟩ := Int.eq_ofNat_of_zero_le h0
  have key : ∀ k : Fin 256, bits .andNot .u8 ((k.val : Nat) : Int) 128 = ((k.val : Nat) : Int) % 128 := by decide
  exact key ⟨k, by omega⟩

theorem uB_head (m : Nat) (r : List UInt8) (c : UInt8) (rest : List UInt8) (h : c :: rest = uB m ++ r) :
    (128 ≤ c.toNat ∧ 127 < m ∧ m % 128 + 128 = c.toNat ∧ rest = uB (m / 128) ++ r) ∨ (c.toNat < 128 ∧ m = c.toNat ∧ rest = r) := by
  by_cases hm : m ≤ 127
  · rw [uB_small hm] at h
    simp only [List.cons_append, List.nil_append, List.cons.injEq] at h
    obtain ⟨rfl, rfl⟩ := h
    right
    rw [byB_nat m (by omega)]
    exact ⟨by omega, rfl, rfl⟩
  · rw [uB_big (by omega)] at h
    simp only [List.cons_append, List.cons.injEq] at h
    obtain ⟨rfl, rfl⟩ := h
    left
    have := byB_nat (m % 128 + 128) (by omega)
    have e : ((m % 128 + 128 : Nat) : Int) = (m : Int) % 128 + 128 := by omega
    rw [e] at this
    rw [this]
    exact ⟨by omega, by omega, rfl, rfl⟩

theorem uB_ne (m : Nat) (r : List UInt8) : uB m ++ r ≠ [] := by
  intro h
  have h1 := uB_pos m
  have h2 := congrArg List.length h
  rw [List.length_append, List.length_nil] at h2
  omega

/-- Reading a number: j groups are read, acc so far. -/
def NumInv (rest0 : List UInt8) (j acc : Nat) (rest : List UInt8) : Prop :=
  acc < 128 ^ j ∧ ∀ m r, rest0 = uB m ++ r ↔ ∃ m', m = acc + 128 ^ j * m' ∧ (0 < j → 0 < m') ∧ rest = uB m' ++ r

theorem numInv_start (rest : List UInt8) : NumInv rest 0 0 rest := by
  refine ⟨by simp, fun m r => ⟨fun h => ⟨m, by simp, fun h => by omega, h⟩, ?_⟩⟩
  rintro ⟨m', h1, _, h2⟩
  have : m = m' := by simpa using h1
  subst this
  exact h2

theorem numInv_more {rest0 rest : List UInt8} {j acc : Nat} {c : UInt8} (h : NumInv rest0 j acc (c :: rest)) (hc : 128 ≤ c.toNat) : NumInv rest0 (j + 1) (acc + 128 ^ j * (c.toNat % 128)) rest := by
  obtain ⟨h1, h2⟩ := h
  have hlt := c.toNat_lt
  refine ⟨?_, fun m r => ?_⟩
  · have : 128 ^ j * (c.toNat % 128) ≤ 128 ^ j * 127 := Nat.mul_le_mul_left _ (by omega)
    rw [Nat.pow_succ]
    omega
  · rw [h2 m r]
    constructor
    · rintro ⟨m', rfl, h3, h4⟩
      rcases uB_head m' r c rest h4 with ⟨_, k1, k2, k3⟩ | ⟨k1, _, _⟩
      · refine ⟨m' / 128, ?_, fun _ => by omega, k3⟩
        have e : c.toNat % 128 = m' % 128 := by omega
        rw [e, Nat.pow_succ, Nat.mul_assoc, Nat.add_assoc, ← Nat.mul_add]
        congr 2
        omega
      · omega
    · rintro ⟨m', rfl, h3, h4⟩
      have h3 := h3 (by omega)
      refine ⟨c.toNat % 128 + 128 * m', ?_, fun _ => by omega, ?_⟩
      · rw [Nat.pow_succ, Nat.mul_assoc, Nat.add_assoc, ← Nat.mul_add]
      · rw [uB_big (by omega), h4]
        have e1 : (c.toNat % 128 + 128 * m') / 128 = m' := by omega
        have e2 : (((c.toNat % 128 + 128 * m' : Nat) : Int) % 128 + 128) = (c.toNat : Int) := by omega
        rw [e1, e2, byB_byte]
        rfl

theorem numInv_last {rest0 rest : List UInt8} {j acc : Nat} {c : UInt8} (h : NumInv rest0 j acc (c :: rest)) (hc : c.toNat < 128) (m : Nat) (r : List UInt8) :
    rest0 = uB m ++ r ↔ (m = acc + 128 ^ j * c.toNat ∧ (0 < j → 0 < c.toNat) ∧ r = rest) := by
  rw [h.2 m r]
  constructor
  · rintro ⟨m', rfl, h3, h4⟩
    rcases uB_head m' r c rest h4 with ⟨k1, _, _, _⟩ | ⟨_, k2, k3⟩
    · omega
    · subst k2
      exact ⟨rfl, h3, k3.symm⟩
  · rintro ⟨rfl, h3, rfl⟩
    refine ⟨c.toNat, rfl, h3, ?_⟩
    rw [uB_small (by omega), byB_byte]
    rfl

theorem numInv_end {rest0 : List UInt8} {j acc : Nat} (h : NumInv rest0 j acc []) (m : Nat) (r : List UInt8) : rest0 ≠ uB m ++ r := by
  intro h0
  obtain ⟨m', _, _, h4⟩ := (h.2 m r).1 h0
  exact uB_ne m' r h4.symm

theorem pow128_9 : 128 ^ 9 = 9223372036854775808 := by decide

theorem numInv_big {rest0 rest : List UInt8} {acc : Nat} {c : UInt8} (h : NumInv rest0 9 acc (c :: rest)) (hc : 2 ≤ c.toNat) (m : Nat) (r : List UInt8) (hm : m < 18446744073709551616) : rest0 ≠ uB m ++ r := by
  intro h0
  obtain ⟨m', rfl, _, h4⟩ := (h.2 m r).1 h0
  rw [pow128_9] at hm
  rcases uB_head m' r c rest h4 with ⟨_, k1, _, _⟩ | ⟨_, k2, _⟩ <;> omega

theorem num_or (acc c j : Nat) (hacc : acc < 128 ^ j) (hx : 128 ^ j * (c % 128) < 18446744073709551616) (ha : acc < 18446744073709551616) :
    bits .or .u64 (acc : Int) (IntKind.u64.wrap ((c : Int) % 128 * 2 ^ (7 * j))) = ((acc + 128 ^ j * (c % 128) : Nat) : Int) := by
  have hp : 128 ^ j = 2 ^ (7 * j) := by rw [show 128 = 2 ^ 7 from rfl, ← Nat.pow_mul]
  have hw : IntKind.u64.wrap ((c : Int) % 128 * 2 ^ (7 * j)) = ((2 ^ (7 * j) * (c % 128) : Nat) : Int) := by
    rw [IntKind.wrap_u64]
    have e : ((c : Int) % 128 * 2 ^ (7 * j)) = ((2 ^ (7 * j) * (c % 128) : Nat) : Int) := by
      rw [Int.mul_comm]; simp
    rw [e]
    rw [hp] at hx
    generalize 2 ^ (7 * j) * (c % 128) = q at *
    omega
  rw [hw, u64_or_nat _ _ ha (by rw [← hp]; exact hx), hp]
  rw [hp] at hacc
  rw [Nat.or_comm, ← Nat.two_pow_add_eq_or_of_lt hacc]
  congr 1
  omega

theorem pow128_le (j : Nat) (h : j ≤ 8) : 128 ^ j ≤ 72057594037927936 := by
  have := Nat.pow_le_pow_right (n := 128) (by decide) h
  exact Nat.le_trans this (by decide)

theorem ret_u64 {a b : Int} (h : a = b) : Ending.returned (.int .u64 a) = .returned (.int .u64 b) := by rw [h]

set_option maxHeartbeats 4000000 in
theorem numR_any (p : Nat) (s rest : List UInt8) (w : World) (hs : s.length ≤ maxLen) (hp : RdAt w p s rest) :
    Calls Try.prog 122 #[.pointer (some ⟨p, 0, none⟩)] w fun e w' => w.grownBy w' (some p) ∧
      ((e = gaveUp ∧ ∀ m r, m < 18446744073709551616 → rest ≠ uB m ++ r) ∨ ∃ n r, n < 18446744073709551616 ∧ rest = uB n ++ r ∧ e = .returned (.int .u64 (n : Int)) ∧ RdAt w' p s r) := by
  have Hs := hid hs
  have Hp := hid hp
  clear hs hp
  go_enter Try.func122, Try.ntmps122
  go_wp2
  go_loopw [3, 4] (fun n sh wr => ∃ (j acc : Nat) (r1 : List UInt8), j ≤ 9 ∧ n = .int .u64 (acc : Int) ∧ sh = .int .i64 ((7 * j : Nat) : Int) ∧ NumInv rest j acc r1 ∧ RdAt wr p s r1 ∧ w.grownBy wr (some p)) (fun _ sh _ => 100 - (intOf sh).toNat)
  case atStart => exact ⟨0, 0, rest, by omega, rfl, rfl, numInv_start rest, Hp.out, ⟨rfl, rfl, rfl, Nat.le_refl _, fun _ _ _ => rfl⟩⟩
  case round =>
    obtain ⟨j, acc, r1, hj, rfl, rfl, hinv, hrd, hg⟩ := hrel
    have Hinv := hid hinv
    have Hg := hid hg
    have hacc : acc < 128 ^ 9 := Nat.lt_of_lt_of_le hinv.1 (Nat.pow_le_pow_right (by decide) hj)
    rw [pow128_9] at hacc
    clear hinv hg
    go_wp2_with fail
    refine (byte_any p s r1 _ Hs.out hrd).mono ?_
    rintro e w2 ⟨hg2, ⟨rfl, rfl⟩ | ⟨c, r, rfl, rfl, hrd2⟩⟩
    · go_wp2
      exact ⟨rfl, grown_trans Hg.out hg2, .inl ⟨rfl, fun m r _ => numInv_end Hinv.out m r⟩⟩
    · have HG2 := hid (grown_trans Hg.out hg2)
      have Hrd2 := hid hrd2
      have hct := c.toNat_lt
      have ha := andNot128 (c.toNat : Int) (by omega) (by omega)
      clear hrd hrd2 hg2
      by_cases hj9 : j < 9
      · have hj63 : ((7 * j : Nat) : Int) < 63 := by omega
        have hp8 := pow128_le j (by omega)
        have hx : 128 ^ j * (c.toNat % 128) ≤ 72057594037927936 * 127 := Nat.mul_le_mul hp8 (by omega)
        have ho := num_or acc c.toNat j Hinv.out.1 (by omega) (by omega)
        by_cases hc : c.toNat < 128
        · have hci : (c.toNat : Int) < 128 := by omega
          have hm : c.toNat % 128 = c.toNat := by omega
          have HL := hid (numInv_last Hinv.out hc)
          rw [hm] at ho hx
          have Hx : Hid (acc + 128 ^ j * c.toNat < 18446744073709551616) := by show _ < _; omega
          clear hx hm
          by_cases hz : 0 < c.toNat
          · have hzi : (0 : Int) < (c.toNat : Int) := by omega
            generalize hq : 128 ^ j * c.toNat = q at *
            clear hq
            go_wp2_with fail
            refine (need_yes _).mono ?_
            rintro e w3 ⟨rfl, rfl⟩
            go_wp2_with fail
            refine (need_yes _).mono ?_
            rintro e w3 ⟨rfl, rfl⟩
            go_wp2
            go_ret
            exact ⟨HG2.out, .inr ⟨acc + q, r, Hx.out, (HL.out (acc + q) r).2 ⟨rfl, fun _ => hz, rfl⟩, rfl, Hrd2.out⟩⟩
          · have hzi : decide ((0 : Int) < (c.toNat : Int)) = false := by simp; omega
            by_cases hj0 : j = 0
            · have hji : (7 * (j : Int) == 0) = true := by simp; omega
              have Hj0 := hid hj0
              clear hj0
              generalize hq : 128 ^ j * c.toNat = q at *
              clear hq
              go_wp2_with fail
              refine (need_yes _).mono ?_
              rintro e w3 ⟨rfl, rfl⟩
              go_wp2_with fail
              refine (need_yes _).mono ?_
              rintro e w3 ⟨rfl, rfl⟩
              go_wp2
              go_ret
              exact ⟨HG2.out, .inr ⟨acc + q, r, Hx.out, (HL.out (acc + q) r).2 ⟨rfl, fun h => by have := Hj0.out; omega, rfl⟩, rfl, Hrd2.out⟩⟩
            · have hji : (7 * (j : Int) == 0) = false := by simp; omega
              go_wp2_with fail
              refine (need_yes _).mono ?_
              rintro e w3 ⟨rfl, rfl⟩
              go_wp2_with fail
              refine (need_no _).mono ?_
              rintro e w3 ⟨rfl, rfl⟩
              go_wp2
              exact ⟨rfl, HG2.out, .inl ⟨rfl, fun m r _ h => absurd (((HL.out m r).1 h).2.1 (by omega)) hz⟩⟩
        · have hci : decide ((c.toNat : Int) < 128) = false := by simp; omega
          have Hx := hid hx
          clear hx
          go_wp2_with fail
          refine (need_yes _).mono ?_
          rintro e w3 ⟨rfl, rfl⟩
          go_wp2_with fail
          go_roundw
          case rel => exact ⟨j + 1, acc + 128 ^ j * (c.toNat % 128), r, by omega, rfl, by go_num, numInv_more Hinv.out (by omega), Hrd2.out, HG2.out⟩
          case measure => simp [intOf]; omega
      · have hj93 : decide (7 * (j : Int) < 63) = false := by simp; omega
        have hje : j = 9 := by omega
        have hpj : 128 ^ j = 9223372036854775808 := by rw [hje]
        by_cases hc1 : c.toNat ≤ 1
        · have hc1i : (c.toNat : Int) ≤ 1 := by omega
          have hci : (c.toNat : Int) < 128 := by omega
          have hm : c.toNat % 128 = c.toNat := by omega
          have hc : c.toNat < 128 := by omega
          have ho := num_or acc c.toNat j Hinv.out.1 (by rw [hpj]; omega) (by omega)
          have HL := hid (numInv_last Hinv.out hc)
          rw [hm] at ho
          have Hx : Hid (acc + 128 ^ j * c.toNat < 18446744073709551616) := by show _ < _; rw [hpj]; omega
          have hj1 : 0 < j := by omega
          clear hm hpj hje
          by_cases hz : 0 < c.toNat
          · have hzi : (0 : Int) < (c.toNat : Int) := by omega
            generalize hq : 128 ^ j * c.toNat = q at *
            clear hq
            go_wp2_with fail
            refine (need_yes _).mono ?_
            rintro e w3 ⟨rfl, rfl⟩
            go_wp2_with fail
            refine (need_yes _).mono ?_
            rintro e w3 ⟨rfl, rfl⟩
            go_wp2
            go_ret
            exact ⟨HG2.out, .inr ⟨acc + q, r, Hx.out, (HL.out (acc + q) r).2 ⟨rfl, fun _ => hz, rfl⟩, rfl, Hrd2.out⟩⟩
          · have hzi : decide ((0 : Int) < (c.toNat : Int)) = false := by simp; omega
            have hji : (7 * (j : Int) == 0) = false := by simp; omega
            go_wp2_with fail
            refine (need_yes _).mono ?_
            rintro e w3 ⟨rfl, rfl⟩
            go_wp2_with fail
            refine (need_no _).mono ?_
            rintro e w3 ⟨rfl, rfl⟩
            go_wp2
            exact ⟨rfl, HG2.out, .inl ⟨rfl, fun m r _ h => absurd (((HL.out m r).1 h).2.1 (by omega)) hz⟩⟩
        · have hci : decide ((c.toNat : Int) ≤ 1) = false := by simp; omega
          clear hpj
          have Hje := hid hje
          clear hje
          go_wp2_with fail
          refine (need_no _).mono ?_
          rintro e w3 ⟨rfl, rfl⟩
          go_wp2
          exact ⟨rfl, HG2.out, .inl ⟨rfl, fun m r hm => numInv_big (by rw [← Hje.out]; exact Hinv.out) (by omega) m r hm⟩⟩

end Go.Proofs.Ythhpbhpfagoapaa
