/-
  What the document's reader of bytes does (few, z, x, b), by walks over its place in memory.
-/
import Derived.Test.YthhpbhpfagoapaaRSpot
namespace Go.Proofs.Ythhpbhpfagoapaa
open Go.RowKit
set_option linter.unusedVariables false
set_option maxRecDepth 100000

set_option maxRecDepth 100000 in
set_option maxHeartbeats 1000000 in
theorem few_any (p : Nat) (s : List UInt8) (st : Option (List UInt8)) (max : Int) (w : World) (hs : s.length ≤ maxLen) (h0 : 0 ≤ max) (h1 : max ≤ 1000000000000) (hp : SpotAt w p s st) :
    Calls Try.prog 61 #[.pointer (some ⟨p, 0, none⟩), .int .i64 max] w fun e w' => e = .returned (.int .i64 ((fewR max.toNat st).1 : Int)) ∧ SpotAt w' p s (fewR max.toNat st).2 ∧ w.grownBy w' (some p) := by
  have Hp := hid hp
  clear hp
  obtain ⟨m, rfl⟩ := Int.eq_ofNat_of_zero_le h0
  rw [Int.toNat_natCast]
  have hul := uR_lt st
  go_enter Try.func61, Try.ntmps61
  go_wp2_with fail
  refine (uS_any p s st _ hs Hp.out).mono ?_
  rintro e w1 ⟨rfl, hsp1, hg1⟩
  have HF : Hid (fewR m st = if m < (uR st).1 then (0, none) else uR st) := rfl
  have e1 : uP 10 0 1 st = uR st := rfl
  rw [e1] at hsp1 ⊢
  have Hsp1 := hid hsp1
  have Hg1 := hid hg1
  have Hul := hid hul
  clear e1 hsp1 hg1 hul
  generalize hx : uR st = x at *
  obtain ⟨n, st1⟩ := x
  simp only at Hsp1 HF Hul ⊢
  clear hx
  by_cases hlt : m < n
  · have HF2 : Hid (fewR m st = (0, none)) := by have := HF.out; rw [if_pos hlt] at this; exact this
    obtain ⟨at_, bad, hrow, hat, _⟩ := Hsp1.out
    have f2 := (cells3 hrow).2 2
    have c2 := (cells3 hrow).1.2.2
    have Hrow := hid hrow
    have hi : (m : Int) < (n : Int) := by omega
    clear hrow HF hlt
    go_wp2
    go_ret
    rw [HF2.out]
    have hb := set_bad (v := .bool true) Hrow.out
    exact ⟨rfl, ⟨at_, true, hb.1, hat, rfl⟩, grown_trans Hg1.out hb.2⟩
  · have HF2 : Hid (fewR m st = (n, st1)) := by have := HF.out; rw [if_neg hlt] at this; exact this
    have hi : (n : Int) ≤ (m : Int) := by omega
    clear HF hlt
    go_wp2
    go_ret
    rw [HF2.out]
    exact ⟨rfl, Hsp1.out, Hg1.out⟩

set_option maxHeartbeats 1000000 in
theorem xS_any (p : Nat) (s : List UInt8) (st : Option (List UInt8)) (max : Int) (w : World) (hs : s.length ≤ maxLen) (h0 : 0 ≤ max) (h1 : max ≤ 1000000000000) (hp : SpotAt w p s st) :
    Calls Try.prog 98 #[.pointer (some ⟨p, 0, none⟩), .int .i64 max] w fun e w' => e = .returned (strB (xR max.toNat st).1) ∧ SpotAt w' p s (xR max.toNat st).2 ∧ w.grownBy w' (some p) := by
  have Hp := hid hp
  clear hp
  have hle := fewR_le max.toNat st
  go_enter Try.func98, Try.ntmps98
  go_wp2_with fail
  refine (few_any p s st max _ hs h0 h1 Hp.out).mono ?_
  rintro e w1 ⟨rfl, hsp1, hg1⟩
  have HX : Hid (xR max.toNat st = takeP ((fewR max.toNat st).1 : Int) (fewR max.toNat st).2) := rfl
  have Hsp1 := hid hsp1
  clear hsp1
  generalize fewR max.toNat st = x at *
  go_wp2_with fail
  refine (take_any p s x.2 _ _ hs (by omega) (by omega) Hsp1.out).mono ?_
  rintro e w2 ⟨rfl, hsp2, hg2⟩
  go_wp2
  go_ret
  rw [HX.out]
  exact ⟨rfl, hsp2, grown_trans hg1 hg2⟩

theorem z_even (n : Nat) (h : n < 18446744073709551616) : wrap64 (IntKind.u64.wrap ((n : Int) / 2)) = (n : Int) / 2 := by
  rw [IntKind.wrap_u64]; unfold wrap64; omega

theorem z_odd (n : Nat) (h : n < 18446744073709551616) : wrap64 (wrap64 (-wrap64 (IntKind.u64.wrap ((n : Int) / 2))) - 1) = -((n : Int) / 2) - 1 := by
  rw [IntKind.wrap_u64]; unfold wrap64; omega

theorem u64_i64 {n : Int} (h0 : 0 ≤ n) (h1 : n ≤ 9223372036854775807) : IntKind.i64.wrap n = n := IntWalk.i64_in n ⟨by omega, by omega⟩

set_option maxRecDepth 100000 in
set_option maxHeartbeats 1000000 in
theorem zS_any (p : Nat) (s : List UInt8) (st : Option (List UInt8)) (w : World) (hs : s.length ≤ maxLen) (hp : SpotAt w p s st) :
    Calls Try.prog 100 #[.pointer (some ⟨p, 0, none⟩)] w fun e w' => e = .returned (.int .i64 (zOf (uR st).1)) ∧ SpotAt w' p s (uR st).2 ∧ w.grownBy w' (some p) := by
  have Hp := hid hp
  clear hp
  have hul := uR_lt st
  go_enter Try.func100, Try.ntmps100
  go_wp2_with fail
  refine (uS_any p s st _ hs Hp.out).mono ?_
  rintro e w1 ⟨rfl, hsp1, hg1⟩
  have e1 : uP 10 0 1 st = uR st := rfl
  rw [e1] at hsp1 ⊢
  have Hsp1 := hid hsp1
  have HZ : Hid (∀ n, n = (uR st).1 → zOf n = zOf (uR st).1) := by intro n h; rw [h]
  clear e1 hsp1
  have hux : ∃ n, n = (uR st).1 := ⟨_, rfl⟩
  obtain ⟨n, hn⟩ := hux
  rw [← hn] at hul ⊢
  have HN := hid hn
  clear hn
  have Hul := hid hul
  by_cases hev : n % 2 = 0
  · have hb : ((n : Int) % 2 == 0) = true := by simp; omega
    have HE : Hid (zOf n = (n : Int) / 2) := by simp [Hid, zOf, hev]
    clear hev hul
    go_wp2
    go_ret
    exact ⟨ret_int (by rw [← HZ.out n HN.out, HE.out]; exact z_even n Hul.out), Hsp1.out, hg1⟩
  · have hb : ((n : Int) % 2 == 0) = false := by simp; omega
    have HE : Hid (zOf n = -((n : Int) / 2) - 1) := by simp [Hid, zOf, hev]
    clear hev hul
    go_wp2
    go_ret
    exact ⟨ret_int (by rw [← HZ.out n HN.out, HE.out]; exact z_odd n Hul.out), Hsp1.out, hg1⟩

theorem b_acc (n c : Nat) (h : n < 18446744073709551616) (hc : c < 256) : IntKind.u64.wrap (IntKind.u64.wrap (256 * (n : Int)) + IntKind.u64.wrap (c : Int)) = (((256 * n + c) % 18446744073709551616 : Nat) : Int) := by
  rw [IntKind.wrap_u64, IntKind.wrap_u64, IntKind.wrap_u64]; omega

set_option maxRecDepth 100000 in
set_option maxHeartbeats 1000000 in
theorem bS_any (p : Nat) (s : List UInt8) (st : Option (List UInt8)) (w : World) (hs : s.length ≤ maxLen) (hp : SpotAt w p s st) :
    Calls Try.prog 99 #[.pointer (some ⟨p, 0, none⟩)] w fun e w' => e = .returned (.int .i64 (bR st).1) ∧ SpotAt w' p s (bR st).2 ∧ w.grownBy w' (some p) := by
  have Hp := hid hp
  clear hp
  go_enter Try.func99, Try.ntmps99
  go_wp2_with fail
  refine (take_any p s st 8 _ hs (by decide) (by decide) Hp.out).mono ?_
  rintro e w1 ⟨rfl, hsp1, hg1⟩
  have HB : Hid (bR st = (wrap64 (lowN (takeP 8 st).1 : Int), (takeP 8 st).2)) := rfl
  have Hsp1 := hid hsp1
  have Hg1 := hid hg1
  have hl8 := takeP_len8 st
  clear hsp1 hg1
  generalize (takeP 8 st).1 = t at *
  go_wp2_with fail
  go_loop [4, 5] (fun n i => ∃ k : Nat, k ≤ t.length ∧ i = .int .i64 ((k : Int) - 1) ∧ n = .int .u64 (lowN (t.drop k) : Int)) (fun _ i => ((intOf i) + 1).toNat)
  case atStart => exact ⟨t.length, Nat.le_refl _, rfl, by simp [lowN]⟩
  case round =>
    obtain ⟨k, hk, rfl, rfl⟩ := hrel
    by_cases hk0 : k = 0
    · subst hk0
      go_wp2
      go_ret
      rw [HB.out]
      exact ⟨rfl, Hsp1.out, Hg1.out⟩
    · obtain ⟨m, rfl⟩ : ∃ m, k = m + 1 := ⟨k - 1, by omega⟩
      have hm : m < t.length := by omega
      have HS := hid (low_step t m hm)
      have Hlt := hid (lowN_lt (t.drop (m + 1)))
      generalize lowN (t.drop (m + 1)) = n1 at *
      have e1 : ((m + 1 : Nat) : Int) - 1 = (m : Int) := by omega
      rw [e1]
      have hmi : (m : Int) < (t.length : Int) := by omega
      clear e1 hk0
      go_wp2
      go_round
      case rel => exact ⟨m, by omega, rfl, by rw [HS.out]; exact congrArg (Value.int IntKind.u64) (b_acc n1 (t[m]).toNat Hlt.out (t[m]).toNat_lt)⟩
      case measure => simp [intOf]

end Go.Proofs.Ythhpbhpfagoapaa
