/-
  What the document's numbers and texts as bytes do (U, Z, B, X), by walks.
-/
import Derived.Test.YthhpbhpfagoapaaGreatTag
import Derived.Test.YthhpbhpfagoapaaGreatPMath
import Derived.WalkKit
import Derived.WalkSpells
import Derived.WalkLawsBesides
import Derived.Laws.IdiomStrings
namespace Go.Proofs.YthhpbhpfagoapaaGreat
open Go.RowKit
set_option linter.unusedVariables false
set_option maxRecDepth 100000



theorem mk_data (l : List UInt8) : (⟨l.toArray⟩ : ByteArray).data.toList = l := rfl

theorem conv_one (w : World) (a : Int) (ha : 0 ≤ a) (ha' : a ≤ 255) :
    Sem.run Tryz.prog (convert 149 9 (.slice (some ⟨w.heap.size, 0, none⟩) 1 1)) (w.alloc (.cells #[.int .u8 a] 5)) =
      .ok (strB [byB a]) (w.alloc (.cells #[.int .u8 a] 5)) := by
  refine run_convert_bytes_back (P := Tryz.prog) _ 149 9 5 ⟨w.heap.size, 0, none⟩ 1 [byB a] Tryz.underlying149 Tryz.underlying5 Tryz.underlying9 ?_
  intro j hj
  match j, hj with
  | 0, _ => simp [Addr.add, byB_toNat a ha ha']

theorem app_str (a b : List UInt8) : (⟨a.toArray⟩ ++ ⟨b.toArray⟩ : ByteArray) = ⟨(a ++ b).toArray⟩ := ByteArray.mk_append_mk a b

theorem ret_app {a b l : List UInt8} (h : a ++ b = l) : Ending.returned (.string (⟨a.toArray⟩ ++ ⟨b.toArray⟩)) = .returned (strB l) := by rw [app_str, h]

theorem ret_app' {a l : List UInt8} {s : ByteArray} (h : a ++ s.data.toList = l) : Ending.returned (.string (⟨a.toArray⟩ ++ s)) = .returned (strB l) := by
  obtain ⟨⟨t⟩⟩ := s
  exact ret_app h

def natOf : Value → Nat
  | .int _ q => q.toNat
  | _ => 0

set_option maxHeartbeats 1000000 in
theorem u_any (n : Nat) (w : World) (hn : n < 18446744073709551616) :
    Calls Tryz.prog 147 #[.int .u64 (n : Int)] w fun e w' => e = .returned (strB (uB n)) ∧ Below w.heap.size w w' := by
  have HL := hid (uB_len10 n hn)
  go_enter Tryz.func147, Tryz.ntmps147
  go_wp2
  go_loopw [0, 3] (fun t s wr => ∃ (m : Nat) (acc : List UInt8), m ≤ n ∧ t = .int .u64 (m : Int) ∧ s = strB acc ∧ acc ++ uB m = uB n ∧ Below w.heap.size w wr)
    (fun t _ _ => natOf t)
  case atStart => exact ⟨n, [], Nat.le_refl _, rfl, rfl, rfl, Below.refl _ _⟩
  case round =>
    obtain ⟨m, acc, hm, rfl, rfl, hacc, hB⟩ := hrel
    have HA := hid hacc
    have hl : acc.length ≤ 10 := by
      have h1 := HL.out
      have h2 := congrArg List.length hacc
      simp at h2
      omega
    clear hacc
    by_cases hb : 127 < m
    · have hc := conv_one wr ((m : Int) % 128 + 128) (by omega) (by omega)
      have hbi : (127 : Int) < (m : Int) := by omega
      go_wp2
      go_roundw
      case rel =>
        refine ⟨m / 128, acc ++ [byB ((m : Int) % 128 + 128)], by omega, by go_num, by rw [app_str], ?_, ?_⟩
        · rw [← HA.out, uB_big hb, List.append_assoc]; rfl
        · exact hB.alloc hB.size _
      case measure => simp [natOf]; omega
    · have hc := conv_one wr (m : Int) (by omega) (by omega)
      have hbi : (m : Int) ≤ 127 := by omega
      go_wp2
      go_ret
      refine ⟨?_, hB.alloc hB.size _⟩
      exact ret_app (by rw [← HA.out, uB_small (by omega)])

theorem u_int (n : Int) (w : World) (h0 : 0 ≤ n) (h1 : n < 18446744073709551616) :
    Calls Tryz.prog 147 #[.int .u64 n] w fun e w' => e = .returned (strB (uB n.toNat)) ∧ Below w.heap.size w w' := by
  obtain ⟨m, rfl⟩ := Int.eq_ofNat_of_zero_le h0
  rw [Int.toNat_natCast]
  exact u_any m w (by omega)

theorem i64_u64 {n : Int} (h0 : 0 ≤ n) (h1 : n ≤ 9223372036854775807) : IntKind.u64.wrap n = n := by rw [IntKind.wrap_u64]; omega

set_option maxHeartbeats 1000000 in
theorem z_any (n : Int) (w : World) (h0 : -9223372036854775808 ≤ n) (h1 : n ≤ 9223372036854775807) :
    Calls Tryz.prog 177 #[.int .i64 n] w fun e w' => e = .returned (strB (zB n)) ∧ Below w.heap.size w w' := by
  have hz := zN_lt n h0 h1
  by_cases hn : 0 ≤ n
  · have HZ : Hid (zB n = uB (2 * n.toNat)) := by simp [Hid, zB, zN, hn]
    obtain ⟨m, rfl⟩ := Int.eq_ofNat_of_zero_le hn
    go_enter Tryz.func177, Tryz.ntmps177
    go_wp2_with fail
    refine (u_int _ _ (by omega) (by omega)).mono ?_
    rintro e w1 ⟨rfl, hb⟩
    go_wp2
    go_ret
    exact ⟨ret_str (by rw [HZ.out]; congr 1 <;> omega), hb⟩
  · have HZ : Hid (zB n = uB (2 * (-(n + 1)).toNat + 1)) := by simp [Hid, zB, zN, hn]
    obtain ⟨m, hm⟩ := Int.eq_ofNat_of_zero_le (show 0 ≤ -(n + 1) by omega)
    go_enter Tryz.func177, Tryz.ntmps177
    go_wp2_with fail
    refine (u_int _ _ (by omega) (by omega)).mono ?_
    rintro e w1 ⟨rfl, hb⟩
    go_wp2
    go_ret
    exact ⟨ret_str (by rw [HZ.out]; congr 1 <;> omega), hb⟩

theorem u64_of (n : Int) : IntKind.u64.wrap n = n % 18446744073709551616 := by rw [IntKind.wrap_u64]

set_option maxHeartbeats 1000000 in
theorem b_any (n : Int) (w : World) (h0 : -9223372036854775808 ≤ n) (h1 : n ≤ 9223372036854775807) :
    Calls Tryz.prog 176 #[.int .i64 n] w fun e w' => e = .returned (strB (bB n)) ∧ Below w.heap.size w w' := by
  have hw := u64_of n
  obtain ⟨m, hm⟩ := Int.eq_ofNat_of_zero_le (show 0 ≤ n % 18446744073709551616 by omega)
  have hm1 : m < 18446744073709551616 := by omega
  have HB : Hid (bB n = lowB m 8) := by simp [Hid, bB, hm]
  rw [hm] at hw
  clear hm
  go_enter Tryz.func176, Tryz.ntmps176
  go_wp2
  go_loopw [3, 4, 5] (fun u s i wr => ∃ (k : Nat), k ≤ 8 ∧ i = .int .i64 (k : Int) ∧ u = .int .u64 (shr8 m k : Int) ∧ s = strB (lowB m k) ∧ Below w.heap.size w wr)
    (fun _ _ i _ => 8 - (intOf i).toNat)
  case atStart => exact ⟨0, Nat.zero_le _, rfl, rfl, rfl, Below.refl _ _⟩
  case round =>
    obtain ⟨k, hk, rfl, rfl, rfl, hB⟩ := hrel
    have hl := lowB_length m k
    have hl2 : (lowB m k).length ≤ 8 := by omega
    have hs : shr8 m k < 18446744073709551616 := shr8_lt m k hm1
    clear hl
    by_cases hb : k < 8
    · have hc := conv_one wr ((shr8 m k : Int) % 256) (by omega) (by omega)
      go_wp2
      go_roundw
      case rel => exact ⟨k + 1, by omega, by go_num, by simp [shr8], by rw [app_str]; rfl, hB.alloc hB.size _⟩
      case measure => simp [intOf]; omega
    · have hk8 : k = 8 := by omega
      subst hk8
      go_wp2
      go_ret
      exact ⟨ret_str HB.out.symm, hB⟩

set_option maxHeartbeats 1000000 in
theorem x_any (s : ByteArray) (w : World) (hs : s.size ≤ 1000000) :
    Calls Tryz.prog 146 #[.string s] w fun e w' => e = .returned (strB (xB s.data.toList)) ∧ Below w.heap.size w w' := by
  have hl := uB_len10 s.size (by omega)
  go_enter Tryz.func146, Tryz.ntmps146
  go_wp2_with fail
  refine (u_any _ _ (by omega)).mono ?_
  rintro e w1 ⟨rfl, hb⟩
  go_wp2
  go_ret
  exact ⟨ret_app' (by simp [xB]), hb⟩

end Go.Proofs.YthhpbhpfagoapaaGreat
