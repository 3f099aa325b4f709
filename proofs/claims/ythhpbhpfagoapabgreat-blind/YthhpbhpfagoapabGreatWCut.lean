
/-
  What the program's cutting of rows into spans does, by a walk.
-/
import Derived.Test.YthhpbhpfagoapabGreatWMath
import Derived.Test.YthhpbhpfagoapabGreatWKeep
import Derived.Test.YthhpbhpfagoapabGreatRVals
import Derived.OwnWalk
namespace Go.Proofs.YthhpbhpfagoapabGreat
open Go.RowKit
set_option linter.unusedVariables false
set_option linter.unusedSimpArgs false
set_option maxRecDepth 100000

/-- The spans of rows, as cells. -/
def spanAt (n size i : Nat) : List Value := [.int .i64 ((i * size : Nat) : Int), .int .i64 ((min (i * size + size) n : Nat) : Int)]
def spansC (n size k : Nat) : List Value := (List.range k).flatMap (spanAt n size)

theorem span_succ (n size k : Nat) : spansC n size (k + 1) = spansC n size k ++ spanAt n size k := by
  unfold spansC
  rw [List.range_succ, List.flatMap_append]
  simp

theorem Tryz.infoSpan : (Tryz.prog.info? 169).map (fun i => (i.zero, i.size, i.bytes)) = some (some (.agg #[.int .i64 0, .int .i64 0]), 2, 16) := by kernel_rfl

set_option maxHeartbeats 1000000 in
theorem cut_any (n size : Nat) (w : World) (hn : n ≤ 1000) (h1 : 1 ≤ size) (hs : size ≤ 1000) :
    Calls Tryz.prog 95 #[.int .i64 (n : Int), .int .i64 (size : Int)] w fun e w' => ∃ v, e = .returned v ∧ w'.ownsRow w.heap.size 169 2 v (cntN n size) (spansC n size (cntN n size)) ∧ Below w.heap.size w w' := by
  obtain ⟨i0, hi, hz0, hz1, hz2⟩ := info_parts Tryz.infoSpan
  go_enter Tryz.func95, Tryz.ntmps95
  go_wp2
  go_loopw [5, 6] (fun v i wr => ∃ k : Nat, k ≤ cntN n size ∧ i = .int .i64 ((k * size : Nat) : Int) ∧ wr.ownsRow w.heap.size 169 2 v k (spansC n size k) ∧ Below w.heap.size w wr) (fun _ i _ => n + size - (intOf i).toNat)
  case atStart => exact ⟨0, Nat.zero_le _, by simp, World.ownsRow_nil _ _ _ _, Below.refl _ _⟩
  case round =>
    obtain ⟨k, hkl, rfl, hown, hB⟩ := hrel
    have hcl := cnt_le (n := n) h1
    have hlt2 := cnt_lt (n := n) (i := k) h1
    have hlt3 := Nat.mul_le_mul_right size hkl
    have HKS : Hid ((k + 1) * size = k * size + size) := Nat.succ_mul _ _
    have HL := hid hlt2
    have HSA : Hid (spanAt n size k = [.int .i64 ((k * size : Nat) : Int), .int .i64 ((min (k * size + size) n : Nat) : Int)]) := rfl
    clear hlt2
    generalize k * size = m at *
    by_cases hlt : m < n
    · have hmi : (m : Int) < (n : Int) := by omega
      have hkc := HL.out.2 hlt
      by_cases hmn : m + size ≤ n
      · have hq : ¬ (n : Int) < (m : Int) + (size : Int) := by omega
        have hE : min (m + size) n = m + size := by omega
        rw [hE] at HSA
        simp only [Int.natCast_add] at HSA
        clear hE
        have hown1 := hown.alloc (Obj.cells #[.int .i64 ((m : Nat) : Int), .int .i64 ((m : Int) + (size : Int))] 169)
        go_wp2_with (at_builtin; refine wpList_append_own _ rfl (.tmp 13) (.tmp 21) 166 rfl w.heap.size 169 i0 (.agg #[.int .i64 0, .int .i64 0]) 2 16 Tryz.underlying166 hi hz0 hz1 hz2 rfl (by decide) _ _ _ rfl hown1 ⟨_, 0, none⟩ 1 1 [.int .i64 ((m : Nat) : Int), .int .i64 ((m : Int) + (size : Int))] rfl rfl (cell_laid wr #[.int .i64 ((m : Nat) : Int), .int .i64 ((m : Int) + (size : Int))] 169) (by intro u hu; simp at hu; rcases hu with rfl | rfl <;> rfl) (by unfold maxLen; omega) (by omega) (by have := hB.size; simp; omega) ?_)
        intro v3 w3 hown3 hgr3 _
        have HO3 : Hid (w3.ownsRow w.heap.size 169 2 v3 (k + 1) (spansC n size (k + 1))) := by
          rw [span_succ, HSA.out]
          exact hown3
        have HB3 := hid ((hB.alloc hB.size _).grown hgr3 (by have := hB.size; simp; omega) (fun k hk => (hown.lt k hk).1))
        clear hown hown1 hown3 hgr3 hB
        go_wp2
        go_roundw
        case rel => exact ⟨k + 1, by omega, by rw [HKS.out]; go_num, HO3.out, HB3.out⟩
        case measure => simp [intOf]; omega
      · have hq : (n : Int) < (m : Int) + (size : Int) := by omega
        have hE : min (m + size) n = n := by omega
        rw [hE] at HSA
        clear hE
        have hown1 := hown.alloc (Obj.cells #[.int .i64 ((m : Nat) : Int), .int .i64 ((n : Nat) : Int)] 169)
        go_wp2_with (at_builtin; refine wpList_append_own _ rfl (.tmp 13) (.tmp 21) 166 rfl w.heap.size 169 i0 (.agg #[.int .i64 0, .int .i64 0]) 2 16 Tryz.underlying166 hi hz0 hz1 hz2 rfl (by decide) _ _ _ rfl hown1 ⟨_, 0, none⟩ 1 1 [.int .i64 ((m : Nat) : Int), .int .i64 ((n : Nat) : Int)] rfl rfl (cell_laid wr #[.int .i64 ((m : Nat) : Int), .int .i64 ((n : Nat) : Int)] 169) (by intro u hu; simp at hu; rcases hu with rfl | rfl <;> rfl) (by unfold maxLen; omega) (by omega) (by have := hB.size; simp; omega) ?_)
        intro v3 w3 hown3 hgr3 _
        have HO3 : Hid (w3.ownsRow w.heap.size 169 2 v3 (k + 1) (spansC n size (k + 1))) := by
          rw [span_succ, HSA.out]
          exact hown3
        have HB3 := hid ((hB.alloc hB.size _).grown hgr3 (by have := hB.size; simp; omega) (fun k hk => (hown.lt k hk).1))
        clear hown hown1 hown3 hgr3 hB
        go_wp2
        go_roundw
        case rel => exact ⟨k + 1, by omega, by rw [HKS.out]; go_num, HO3.out, HB3.out⟩
        case measure => simp [intOf]; omega
    · have hke : k = cntN n size := by
        have := HL.out
        omega
      subst hke
      go_wp2
      go_ret
      exact ⟨_, rfl, hown, hB⟩

end Go.Proofs.YthhpbhpfagoapabGreat
