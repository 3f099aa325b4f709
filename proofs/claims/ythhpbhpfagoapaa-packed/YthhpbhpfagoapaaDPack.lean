/-
  What the call Pack does, by a walk.
-/
import Derived.Test.YthhpbhpfagoapaaDPage
import Derived.Test.YthhpbhpfagoapaaLSmall
namespace Go.Proofs.Ythhpbhpfagoapaa
open Go.RowKit
set_option linter.unusedVariables false
set_option maxRecDepth 100000

/-- What is asked of Pack. -/
def PackDoes : Prop := ∀ (kind : Int) (a : Option Addr) (cap : Nat) (l : List CellB) (w : World), -9223372036854775808 ≤ kind → kind ≤ 9223372036854775807 → l.length * 32 ≤ 140737488351232 → l.length ≤ cap → Lies w a l →
  Calls Try.prog 15 #[.int .i64 kind, .slice a l.length cap] w fun e w' => e = .returned (.tuple #[strB (packS kind l), .int .i64 (packE kind l)]) ∧ Below w.heap.size w w'

theorem ret_two {a b : List UInt8} {c d : Int} (h : a = b) (h2 : c = d) : Ending.returned (.tuple #[strB a, .int .i64 c]) = .returned (.tuple #[strB b, .int .i64 d]) := by rw [h, h2]

set_option maxHeartbeats 1000000 in
theorem pack_does : PackDoes := by
  intro kind a cap l w h0 h1 hm hc hl
  have Hl := hid hl
  clear hl
  cases hk : (decide (kind = 0) || decide (kind = 1)) with
  | false =>
    have HN : Hid (cellsOkB kind l = false) := by simp [Hid, cellsOkB, hk]
    have Hk := hid hk
    clear hk
    go_enter Try.func15, Try.ntmps15
    go_wp2_with fail
    refine (kind_any kind w).mono ?_
    rintro e w1 ⟨rfl, rfl⟩
    rw [Hk.out]
    go_wp2
    go_ret2
    exact ⟨ret_two (by simp [packS, HN.out]) (by simp [packE, HN.out]), Below.refl _ _⟩
  | true =>
    have hk2 : kind = 0 ∨ kind = 1 := by simpa using hk
    have Hk2 := hid hk2
    have Hk := hid hk
    clear hk hk2
    have HN : Hid (cellsOkB kind l = (decide (l.length ≤ 60) && l.all (fitsB kind))) := by
      have := Hk.out
      simp only [Hid, cellsOkB]
      rw [this]; simp
    cases hok : (decide (l.length ≤ 60) && l.all (fitsB kind)) with
    | false =>
      have Hok := hid hok
      clear hok
      go_enter Try.func15, Try.ntmps15
      go_wp2_with fail
      refine (kind_any kind w).mono ?_
      rintro e w1 ⟨rfl, rfl⟩
      rw [Hk.out]
      go_wp2_with fail
      refine (areCells_any kind a cap l _ (by omega) Hl.out).mono ?_
      rintro e w2 ⟨rfl, hb2⟩
      rw [Hok.out]
      go_wp2
      go_ret2
      exact ⟨ret_two (by simp [packS, HN.out, Hok.out]) (by simp [packE, HN.out, Hok.out]), hb2⟩
    | true =>
      have Hok := hid hok
      clear hok
      have HOK : Hid (cellsOkB kind l = true) := by
        show cellsOkB kind l = true
        rw [HN.out]; exact Hok.out
      have HS := hid (ok_small HOK.out Hl.out.ok)
      go_enter Try.func15, Try.ntmps15
      go_wp2_with fail
      refine (kind_any kind w).mono ?_
      rintro e w1 ⟨rfl, rfl⟩
      rw [Hk.out]
      go_wp2_with fail
      refine (areCells_any kind a cap l _ (by omega) Hl.out).mono ?_
      rintro e w2 ⟨rfl, hb2⟩
      rw [Hok.out]
      go_wp2_with fail
      refine (page_does kind a cap l _ Hk2.out HS.out.2 HS.out.1 (Hl.out.later hb2)).mono ?_
      rintro e w3 ⟨rfl, hb3⟩
      go_wp2
      go_ret2
      exact ⟨ret_two (by simp [packS, HOK.out]) (by simp [packE, HOK.out]), hb2.trans (hb3.mono hb2.size)⟩

end Go.Proofs.Ythhpbhpfagoapaa
