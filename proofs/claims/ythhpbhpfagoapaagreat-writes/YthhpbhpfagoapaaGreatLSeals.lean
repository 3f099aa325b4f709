/-
  What the laws' comparison of lists of what was sealed does, by a walk.
-/
import Derived.Test.YthhpbhpfagoapaaGreatWCols
import Derived.Test.YthhpbhpfagoapaaGreatLCells
namespace Go.Proofs.YthhpbhpfagoapaaGreat
open Go.RowKit
set_option linter.unusedVariables false
set_option maxRecDepth 100000

structure LiesS (w : World) (a : Option Addr) (l : List SealB) : Prop where
  at_ : l ≠ [] → ∃ b, a = some ⟨b, 0, none⟩ ∧ b < w.heap.size ∧ ∀ j (h : j < l.length),
    w.cell? ⟨b, j * 4, none⟩ = some (strB (l[j]).secret) ∧ w.cell? ⟨b, j * 4 + 1, none⟩ = some (strB (l[j]).nonce) ∧ w.cell? ⟨b, j * 4 + 2, none⟩ = some (strB (l[j]).extra) ∧ w.cell? ⟨b, j * 4 + 3, none⟩ = some (strB (l[j]).body)

theorem LiesS.later {w w' : World} {a : Option Addr} {r : List SealB} (h : LiesS w a r) (hb : Below w.heap.size w w') : LiesS w' a r := by
  refine ⟨fun hne => ?_⟩
  obtain ⟨b, ha, hlt, hc⟩ := h.at_ hne
  refine ⟨b, ha, Nat.lt_of_lt_of_le hlt hb.size, fun j hj => ?_⟩
  obtain ⟨h1, h2, h3, h4⟩ := hc j hj
  exact ⟨(hb.cell (p := ⟨b, _, none⟩) hlt).trans h1, (hb.cell (p := ⟨b, _, none⟩) hlt).trans h2, (hb.cell (p := ⟨b, _, none⟩) hlt).trans h3, (hb.cell (p := ⟨b, _, none⟩) hlt).trans h4⟩

theorem own_liesS {w : World} {base n : Nat} {v : Value} {l : List SealB} (h : w.ownsRow base 40 4 v n (sealsC l)) :
    ∃ a cap, v = .slice a l.length cap ∧ LiesS w a l := by
  have hn : n = l.length := by have := h.1; rw [sealsC_length] at this; omega
  subst hn
  rcases h.2 with ⟨rfl, h0⟩ | ⟨g, cap, cur, rfl, _, hg, _⟩
  · have : l = [] := List.eq_nil_of_length_eq_zero h0
    subst this
    exact ⟨none, 0, rfl, ⟨fun hne => absurd rfl hne⟩⟩
  · refine ⟨_, _, rfl, ⟨fun _ => ⟨g, rfl, (h.lt g rfl).2, fun j hj => ?_⟩⟩⟩
    obtain ⟨h1, h2, h3, h4⟩ := sealsC_at l j hj
    exact ⟨by rw [h.cellAt (j * 4) (by omega)]; exact h1, by rw [h.cellAt (j * 4 + 1) (by omega)]; exact h2, by rw [h.cellAt (j * 4 + 2) (by omega)]; exact h3, by rw [h.cellAt (j * 4 + 3) (by omega)]; exact h4⟩

set_option maxHeartbeats 1000000 in
/-- Two lists of the same are the same. -/
theorem sameS_eq (a a2 : Option Addr) (cap cap2 : Nat) (l : List SealB) (w : World) (hm : l.length ≤ 100000) (hl : LiesS w a l) (hl2 : LiesS w a2 l) :
    Calls Tryz.prog 37 #[.slice a l.length cap, .slice a2 l.length cap2] w fun e w' => e = .returned (.bool true) ∧ Below w.heap.size w w' := by
  have Hl := hid hl
  have Hl2 := hid hl2
  clear hl hl2
  have hne : ((l.length : Int) != (l.length : Int)) = false := by simp
  go_enter Tryz.func37, Tryz.ntmps37
  go_wp2
  go_loopw [5] (fun i wr => ∃ k : Nat, k ≤ l.length ∧ i = .int .i64 (k : Int) ∧ Below w.heap.size w wr) (fun i _ => l.length - (intOf i).toNat)
  case atStart => exact ⟨0, Nat.zero_le _, rfl, Below.refl _ _⟩
  case round =>
    obtain ⟨k, hk, rfl, hB⟩ := hrel
    by_cases hlt : k < l.length
    · obtain ⟨b, rfl, hbw, hcell⟩ := (Hl.out.later hB).at_ (List.ne_nil_of_length_pos (by omega))
      obtain ⟨g1, g2, g3, g4⟩ := hcell k hlt
      obtain ⟨b', rfl, hbw', hcell'⟩ := (Hl2.out.later hB).at_ (List.ne_nil_of_length_pos (by omega))
      obtain ⟨k1, k2, k3, k4⟩ := hcell' k hlt
      clear hcell hcell'
      generalize l[k] = c at *
      have hki : (k : Int) < (l.length : Int) := by omega
      go_wp2_with fail
      go_quiet (fail)
      go_wp2_with fail
      go_roundw
      case rel => exact ⟨k + 1, by omega, by go_num, below_drewN hB nq⟩
      case measure => simp [intOf]; omega
    · go_wp2
      go_ret
      exact ⟨rfl, hB⟩

end Go.Proofs.YthhpbhpfagoapaaGreat
