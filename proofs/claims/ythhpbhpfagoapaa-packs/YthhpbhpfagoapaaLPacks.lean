/-
  The walk of the law Packs, out of what Pack does.
-/
import Derived.Test.YthhpbhpfagoapaaRPage
import Derived.Test.YthhpbhpfagoapaaLCells
import Derived.Test.YthhpbhpfagoapaaDPack
namespace Go.Proofs.Ythhpbhpfagoapaa
open Go.RowKit
set_option linter.unusedVariables false
set_option maxRecDepth 100000

theorem own_later {W W' : World} {base g n : Nat} {xs : List Value} (h : W.ownsRow base 48 3 (.slice (some ⟨g, 0, none⟩) n n) n xs) (hb : Below W.heap.size W W') : W'.ownsRow base 48 3 (.slice (some ⟨g, 0, none⟩) n n) n xs :=
  h.kept (bgrown hb) (Classical.em _)

set_option maxHeartbeats 1000000 in
theorem packs_walk (hp : PackDoes) (kind : Int) (a : Option Addr) (cap : Nat) (l : List CellB) (w : World) (h0 : -9223372036854775808 ≤ kind) (h1 : kind ≤ 9223372036854775807) (hm : l.length * 32 ≤ 140737488351232) (hl : Lies w a l) :
    Calls Try.prog 5 #[.int .i64 kind, .slice a l.length cap] w fun e w' => e = .returned (.bool true) ∧ Below w.heap.size w w' := by
  have Hp := hid hp
  have Hl := hid hl
  clear hp hl
  go_enter Try.func5, Try.ntmps5
  go_wp2_with fail
  refine (cellsOf_any a cap l w hm Hl.out).mono ?_
  rintro e w1 ⟨g, rfl, hown, hb1⟩
  have Hown := hid hown
  clear hown
  go_wp2_with fail
  refine (Hp.out kind (some ⟨g, 0, none⟩) (l.length + 8) l _ h0 h1 hm (by omega) (own_prefix (by have := Hown.out; rw [marked_full] at this; exact this) Hl.out.ok)).mono ?_
  rintro e w2 ⟨rfl, hb2⟩
  have hB2 := hb1.trans (hb2.mono hb1.size)
  go_wp2_with fail
  refine (still_any a cap g w.heap.size l _ hm (Hl.out.later hB2) (own_later Hown.out hb2)).mono ?_
  rintro e w3 ⟨rfl, hb3⟩
  have hB3 := hB2.trans (hb3.mono hB2.size)
  go_wp2_with fail
  refine (cells_any kind a cap l _ (by unfold maxLen; omega) (Hl.out.later hB3)).mono ?_
  rintro e w4 ⟨rfl, hb4⟩
  have hB4 := hB3.trans (hb4.mono hB3.size)
  cases hok : cellsOkB kind l with
  | true =>
    obtain ⟨hsm, hfew⟩ := ok_small hok Hl.out.ok
    have hS : packS kind l = pageB kind l := by simp [packS, hok]
    have hE : packE kind l = 0 := by simp [packE, hok]
    have HV : Hid (Vals w4 a l) := ⟨Hl.out.later hB4, hsm, hfew⟩
    rw [hS, hE]
    clear hS hE hok hsm
    go_wp2_with fail
    refine (page_any kind a cap l _ HV.out).mono ?_
    rintro e w5 ⟨rfl, hb5⟩
    have HB5 := hid (hB4.trans (hb5.mono hB4.size))
    generalize pageB kind l = pg at *
    clear hb1 hb2 hB2 hb3 hB3 hb4 hB4 hb5
    go_wp2
    go_ret
    exact ⟨by simp, HB5.out⟩
  | false =>
    have hS : packS kind l = [] := by simp [packS, hok]
    have hE : packE kind l = 5 := by simp [packE, hok]
    rw [hS, hE]
    clear hS hE hok
    go_wp2
    go_ret
    exact ⟨by simp, hB4⟩

end Go.Proofs.Ythhpbhpfagoapaa
