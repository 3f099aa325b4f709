/-
  The walk of the law Unpacks, out of what Unpack and the document's Unpage do.
-/
import Derived.Test.YthhpbhpfagoapaaLCells
import Derived.Test.YthhpbhpfagoapaaPUnpage
namespace Go.Proofs.Ythhpbhpfagoapaa
open Go.RowKit
set_option linter.unusedVariables false
set_option maxRecDepth 100000

/-- What a reader of pages answers: the cells, lying in memory, or a list of nothing. -/
def PageAns (w : World) (v : Value) : Option (List CellB) → Prop
  | none => ∃ a cap, v = .slice a 0 cap
  | some l => ∃ a cap, v = .slice a l.length cap ∧ Lies w a l

/-- Unpack's error. -/
def errU : Option (List CellB) → Int
  | none => 6
  | some _ => 0

/-- What is asked of Unpack. -/
def UnpackDoes : Prop := ∀ (kind : Int) (page : ByteArray) (w : World), -9223372036854775808 ≤ kind → kind ≤ 9223372036854775807 → page.size ≤ maxLen →
  Calls Try.prog 23 #[.int .i64 kind, .string page] w fun e w' => ∃ v, e = .returned (.tuple #[v, .int .i64 (errU (unpageB kind page.data.toList))]) ∧ PageAns w' v (unpageB kind page.data.toList) ∧ Below w.heap.size w w'

/-- What is asked of the document's Unpage. -/
def UnpageDoes : Prop := ∀ (kind : Int) (page : ByteArray) (w : World), -9223372036854775808 ≤ kind → kind ≤ 9223372036854775807 → page.size ≤ maxLen →
  Calls Try.prog 41 #[.int .i64 kind, .string page] w fun e w' => ∃ v, e = .returned (.tuple #[v, .bool (unpageB kind page.data.toList).isSome]) ∧ PageAns w' v (unpageB kind page.data.toList) ∧ Below w.heap.size w w'

theorem unpage_len {kind : Int} {page : List UInt8} {l : List CellB} (h : unpageB kind page = some l) : l.length ≤ 60 := by
  have := (unpage_some h).1
  unfold cellsOkB at this
  simp only [Bool.and_eq_true, decide_eq_true_eq] at this
  exact this.1.2

set_option maxHeartbeats 1000000 in
/-- unpack of the laws: what it hands on, and true. -/
theorem unpack_law (hu : UnpackDoes) (hr : UnpageDoes) (kind : Int) (page : ByteArray) (w : World) (h0 : -9223372036854775808 ≤ kind) (h1 : kind ≤ 9223372036854775807) (hs : page.size ≤ maxLen) :
    Calls Try.prog 19 #[.int .i64 kind, .string page] w fun e w' => ∃ v, e = .returned (.tuple #[v, .bool true]) ∧ Below w.heap.size w w' := by
  have Hu := hid hu
  have Hr := hid hr
  clear hu hr
  go_enter Try.func19, Try.ntmps19
  go_wp2_with fail
  refine (Hu.out kind page _ h0 h1 hs).mono ?_
  rintro e w1 ⟨v1, rfl, ha1, hb1⟩
  have Ha1 := hid ha1
  clear ha1
  go_wp2_with fail
  refine (Hr.out kind page _ h0 h1 hs).mono ?_
  rintro e w2 ⟨v2, rfl, ha2, hb2⟩
  have HB2 := hid (hb1.trans (hb2.mono hb1.size))
  cases hx : unpageB kind page.data.toList with
  | none =>
    rw [hx] at Ha1
    obtain ⟨a1, cap1, rfl⟩ := Ha1.out
    simp only [Option.isSome_none, errU]
    clear hx ha2
    go_wp2
    go_ret2
    exact ⟨_, rfl, HB2.out⟩
  | some l =>
    have hl60 := unpage_len hx
    rw [hx] at Ha1 ha2
    obtain ⟨a1, cap1, rfl, hl1⟩ := Ha1.out
    obtain ⟨a2, cap2, rfl, hl2⟩ := ha2
    simp only [Option.isSome_some, errU]
    have Hl1 := hid (hl1.later hb2)
    have Hl2 := hid hl2
    clear hx hl1 hl2 Ha1
    go_wp2_with fail
    refine (same_eq a1 a2 cap1 cap2 l _ (by unfold maxLen; omega) Hl1.out Hl2.out).mono ?_
    rintro e w3 ⟨rfl, hb3⟩
    go_wp2
    go_ret2
    exact ⟨_, rfl, HB2.out.trans (hb3.mono HB2.out.size)⟩

set_option maxHeartbeats 1000000 in
theorem unpacks_walk (hu : UnpackDoes) (hr : UnpageDoes) (kind : Int) (page : ByteArray) (w : World) (h0 : -9223372036854775808 ≤ kind) (h1 : kind ≤ 9223372036854775807) (hs : page.size ≤ maxLen) :
    Calls Try.prog 6 #[.int .i64 kind, .string page] w fun e w' => e = .returned (.bool true) ∧ Below w.heap.size w w' := by
  have H := hid (unpack_law hu hr kind page)
  clear hu hr
  go_enter Try.func6, Try.ntmps6
  go_wp2_with fail
  refine (H.out _ h0 h1 hs).mono ?_
  rintro e w1 ⟨v, rfl, hb1⟩
  go_wp2
  go_ret
  exact ⟨rfl, hb1⟩

end Go.Proofs.Ythhpbhpfagoapaa
