/-
  What the program's reader of bytes does, by walks over its place in memory.
-/
import Derived.Test.YthhpbhpfagoapaaDPage
import Derived.Test.YthhpbhpfagoapaaPBack
import Derived.Test.YthhpbhpfagoapaaRGuess
namespace Go.Proofs.Ythhpbhpfagoapaa
open Go.RowKit
set_option linter.unusedVariables false
set_option linter.unusedSimpArgs false
set_option maxRecDepth 100000

/-- A reader lies at p: the text s, and what is left of it. -/
def RdAt (w : World) (p : Nat) (s rest : List UInt8) : Prop :=
  ∃ at_ : Nat, w.heap[p]? = some (.cells #[strB s, .int .i64 (at_ : Int)] 127 (0, 0)) ∧ at_ ≤ s.length ∧ rest = s.drop at_

/-- How reading gives up. -/
abbrev gaveUp : Ending := .panicked [{ v := .iface 9 (.string ⟨#[119, 105, 114, 101, 58, 32, 103, 97, 118, 101, 32, 117, 112]⟩), recovered := false }]

theorem need_yes (w : World) : Calls Try.prog 104 #[.bool true] w fun e w' => e = .returned (.tuple #[]) ∧ w' = w := by
  go_enter Try.func104, Try.ntmps104
  go_wp2
  go_end0
  exact ⟨rfl, rfl⟩

theorem need_no (w : World) : Calls Try.prog 104 #[.bool false] w fun e w' => e = gaveUp ∧ w' = w := by
  go_enter Try.func104, Try.ntmps104
  go_wp2
  exact ⟨rfl, rfl, rfl⟩

theorem cells2 {w : World} {p : Nat} {x y : Value} {t : TypeId} (h : w.heap[p]? = some (.cells #[x, y] t (0, 0))) :
    (w.cell? ⟨p, 0, none⟩ = some x ∧ w.cell? ⟨p, 1, none⟩ = some y) ∧ (∀ j, w.frozen? ⟨p, j, none⟩ = false) := by
  refine ⟨⟨?_, ?_⟩, fun j => frozen_of_row w p j _ t h⟩
  · rw [cell_of_row w p 0 _ t (0, 0) h]; rfl
  · rw [cell_of_row w p 1 _ t (0, 0) h]; rfl

theorem set2 {w : World} {p : Nat} {x y v : Value} {t : TypeId} (h : w.heap[p]? = some (.cells #[x, y] t (0, 0))) : (w.setCell ⟨p, 1, none⟩ v).heap[p]? = some (.cells #[x, v] t (0, 0)) ∧ w.grownBy (w.setCell ⟨p, 1, none⟩ v) (some p) := by
  refine ⟨?_, ⟨rfl, rfl, rfl, by simp, fun k _ hk => heap_setCell_other w ⟨p, 1, none⟩ k v (fun e => hk (by simp [e]))⟩⟩
  rw [heap_setCell_same w p 1 _ t v h]
  rfl

set_option maxHeartbeats 2000000 in
theorem byte_any (p : Nat) (s rest : List UInt8) (w : World) (hs : s.length ≤ maxLen) (hp : RdAt w p s rest) :
    Calls Try.prog 109 #[.pointer (some ⟨p, 0, none⟩)] w fun e w' => w.grownBy w' (some p) ∧
      ((rest = [] ∧ e = gaveUp) ∨ ∃ c r, rest = c :: r ∧ e = .returned (.int .u8 (c.toNat : Int)) ∧ RdAt w' p s r) := by
  obtain ⟨at_, hrow, hat, rfl⟩ := hp
  obtain ⟨⟨c0, c1⟩, cf⟩ := cells2 hrow
  have f1 := cf 1
  have Hrow := hid hrow
  unfold maxLen at hs
  clear hrow cf
  have hz := strB_size s
  by_cases hlt : at_ < s.length
  · have hi : (at_ : Int) < (s.length : Int) := by omega
    go_enter Try.func109, Try.ntmps109
    go_wp2_with fail
    go_region_held3 (fun w' => w'.cell? ⟨p, 0, none⟩ = some (strB s) ∧ w'.cell? ⟨p, 1, none⟩ = some (.int .i64 (at_ : Int))) (exact ⟨c0, c1⟩)
      (first | (go_at_call 104; refine (need_yes _).mono ?_; rintro e w' ⟨rfl, rfl⟩))
    go_wp2_with fail
    obtain ⟨h1, h2⟩ := set2 (v := .int .i64 ((at_ : Int) + 1)) Hrow.out
    have h3 := h1
    obtain ⟨⟨d0, d1⟩, _⟩ := cells2 h3
    clear h3 c0 c1 f1
    generalize w.setCell _ _ = w1 at *
    have H1 := hid h1
    have H2 := hid h2
    clear h1 h2
    have hb : at_ < (⟨s.toArray⟩ : ByteArray).size := by rw [strB_size]; exact hlt
    have hsub : IntKind.i64.wrap ((at_ : Int) + 1 - 1) = (at_ : Int) := by rw [IntKind.wrap_i64]; omega
    have e0 : w1.drew.cell? ⟨p, 0, none⟩ = some (strB s) := d0
    have e1 : w1.drew.cell? ⟨p, 1, none⟩ = some (.int .i64 ((at_ : Int) + 1)) := d1
    go_quiet (fail)
    go_wp2
    go_ret
    refine ⟨?_, .inr ⟨s[at_], s.drop (at_ + 1), List.drop_eq_getElem_cons hlt, ?_, at_ + 1, H1.out, hlt, rfl⟩⟩
    · exact ⟨H2.out.os, H2.out.tape, H2.out.output, H2.out.size, H2.out.block⟩
    · exact ret_int (by rw [byte_mk s at_ hlt])
  · have hi : decide ((at_ : Int) < (s.length : Int)) = false := by simp; omega
    go_enter Try.func109, Try.ntmps109
    go_wp2_with fail
    have HD : Hid (s.drop at_ = []) := List.drop_of_length_le (by omega)
    refine wp_region_held_drew (S := fun w' => w'.cell? ⟨p, 0, none⟩ = some (strB s) ∧ w'.cell? ⟨p, 1, none⟩ = some (.int .i64 (at_ : Int))) (by kernel_rfl) ?_ (fun hHeld => ?_)
    · exact ⟨c0, c1⟩
    refine wpAnyH_take (i := 0) (oi := _) (v := .pointer (some ⟨p, 0, none⟩)) rfl (by kernel_rfl) (by kernel_rfl) (by kernel_rfl) (fun _ _ _ h => h) (Or.inl ⟨by rfl, fun w hSw => ?_⟩) (by assumption) ?_
    · try dsimp only at hSw
      go_simp
    simp only [List.getElem_toArray, List.getElem_cons_zero, List.getElem_cons_succ, Act.put, List.setIfInBounds_toArray, List.set_cons_zero, List.set_cons_succ]
    refine wpAnyH_take (i := 1) (oi := _) (v := .pointer (some ⟨p, 0, none⟩)) rfl (by kernel_rfl) (by kernel_rfl) (by kernel_rfl) (fun _ _ _ h => h) (Or.inl ⟨by rfl, fun w hSw => ?_⟩) (by assumption) ?_
    · try dsimp only at hSw
      go_simp
    simp only [List.getElem_toArray, List.getElem_cons_zero, List.getElem_cons_succ, Act.put, List.setIfInBounds_toArray, List.set_cons_zero, List.set_cons_succ]
    refine wpAnyH_take (i := 2) (oi := _) (v := .pointer (some ⟨p, 1, none⟩)) rfl (by kernel_rfl) (by kernel_rfl) (by kernel_rfl) (fun _ _ _ h => h) (Or.inl ⟨by rfl, fun w hSw => ?_⟩) (by assumption) ?_
    · try dsimp only at hSw
      go_simp
    simp only [List.getElem_toArray, List.getElem_cons_zero, List.getElem_cons_succ, Act.put, List.setIfInBounds_toArray, List.set_cons_zero, List.set_cons_succ]
    refine wpAnyH_take (i := 3) (oi := _) (v := .int .i64 (at_ : Int)) rfl (by kernel_rfl) (by kernel_rfl) (by kernel_rfl) (fun _ _ _ h => h) (Or.inl ⟨by rfl, fun w hSw => ?_⟩) (by assumption) ?_
    · try dsimp only at hSw
      go_simp
    simp only [List.getElem_toArray, List.getElem_cons_zero, List.getElem_cons_succ, Act.put, List.setIfInBounds_toArray, List.set_cons_zero, List.set_cons_succ]
    refine wpAnyH_take (i := 4) (oi := _) (v := .pointer (some ⟨p, 0, none⟩)) rfl (by kernel_rfl) (by kernel_rfl) (by kernel_rfl) (fun _ _ _ h => h) (Or.inl ⟨by rfl, fun w hSw => ?_⟩) (by assumption) ?_
    · try dsimp only at hSw
      go_simp
    simp only [List.getElem_toArray, List.getElem_cons_zero, List.getElem_cons_succ, Act.put, List.setIfInBounds_toArray, List.set_cons_zero, List.set_cons_succ]
    refine wpAnyH_take (i := 5) (oi := _) (v := .pointer (some ⟨p, 0, none⟩)) rfl (by kernel_rfl) (by kernel_rfl) (by kernel_rfl) (fun _ _ _ h => h) (Or.inl ⟨by rfl, fun w hSw => ?_⟩) (by assumption) ?_
    · try dsimp only at hSw
      go_simp
    simp only [List.getElem_toArray, List.getElem_cons_zero, List.getElem_cons_succ, Act.put, List.setIfInBounds_toArray, List.set_cons_zero, List.set_cons_succ]
    refine wpAnyH_take (i := 6) (oi := _) (v := .pointer (some ⟨p, 0, none⟩)) rfl (by kernel_rfl) (by kernel_rfl) (by kernel_rfl) (fun _ _ _ h => h) (Or.inl ⟨by rfl, fun w hSw => ?_⟩) (by assumption) ?_
    · try dsimp only at hSw
      go_simp
    simp only [List.getElem_toArray, List.getElem_cons_zero, List.getElem_cons_succ, Act.put, List.setIfInBounds_toArray, List.set_cons_zero, List.set_cons_succ]
    refine wpAnyH_take (i := 7) (oi := _) (v := strB s) rfl (by kernel_rfl) (by kernel_rfl) (by kernel_rfl) (fun _ _ _ h => h) (Or.inl ⟨by rfl, fun w hSw => ?_⟩) (by assumption) ?_
    · try dsimp only at hSw
      go_simp
    simp only [List.getElem_toArray, List.getElem_cons_zero, List.getElem_cons_succ, Act.put, List.setIfInBounds_toArray, List.set_cons_zero, List.set_cons_succ]
    refine wpAnyH_take (i := 8) (oi := _) (v := .int .i64 (s.length : Int)) rfl (by kernel_rfl) (by kernel_rfl) (by kernel_rfl) (fun _ _ _ h => h) (Or.inl ⟨by rfl, fun w hSw => ?_⟩) (by assumption) ?_
    · try dsimp only at hSw
      go_simp
    simp only [List.getElem_toArray, List.getElem_cons_zero, List.getElem_cons_succ, Act.put, List.setIfInBounds_toArray, List.set_cons_zero, List.set_cons_succ]
    refine wpAnyH_take (i := 9) (oi := _) (v := .bool false) rfl (by kernel_rfl) (by kernel_rfl) (by kernel_rfl) (fun _ _ _ h => h) (Or.inl ⟨by rfl, fun w hSw => ?_⟩) (by assumption) ?_
    · try dsimp only at hSw
      go_simp
    simp only [List.getElem_toArray, List.getElem_cons_zero, List.getElem_cons_succ, Act.put, List.setIfInBounds_toArray, List.set_cons_zero, List.set_cons_succ]
    refine wpAnyH_ready (rs := [10]) (by kernel_rfl) (by simp) ?_
    refine AllReadyH.cons (o := _) rfl (fun K hK => ?_) AllReadyH.nil
    simp only [List.getElem_toArray, List.getElem_cons_zero, List.getElem_cons_succ]
    go_simp
    go_at_call 104
    refine (need_no _).mono ?_
    rintro e w' ⟨rfl, rfl⟩
    exact ⟨rfl, ⟨rfl, rfl, rfl, Nat.le_refl _, fun _ _ _ => rfl⟩, .inl ⟨HD.out, rfl⟩⟩

end Go.Proofs.Ythhpbhpfagoapaa
