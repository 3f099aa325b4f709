
/-
  What the program's body and call Seal do, and the document's seal and its test of sizes, by walks.
-/
import Derived.Test.YthhpbhpfagoapabGreatStir
import Derived.BigQuiet
namespace Go.Proofs.YthhpbhpfagoapabGreat
open Go.RowKit
set_option linter.unusedVariables false

theorem flatB_two (a b : List UInt8) : flatB [⟨a.toArray⟩, ⟨b.toArray⟩] = a ++ b := by simp [flatB]

theorem tagB_length (sec non ext cip : List UInt8) : (tagB sec non ext cip).length = 2 := rfl

/-- The join of parts that were just laid down. -/
theorem sjoin_lit (parts : List ByteArray) (C : Array Value) (n : Nat) (w : World) (hC : C = (parts.map Value.string).toArray) (hl : parts.length = n) (hn : n ≤ 1000) (hs : (flatB parts).length ≤ 1000000) :
    Calls Tryz.prog 93 #[.slice (some ⟨w.heap.size, 0, none⟩) n n] (w.alloc (.cells C 9)) fun e w' => e = .returned (strB (flatB parts)) ∧ Below (w.heap.size + 1) (w.alloc (.cells C 9)) w' := by
  subst hl
  refine (join_any parts w.heap.size parts.length _ hn hs (by simp) (cells_parts w parts C hC _)).mono ?_
  rintro e w' ⟨h1, h2⟩
  exact ⟨h1, by simpa using h2⟩

set_option maxHeartbeats 1000000 in
theorem body_any (sec non ext plain : ByteArray) (w : World) (h1 : sec.size ≤ 1000) (h2 : non.size ≤ 1000) (h3 : ext.size ≤ 5000) (h4 : plain.size ≤ 5000) :
    Calls Tryz.prog 124 #[.string sec, .string non, .string ext, .string plain] w fun e w' =>
      e = .returned (strB (bodyB sec.data.toList non.data.toList ext.data.toList plain.data.toList)) ∧ Below w.heap.size w w' := by
  have hm : (1000 : Nat) ≤ maxLen := by decide
  have hm5 : (5000 : Nat) ≤ maxLen := by decide
  go_enter Tryz.func124, Tryz.ntmps124
  go_wp2_with fail
  refine (mask_any sec non plain w (Nat.le_trans h1 hm) (Nat.le_trans h2 hm) h4).mono ?_
  rintro e w1 ⟨rfl, hb1⟩
  have hl := stirB_length sec.data.toList non.data.toList plain.data.toList
  have hl2 : (stirB sec.data.toList non.data.toList plain.data.toList).length ≤ 5000 := by rw [hl]; simpa using h4
  clear hl
  have HF : Hid (∀ c, c = stirB sec.data.toList non.data.toList plain.data.toList → c ++ tagB sec.data.toList non.data.toList ext.data.toList c = bodyB sec.data.toList non.data.toList ext.data.toList plain.data.toList) := by
    intro c hc; subst hc; rfl
  have HF2 := hid (HF.out _ rfl)
  clear HF
  generalize stirB sec.data.toList non.data.toList plain.data.toList = cip at *
  go_wp2_with fail
  refine (tag_any sec non ext ⟨cip.toArray⟩ _ (Nat.le_trans h1 hm) (Nat.le_trans h2 hm) h3 (by rw [strB_size]; omega)).mono ?_
  rintro e w2 ⟨rfl, hb2⟩
  go_wp2_with fail
  refine (sjoin_lit [⟨cip.toArray⟩, ⟨(tagB sec.data.toList non.data.toList ext.data.toList cip).toArray⟩] _ 2 w2 rfl rfl (by decide) (by rw [flatB_two, List.length_append, tagB_length]; omega)).mono ?_
  rintro e w3 ⟨rfl, hb3⟩
  rw [flatB_two, HF2.out]
  go_wp2
  go_ret
  refine ⟨rfl, ?_⟩
  have z1 := hb1.size
  have z2 := hb2.size
  exact ((hb1.trans (hb2.mono z1)).alloc (by omega) _).trans (hb3.mono (by omega))

theorem tag_of (sec non ext cip : ByteArray) : sumB 1 ((⟨#[84]⟩ ++ sec ++ non ++ ⟨(twoB (ext.size : Int)).toArray⟩ ++ ext ++ cip : ByteArray).data.toList) = sumB 1 (84 :: (sec.data.toList ++ non.data.toList ++ twoB (ext.data.toList.length : Int) ++ ext.data.toList ++ cip.data.toList)) := by
  simp only [app_data]
  simp

end Go.Proofs.YthhpbhpfagoapabGreat
