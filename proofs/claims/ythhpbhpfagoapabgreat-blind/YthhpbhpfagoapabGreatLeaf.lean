
/-
  What the leaves of the seals do, by walks: a number in two bytes (the program's and the document's), the sum of a text (the document's), the sum over any number of parts (the program's).
-/
import Derived.Test.YthhpbhpfagoapabGreatRows
import Derived.Test.YthhpbhpfagoapabGreatMath
import Derived.WalkKit
import Derived.WalkSpells
import Derived.WalkLawsBesides
import Derived.Laws.IdiomStrings
namespace Go.Proofs.YthhpbhpfagoapabGreat
open Go.RowKit

theorem hid {p : Prop} (h : p) : Hid p := h

/-- A string of these bytes. -/
abbrev strB (l : List UInt8) : Value := .string ⟨l.toArray⟩

theorem ret_str {l m : List UInt8} (h : l = m) : Ending.returned (strB l) = .returned (strB m) := by rw [h]

theorem bnd255 (n : Int) : bits .and .i64 n 255 = n % 256 := by
  have h255 : (BitVec.ofInt 64 255).toNat = 2 ^ 8 - 1 := by decide
  have key : (BitVec.ofInt 64 n &&& BitVec.ofInt 64 255).toNat = (n % ((2 ^ 64 : Nat) : Int)).toNat % 2 ^ 8 := by
    rw [BitVec.toNat_and, BitVec.toNat_ofInt, h255, Nat.and_two_pow_sub_one_eq_mod]
  show IntKind.i64.wrap ((BitVec.ofInt 64 n &&& BitVec.ofInt 64 255).toNat : Nat) = n % 256
  rw [key, IntKind.wrap_i64]
  omega

theorem conv_two (w : World) (a b : Int) (ha : 0 ≤ a) (ha' : a ≤ 255) (hb : 0 ≤ b) (hb' : b ≤ 255) :
    Sem.run Tryz.prog (convert 64 9 (.slice (some ⟨w.heap.size, 0, none⟩) 2 2)) (w.alloc (.cells #[.int .u8 a, .int .u8 b] 5)) =
      .ok (strB [UInt8.ofNat a.toNat, UInt8.ofNat b.toNat]) (w.alloc (.cells #[.int .u8 a, .int .u8 b] 5)) := by
  refine run_convert_bytes_back (P := Tryz.prog) _ 64 9 5 ⟨w.heap.size, 0, none⟩ 2 [UInt8.ofNat a.toNat, UInt8.ofNat b.toNat] Tryz.underlying64 Tryz.underlying5 Tryz.underlying9 ?_
  intro j hj
  match j, hj with
  | 0, _ => simp [Addr.add]; omega
  | 1, _ => simp [Addr.add]; omega

set_option maxHeartbeats 400000 in
theorem two_any (n : Int) (w : World) (h0 : 0 ≤ n) (h1 : n ≤ 65535) :
    Calls Tryz.prog 100 #[.int .i64 n] w fun e w' => e = .returned (strB (twoB n)) ∧ Below w.heap.size w w' := by
  have hc := conv_two w (n % 256) (n / 256) (by omega) (by omega) (by omega) (by omega)
  go_enter Tryz.func100, Tryz.ntmps100
  go_wp2
  go_ret
  exact ⟨rfl, (Below.refl _ _).alloc (Nat.le_refl _) _⟩

theorem take_snoc (s : ByteArray) (k : Nat) (h : k < s.size) : s.data.toList.take (k + 1) = s.data.toList.take k ++ [s[k]] := by
  rw [List.take_succ_eq_append_getElem (by simpa using h)]; rfl

theorem ret_int {k : IntKind} {a b : Int} (h : a = b) : Ending.returned (.int k a) = .returned (.int k b) := by rw [h]

/-- The bytes of texts, one behind the other. -/
def flatB (parts : List ByteArray) : List UInt8 := parts.flatMap (·.data.toList)

theorem flatB_take (parts : List ByteArray) (k : Nat) (h : k < parts.length) : flatB (parts.take (k + 1)) = flatB (parts.take k) ++ parts[k].data.toList := by
  unfold flatB
  rw [List.take_succ_eq_append_getElem h]
  simp only [List.flatMap_append, List.flatMap_cons, List.flatMap_nil, List.append_nil]

set_option maxHeartbeats 1000000 in
/-- The program's sum, from a sum on, over parts that lie in memory. -/
theorem sumOn_any (s0 : Int) (parts : List ByteArray) (b cap : Nat) (w : World) (h0 : 0 ≤ s0) (h1 : s0 ≤ 65520) (hn : parts.length ≤ 1000)
    (hs : ∀ x ∈ parts, x.size ≤ maxLen)
    (hc : ∀ j (h : j < parts.length), w.cell? ⟨b, j, none⟩ = some (.string parts[j])) :
    Calls Tryz.prog 117 #[.int .i64 s0, .slice (some ⟨b, 0, none⟩) parts.length cap] w fun e w' => e = .returned (.int .i64 (sumB s0 (flatB parts))) ∧ w' = w := by
  go_enter Tryz.func117, Tryz.ntmps117
  go_wp2
  go_loop [0, 10] (fun t i => ∃ k : Nat, k ≤ parts.length ∧ i = .int .i64 k ∧ t = .int .i64 (sumB s0 (flatB (parts.take k)))) (fun _ i => parts.length - (intOf i).toNat)
  case atStart => exact ⟨0, Nat.zero_le _, rfl, rfl⟩
  case round =>
    obtain ⟨k, hk, rfl, rfl⟩ := hrel
    by_cases hlt : k < parts.length
    · have hck := hc k hlt
      have hsz : (parts[k]'hlt).size ≤ maxLen := hs _ (List.getElem_mem hlt)
      unfold maxLen at hsz
      have HS : Hid (sumB s0 (flatB (parts.take (k + 1))) = sumB (sumB s0 (flatB (parts.take k))) (parts[k]'hlt).data.toList) := by
        rw [flatB_take parts k hlt, sumB_append]; exact rfl
      obtain ⟨hd1, hd2⟩ := sumB_range (flatB (parts.take k)) s0 h0 h1
      generalize sumB s0 (flatB (parts.take k)) = t0 at *
      generalize (parts[k]'hlt) = part at *
      clear hc hs
      go_wp2
      go_loop [0, 16] (fun t i => ∃ m : Nat, m ≤ part.size ∧ i = .int .i64 m ∧ t = .int .i64 (sumB t0 (part.data.toList.take m))) (fun _ i => part.size - (intOf i).toNat)
      case atStart => exact ⟨0, Nat.zero_le _, rfl, rfl⟩
      case round =>
        obtain ⟨m, hm, rfl, rfl⟩ := hrel
        obtain ⟨he1, he2⟩ := sumB_range (part.data.toList.take m) t0 hd1 hd2
        by_cases hlm : m < part.size
        · have hbt := (part[m]'hlm).toNat_lt
          have HT : Hid (sumB t0 (part.data.toList.take (m + 1)) = (sumB t0 (part.data.toList.take m) * 263 + ((part[m]'hlm).toNat : Int) + 1) % 65521) := by
            rw [take_snoc part m hlm]; exact sumB_snoc _ _ _
          go_wp2
          go_round
          case rel => exact ⟨m + 1, by omega, by go_num, by rw [HT.out]⟩
          case measure => simp [intOf]; omega
        · go_wp2
          go_round
          case rel => exact ⟨k + 1, by omega, by go_num, by rw [HS.out, List.take_of_length_le (by simp; omega)]⟩
          case measure => simp [intOf]; omega
    · go_wp2
      go_ret
      exact ⟨ret_int (by rw [List.take_of_length_le (by omega)]), rfl⟩

set_option maxHeartbeats 400000 in
/-- The program's sum of parts. -/
theorem sum_any (parts : List ByteArray) (b cap : Nat) (w : World) (hn : parts.length ≤ 1000)
    (hs : ∀ x ∈ parts, x.size ≤ maxLen)
    (hc : ∀ j (h : j < parts.length), w.cell? ⟨b, j, none⟩ = some (.string parts[j])) :
    Calls Tryz.prog 116 #[.slice (some ⟨b, 0, none⟩) parts.length cap] w fun e w' => e = .returned (.int .i64 (sumB 1 (flatB parts))) ∧ w' = w := by
  have Hc := hid hc
  have Hs := hid hs
  clear hc hs
  go_enter Tryz.func116, Tryz.ntmps116
  go_wp2_with fail
  refine (sumOn_any 1 parts b cap w (by decide) (by decide) hn Hs.out Hc.out).mono ?_
  rintro e w' ⟨rfl, rfl⟩
  go_wp2
  go_ret
  exact ⟨rfl, rfl⟩

theorem cells_parts (w : World) (parts : List ByteArray) (C : Array Value) (hC : C = (parts.map Value.string).toArray) (t : TypeId) :
    ∀ j (h : j < parts.length), (w.alloc (.cells C t)).cell? ⟨w.heap.size, j, none⟩ = some (.string parts[j]) := by
  intro j h
  rw [World.cell?_alloc_mark, hC]
  simp [h]

/-- The sum of parts that were just laid down. -/
theorem sum_lit (parts : List ByteArray) (C : Array Value) (n : Nat) (w : World) (hC : C = (parts.map Value.string).toArray) (hl : parts.length = n) (hn : n ≤ 1000) (hs : ∀ x ∈ parts, x.size ≤ maxLen) :
    Calls Tryz.prog 116 #[.slice (some ⟨w.heap.size, 0, none⟩) n n] (w.alloc (.cells C 9)) fun e w' => e = .returned (.int .i64 (sumB 1 (flatB parts))) ∧ w.alloc (.cells C 9) = w' := by
  subst hl
  refine (sum_any parts w.heap.size parts.length _ hn hs (cells_parts w parts C hC _)).mono ?_
  rintro e w' ⟨h1, h2⟩
  exact ⟨h1, h2.symm⟩

/-- The sum of parts that were just laid down, from a sum on. -/
theorem sumOn_lit (s0 : Int) (parts : List ByteArray) (C : Array Value) (n : Nat) (w : World) (h0 : 0 ≤ s0) (h1 : s0 ≤ 65520) (hC : C = (parts.map Value.string).toArray) (hl : parts.length = n) (hn : n ≤ 1000) (hs : ∀ x ∈ parts, x.size ≤ maxLen) :
    Calls Tryz.prog 117 #[.int .i64 s0, .slice (some ⟨w.heap.size, 0, none⟩) n n] (w.alloc (.cells C 9)) fun e w' => e = .returned (.int .i64 (sumB s0 (flatB parts))) ∧ w.alloc (.cells C 9) = w' := by
  subst hl
  refine (sumOn_any s0 parts w.heap.size parts.length _ h0 h1 hn hs (cells_parts w parts C hC _)).mono ?_
  rintro e w' ⟨h1, h2⟩
  exact ⟨h1, h2.symm⟩

theorem strB_size (l : List UInt8) : (⟨l.toArray⟩ : ByteArray).size = l.length := by simp [ByteArray.size]

end Go.Proofs.YthhpbhpfagoapabGreat
