
/-
  The plain mathematics of the seals: the sum of a text, a number in two bytes, the stream, the body: lists of bytes and whole numbers alone, nothing of the program.
-/
import Derived.WalkKit
import Derived.Laws.BitsAllLaws
namespace Go.Proofs.YthhpbhpfagoapabGreat
open Go.RowKit

/-- The sum of a text, from s on. -/
def sumB : Int → List UInt8 → Int
  | s, [] => s
  | s, b :: l => sumB ((s * 263 + (b.toNat : Int) + 1) % 65521) l

theorem sumB_append (l m : List UInt8) : ∀ s : Int, sumB s (l ++ m) = sumB (sumB s l) m := by
  induction l with
  | nil => intro s; rfl
  | cons b l ih => intro s; simp only [List.cons_append, sumB]; exact ih _

theorem sumB_snoc (s : Int) (l : List UInt8) (b : UInt8) : sumB s (l ++ [b]) = (sumB s l * 263 + (b.toNat : Int) + 1) % 65521 := by
  rw [sumB_append]; rfl

theorem sumB_range (l : List UInt8) : ∀ s : Int, 0 ≤ s → s ≤ 65520 → 0 ≤ sumB s l ∧ sumB s l ≤ 65520 := by
  induction l with
  | nil => intro s h0 h1; exact ⟨h0, h1⟩
  | cons b l ih => intro s h0 h1; exact ih _ (by omega) (by omega)

/-- A number in two bytes, the low one first. -/
def twoB (n : Int) : List UInt8 := [UInt8.ofNat (n % 256).toNat, UInt8.ofNat (n / 256).toNat]

theorem twoB_length (n : Int) : (twoB n).length = 2 := rfl

/-- The stream of a secret and a nonce, at a place. -/
def keyB (sec non : List UInt8) (i : Nat) : Int := sumB 1 (75 :: (sec ++ non ++ twoB i))

theorem keyB_range (sec non : List UInt8) (i : Nat) : 0 ≤ keyB sec non i ∧ keyB sec non i ≤ 65520 := sumB_range _ 1 (by omega) (by omega)

/-- A byte joined with a number's low byte by exclusive or, as a number. -/
def xorN (b : UInt8) (k : Int) : Nat := b.toNat ^^^ (k % 256).toNat

theorem xorN_lt (b : UInt8) (k : Int) : xorN b k < 256 := by
  unfold xorN
  exact Nat.xor_lt_two_pow (n := 8) (by have := b.toNat_lt; omega) (by omega)

theorem xor_bits (b : UInt8) (k : Int) : bits .xor .u8 (b.toNat : Int) (k % 256) = (xorN b k : Int) := by
  have hb := b.toNat_lt
  rw [u8_xor _ _ (by omega) (by omega) (by omega) (by omega)]
  simp [xorN]

/-- The byte. -/
def xorB (b : UInt8) (k : Int) : UInt8 := UInt8.ofNat (xorN b k)

theorem xorB_toNat (b : UInt8) (k : Int) : (xorB b k).toNat = xorN b k := by
  unfold xorB
  simp only [UInt8.toNat_ofNat']
  exact Nat.mod_eq_of_lt (xorN_lt b k)

theorem xorB_xorB (b : UInt8) (k : Int) : xorB (xorB b k) k = b := by
  have h : xorN (xorB b k) k = b.toNat := by
    unfold xorN
    rw [xorB_toNat]
    unfold xorN
    rw [Nat.xor_assoc, Nat.xor_self, Nat.xor_zero]
  unfold xorB at h ⊢
  rw [h]
  exact UInt8.ofNat_toNat

theorem getD_at (l : List UInt8) (i : Nat) (h : i < l.length) : l.getD i 0 = l[i] := by simp [List.getD, h]

/-- The first k bytes of a text, joined with the stream. -/
def stirTo (sec non text : List UInt8) (k : Nat) : List UInt8 := (List.range k).map fun i => xorB (text.getD i 0) (keyB sec non i)

theorem stirTo_length (sec non text : List UInt8) (k : Nat) : (stirTo sec non text k).length = k := by simp [stirTo]

theorem stirTo_succ (sec non text : List UInt8) (k : Nat) : stirTo sec non text (k + 1) = stirTo sec non text k ++ [xorB (text.getD k 0) (keyB sec non k)] := by
  simp [stirTo, List.range_succ]

/-- A text joined with the stream. -/
def stirB (sec non text : List UInt8) : List UInt8 := stirTo sec non text text.length

theorem stirB_length (sec non text : List UInt8) : (stirB sec non text).length = text.length := stirTo_length _ _ _ _

/-- The stream is its own undoing. -/
theorem stirB_stirB (sec non text : List UInt8) : stirB sec non (stirB sec non text) = text := by
  apply List.ext_getElem
  · simp [stirB_length]
  · intro i h1 h2
    have e : (stirB sec non (stirB sec non text))[i] = xorB ((stirB sec non text).getD i 0) (keyB sec non i) := by
      simp [stirB, stirTo]
    have e2 : (stirB sec non text).getD i 0 = xorB (text.getD i 0) (keyB sec non i) := by
      have : i < (stirB sec non text).length := by rw [stirB_length]; exact h2
      rw [getD_at _ _ this]
      simp [stirB, stirTo]
    rw [e, e2, xorB_xorB, getD_at _ _ h2]

/-- The tag of a cipher. -/
def tagB (sec non ext cip : List UInt8) : List UInt8 := twoB (sumB 1 (84 :: (sec ++ non ++ twoB (ext.length : Int) ++ ext ++ cip)))

/-- The body of a plain text. -/
def bodyB (sec non ext plain : List UInt8) : List UInt8 := stirB sec non plain ++ tagB sec non ext (stirB sec non plain)

theorem bodyB_length (sec non ext plain : List UInt8) : (bodyB sec non ext plain).length = plain.length + 2 := by
  simp [bodyB, stirB_length, tagB, twoB]

end Go.Proofs.YthhpbhpfagoapabGreat
