
/-
  What the document's stream and seal do, and the program's body, by walks.
-/
import Derived.Test.YthhpbhpfagoapabGreatJoin
namespace Go.Proofs.YthhpbhpfagoapabGreat
open Go.RowKit

theorem app_data (a b : ByteArray) : (a ++ b).data.toList = a.data.toList ++ b.data.toList := by simp

theorem key_of (sec non : ByteArray) (i : Nat) : sumB 1 ((⟨#[75]⟩ ++ sec ++ non ++ ⟨(twoB (i : Int)).toArray⟩ : ByteArray).data.toList) = keyB sec.data.toList non.data.toList i := by
  simp only [app_data, keyB]
  simp

theorem stir_round {w wr w5 w2 : World} {v v' : Value} {k : Nat} {sec non text : List UInt8} (b : UInt8) (x : Value) (o : Obj) (hbt : text.getD k 0 = b) (hx : x = .int .u8 (bits .xor .u8 (b.toNat : Int) (keyB sec non k % 256)))
    (hB : Below w.heap.size w wr) (hown : wr.ownsRow w.heap.size 5 1 v k (cellsB (stirTo sec non text k))) (hb5 : Below wr.heap.size wr w5)
    (hown2 : w2.ownsRow w.heap.size 5 1 v' (k + 1) (cellsB (stirTo sec non text k) ++ [x])) (hgr : (w5.alloc o).grownBy w2 v.ownBlock) :
    w2.ownsRow w.heap.size 5 1 v' (k + 1) (cellsB (stirTo sec non text (k + 1))) ∧ Below w.heap.size w w2 := by
  subst hbt
  rw [xor_bits] at hx
  subst hx
  have hz := hb5.size
  have hz0 := hB.size
  refine ⟨?_, ?_⟩
  · rw [stirTo_succ]
    simpa [cellsB, xorB_toNat] using hown2
  · exact ((hB.trans (hb5.mono hz0)).alloc (by omega) _).grown hgr (by simp; omega) (fun k hk => (hown.lt k hk).1)

end Go.Proofs.YthhpbhpfagoapabGreat
