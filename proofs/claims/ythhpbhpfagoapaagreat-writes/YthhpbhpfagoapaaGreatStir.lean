/-
  What the document's stream and seal do, and the program's body, by walks.
-/
import Derived.Test.YthhpbhpfagoapaaGreatJoin
namespace Go.Proofs.YthhpbhpfagoapaaGreat
open Go.RowKit

theorem app_data (a b : ByteArray) : (a ++ b).data.toList = a.data.toList ++ b.data.toList := by simp

theorem key_of (sec non : ByteArray) (i : Nat) : sumB 1 ((⟨#[75]⟩ ++ sec ++ non ++ ⟨(twoB (i : Int)).toArray⟩ : ByteArray).data.toList) = keyB sec.data.toList non.data.toList i := by
  simp only [app_data, keyB]
  simp

theorem stir_round {w wr w5 w2 : World} {v v' : Value} {k : Nat} {sec non text : List UInt8} (b : UInt8) (x : Value) (o : Obj) (hbt : text.getD k 0 = b) (hx : x = .int .u8 (bits .xor .u8 (b.toNat : Int) (keyB sec non k % 256)))
    (hB : Below w.heap.size w wr) (hown : wr.ownsRow w.heap.size 5 1 v k (cellsB (stirTo sec non text k))) (hb5 : Below wr.heap.size wr w5)
    (hown2 : w2.ownsRow w.heap.size 5 1 v' (k + 1) (cellsB (stirTo sec non text k) ++ [x])) (hgr : (w5.alloc o).grownBy w2 v.ownBlock) :
    w2.ownsRow w.heap.size 5 1 v' (k + 1) (cellsB (stirTo sec non text (k + 1))) ∧ Below w.heap.size w w2 := by
  subst hbt
  rw [xor_bits] at hx
  subst hx
  have hz := hb5.size
  have hz0 := hB.size
  refine ⟨?_, ?_⟩
  · rw [stirTo_succ]
    simpa [cellsB, xorB_toNat] using hown2
  · exact ((hB.trans (hb5.mono hz0)).alloc (by omega) _).grown hgr (by simp; omega) (fun k hk => (hown.lt k hk).1)

set_option maxHeartbeats 1000000 in
theorem stirred_any (sec non text : ByteArray) (w : World) (h1 : sec.size ≤ 1000) (h2 : non.size ≤ 1000) (h3 : text.size ≤ 5000) :
    Calls Tryz.prog 122 #[.string sec, .string non, .string text] w fun e w' =>
      e = .returned (strB (stirB sec.data.toList non.data.toList text.data.toList)) ∧ Below w.heap.size w w' := by
  obtain ⟨i0, hi, hz0, hz1, hz2⟩ := info_parts Tryz.infoU8
  go_enter Tryz.func122, Tryz.ntmps122
  go_wp2
  go_loopw [7, 8] (fun v i wr => ∃ k : Nat, k ≤ text.size ∧ i = .int .i64 k ∧ wr.ownsRow w.heap.size 5 1 v k (cellsB (stirTo sec.data.toList non.data.toList text.data.toList k)) ∧ Below w.heap.size w wr)
    (fun _ i _ => text.size - (intOf i).toNat)
  case atStart => exact ⟨0, Nat.zero_le _, rfl, World.ownsRow_nil _ _ _ _, Below.refl _ _⟩
  case round =>
    obtain ⟨k, hk, rfl, hown, hB⟩ := hrel
    by_cases hlt : k < text.size
    · obtain ⟨hkr1, hkr2⟩ := keyB_range sec.data.toList non.data.toList k
      have Hgd := hid (byte_getD text k hlt)
      have HK := hid (key_of sec non k)
      have ht2 : (twoB (k : Int)).length ≤ 2 := Nat.le_of_eq (twoB_length _)
      go_wp2_with fail
      refine (twoRef_any _ _ (by omega) (by omega)).mono ?_
      rintro e w4 ⟨rfl, hb4⟩
      go_wp2_with fail
      refine (sumRef_any _ w4 ?_).mono ?_
      · simp only [ByteArray.size_append', strB_size]; unfold maxLen; simp; omega
      rintro e w5 ⟨rfl, rfl⟩
      rw [HK.out]
      have hk4 := hown.kept (bgrown hb4) (Classical.em _)
      go_wp2_with (at_builtin; refine wpList_append_own _ rfl (.tmp 24) (.tmp 32) 149 rfl w.heap.size 5 i0 (.int .u8 0) 1 1 Tryz.underlying149 hi hz0 hz1 hz2 rfl (by decide) _ _ _ rfl (hk4.alloc _) ⟨w5.heap.size, 0, none⟩ 1 1 [.int .u8 (bits .xor .u8 ((text[k]'hlt).toNat : Int) (keyB sec.data.toList non.data.toList k % 256))] rfl rfl ?c1 ?c2 ?c3 ?c4 ?c5 ?_)
      case c1 => intro j u hj; exact cell_one_new _ _ _ j u hj
      case c2 => intro u hu; simp at hu; subst hu; rfl
      case c3 => unfold maxLen; omega
      case c4 => omega
      case c5 => have := hB.size; have := hb4.size; simp; omega
      intro v2 w2 hown2 hgr2 _
      have HR := hid (stir_round (text[k]'hlt) _ _ Hgd.out rfl hB hown hb4 hown2 hgr2)
      clear hown hown2 hgr2 hB hb4 hk4
      go_wp2
      go_roundw
      case rel => exact ⟨k + 1, by omega, by go_num, HR.out.1, HR.out.2⟩
      case measure => simp [intOf]; omega
    · have hke : k = text.size := by omega
      subst hke
      have hcv := conv_any hown
      go_wp2
      go_ret
      exact ⟨by simp [stirB], hB⟩

end Go.Proofs.YthhpbhpfagoapaaGreat
