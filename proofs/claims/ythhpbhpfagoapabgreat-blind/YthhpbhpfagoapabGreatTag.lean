
/-
  What the program's tag, mask and join do, by walks.
-/
import Derived.Test.YthhpbhpfagoapabGreatLeaf
import Derived.Deep.RegionWith
namespace Go.Proofs.YthhpbhpfagoapabGreat
open Go.RowKit

theorem flatB_tag (sec non ext cip : ByteArray) (l : List UInt8) : flatB [⟨#[84]⟩, sec, non, ⟨l.toArray⟩, ext, cip] = 84 :: (sec.data.toList ++ non.data.toList ++ l ++ ext.data.toList ++ cip.data.toList) := by
  simp [flatB]

set_option maxHeartbeats 1000000 in
theorem tag_any (sec non ext cip : ByteArray) (w : World) (h1 : sec.size ≤ maxLen) (h2 : non.size ≤ maxLen) (h3 : ext.size ≤ 5000) (h4 : cip.size ≤ maxLen) :
    Calls Tryz.prog 88 #[.string sec, .string non, .string ext, .string cip] w fun e w' =>
      e = .returned (strB (tagB sec.data.toList non.data.toList ext.data.toList cip.data.toList)) ∧ Below w.heap.size w w' := by
  go_enter Tryz.func88, Tryz.ntmps88
  go_wp2_with fail
  refine (two_any _ _ (by omega) (by omega)).mono ?_
  rintro e w1 ⟨rfl, hb1⟩
  go_wp2_with fail
  refine (sum_lit [⟨#[84]⟩, sec, non, ⟨(twoB (ext.size : Int)).toArray⟩, ext, cip] _ 6 w1 rfl rfl (by decide) ?_).mono ?_
  · intro x hx
    simp only [List.mem_cons, List.not_mem_nil, or_false] at hx
    rcases hx with rfl | rfl | rfl | rfl | rfl | rfl
    · decide
    · exact h1
    · exact h2
    · rw [strB_size, twoB_length]; decide
    · unfold maxLen; omega
    · exact h4
  rintro e w2 ⟨rfl, rfl⟩
  go_wp2_with fail
  rw [flatB_tag]
  have hr := sumB_range (84 :: (sec.data.toList ++ non.data.toList ++ twoB (ext.size : Int) ++ ext.data.toList ++ cip.data.toList)) 1 (by decide) (by decide)
  have HF : Hid (twoB (sumB 1 (84 :: (sec.data.toList ++ non.data.toList ++ twoB (ext.size : Int) ++ ext.data.toList ++ cip.data.toList))) = tagB sec.data.toList non.data.toList ext.data.toList cip.data.toList) := by
    unfold tagB; simp [Hid]
  generalize sumB 1 (84 :: (sec.data.toList ++ non.data.toList ++ twoB (ext.size : Int) ++ ext.data.toList ++ cip.data.toList)) = t at *
  refine (two_any t _ (by omega) (by omega)).mono ?_
  rintro e w2 ⟨rfl, hb2⟩
  go_wp2
  go_ret
  refine ⟨ret_str HF.out, ?_⟩
  have hz := hb1.size
  exact (hb1.alloc hz _).trans (hb2.mono (by simp; omega))

theorem Tryz.infoU8 : (Tryz.prog.info? 5).map (fun i => (i.zero, i.size, i.bytes)) = some (some (.int .u8 0), 1, 1) := by kernel_rfl

/-- Bytes as cells. -/
def cellsB (l : List UInt8) : List Value := l.map fun b => .int .u8 (b.toNat : Int)

theorem set_mid (A : List Value) (z v : Value) (n k : Nat) (hA : A.length = k) (hk : k < n) : (A ++ List.replicate (n - k) z).set k v = (A ++ [v]) ++ List.replicate (n - (k + 1)) z := by
  obtain ⟨m, hm⟩ : ∃ m, n - k = m + 1 := ⟨n - k - 1, by omega⟩
  have hm2 : n - (k + 1) = m := by omega
  rw [hm, hm2, List.set_append_right _ _ (by omega), List.replicate_succ, hA]
  simp

theorem mask_step {W : World} {base g n k : Nat} {sec non text : List UInt8} (h : W.ownsRow base 5 1 (.slice (some ⟨g, 0, none⟩) n n) n (cellsB (stirTo sec non text k) ++ List.replicate (n - k) (.int .u8 0))) (hk : k < n) :
    (W.setCell ⟨g, k, none⟩ (.int .u8 (xorN (text.getD k 0) (keyB sec non k) : Int))).ownsRow base 5 1 (.slice (some ⟨g, 0, none⟩) n n) n (cellsB (stirTo sec non text (k + 1)) ++ List.replicate (n - (k + 1)) (.int .u8 0)) := by
  have h1 := (h.stored k (.int .u8 (xorN (text.getD k 0) (keyB sec non k) : Int))).1
  rw [set_mid _ _ _ n k (by simp [cellsB, stirTo_length]) hk] at h1
  rw [stirTo_succ]
  simpa [cellsB, xorB_toNat] using h1

theorem cell_zero {W : World} {base g n k : Nat} {A : List Value} (h : W.ownsRow base 5 1 (.slice (some ⟨g, 0, none⟩) n n) n (A ++ List.replicate (n - k) (.int .u8 0))) (hA : A.length = k) (hk : k < n) :
    W.cell? ⟨g, k, none⟩ = some (.int .u8 0) := by
  obtain ⟨m, hm⟩ : ∃ m, n - k = m + 1 := ⟨n - k - 1, by omega⟩
  rw [h.cellAt k (by omega), List.getElem?_append_right (by omega), hA, hm, Nat.sub_self, List.replicate_succ]
  rfl

theorem bgrown {W w1 : World} (hb : Below W.heap.size W w1) : W.grownBy w1 none := ⟨hb.os, hb.tape, hb.output, hb.size, fun k hk _ => hb.block k hk⟩

theorem below_undrew {B : Nat} {a b : World} (h : Below B a.drew b) : Below B a b := ⟨h.os, h.tape, h.output, h.size, h.block⟩

theorem mask_round {w wr w4 : World} {g n k : Nat} {sec non text : List UInt8} (b : UInt8) (o : Obj) (hbt : text.getD k 0 = b)
    (h : wr.ownsRow w.heap.size 5 1 (.slice (some ⟨g, 0, none⟩) n n) n (cellsB (stirTo sec non text k) ++ List.replicate (n - k) (.int .u8 0))) (hk : k < n)
    (hB : Below w.heap.size w wr) (hG : g < wr.heap.size) (hb4 : Below wr.heap.size wr w4) :
    ((w4.setCell ⟨g, k, none⟩ (.int .u8 (bits .xor .u8 (b.toNat : Int) (keyB sec non k % 256)))).alloc o).ownsRow w.heap.size 5 1 (.slice (some ⟨g, 0, none⟩) n n) n (cellsB (stirTo sec non text (k + 1)) ++ List.replicate (n - (k + 1)) (.int .u8 0)) ∧
    Below w.heap.size w ((w4.setCell ⟨g, k, none⟩ (.int .u8 (bits .xor .u8 (b.toNat : Int) (keyB sec non k % 256)))).alloc o) ∧
    g < ((w4.setCell ⟨g, k, none⟩ (.int .u8 (bits .xor .u8 (b.toNat : Int) (keyB sec non k % 256)))).alloc o).heap.size := by
  subst hbt
  rw [xor_bits]
  have h4 := h.kept (bgrown hb4) (.inr (by simp [Value.ownBlock]))
  have hg := (h.lt g rfl).1
  have hz := hb4.size
  have hz0 := hB.size
  refine ⟨(mask_step h4 hk).alloc _, ?_, ?_⟩
  · exact ((hB.trans (hb4.mono hz0)).setCell hg _).alloc (by simp; omega) _
  · simp; omega

/-- 'string(out)' of an owned row of bytes. -/
theorem conv_own {W : World} {base g n cap : Nat} {l : List UInt8} (h : W.ownsRow base 5 1 (.slice (some ⟨g, 0, none⟩) n cap) n (cellsB l)) (hl : l.length = n) :
    Sem.run Tryz.prog (convert 64 9 (.slice (some ⟨g, 0, none⟩) n cap)) W = .ok (strB l) W := by
  subst hl
  refine run_convert_bytes_back (P := Tryz.prog) _ 64 9 5 ⟨g, 0, none⟩ cap l Tryz.underlying64 Tryz.underlying5 Tryz.underlying9 ?_
  intro j hj
  have : (⟨g, 0, none⟩ : Addr).add j = ⟨g, j, none⟩ := by unfold Addr.add; split <;> simp_all
  rw [this, h.cellAt j (by omega)]
  simp [cellsB, hj]

theorem byte_getD (s : ByteArray) (k : Nat) (h : k < s.size) : s.data.toList.getD k 0 = s[k] := by
  have h' : k < s.data.toList.length := by simpa using h
  simp only [List.getD, List.getElem?_eq_getElem h', Option.getD_some]
  simp
  rfl

theorem flatB_one (l : List UInt8) : flatB [⟨l.toArray⟩] = l := by simp [flatB]

theorem flatB_key (sec non : ByteArray) : flatB [⟨#[75]⟩, sec, non] = 75 :: (sec.data.toList ++ non.data.toList) := by
  simp [flatB]

set_option maxHeartbeats 1000000 in
theorem mask_any (sec non text : ByteArray) (w : World) (h1 : sec.size ≤ maxLen) (h2 : non.size ≤ maxLen) (h3 : text.size ≤ 5000) :
    Calls Tryz.prog 89 #[.string sec, .string non, .string text] w fun e w' =>
      e = .returned (strB (stirB sec.data.toList non.data.toList text.data.toList)) ∧ Below w.heap.size w w' := by
  obtain ⟨i0, hi, hz0, hz1, hz2⟩ := info_parts Tryz.infoU8
  go_enter Tryz.func89, Tryz.ntmps89
  go_wp2_with fail
  refine (sum_lit [⟨#[75]⟩, sec, non] _ 3 w rfl rfl (by decide) ?_).mono ?_
  · intro x hx
    simp only [List.mem_cons, List.not_mem_nil, or_false] at hx
    rcases hx with rfl | rfl | rfl
    · decide
    · exact h1
    · exact h2
  rintro e w2 ⟨rfl, rfl⟩
  rw [flatB_key]
  have hr := sumB_range (75 :: (sec.data.toList ++ non.data.toList)) 1 (by decide) (by decide)
  obtain ⟨hr1, hr2⟩ := hr
  have HK : Hid (∀ i : Nat, sumB (sumB 1 (75 :: (sec.data.toList ++ non.data.toList))) (twoB i) = keyB sec.data.toList non.data.toList i) := by
    intro i; rw [← sumB_append]; rfl
  generalize sumB 1 (75 :: (sec.data.toList ++ non.data.toList)) = t at *
  go_wp2_with (at_make; refine wpList_make_full _ rfl (.tmp 15) (.tmp 15) 64 rfl w.heap.size 5 i0 (.int .u8 0) 1 Tryz.underlying64 hi hz0 hz1 .i64 .i64 _ _ text.size rfl rfl rfl rfl (by rw [hz2]; omega) (by unfold maxLen; omega) (by simp) ?_; intro w3 hown hgr)
  have hg : (w.alloc (Obj.cells #[Value.string ⟨#[75]⟩, Value.string sec, Value.string non] 9)).heap.size = w.heap.size + 1 := by simp
  rw [hg] at hown
  have hB3 : Below w.heap.size w w3 := ((Below.refl _ _).alloc (Nat.le_refl _) _).grown hgr (by rw [hg]; omega) (fun _ h => by cases h)
  have hG3 : w.heap.size + 1 < w3.heap.size := (hown.lt _ rfl).2
  have hst : (madeCells (Value.int IntKind.u8 0).cells (text.size * 1)).toList = cellsB (stirTo sec.data.toList non.data.toList text.data.toList 0) ++ List.replicate (text.size - 0) (.int .u8 0) := by
    show (madeCells #[Value.int IntKind.u8 0] (text.size * 1)).toList = _
    rw [toList_madeCells_one]; simp [cellsB, stirTo]
  rw [hst] at hown
  clear hst hgr hg
  generalize w.heap.size + 1 = g at *
  go_loopw [19] (fun i wr => ∃ k : Nat, k ≤ text.size ∧ i = .int .i64 k ∧ wr.ownsRow w.heap.size 5 1 (.slice (some ⟨g, 0, none⟩) text.size text.size) text.size (cellsB (stirTo sec.data.toList non.data.toList text.data.toList k) ++ List.replicate (text.size - k) (.int .u8 0)) ∧ Below w.heap.size w wr ∧ g < wr.heap.size)
    (fun i _ => text.size - (intOf i).toNat)
  case atStart => exact ⟨0, Nat.zero_le _, rfl, hown, hB3, hG3⟩
  case round =>
    clear hown hB3 hG3
    obtain ⟨k, hk, rfl, hown, hB, hG⟩ := hrel
    by_cases hlt : k < text.size
    · have hkt := HK.out k
      have hc0 := cell_zero hown (by simp [cellsB, stirTo_length]) hlt
      have hf0 := hown.frozenAt k
      obtain ⟨hkr1, hkr2⟩ := keyB_range sec.data.toList non.data.toList k
      have hgd := byte_getD text k hlt
      have Hgd := hid hgd
      clear hgd
      go_wp2_with fail
      go_region_with (first
        | (go_at_call 100; refine (two_any _ _ (by omega) (by omega)).mono ?_; rintro e w4 ⟨rfl, hb4⟩; have f0 : g < w4.heap.size := Nat.lt_of_lt_of_le hG hb4.size; have f1 : w4.cell? ⟨g, k, none⟩ = some (.int .u8 0) := (hb4.cell (p := ⟨g, k, none⟩) hG).trans hc0; have f2 : w4.frozen? ⟨g, k, none⟩ = false := (hb4.frozen (p := ⟨g, k, none⟩) hG).trans hf0)
        | (go_at_call 117; refine (sumOn_lit t [⟨(twoB (k : Int)).toArray⟩] _ 1 _ hr1 hr2 rfl rfl (by decide) (by intro x hx; simp only [List.mem_cons, List.not_mem_nil, or_false] at hx; subst hx; rw [strB_size, twoB_length]; decide)).mono ?_; rintro e w5 ⟨rfl, rfl⟩; rw [flatB_one, hkt]))
      all_goals
        have R := mask_round (text[k]'hlt) (Obj.cells #[Value.string ⟨(twoB (k : Int)).toArray⟩] 9) Hgd.out hown hlt hB hG (below_undrew hb4)
        clear hc0 hf0 f0 f1 f2 hb4 hkt hown hB hG
        have HR := hid R
        clear R
        go_wp2
        go_roundw
        case rel => exact ⟨k + 1, by omega, by go_num, HR.out.1, HR.out.2.1, HR.out.2.2⟩
        case measure => simp [intOf]; omega
    · have hke : k = text.size := by omega
      subst hke
      have hcv := conv_own (l := stirB sec.data.toList non.data.toList text.data.toList) (by simpa [stirB] using hown) (by simp [stirB_length])
      go_wp2
      go_ret
      exact ⟨rfl, hB⟩

end Go.Proofs.YthhpbhpfagoapabGreat
