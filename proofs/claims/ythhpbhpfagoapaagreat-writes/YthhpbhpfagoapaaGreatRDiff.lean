/-
  What the document's first and different do, by walks.
-/
import Derived.Test.YthhpbhpfagoapaaGreatRVals
import Derived.Test.YthhpbhpfagoapaaGreatPWays
namespace Go.Proofs.YthhpbhpfagoapaaGreat
open Go.RowKit
set_option linter.unusedVariables false
set_option maxRecDepth 100000

set_option maxHeartbeats 1000000 in
theorem first_any (a : Option Addr) (cap : Nat) (l : List CellB) (t : List UInt8) (w : World) (hn : l.length ≤ 1000) (hl : Lies w a l) (hex : ∃ c ∈ l, c.text = t) :
    Calls Tryz.prog 178 #[.slice a l.length cap, strB t] w fun e w' => e = .returned (.int .i64 (firstB l t : Int)) ∧ w' = w := by
  have Hl := hid hl
  obtain ⟨hf1, hf2⟩ := firstB_at l t hex
  have HF2 := hid hf2
  have HF3 := hid (firstB_lt l t)
  obtain ⟨b, off, rfl, hbw, hcell⟩ := hl.at_ (List.ne_nil_of_length_pos (by omega))
  have Hcell := hid hcell
  clear hl hf2 hex hcell
  go_enter Tryz.func178, Tryz.ntmps178
  go_wp2
  go_loop [5] (fun i => ∃ m : Nat, m ≤ firstB l t ∧ i = .int .i64 (m : Int)) (fun i => 1000 - (intOf i).toNat)
  case atStart => exact ⟨0, Nat.zero_le _, rfl⟩
  case round =>
    obtain ⟨m, hm, rfl⟩ := hrel
    have hml : m < l.length := by omega
    obtain ⟨g1, g2, g3⟩ := Hcell.out m hml
    by_cases hlt : m < firstB l t
    · have hne : ((l[m]'hml).text == t) = false := by simpa using HF3.out m hlt hml
      generalize (l[m]'hml).text = tx at *
      clear g1 g2
      go_wp2
      go_round
      case rel => exact ⟨m + 1, by omega, by go_num⟩
      case measure => simp [intOf]; omega
    · have hme : m = firstB l t := by omega
      have HM := hid hme
      have heq : (l[m]'hml).text = t := by have := HF2.out; subst hme; exact this
      rw [heq] at g3
      clear g1 g2 heq hme
      go_wp2
      go_ret
      exact ⟨ret_int (by rw [← HM.out]), rfl⟩

set_option maxHeartbeats 1000000 in
theorem different_any (a : Option Addr) (cap : Nat) (l : List CellB) (w : World) (hn : l.length ≤ 1000) (hl : Lies w a l) :
    Calls Tryz.prog 175 #[.slice a l.length cap] w fun e w' => ∃ v, e = .returned v ∧ w'.ownsRow w.heap.size 58 3 v (diffB l).length (cellsC (diffB l)) ∧ Below w.heap.size w w' := by
  obtain ⟨i1, hi1, hy0, hy1, hy2⟩ := info_parts Tryz.infoCell
  have Hl := hid hl
  clear hl
  go_enter Tryz.func175, Tryz.ntmps175
  go_wp2
  go_loopw [3, 4] (fun v i wr => ∃ k : Nat, k ≤ l.length ∧ i = .int .i64 k ∧ wr.ownsRow w.heap.size 58 3 v (diffTo l k).length (cellsC (diffTo l k)) ∧ Below w.heap.size w wr) (fun _ i _ => l.length - (intOf i).toNat)
  case atStart => exact ⟨0, Nat.zero_le _, rfl, World.ownsRow_nil _ _ _ _, Below.refl _ _⟩
  case round =>
    obtain ⟨k, hkl, rfl, hown, hB⟩ := hrel
    by_cases hlt : k < l.length
    · have hlies := Hl.out.later hB
      have HLi := hid hlies
      obtain ⟨b, off, ha, hbw, hcell⟩ := hlies.at_ (List.ne_nil_of_length_pos (by omega))
      subst ha
      obtain ⟨g1, g2, g3⟩ := hcell k hlt
      clear hcell hlies
      have HF : Hid (diffTo l (k + 1) = diffTo l k ++ (if firstB l (nthB l k).text = k then [nthB l k] else [])) := rfl
      have HN := hid (nthB_at l k hlt)
      have hvl := diffTo_len l k
      generalize diffTo l k = ds at *
      have hfl := firstB_le l k hlt
      go_wp2_with fail
      refine (first_any _ cap l (l[k]).text _ hn HLi.out ⟨l[k], List.getElem_mem hlt, rfl⟩).mono ?_
      rintro e wr ⟨rfl, rfl⟩
      by_cases hfk : firstB l (l[k]).text = k
      · have HF2 : Hid (diffTo l (k + 1) = ds ++ [l[k]]) := by have := HF.out; rw [HN.out, if_pos hfk] at this; exact this
        rw [hfk]
        clear HF hfk hfl
        go_wp2_with (at_builtin; refine wpList_append_own _ rfl (.tmp 22) (.tmp 27) 59 rfl w.heap.size 58 i1 (.agg #[.bool false, .int .i64 0, .string ⟨#[]⟩]) 3 32 Tryz.underlying59 hi1 hy0 hy1 hy2 rfl (by decide) _ _ _ rfl (hown.alloc _) ⟨_, 0, none⟩ 1 1 [.bool (l[k]).null, .int .i64 (l[k]).int, strB (l[k]).text] rfl rfl ?c1 ?c2 ?c3 ?c4 ?c5 ?_)
        case c1 => exact cell_laid wr #[.bool (l[k]).null, .int .i64 (l[k]).int, strB (l[k]).text] 58
        case c2 => intro u hu; simp at hu; rcases hu with rfl | rfl | rfl <;> rfl
        case c3 => unfold maxLen; omega
        case c4 => omega
        case c5 => have := hB.size; simp; omega
        intro v2 w2 hl2 hg2 _
        have HR := hid (grow_cell (c := l[k]) hB rfl hown hl2 hg2)
        clear hl2 hg2 hB hown g1 g2 g3
        go_wp2
        go_roundw
        case rel => exact ⟨k + 1, by omega, by go_num, by rw [HF2.out]; exact HR.out.1, HR.out.2⟩
        case measure => simp [intOf]; omega
      · have HF2 : Hid (diffTo l (k + 1) = ds) := by have := HF.out; rw [HN.out, if_neg hfk] at this; simpa [Hid] using this
        have hfb : ((firstB l (l[k]).text : Int) == (k : Int)) = false := by simp; omega
        generalize firstB l (l[k]).text = ff at *
        clear HF hfk hfl
        go_wp2
        go_roundw
        case rel => exact ⟨k + 1, by omega, by go_num, by rw [HF2.out]; exact hown, hB⟩
        case measure => simp [intOf]; omega
    · have hk5 : k = l.length := by omega
      subst hk5
      go_wp2
      go_ret
      exact ⟨_, rfl, hown, hB⟩

end Go.Proofs.YthhpbhpfagoapaaGreat
