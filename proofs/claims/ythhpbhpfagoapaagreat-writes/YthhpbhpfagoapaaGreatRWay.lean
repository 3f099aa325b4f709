/-
  What the document's ways of writing values do, by walks: ways 0, 1 and 5.
-/
import Derived.Test.YthhpbhpfagoapaaGreatRDiff
import Derived.Deep.DeepCutAuto
namespace Go.Proofs.YthhpbhpfagoapaaGreat
open Go.RowKit
set_option linter.unusedVariables false
set_option maxRecDepth 100000

/-- What a round of a way asks of the list, where it lies. -/
structure Vals (w : World) (a : Option Addr) (l : List CellB) : Prop where
  lies : Lies w a l
  small : ∀ c ∈ l, smallC c
  few : l.length ≤ 60

theorem Vals.later {w w' : World} {a : Option Addr} {l : List CellB} (h : Vals w a l) (hb : Below w.heap.size w w') : Vals w' a l := ⟨h.lies.later hb, h.small, h.few⟩

theorem okC_of {c : CellB} (h : smallC c) : okC c := ⟨h.1, h.2.1, by have := h.2.2; unfold maxLen; omega⟩

/-- A block of a cell. -/
def Holds3 (w : World) (g : Nat) (c : CellB) : Prop :=
  w.cell? ⟨g, 0, none⟩ = some (.bool c.null) ∧ w.cell? ⟨g, 1, none⟩ = some (.int .i64 c.int) ∧ w.cell? ⟨g, 2, none⟩ = some (strB c.text)

theorem Holds3.later {w w' : World} {g : Nat} {c : CellB} (h : Holds3 w g c) (hg : g < w.heap.size) (hb : Below w.heap.size w w') : Holds3 w' g c :=
  ⟨(hb.cell (p := ⟨g, _, none⟩) hg).trans h.1, (hb.cell (p := ⟨g, _, none⟩) hg).trans h.2.1, (hb.cell (p := ⟨g, _, none⟩) hg).trans h.2.2⟩

theorem two_blocks (wr : World) (c d : CellB) :
    Holds3 ((wr.alloc (.cells #[.bool c.null, .int .i64 c.int, strB c.text] 58)).alloc (.cells #[.bool d.null, .int .i64 d.int, strB d.text] 58)) wr.heap.size c ∧
    Holds3 ((wr.alloc (.cells #[.bool c.null, .int .i64 c.int, strB c.text] 58)).alloc (.cells #[.bool d.null, .int .i64 d.int, strB d.text] 58)) (wr.heap.size + 1) d ∧
    Below wr.heap.size wr ((wr.alloc (.cells #[.bool c.null, .int .i64 c.int, strB c.text] 58)).alloc (.cells #[.bool d.null, .int .i64 d.int, strB d.text] 58)) ∧
    ((wr.alloc (.cells #[.bool c.null, .int .i64 c.int, strB c.text] 58)).alloc (.cells #[.bool d.null, .int .i64 d.int, strB d.text] 58)).heap.size = wr.heap.size + 2 := by
  refine ⟨⟨?_, ?_, ?_⟩, ⟨?_, ?_, ?_⟩, ((Below.refl _ _).alloc (Nat.le_refl _) _).alloc (by simp) _, by simp⟩
  all_goals simp [go_sem]

set_option maxRecDepth 100000 in
set_option maxHeartbeats 4000000 in
theorem way0 (a : Option Addr) (cap : Nat) (l : List CellB) (w : World) (hv : Vals w a l) :
    Calls Tryz.prog 117 #[.int .i64 0, .slice a l.length cap] w fun e w' => e = .returned (strB (wayB 0 l)) ∧ Below w.heap.size w w' := by
  have Hv := hid hv
  have hn := hv.few
  clear hv
  go_enter Tryz.func117, Tryz.ntmps117
  go_wp2_with fail
  refine (different_any a cap l _ (by omega) Hv.out.lies).mono ?_
  rintro e w1 ⟨dv, rfl, hdown, hb1⟩
  clear hdown
  go_wp2_with fail
  go_loopw [5, 8] (fun s i wr => ∃ k : Nat, k ≤ l.length ∧ i = .int .i64 (k : Int) ∧ s = strB (stepsTo 0 l k) ∧ Below w.heap.size w wr) (fun _ i _ => l.length - (intOf i).toNat)
  case atStart => exact ⟨0, Nat.zero_le _, rfl, rfl, hb1⟩
  case round =>
    clear hb1
    obtain ⟨k, hkl, rfl, rfl, hB⟩ := hrel
    by_cases hlt : k < l.length
    · have hlies := (Hv.out.later hB).lies
      have hlen := stepsTo_len 0 l Hv.out.small hn k
      have hstep := stepB_len 0 l Hv.out.small hn k
      have HS : Hid (stepsTo 0 l (k + 1) = stepsTo 0 l k ++ stepB 0 l k) := rfl
      have hsm := Hv.out.small l[k] (List.getElem_mem hlt)
      have hpr := small_prev l Hv.out.small k
      have HT : Hid (stepB 0 l k = bB (l[k]).int) := by show bB (nthB l k).int = _; rw [nthB_at l k hlt]
      obtain ⟨b, off, ha, hbw, hcell⟩ := hlies.at_ (List.ne_nil_of_length_pos (by omega))
      subst ha
      have Hcell := hid hcell
      clear hlies
      obtain ⟨g1, g2, g3⟩ := hcell k hlt
      clear hcell
      generalize stepsTo 0 l k = acc at *
      have hz0 := hB.size
      go_upto_if 47 with fail
      go_cut [10] (fun p wc => p = .pointer (some ⟨wr.heap.size + 1, 0, none⟩) ∧ Holds3 wc wr.heap.size l[k] ∧ Holds3 wc (wr.heap.size + 1) (prevB l k) ∧ Below wr.heap.size wr wc ∧ wc.heap.size = wr.heap.size + 2)
      case first =>
        by_cases hk0 : k = 0
        · subst hk0
          go_wp2
          go_meet
          case rel => exact ⟨rfl, two_blocks wr l[0] cellD⟩
        · obtain ⟨m, rfl⟩ : ∃ m, k = m + 1 := ⟨k - 1, by omega⟩
          obtain ⟨f1, f2, f3⟩ := Hcell.out m (by omega)
          have hpm : prevB l (m + 1) = l[m] := by unfold prevB; rw [if_neg (by omega)]; exact nthB_at l m (by omega)
          have Hpm := hid hpm
          clear hpm
          go_wp2
          go_meet
          case rel => exact ⟨rfl, by rw [Hpm.out]; exact two_blocks wr l[m + 1] l[m]⟩
      case rest =>
        obtain ⟨rfl, hh1, hh2, hb3, hsz⟩ := hcut
        obtain ⟨v1, v2, v3⟩ := hh1
        obtain ⟨q1, q2, q3⟩ := hh2
        have hB3 := hB.trans (hb3.mono hz0)
        have hz3 := hB3.size
        obtain ⟨s1, s2, s3⟩ := hsm
        obtain ⟨r1, r2, r3⟩ := hpr
        have HB3 := hid hb3
        clear g1 g2 g3 hb3 hB
        go_wp2_with fail
        refine (b_any _ _ s1 s2).mono ?_
        rintro e w4 ⟨rfl, hb4⟩
        have hbl := bB_length l[k].int
        have hbl2 : (bB l[k].int).length ≤ 8 := by omega
        clear hbl
        go_wp2
        go_roundw
        case rel => exact ⟨k + 1, by omega, by go_num, by rw [HS.out, HT.out]; rw [app_str], hB3.trans (hb4.mono hz3)⟩
        case measure => simp [intOf]; omega
    · have hke : k = l.length := by omega
      subst hke
      go_wp2
      go_ret
      exact ⟨ret_str (by simp [wayB]), hB⟩

set_option maxRecDepth 100000 in
set_option maxHeartbeats 4000000 in
theorem way1 (a : Option Addr) (cap : Nat) (l : List CellB) (w : World) (hv : Vals w a l) :
    Calls Tryz.prog 117 #[.int .i64 1, .slice a l.length cap] w fun e w' => e = .returned (strB (wayB 1 l)) ∧ Below w.heap.size w w' := by
  have Hv := hid hv
  have hn := hv.few
  clear hv
  go_enter Tryz.func117, Tryz.ntmps117
  go_wp2_with fail
  refine (different_any a cap l _ (by omega) Hv.out.lies).mono ?_
  rintro e w1 ⟨dv, rfl, hdown, hb1⟩
  clear hdown
  go_wp2_with fail
  go_loopw [5, 8] (fun s i wr => ∃ k : Nat, k ≤ l.length ∧ i = .int .i64 (k : Int) ∧ s = strB (stepsTo 1 l k) ∧ Below w.heap.size w wr) (fun _ i _ => l.length - (intOf i).toNat)
  case atStart => exact ⟨0, Nat.zero_le _, rfl, rfl, hb1⟩
  case round =>
    clear hb1
    obtain ⟨k, hkl, rfl, rfl, hB⟩ := hrel
    by_cases hlt : k < l.length
    · have hlies := (Hv.out.later hB).lies
      have hlen := stepsTo_len 1 l Hv.out.small hn k
      have hstep := stepB_len 1 l Hv.out.small hn k
      have HS : Hid (stepsTo 1 l (k + 1) = stepsTo 1 l k ++ stepB 1 l k) := rfl
      have hsm := Hv.out.small l[k] (List.getElem_mem hlt)
      have hpr := small_prev l Hv.out.small k
      have HT : Hid (stepB 1 l k = zB (wrap64 ((l[k]).int - (prevB l k).int))) := by show zB (wrap64 ((nthB l k).int - (prevB l k).int)) = _; rw [nthB_at l k hlt]
      obtain ⟨b, off, ha, hbw, hcell⟩ := hlies.at_ (List.ne_nil_of_length_pos (by omega))
      subst ha
      have Hcell := hid hcell
      clear hlies
      obtain ⟨g1, g2, g3⟩ := hcell k hlt
      clear hcell
      generalize stepsTo 1 l k = acc at *
      have hz0 := hB.size
      go_upto_if 47 with fail
      go_cut [10] (fun p wc => p = .pointer (some ⟨wr.heap.size + 1, 0, none⟩) ∧ Holds3 wc wr.heap.size l[k] ∧ Holds3 wc (wr.heap.size + 1) (prevB l k) ∧ Below wr.heap.size wr wc ∧ wc.heap.size = wr.heap.size + 2)
      case first =>
        by_cases hk0 : k = 0
        · subst hk0
          go_wp2
          go_meet
          case rel => exact ⟨rfl, two_blocks wr l[0] cellD⟩
        · obtain ⟨m, rfl⟩ : ∃ m, k = m + 1 := ⟨k - 1, by omega⟩
          obtain ⟨f1, f2, f3⟩ := Hcell.out m (by omega)
          have hpm : prevB l (m + 1) = l[m] := by unfold prevB; rw [if_neg (by omega)]; exact nthB_at l m (by omega)
          have Hpm := hid hpm
          clear hpm
          go_wp2
          go_meet
          case rel => exact ⟨rfl, by rw [Hpm.out]; exact two_blocks wr l[m + 1] l[m]⟩
      case rest =>
        obtain ⟨rfl, hh1, hh2, hb3, hsz⟩ := hcut
        obtain ⟨v1, v2, v3⟩ := hh1
        obtain ⟨q1, q2, q3⟩ := hh2
        have hB3 := hB.trans (hb3.mono hz0)
        have hz3 := hB3.size
        obtain ⟨s1, s2, s3⟩ := hsm
        obtain ⟨r1, r2, r3⟩ := hpr
        have HB3 := hid hb3
        clear g1 g2 g3 hb3 hB
        obtain ⟨e1, e2⟩ := wrap64_range ((l[k]).int - (prevB l k).int)
        go_wp2_with fail
        refine (z_any _ _ e1 e2).mono ?_
        rintro e w4 ⟨rfl, hb4⟩
        have hbl := zB_len _ e1 e2
        go_wp2
        go_roundw
        case rel => exact ⟨k + 1, by omega, by go_num, by rw [HS.out, HT.out]; rw [app_str], hB3.trans (hb4.mono hz3)⟩
        case measure => simp [intOf]; omega
    · have hke : k = l.length := by omega
      subst hke
      go_wp2
      go_ret
      exact ⟨ret_str (by simp [wayB]), hB⟩

set_option maxRecDepth 100000 in
set_option maxHeartbeats 4000000 in
theorem way5 (a : Option Addr) (cap : Nat) (l : List CellB) (w : World) (hv : Vals w a l) :
    Calls Tryz.prog 117 #[.int .i64 5, .slice a l.length cap] w fun e w' => e = .returned (strB (wayB 5 l)) ∧ Below w.heap.size w w' := by
  have Hv := hid hv
  have hn := hv.few
  clear hv
  go_enter Tryz.func117, Tryz.ntmps117
  go_wp2_with fail
  refine (different_any a cap l _ (by omega) Hv.out.lies).mono ?_
  rintro e w1 ⟨dv, rfl, hdown, hb1⟩
  clear hdown
  go_wp2_with fail
  go_loopw [5, 8] (fun s i wr => ∃ k : Nat, k ≤ l.length ∧ i = .int .i64 (k : Int) ∧ s = strB (stepsTo 5 l k) ∧ Below w.heap.size w wr) (fun _ i _ => l.length - (intOf i).toNat)
  case atStart => exact ⟨0, Nat.zero_le _, rfl, rfl, hb1⟩
  case round =>
    clear hb1
    obtain ⟨k, hkl, rfl, rfl, hB⟩ := hrel
    by_cases hlt : k < l.length
    · have hlies := (Hv.out.later hB).lies
      have hlen := stepsTo_len 5 l Hv.out.small hn k
      have hstep := stepB_len 5 l Hv.out.small hn k
      have HS : Hid (stepsTo 5 l (k + 1) = stepsTo 5 l k ++ stepB 5 l k) := rfl
      have hsm := Hv.out.small l[k] (List.getElem_mem hlt)
      have hpr := small_prev l Hv.out.small k
      have HT : Hid (stepB 5 l k = xB (l[k]).text) := by show xB (nthB l k).text = _; rw [nthB_at l k hlt]
      obtain ⟨b, off, ha, hbw, hcell⟩ := hlies.at_ (List.ne_nil_of_length_pos (by omega))
      subst ha
      have Hcell := hid hcell
      clear hlies
      obtain ⟨g1, g2, g3⟩ := hcell k hlt
      clear hcell
      generalize stepsTo 5 l k = acc at *
      have hz0 := hB.size
      go_upto_if 47 with fail
      go_cut [10] (fun p wc => p = .pointer (some ⟨wr.heap.size + 1, 0, none⟩) ∧ Holds3 wc wr.heap.size l[k] ∧ Holds3 wc (wr.heap.size + 1) (prevB l k) ∧ Below wr.heap.size wr wc ∧ wc.heap.size = wr.heap.size + 2)
      case first =>
        by_cases hk0 : k = 0
        · subst hk0
          go_wp2
          go_meet
          case rel => exact ⟨rfl, two_blocks wr l[0] cellD⟩
        · obtain ⟨m, rfl⟩ : ∃ m, k = m + 1 := ⟨k - 1, by omega⟩
          obtain ⟨f1, f2, f3⟩ := Hcell.out m (by omega)
          have hpm : prevB l (m + 1) = l[m] := by unfold prevB; rw [if_neg (by omega)]; exact nthB_at l m (by omega)
          have Hpm := hid hpm
          clear hpm
          go_wp2
          go_meet
          case rel => exact ⟨rfl, by rw [Hpm.out]; exact two_blocks wr l[m + 1] l[m]⟩
      case rest =>
        obtain ⟨rfl, hh1, hh2, hb3, hsz⟩ := hcut
        obtain ⟨v1, v2, v3⟩ := hh1
        obtain ⟨q1, q2, q3⟩ := hh2
        have hB3 := hB.trans (hb3.mono hz0)
        have hz3 := hB3.size
        obtain ⟨s1, s2, s3⟩ := hsm
        obtain ⟨r1, r2, r3⟩ := hpr
        have HB3 := hid hb3
        clear g1 g2 g3 hb3 hB
        go_wp2_with fail
        refine (x_any _ _ (by rw [strB_size]; omega)).mono ?_
        rintro e w4 ⟨rfl, hb4⟩
        rw [mk_data]
        have hbl := xB_len _ s3
        go_wp2
        go_roundw
        case rel => exact ⟨k + 1, by omega, by go_num, by rw [HS.out, HT.out]; rw [app_str], hB3.trans (hb4.mono hz3)⟩
        case measure => simp [intOf]; omega
    · have hke : k = l.length := by omega
      subst hke
      go_wp2
      go_ret
      exact ⟨ret_str (by simp [wayB]), hB⟩

end Go.Proofs.YthhpbhpfagoapaaGreat
