/-
  What the document's ways of writing values do, by walks: way 3.
-/
import Derived.Test.YthhpbhpfagoapaaRWay
namespace Go.Proofs.Ythhpbhpfagoapaa
open Go.RowKit
set_option linter.unusedVariables false
set_option maxRecDepth 100000

set_option maxRecDepth 100000 in
set_option maxHeartbeats 4000000 in
theorem way3 (a : Option Addr) (cap : Nat) (l : List CellB) (w : World) (hv : Vals w a l) :
    Calls Try.prog 40 #[.int .i64 3, .slice a l.length cap] w fun e w' => e = .returned (strB (wayB 3 l)) ∧ Below w.heap.size w w' := by
  have Hv := hid hv
  have hn := hv.few
  clear hv
  go_enter Try.func40, Try.ntmps40
  go_wp2_with fail
  refine (different_any a cap l _ (by omega) Hv.out.lies).mono ?_
  rintro e w1 ⟨dv, rfl, hdown, hb1⟩
  obtain ⟨da, dcap, rfl, _, hLd⟩ := own_lies hdown (fun c hc => okC_of (Hv.out.small c (diffTo_mem l l.length (Nat.le_refl _) c hc)))
  have HLd := hid hLd
  have hsd : ∀ c ∈ diffB l, smallC c := fun c hc => Hv.out.small c (diffTo_mem l l.length (Nat.le_refl _) c hc)
  have Hsd := hid hsd
  have hdn : (diffB l).length ≤ 60 := Nat.le_trans (diffTo_len l l.length) hn
  clear hdown hLd hsd
  go_wp2_with fail
  refine (u_int _ _ (by omega) (by omega)).mono ?_
  rintro e w2 ⟨rfl, hb2⟩
  rw [Int.toNat_natCast]
  go_wp2_with fail
  go_loopw [5, 7] (fun s i wr => ∃ k : Nat, k ≤ (diffB l).length ∧ i = .int .i64 (k : Int) ∧ s = strB (wordsTo (diffB l) k) ∧ Below w1.heap.size w1 wr) (fun _ i _ => (diffB l).length - (intOf i).toNat)
  case atStart => exact ⟨0, Nat.zero_le _, rfl, rfl, hb2⟩
  case round =>
    clear hb2
    obtain ⟨k, hkl, rfl, rfl, hB⟩ := hrel
    by_cases hlt : k < (diffB l).length
    · have hlen := wordsTo_len (diffB l) Hsd.out hdn k
      have HS : Hid (wordsTo (diffB l) (k + 1) = wordsTo (diffB l) k ++ xB ((diffB l)[k]).text) := by
        show wordsTo (diffB l) k ++ xB (nthB (diffB l) k).text = _
        rw [nthB_at _ k hlt]
      obtain ⟨_, _, s3⟩ := Hsd.out (diffB l)[k] (List.getElem_mem hlt)
      obtain ⟨b, off, ha, hbw, hcell⟩ := (HLd.out.later hB).at_ (List.ne_nil_of_length_pos (by omega))
      obtain ⟨g1, g2, g3⟩ := hcell k hlt
      subst ha
      clear hcell
      have hbl := xB_len _ s3
      generalize wordsTo (diffB l) k = acc at *
      generalize ((diffB l)[k]).text = tx at *
      go_wp2_with fail
      refine (x_any _ _ (by rw [strB_size]; omega)).mono ?_
      rintro e w4 ⟨rfl, hb4⟩
      rw [mk_data]
      clear g1 g2 g3
      go_wp2
      go_roundw
      case rel => exact ⟨k + 1, by omega, by go_num, by rw [HS.out, app_str], hB.trans (hb4.mono hB.size)⟩
      case measure => simp [intOf]; omega
    · have hke : k = (diffB l).length := by omega
      subst hke
      have hwl := wordsTo_len (diffB l) Hsd.out hdn (diffB l).length
      generalize hW : wordsTo (diffB l) (diffB l).length = words at *
      have HW := hid hW
      clear hW
      go_wp2_with fail
      go_loopw [5, 8] (fun s i wr => ∃ k : Nat, k ≤ l.length ∧ i = .int .i64 (k : Int) ∧ s = strB (words ++ stepsTo 3 l k) ∧ Below w1.heap.size w1 wr) (fun _ i _ => l.length - (intOf i).toNat)
      case atStart => exact ⟨0, Nat.zero_le _, rfl, by simp [stepsTo], hB⟩
      case round =>
        clear hB
        obtain ⟨k, hkl, rfl, rfl, hB0⟩ := hrel
        have hB := hb1.trans (hB0.mono hb1.size)
        have hz1 := hB0.size
        by_cases hlt : k < l.length
        · have hlies := (Hv.out.later hB).lies
          have hlen := stepsTo_len 3 l Hv.out.small hn k
          have hstep := stepB_len 3 l Hv.out.small hn k
          have HS : Hid (stepsTo 3 l (k + 1) = stepsTo 3 l k ++ stepB 3 l k) := rfl
          have hsm := Hv.out.small l[k] (List.getElem_mem hlt)
          have hpr := small_prev l Hv.out.small k
          have HT : Hid (stepB 3 l k = uB (firstB (diffB l) (l[k]).text)) := by show uB (firstB (diffB l) (nthB l k).text) = _; rw [nthB_at l k hlt]
          have hfl := firstB_len (diffB l) (l[k]).text
          have hdl := diffTo_len l l.length
          have hdl2 : (diffB l).length ≤ 60 := Nat.le_trans hdl hn
          have Hex := hid (diffB_has l k hlt)
          clear hdl
          obtain ⟨b, off, ha, hbw, hcell⟩ := hlies.at_ (List.ne_nil_of_length_pos (by omega))
          subst ha
          have Hcell := hid hcell
          clear hlies
          obtain ⟨g1, g2, g3⟩ := hcell k hlt
          clear hcell
          generalize stepsTo 3 l k = acc at *
          have hz0 := hB.size
          go_upto_if 47 with fail
          go_cut [10] (fun p wc => p = .pointer (some ⟨wr.heap.size + 1, 0, none⟩) ∧ Holds3 wc wr.heap.size l[k] ∧ Holds3 wc (wr.heap.size + 1) (prevB l k) ∧ Below wr.heap.size wr wc ∧ wc.heap.size = wr.heap.size + 2)
          case first =>
            by_cases hk0 : k = 0
            · subst hk0
              go_wp2
              go_meet
              case rel => exact ⟨rfl, two_blocks wr l[0] cellD⟩
            · obtain ⟨m, rfl⟩ : ∃ m, k = m + 1 := ⟨k - 1, by omega⟩
              obtain ⟨f1, f2, f3⟩ := Hcell.out m (by omega)
              have hpm : prevB l (m + 1) = l[m] := by unfold prevB; rw [if_neg (by omega)]; exact nthB_at l m (by omega)
              have Hpm := hid hpm
              clear hpm
              go_wp2
              go_meet
              case rel => exact ⟨rfl, by rw [Hpm.out]; exact two_blocks wr l[m + 1] l[m]⟩
          case rest =>
            obtain ⟨rfl, hh1, hh2, hb3, hsz⟩ := hcut
            obtain ⟨v1, v2, v3⟩ := hh1
            obtain ⟨q1, q2, q3⟩ := hh2
            have hB3 := hB.trans (hb3.mono hz0)
            have hz3 := hB3.size
            obtain ⟨s1, s2, s3⟩ := hsm
            obtain ⟨r1, r2, r3⟩ := hpr
            have HB3 := hid hb3
            clear g1 g2 g3 hb3 hB
            have hLd := (HLd.out.later hB0).later HB3.out
            have HLd2 := hid hLd
            clear hLd
            have hbl := uB_len10 (firstB (diffB l) (l[k]).text) (by omega)
            go_wp2_with fail
            refine (first_any da dcap (diffB l) (l[k]).text _ (by omega) HLd2.out Hex.out).mono ?_
            rintro e wc ⟨rfl, rfl⟩
            generalize firstB (diffB l) (l[k]).text = ff at *
            go_wp2_with fail
            refine (u_int _ _ (by omega) (by omega)).mono ?_
            rintro e w4 ⟨rfl, hb4⟩
            rw [Int.toNat_natCast]
            have HB4 := hid ((hB0.trans (HB3.out.mono hz1)).trans (hb4.mono (Nat.le_trans hz1 HB3.out.size)))
            go_wp2
            go_roundw
            case rel => exact ⟨k + 1, by omega, by go_num, by rw [HS.out, HT.out, ← List.append_assoc, app_str], HB4.out⟩
            case measure => simp [intOf]; omega
        · have hke : k = l.length := by omega
          subst hke
          go_wp2
          go_ret
          exact ⟨ret_str (by unfold wayB; rw [if_pos rfl, HW.out]), hB⟩

end Go.Proofs.Ythhpbhpfagoapaa
