
/-
  What the program's test of a job does, by walks.
-/
import Derived.Test.YthhpbhpfagoapabGreatWBound2
namespace Go.Proofs.YthhpbhpfagoapabGreat
open Go.RowKit
set_option linter.unusedVariables false
set_option linter.unusedSimpArgs false
set_option maxRecDepth 100000

set_option maxHeartbeats 4000000 in
theorem hasKeys_any (a : Option Addr) (cap : Nat) (j : JobB) (ra : Option Addr) (rcap : Nat) (r : List KeyB) (w : World) (hj : LiesJ w a cap j) (hr : LiesK w ra r) (hrm : r.length ≤ maxLen) :
    Calls Tryz.prog 61 #[jobV (.slice a j.table.length cap) j, .slice ra r.length rcap] w fun e w' => e = .returned (.bool (hasTo j.table r j.table.length && hasNumB r j.plan.foot)) ∧ Below w.heap.size w w' := by
  have Hj := hid hj
  have Hr := hid hr
  have hlen := hj.len
  unfold maxLen at hlen
  clear hj hr
  go_enter Tryz.func61, Tryz.ntmps61
  go_wp2
  obtain ⟨hb0, hs1, _, _⟩ := boxedW w #[.slice a j.table.length cap, .int .i64 j.plan.group, .int .i64 j.plan.page, .int .i64 j.plan.foot, .bool j.plan.told, strB j.pre, .int .i64 j.draw] 27
  have Hx0 := hid (boxJ_new w (.slice a j.table.length cap) j 27)
  have Hj0 := hid (Hj.out.later hb0)
  have Hr0 := hid (Hr.out.later hb0)
  have Hb0 := hid hb0
  clear hb0
  generalize w.alloc _ = w0 at *
  go_loopw [14] (fun i wr => ∃ k : Nat, k ≤ j.table.length ∧ i = .int .i64 k ∧ hasTo j.table r k = true ∧ Below w0.heap.size w0 wr) (fun i _ => j.table.length - (intOf i).toNat)
  case atStart => exact ⟨0, Nat.zero_le _, rfl, rfl, Below.refl _ _⟩
  case round =>
    obtain ⟨k, hkl, rfl, hall, hB⟩ := hrel
    have Hall := hid hall
    clear hall
    by_cases hlt : k < j.table.length
    · obtain ⟨b, off, rfl, hbw, hcell⟩ := (Hj0.out.table.later hB).at_ (List.ne_nil_of_length_pos (by omega))
      obtain ⟨g1, g2, g3, v, g4, ca, cap2, rfl, _⟩ := hcell k hlt
      clear hcell
      have hki : (k : Int) < (j.table.length : Int) := by omega
      have HT := hid (hasTo_succ (r := r) hlt)
      have HNo : Hid ((decide ((j.table[k]).key = 0) || hasNumB r (j.table[k]).key) = false → hasTo j.table r j.table.length = false) := by
        intro h
        simp only [hasTo, List.take_length, List.all_eq_false]
        exact ⟨j.table[k], List.getElem_mem hlt, by rw [h]; simp⟩
      go_wp2_with fail
      obtain ⟨hbb, hsb, hcb, _⟩ := boxedW wr #[strB (j.table[k]).name, .int .i64 (j.table[k]).kind, .int .i64 (j.table[k]).key, .slice ca (j.table[k]).cells.length cap2] 31
      have y2 := hcb 2
      simp only [List.getElem?_toArray, List.getElem?_cons_zero, List.getElem?_cons_succ] at y2
      have hBb := hB.trans (hbb.mono hB.size)
      clear hcb hbb g1 g2 g3 g4 hB hbw
      generalize wr.alloc _ = wb at *
      refine (secret_any ra rcap r (j.table[k]).key wb hrm (Hr0.out.later hBb)).mono ?_
      rintro e w2 ⟨rfl, hb2⟩
      have z2 := (hb2.cell (p := ⟨wr.heap.size, 2, none⟩) hsb).trans y2
      have hB2 := hBb.trans (hb2.mono hBb.size)
      have HBB := hid (Hb0.out.trans (hB2.mono Hb0.out.size))
      clear y2 hBb hb2
      generalize secretB r (j.table[k]).key = sv at *
      cases hn : hasNumB r (j.table[k]).key with
      | true =>
        have HT2 : Hid (hasTo j.table r (k + 1) = true) := by show _ = _; rw [HT.out, Hall.out, hn]; simp
        clear hn HT
        go_wp2
        go_roundw
        case rel => exact ⟨k + 1, by omega, by go_num, HT2.out, hB2⟩
        case measure => simp [intOf]; omega
      | false =>
        rw [hn] at HT HNo
        clear hn
        by_cases hk0 : (j.table[k]).key = 0
        · have HT2 : Hid (hasTo j.table r (k + 1) = true) := by show _ = _; rw [HT.out, Hall.out]; simp [hk0]
          rw [hk0] at z2
          clear HT HNo hk0
          go_wp2
          go_roundw
          case rel => exact ⟨k + 1, by omega, by go_num, HT2.out, hB2⟩
          case measure => simp [intOf]; omega
        · have hk1 : ((j.table[k]).key != 0) = true := by simp [hk0]
          have HX : Hid (hasTo j.table r j.table.length = false) := HNo.out (by simp [hk0])
          clear HT HNo hk0
          go_wp2
          go_ret
          exact ⟨ret_bool (by rw [HX.out]; rfl), HBB.out⟩
    · have hke : k = j.table.length := by omega
      subst hke
      obtain ⟨x0, x1, x2, x3, x4, x5, x6⟩ := Hx0.out.later hs1 hB
      clear x0 x1 x2 x4 x5 x6
      go_wp2_with fail
      refine (secret_any ra rcap r j.plan.foot _ hrm (Hr0.out.later hB)).mono ?_
      rintro e w2 ⟨rfl, hb2⟩
      have hB2 := hB.trans (hb2.mono hB.size)
      have HBB := hid (Hb0.out.trans (hB2.mono Hb0.out.size))
      clear x3 hb2 hB hB2
      generalize secretB r j.plan.foot = sv at *
      go_wp2
      go_ret
      exact ⟨ret_bool (by rw [Hall.out]; rfl), HBB.out⟩

set_option maxHeartbeats 4000000 in
theorem checkJob_any (a : Option Addr) (cap : Nat) (j : JobB) (ra : Option Addr) (rcap : Nat) (r : List KeyB) (w : World) (hj : LiesJ w a cap j) (hr : LiesK w ra r) (hrm : r.length ≤ maxLen) :
    Calls Tryz.prog 36 #[jobV (.slice a j.table.length cap) j, .slice ra r.length rcap] w fun e w' => e = .returned (.int .i64 (jobErrB j r)) ∧ Below w.heap.size w w' := by
  have Hj := hid hj
  have Hr := hid hr
  have hlen := hj.len
  have hpre := hj.pre
  have Hpre := hid hpre
  unfold maxLen at hlen hpre
  clear hj hr
  have HE : Hid (jobErrB j r = if tableOkB j.table = false then 5 else if planB2 j = false then 7 else if ringOkB r = false then 1 else if missesB j r = true then 8 else 0) := rfl
  have HP2 : Hid (planB2 j = (planOkB j.plan && (decide (j.pre.length ≤ 20) && (decide (0 ≤ j.draw) && decide (j.draw ≤ 65535))))) := rfl
  have HHM := hid (has_misses (j := j) (r := r))
  go_enter Tryz.func36, Tryz.ntmps36
  go_wp2_with fail
  obtain ⟨hb0, hs1, _, _⟩ := boxedW w #[.slice a j.table.length cap, .int .i64 j.plan.group, .int .i64 j.plan.page, .int .i64 j.plan.foot, .bool j.plan.told, strB j.pre, .int .i64 j.draw] 27
  have Hx0 := hid (boxJ_new w (.slice a j.table.length cap) j 27)
  have Hj0 := hid (Hj.out.later hb0)
  have Hr0 := hid (Hr.out.later hb0)
  have Hb0 := hid hb0
  clear hb0
  generalize w.alloc _ = w0 at *
  refine (isTable_any a cap j.table w0 Hj.out.len Hj.out.cap_ Hj0.out.table).mono ?_
  rintro e w1 ⟨rfl, hb1⟩
  obtain ⟨x0, x1, x2, x3, x4, x5, x6⟩ := Hx0.out.later hs1 hb1
  have HB1 := hid (Hb0.out.trans (hb1.mono Hb0.out.size))
  cases ht : tableOkB j.table with
  | false =>
    have Ht := hid ht
    clear ht
    go_wp2
    go_ret
    exact ⟨ret_int (by rw [HE.out, Ht.out]; rfl), HB1.out⟩
  | true =>
    have Ht := hid ht
    clear ht
    go_wp2_with fail
    refine (isPlan_any j.plan _).mono ?_
    rintro e w2 ⟨rfl, hb2⟩
    have hB2 := hb1.trans (hb2.mono hb1.size)
    have HB2 := hid (Hb0.out.trans (hB2.mono Hb0.out.size))
    clear x0 x1 x2 x3 x4 x5 x6 hb1 hb2
    obtain ⟨x0, x1, x2, x3, x4, x5, x6⟩ := Hx0.out.later hs1 hB2
    cases hp1 : planOkB j.plan with
    | false =>
      have HX : Hid (planB2 j = false) := by show _ = _; rw [HP2.out, hp1]; rfl
      clear hp1
      go_wp2
      go_ret
      exact ⟨ret_int (by rw [HE.out, Ht.out, HX.out]; rfl), HB2.out⟩
    | true =>
      rw [hp1] at HP2
      clear hp1
      go_wp2_with fail
      refine (isPrefix_any j.pre _ Hpre.out).mono ?_
      rintro e w3 ⟨rfl, rfl⟩
      cases hp2 : decide (j.pre.length ≤ 20) with
      | false =>
        have HX : Hid (planB2 j = false) := by show _ = _; rw [HP2.out, hp2]; rfl
        clear hp2
        go_wp2
        go_ret
        exact ⟨ret_int (by rw [HE.out, Ht.out, HX.out]; rfl), HB2.out⟩
      | true =>
        rw [hp2] at HP2
        clear hp2
        go_wp2_with fail
        refine (isDraw_any j.draw _).mono ?_
        rintro e w3 ⟨rfl, rfl⟩
        cases hp3 : (decide (0 ≤ j.draw) && decide (j.draw ≤ 65535)) with
        | false =>
          have HX : Hid (planB2 j = false) := by show _ = _; rw [HP2.out, hp3]; rfl
          clear hp3
          go_wp2
          go_ret
          exact ⟨ret_int (by rw [HE.out, Ht.out, HX.out]; rfl), HB2.out⟩
        | true =>
          have HX : Hid (planB2 j = true) := by show _ = _; rw [HP2.out, hp3]; rfl
          clear hp3
          go_wp2_with fail
          refine (isRing_any ra rcap r _ hrm (Hr0.out.later hB2)).mono ?_
          rintro e w3 ⟨rfl, hb3⟩
          have hB3 := hB2.trans (hb3.mono hB2.size)
          have HB3 := hid (Hb0.out.trans (hB3.mono Hb0.out.size))
          clear x0 x1 x2 x3 x4 x5 x6 hB2 hb3
          obtain ⟨x0, x1, x2, x3, x4, x5, x6⟩ := Hx0.out.later hs1 hB3
          cases hk : ringOkB r with
          | false =>
            have Hk := hid hk
            clear hk
            go_wp2
            go_ret
            exact ⟨ret_int (by rw [HE.out, Ht.out, HX.out, Hk.out]; rfl), HB3.out⟩
          | true =>
            have Hk := hid hk
            clear hk
            go_wp2_with fail
            refine (hasKeys_any a cap j ra rcap r _ (Hj0.out.later hB3) (Hr0.out.later hB3) hrm).mono ?_
            rintro e w4 ⟨rfl, hb4⟩
            have HB4 := hid (HB3.out.trans (hb4.mono HB3.out.size))
            rw [HHM.out Ht.out]
            clear x0 x1 x2 x3 x4 x5 x6 hB3 hb4
            cases hms : missesB j r with
            | true =>
              have Hms := hid hms
              clear hms
              go_wp2
              go_ret
              exact ⟨ret_int (by rw [HE.out, Ht.out, HX.out, Hk.out, Hms.out]; rfl), HB4.out⟩
            | false =>
              have Hms := hid hms
              clear hms
              go_wp2
              go_ret
              exact ⟨ret_int (by rw [HE.out, Ht.out, HX.out, Hk.out, Hms.out]; rfl), HB4.out⟩

end Go.Proofs.YthhpbhpfagoapabGreat
