/-
  What the document's tests of tables, plans and rings do, by walks.
-/
import Derived.Test.YthhpbhpfagoapaaGreatWName
import Derived.Deep.RegionWith
namespace Go.Proofs.YthhpbhpfagoapaaGreat
open Go.RowKit
set_option linter.unusedVariables false
set_option maxRecDepth 100000

abbrev planV (p : PlanB) : Value := .agg #[.int .i64 p.group, .int .i64 p.page, .int .i64 p.foot, .bool p.told]

set_option maxHeartbeats 1000000 in
theorem planRef_any (p : PlanB) (w : World) :
    Calls Tryz.prog 79 #[planV p] w fun e w' => e = .returned (.bool (planOkB p)) ∧ Below w.heap.size w w' := by
  have HP : Hid (planOkB p = (decide (1 ≤ p.group) && decide (p.group ≤ 60) && decide (1 ≤ p.page) && decide (p.page ≤ 60) && decide (1 ≤ p.foot) && decide (p.foot ≤ 9))) := by
    simp only [Hid, planOkB, Bool.and_assoc]
  obtain ⟨a, b, c, d⟩ := p
  simp only at HP
  go_enter Tryz.func79, Tryz.ntmps79
  go_wp2
  all_goals
    go_ret
    exact ⟨ret_bool (by rw [HP.out]; simp; omega), (Below.refl _ _).alloc (Nat.le_refl _) _⟩

theorem rowsB_eq {t : List ColB} (h : 0 < t.length) : rowsB t = (t[0]).cells.length := by
  cases t with
  | nil => simp at h
  | cons c t => rfl

theorem table_no {t : List ColB} {k : Nat} (hk : k < t.length) (h : (cellsOkB (t[k]).kind (t[k]).cells && decide ((t[k]).cells.length = rowsB t)) = false) : tableOkB t = false := by
  have : (t.all fun c => cellsOkB c.kind c.cells && decide (c.cells.length = rowsB t)) = false := by
    rw [List.all_eq_false]
    exact ⟨t[k], List.getElem_mem hk, by rw [h]; simp⟩
  rw [tableOkB, this, Bool.and_false]

set_option maxHeartbeats 2000000 in
theorem tableRef_any (a : Option Addr) (cap : Nat) (t : List ColB) (w : World) (hm : t.length ≤ maxLen) (hl : LiesT w a t) :
    Calls Tryz.prog 78 #[.slice a t.length cap] w fun e w' => e = .returned (.bool (tableOkB t)) ∧ Below w.heap.size w w' := by
  have Hl := hid hl
  clear hl
  go_enter Tryz.func78, Tryz.ntmps78
  go_wp2_with fail
  refine (headsRef_any a cap t w hm Hl.out).mono ?_
  rintro e w1 ⟨rfl, hb1⟩
  cases hh : headsOkB t with
  | false =>
    have HF : Hid (tableOkB t = false) := by show tableOkB t = false; rw [tableOkB, hh, Bool.false_and]
    clear hh
    go_wp2
    go_ret
    exact ⟨ret_bool HF.out.symm, hb1⟩
  | true =>
    have h6 : 1 ≤ t.length ∧ t.length ≤ 6 := by
      simp only [headsOkB, Bool.and_eq_true, decide_eq_true_eq] at hh
      exact hh.2
    have Hh := hid hh
    obtain ⟨h1, h6⟩ := h6
    clear hh
    go_wp2
    go_loopw [4] (fun i wr => ∃ k : Nat, k ≤ t.length ∧ i = .int .i64 k ∧ ((t.take k).all fun c => cellsOkB c.kind c.cells && decide (c.cells.length = rowsB t)) = true ∧ Below w.heap.size w wr) (fun i _ => t.length - (intOf i).toNat)
    case atStart => exact ⟨0, Nat.zero_le _, rfl, rfl, hb1⟩
    case round =>
      clear hb1
      obtain ⟨k, hkl, rfl, hall, hB⟩ := hrel
      have Hall := hid hall
      clear hall
      by_cases hlt : k < t.length
      · obtain ⟨b, off, rfl, hbw, hcell⟩ := (Hl.out.later hB).at_ (List.ne_nil_of_length_pos (by omega))
        obtain ⟨g1, g2, g3, v, g4, ca, cap2, rfl, hcc, hcl, hcm⟩ := hcell k hlt
        obtain ⟨_, _, _, v0, f4, ca0, cap0, rfl, hcc0, hcl0, hcm0⟩ := hcell 0 (by omega)
        simp only [Nat.zero_mul, Nat.add_zero] at f4
        have Hcl := hid hcl
        clear hcell g1 g3 hcl hcl0
        have HT : Hid (((t.take (k + 1)).all fun c => cellsOkB c.kind c.cells && decide (c.cells.length = rowsB t)) = (cellsOkB (t[k]).kind (t[k]).cells && decide ((t[k]).cells.length = rowsB t))) := by
          show _ = _
          rw [List.take_succ_eq_append_getElem hlt, List.all_append, Hall.out]
          simp
        have HN := hid (table_no (t := t) hlt)
        have HR := hid (rowsB_eq (t := t) (by omega))
        have hki : (k : Int) < (t.length : Int) := by omega
        have h0i : (0 : Int) < (t.length : Int) := by omega
        go_wp2_with fail
        go_region_with (go_at_call 51; refine (cells_any (t[k]).kind ca cap2 (t[k]).cells _ (by unfold maxLen; omega) (Hcl.out.later (self_drew _))).mono ?_; rintro e w2 ⟨rfl, hb2⟩)
        all_goals
          go_simp
          replace hb2 := below_undrew hb2
          have f4' := (hb2.cell (p := ⟨b, _, none⟩) hbw).trans f4
          have g4' := (hb2.cell (p := ⟨b, _, none⟩) hbw).trans g4
          have hB2 := hB.trans (hb2.mono hB.size)
          clear f4 g4 hb2 hB Hcl
          cases hok : cellsOkB (t[k]).kind (t[k]).cells with
          | false =>
            have Hok := hid hok
            clear hok
            go_wp2_with fail
            go_quiet (fail)
            go_wp2
            go_ret
            exact ⟨ret_bool (HN.out (by rw [Hok.out]; rfl)).symm, below_drewN hB2 nq⟩
          | true =>
            have Hok := hid hok
            clear hok
            by_cases he : (t[k]).cells.length = (t[0]'(by omega)).cells.length
            · have hei : (((t[k]).cells.length : Int) != ((t[0]'(by omega)).cells.length : Int)) = false := by simp [he]
              have HX := hid he
              clear he
              go_wp2_with fail
              go_quiet (fail)
              go_wp2_with fail
              go_roundw
              case rel => exact ⟨k + 1, by omega, by go_num, by rw [HT.out, Hok.out, HR.out]; simp [HX.out], below_drewN hB2 nq⟩
              case measure => simp [intOf]; omega
            · have hei : (((t[k]).cells.length : Int) != ((t[0]'(by omega)).cells.length : Int)) = true := by simp; omega
              have HX := hid he
              clear he
              go_wp2_with fail
              go_quiet (fail)
              go_wp2
              go_ret
              exact ⟨ret_bool (HN.out (by rw [Hok.out, HR.out]; simp [HX.out])).symm, below_drewN hB2 nq⟩
      · have HE : Hid (tableOkB t = true) := by
          show tableOkB t = true
          have := Hall.out
          rw [List.take_of_length_le (by omega)] at this
          rw [tableOkB, Hh.out, this]; rfl
        go_wp2
        go_ret
        exact ⟨ret_bool HE.out.symm, hB⟩

/- Rings. -/

theorem ringTo_at {r : List KeyB} {n : Nat} (h : ringTo r n = true) (hn : n ≤ r.length) : ∀ k (hk : k < n), keyOkB (r[k]'(by omega)) = true ∧ hasNumB (r.take k) (r[k]'(by omega)).number = false := by
  induction n with
  | zero => intro k hk; omega
  | succ n ih =>
    intro k hk
    simp only [ringTo, Bool.and_eq_true] at h
    rcases Nat.lt_or_ge k n with hkn | hkn
    · exact ih h.1 (by omega) k hkn
    · have : k = n := by omega
      subst this
      have h2 := h.2
      rw [List.getElem?_eq_getElem (by omega)] at h2
      simpa using h2

theorem ringTo_no {r : List KeyB} {k : Nat} (hk : k < r.length) (h : (keyOkB r[k] && !hasNumB (r.take k) (r[k]).number) = false) : ringOkB r = false := by
  cases hh : ringOkB r with
  | false => rfl
  | true =>
    obtain ⟨h1, h2⟩ := ringTo_at hh (Nat.le_refl _) k hk
    rw [h1, h2] at h
    cases h

theorem ringTo_succ {r : List KeyB} {k : Nat} (hk : k < r.length) (h : ringTo r k = true) : ringTo r (k + 1) = (keyOkB r[k] && !hasNumB (r.take k) (r[k]).number) := by
  simp only [ringTo, h, Bool.true_and]
  rw [List.getElem?_eq_getElem hk]

theorem hasNum_succ {r : List KeyB} {k m : Nat} (hm : m < r.length) (hk : m < k) (n : Int) : hasNumB ((r.take k).take (m + 1)) n = (hasNumB ((r.take k).take m) n || decide ((r[m]).number = n)) := by
  have hl : m < (r.take k).length := by rw [List.length_take]; omega
  rw [List.take_succ_eq_append_getElem hl]
  simp [hasNumB]

theorem key_no {c : KeyB} (h : keyOkB c = false) : c.number < 1 ∨ (¬ c.number < 1 ∧ (9 < c.number ∨ (¬ 9 < c.number ∧ c.secret.length ≠ 8))) := by
  simp only [keyOkB, Bool.and_eq_false_iff, decide_eq_false_iff_not] at h
  omega

theorem key_parts {c : KeyB} (h : keyOkB c = true) : 1 ≤ c.number ∧ c.number ≤ 9 ∧ c.secret.length = 8 := by
  simp only [keyOkB, Bool.and_eq_true, decide_eq_true_eq] at h
  exact ⟨h.1.1, h.1.2, h.2⟩

set_option maxHeartbeats 2000000 in
theorem ringRef_any (a : Option Addr) (cap : Nat) (r : List KeyB) (w : World) (hm : r.length ≤ maxLen) (hl : LiesK w a r) :
    Calls Tryz.prog 80 #[.slice a r.length cap] w fun e w' => e = .returned (.bool (ringOkB r)) ∧ Below w.heap.size w w' := by
  have Hl := hid hl
  clear hl
  unfold maxLen at hm
  go_enter Tryz.func80, Tryz.ntmps80
  go_wp2
  go_loopw [3] (fun i wr => ∃ k : Nat, k ≤ r.length ∧ i = .int .i64 k ∧ ringTo r k = true ∧ Below w.heap.size w wr) (fun i _ => r.length - (intOf i).toNat)
  case atStart => exact ⟨0, Nat.zero_le _, rfl, rfl, Below.refl _ _⟩
  case round =>
    obtain ⟨k, hkl, rfl, hall, hB⟩ := hrel
    have Hall := hid hall
    clear hall
    by_cases hlt : k < r.length
    · obtain ⟨b, off, rfl, hbw, hcell⟩ := (Hl.out.later hB).at_ (List.ne_nil_of_length_pos (by omega))
      obtain ⟨g1, g2⟩ := hcell k hlt
      clear hcell
      obtain ⟨ok1, ok2⟩ := Hl.out.ok r[k] (List.getElem_mem hlt)
      unfold maxLen at ok1
      have HT := hid (ringTo_succ hlt Hall.out)
      have HN := hid (ringTo_no (r := r) hlt)
      have HF := hid (key_no (c := r[k]))
      have hki : (k : Int) < (r.length : Int) := by omega
      cases hh : keyOkB r[k] with
      | false =>
        have Hh := hid hh
        have hf := HF.out hh
        clear hh
        rcases hf with h1 | ⟨h1, h2 | ⟨h2, h3⟩⟩
        · go_wp2
          go_ret
          exact ⟨ret_bool (HN.out (by rw [Hh.out]; rfl)).symm, hB⟩
        · go_wp2
          go_ret
          exact ⟨ret_bool (HN.out (by rw [Hh.out]; rfl)).symm, hB⟩
        · have h3i : (((r[k]).secret.length : Int) != 8) = true := by simp; omega
          clear h3
          go_wp2
          go_ret
          exact ⟨ret_bool (HN.out (by rw [Hh.out]; rfl)).symm, hB⟩
      | true =>
        have Hh := hid hh
        obtain ⟨hp1, hp2, hp3⟩ := key_parts hh
        have q1 : ¬ (r[k]).number < 1 := by omega
        have q2 : ¬ 9 < (r[k]).number := by omega
        have q3 : (((r[k]).secret.length : Int) != 8) = false := by simp; omega
        clear hh hp1 hp2 hp3 HF
        go_wp2
        go_loopw [4] (fun i wr => ∃ m : Nat, m ≤ k ∧ i = .int .i64 m ∧ hasNumB ((r.take k).take m) (r[k]).number = false ∧ Below w.heap.size w wr) (fun i _ => k - (intOf i).toNat)
        case atStart => exact ⟨0, Nat.zero_le _, rfl, rfl, hB⟩
        case round =>
          clear hB g1 g2 q1 q2 q3
          obtain ⟨m, hmk, rfl, hno, hB⟩ := hrel
          have Hno := hid hno
          clear hno
          by_cases hlm : m < k
          · have hmi : (m : Int) < (k : Int) := by omega
            obtain ⟨b, off, hab, hbw, hcell⟩ := (Hl.out.later hB).at_ (List.ne_nil_of_length_pos (by omega))
            simp only [Option.some.injEq, Addr.mk.injEq, and_true] at hab
            obtain ⟨rfl, rfl⟩ := hab
            obtain ⟨g1, _⟩ := hcell k hlt
            obtain ⟨f1, _⟩ := hcell m (by omega)
            have hmt : (m : Int) < (r.length : Int) := by omega
            have HS := hid (hasNum_succ (r := r) (k := k) (m := m) (by omega) hlm (r[k]).number)
            clear hcell
            by_cases he : (r[m]'(by omega)).number = (r[k]).number
            · have He := hid he
              clear he
              rw [He.out] at f1
              have HH : Hid (hasNumB (r.take k) (r[k]).number = true) := by
                simp only [Hid, hasNumB, List.any_eq_true]
                exact ⟨(r[m]'(by omega)), by rw [List.mem_take_iff_getElem]; exact ⟨m, by omega, rfl⟩, by simp [He.out]⟩
              go_wp2_with fail
              go_quiet (fail)
              go_wp2
              go_ret
              exact ⟨ret_bool (HN.out (by rw [HH.out]; simp)).symm, below_drewN hB nq⟩
            · have hne : ((r[m]'(by omega)).number == (r[k]).number) = false := by simpa using he
              have He := hid he
              clear he
              go_wp2_with fail
              go_quiet (fail)
              go_wp2_with fail
              go_roundw
              case rel => exact ⟨m + 1, by omega, by go_num, by rw [HS.out, Hno.out]; simp [He.out], below_drewN hB nq⟩
              case measure => simp [intOf]; omega
          · have hmk2 : m = k := by omega
            subst hmk2
            have HX : Hid (ringTo r (m + 1) = true) := by
              show ringTo r (m + 1) = true
              rw [HT.out, Hh.out]
              have := Hno.out
              rw [List.take_take, Nat.min_self] at this
              rw [this]; rfl
            go_wp2
            go_roundw
            case rel => exact ⟨m + 1, by omega, by go_num, HX.out, hB⟩
            case measure => simp [intOf]; omega
    · have hke : k = r.length := by omega
      subst hke
      go_wp2
      go_ret
      exact ⟨ret_bool Hall.out.symm, hB⟩

theorem find_at {r : List KeyB} {k : Nat} {n : Int} (hk : k < r.length) (hno : hasNumB (r.take k) n = false) (he : (r[k]).number = n) : findB r n = some (r[k]).secret := by
  have e : r = r.take k ++ r[k] :: r.drop (k + 1) := by rw [← List.drop_eq_getElem_cons hk, List.take_append_drop]
  have h0 : (r.take k).find? (fun x => decide (x.number = n)) = none := by
    rw [List.find?_eq_none]
    intro x hx
    simp only [hasNumB, List.any_eq_false] at hno
    exact hno x hx
  have h1 : r.find? (fun x => decide (x.number = n)) = some r[k] := by
    have h2 : (r.take k ++ r[k] :: r.drop (k + 1)).find? (fun x => decide (x.number = n)) = some r[k] := by
      rw [List.find?_append, h0, List.find?_cons_of_pos (by simp [he])]
      rfl
    rwa [← e] at h2
  rw [findB, h1]
  rfl

theorem find_none {r : List KeyB} {n : Int} (hno : hasNumB r n = false) : findB r n = none := by
  have h0 : r.find? (fun x => decide (x.number = n)) = none := by
    rw [List.find?_eq_none]
    intro x hx
    simp only [hasNumB, List.any_eq_false] at hno
    exact hno x hx
  simp [findB, h0]

set_option maxHeartbeats 2000000 in
theorem secretRef_any (a : Option Addr) (cap : Nat) (r : List KeyB) (n : Int) (w : World) (hm : r.length ≤ maxLen) (hl : LiesK w a r) :
    Calls Tryz.prog 81 #[.slice a r.length cap, .int .i64 n] w fun e w' => e = .returned (strB (secretB r n)) ∧ Below w.heap.size w w' := by
  have Hl := hid hl
  clear hl
  unfold maxLen at hm
  go_enter Tryz.func81, Tryz.ntmps81
  go_wp2
  go_loopw [5] (fun i wr => ∃ k : Nat, k ≤ r.length ∧ i = .int .i64 k ∧ hasNumB (r.take k) n = false ∧ Below w.heap.size w wr) (fun i _ => r.length - (intOf i).toNat)
  case atStart => exact ⟨0, Nat.zero_le _, rfl, rfl, Below.refl _ _⟩
  case round =>
    obtain ⟨k, hkl, rfl, hno, hB⟩ := hrel
    have Hno := hid hno
    clear hno
    by_cases hlt : k < r.length
    · obtain ⟨b, off, rfl, hbw, hcell⟩ := (Hl.out.later hB).at_ (List.ne_nil_of_length_pos (by omega))
      obtain ⟨g1, g2⟩ := hcell k hlt
      clear hcell
      have hki : (k : Int) < (r.length : Int) := by omega
      by_cases he : (r[k]).number = n
      · have HF := hid (find_at hlt Hno.out he)
        rw [he] at g1
        clear he
        go_wp2
        go_ret
        exact ⟨ret_str (by rw [secretB, HF.out]; rfl), hB⟩
      · have hne : ((r[k]).number == n) = false := by simpa using he
        have He := hid he
        have HS := hid (hasNum_succ (r := r) (k := r.length) (m := k) hlt hlt n)
        rw [List.take_length] at HS
        clear he
        go_wp2
        go_roundw
        case rel => exact ⟨k + 1, by omega, by go_num, by rw [HS.out, Hno.out]; simp [He.out], hB⟩
        case measure => simp [intOf]; omega
    · have HF : Hid (findB r n = none) := find_none (by have := Hno.out; rw [List.take_of_length_le (by omega)] at this; exact this)
      go_wp2
      go_ret
      exact ⟨ret_str (by rw [secretB, HF.out]; rfl), hB⟩

end Go.Proofs.YthhpbhpfagoapaaGreat
