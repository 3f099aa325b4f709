/-
  What the document's test of a job does, by a walk.
-/
import Derived.Test.YthhpbhpfagoapaaGreatWTab
namespace Go.Proofs.YthhpbhpfagoapaaGreat
open Go.RowKit
set_option linter.unusedVariables false
set_option maxRecDepth 100000

/-- A job as a value: where its table lies, and the rest. -/
abbrev jobV (v : Value) (j : JobB) : Value := .agg #[v, .int .i64 j.plan.group, .int .i64 j.plan.page, .int .i64 j.plan.foot, .bool j.plan.told, strB j.pre, .int .i64 j.draw]

/-- A job that was handed over: its table lies there, its numbers fit. -/
structure LiesJ (w : World) (a : Option Addr) (cap : Nat) (j : JobB) : Prop where
  table : LiesT w a j.table
  len : j.table.length ≤ maxLen
  cap_ : j.table.length ≤ cap
  pre : j.pre.length ≤ maxLen
  draw : -9223372036854775808 ≤ j.draw ∧ j.draw ≤ 9223372036854775807
  group : -9223372036854775808 ≤ j.plan.group ∧ j.plan.group ≤ 9223372036854775807
  page : -9223372036854775808 ≤ j.plan.page ∧ j.plan.page ≤ 9223372036854775807
  foot : -9223372036854775808 ≤ j.plan.foot ∧ j.plan.foot ≤ 9223372036854775807

theorem LiesJ.later {w w' : World} {a : Option Addr} {cap : Nat} {j : JobB} (h : LiesJ w a cap j) (hb : Below w.heap.size w w') : LiesJ w' a cap j :=
  ⟨h.table.later hb, h.len, h.cap_, h.pre, h.draw, h.group, h.page, h.foot⟩

def planB2 (j : JobB) : Bool := planOkB j.plan && (decide (j.pre.length ≤ 20) && (decide (0 ≤ j.draw) && decide (j.draw ≤ 65535)))

theorem secret_none {r : List KeyB} {n : Int} (hr : ringOkB r = true) : (secretB r n = []) ↔ hasNumB r n = false := by
  constructor
  · intro h
    cases hh : hasNumB r n with
    | false => rfl
    | true =>
      simp only [hasNumB, List.any_eq_true] at hh
      cases hf : r.find? (fun k => decide (k.number = n)) with
      | none =>
        rw [List.find?_eq_none] at hf
        obtain ⟨x, hx, hx2⟩ := hh
        exact absurd hx2 (hf x hx)
      | some x =>
        have hm := List.mem_of_find?_eq_some hf
        obtain ⟨k, hk, rfl⟩ := List.mem_iff_getElem.1 hm
        have := (key_parts (ringTo_at hr (Nat.le_refl _) k hk).1).2.2
        simp only [secretB, findB, hf, Option.map_some, Option.getD_some] at h
        rw [h] at this
        simp at this
  · intro h
    rw [secretB, find_none h]; rfl

theorem secret_len {r : List KeyB} {n : Int} (hr : ringOkB r = true) (hn : hasNumB r n = true) : (secretB r n).length = 8 := by
  simp only [hasNumB, List.any_eq_true] at hn
  cases hf : r.find? (fun k => decide (k.number = n)) with
  | none =>
    rw [List.find?_eq_none] at hf
    obtain ⟨x, hx, hx2⟩ := hn
    exact absurd hx2 (hf x hx)
  | some x =>
    have hm := List.mem_of_find?_eq_some hf
    obtain ⟨k, hk, rfl⟩ := List.mem_iff_getElem.1 hm
    have := (key_parts (ringTo_at hr (Nat.le_refl _) k hk).1).2.2
    simp only [secretB, findB, hf, Option.map_some, Option.getD_some]
    exact this

def missTo (j : JobB) (r : List KeyB) (k : Nat) : Bool := !hasNumB r j.plan.foot || (j.table.take k).any fun c => decide (0 < c.key) && !hasNumB r c.key

theorem missTo_succ {j : JobB} {r : List KeyB} {k : Nat} (hk : k < j.table.length) : missTo j r (k + 1) = (missTo j r k || (decide (0 < (j.table[k]).key) && !hasNumB r (j.table[k]).key)) := by
  unfold missTo
  rw [List.take_succ_eq_append_getElem hk, List.any_append, Bool.or_assoc]
  simp

/-- A job's own copy lies at p. -/
def BoxJ (w : World) (p : Nat) (v : Value) (j : JobB) : Prop :=
  w.cell? ⟨p, 0, none⟩ = some v ∧ w.cell? ⟨p, 1, none⟩ = some (.int .i64 j.plan.group) ∧ w.cell? ⟨p, 2, none⟩ = some (.int .i64 j.plan.page) ∧ w.cell? ⟨p, 3, none⟩ = some (.int .i64 j.plan.foot) ∧ w.cell? ⟨p, 4, none⟩ = some (.bool j.plan.told) ∧ w.cell? ⟨p, 5, none⟩ = some (strB j.pre) ∧ w.cell? ⟨p, 6, none⟩ = some (.int .i64 j.draw)

theorem BoxJ.later {w w' : World} {p : Nat} {v : Value} {j : JobB} (h : BoxJ w p v j) (hp : p < w.heap.size) (hb : Below w.heap.size w w') : BoxJ w' p v j := by
  obtain ⟨h0, h1, h2, h3, h4, h5, h6⟩ := h
  exact ⟨(hb.cell (p := ⟨p, _, none⟩) hp).trans h0, (hb.cell (p := ⟨p, _, none⟩) hp).trans h1, (hb.cell (p := ⟨p, _, none⟩) hp).trans h2, (hb.cell (p := ⟨p, _, none⟩) hp).trans h3, (hb.cell (p := ⟨p, _, none⟩) hp).trans h4, (hb.cell (p := ⟨p, _, none⟩) hp).trans h5, (hb.cell (p := ⟨p, _, none⟩) hp).trans h6⟩

theorem boxJ_new (w : World) (v : Value) (j : JobB) (t : TypeId) : BoxJ (w.alloc (.cells #[v, .int .i64 j.plan.group, .int .i64 j.plan.page, .int .i64 j.plan.foot, .bool j.plan.told, strB j.pre, .int .i64 j.draw] t)) w.heap.size v j := by
  obtain ⟨_, _, h, _⟩ := boxedW w #[v, .int .i64 j.plan.group, .int .i64 j.plan.page, .int .i64 j.plan.foot, .bool j.plan.told, strB j.pre, .int .i64 j.draw] t
  exact ⟨h 0, h 1, h 2, h 3, h 4, h 5, h 6⟩

theorem bool_eq {a b : Bool} (h : (a = true) ↔ (b = true)) : a = b := by cases a <;> cases b <;> simp_all

set_option maxHeartbeats 4000000 in
theorem jobRef_any (a : Option Addr) (cap : Nat) (j : JobB) (ra : Option Addr) (rcap : Nat) (r : List KeyB) (w : World) (hj : LiesJ w a cap j) (hr : LiesK w ra r) (hrm : r.length ≤ maxLen) :
    Calls Tryz.prog 35 #[jobV (.slice a j.table.length cap) j, .slice ra r.length rcap] w fun e w' => e = .returned (.int .i64 (jobErrB j r)) ∧ Below w.heap.size w w' := by
  have Hj := hid hj
  have Hr := hid hr
  have hlen := hj.len
  have hpre := hj.pre
  unfold maxLen at hlen hpre
  clear hj hr
  have HE : Hid (jobErrB j r = if tableOkB j.table = false then 5 else if planB2 j = false then 7 else if ringOkB r = false then 1 else if missesB j r = true then 8 else 0) := rfl
  have HM : Hid (missTo j r j.table.length = missesB j r) := by simp [Hid, missTo, missesB]
  have HP2 : Hid (planB2 j = (planOkB j.plan && (decide (j.pre.length ≤ 20) && (decide (0 ≤ j.draw) && decide (j.draw ≤ 65535))))) := rfl
  go_enter Tryz.func35, Tryz.ntmps35
  go_wp2_with fail
  obtain ⟨hb0, hs1, _, _⟩ := boxedW w #[.slice a j.table.length cap, .int .i64 j.plan.group, .int .i64 j.plan.page, .int .i64 j.plan.foot, .bool j.plan.told, strB j.pre, .int .i64 j.draw] 26
  have Hx0 := hid (boxJ_new w (.slice a j.table.length cap) j 26)
  have Hj0 := hid (Hj.out.later hb0)
  have Hr0 := hid (Hr.out.later hb0)
  have Hb0 := hid hb0
  clear hb0
  generalize w.alloc _ = w0 at *
  refine (tableRef_any a cap j.table w0 Hj.out.len Hj0.out.table).mono ?_
  rintro e w1 ⟨rfl, hb1⟩
  obtain ⟨x0, x1, x2, x3, x4, x5, x6⟩ := Hx0.out.later hs1 hb1
  go_wp2_with fail
  refine (planRef_any j.plan _).mono ?_
  rintro e w2 ⟨rfl, hb2⟩
  have hB2 := hb1.trans (hb2.mono hb1.size)
  clear x0 x1 x2 x3 x4 x5 x6 hb1 hb2
  go_wp2_with fail
  refine (ringRef_any ra rcap r _ hrm (Hr0.out.later hB2)).mono ?_
  rintro e w3 ⟨rfl, hb3⟩
  have hB3 := hB2.trans (hb3.mono hB2.size)
  clear hB2 hb3
  obtain ⟨x0, x1, x2, x3, x4, x5, x6⟩ := Hx0.out.later hs1 hB3
  have HB3 := hid (Hb0.out.trans (hB3.mono Hb0.out.size))
  cases ht : tableOkB j.table with
  | false =>
    have Ht := hid ht
    clear ht
    go_wp2
    go_ret
    exact ⟨ret_int (by rw [HE.out, Ht.out]; rfl), HB3.out⟩
  | true =>
    have Ht := hid ht
    clear ht
    cases hp : planB2 j with
    | false =>
      have Hp := hid hp
      rw [HP2.out] at hp
      simp only [Bool.and_eq_false_iff, decide_eq_false_iff_not] at hp
      have hcs : planOkB j.plan = false ∨ (planOkB j.plan = true ∧ ((20 : Int) < (j.pre.length : Int) ∨ (¬ (20 : Int) < (j.pre.length : Int) ∧ (j.draw < 0 ∨ (¬ j.draw < 0 ∧ 65535 < j.draw))))) := by
        rcases hp with h | h
        · exact .inl h
        · cases hpl : planOkB j.plan with
          | false => exact .inl rfl
          | true => exact .inr ⟨rfl, by omega⟩
      clear hp
      have HX : Hid (jobErrB j r = 7) := by show jobErrB j r = 7; rw [HE.out, Ht.out, Hp.out]; rfl
      generalize hdr : j.draw = dr at *
      clear hdr
      rcases hcs with h1 | ⟨h1, h2 | ⟨h2, h3 | ⟨h3, h4⟩⟩⟩
      all_goals
        rw [h1]
        clear h1
        go_wp2
        go_ret
        exact ⟨ret_int HX.out.symm, HB3.out⟩
    | true =>
      have Hp := hid hp
      rw [HP2.out] at hp
      simp only [Bool.and_eq_true, decide_eq_true_eq] at hp
      obtain ⟨hp1, hp2, hp3, hp4⟩ := hp
      have q2 : ¬ (20 : Int) < (j.pre.length : Int) := by omega
      have q3 : ¬ j.draw < 0 := by omega
      have q4 : ¬ 65535 < j.draw := by omega
      rw [hp1]
      clear hp1 hp2 hp3 hp4
      cases hk : ringOkB r with
      | false =>
        have Hk := hid hk
        clear hk
        go_wp2
        go_ret
        exact ⟨ret_int (by rw [HE.out, Ht.out, Hp.out, Hk.out]; rfl), HB3.out⟩
      | true =>
        have Hk := hid hk
        clear hk
        have HSN := hid (fun n => secret_none (r := r) (n := n) Hk.out)
        have HEE : Hid (jobErrB j r = if missesB j r = true then 8 else 0) := by show jobErrB j r = _; rw [HE.out, Ht.out, Hp.out, Hk.out]; rfl
        have Hr3 := hid (Hr0.out.later hB3)
        have Hj3 := hid (Hj0.out.later hB3)
        have Hx3 := hid (Hx0.out.later hs1 hB3)
        have hs3 := Nat.lt_of_lt_of_le hs1 hB3.size
        clear hB3
        have HS0 : Hid ((secretB r j.plan.foot).isEmpty = missTo j r 0) := by
          show (secretB r j.plan.foot).isEmpty = missTo j r 0
          have h := HSN.out j.plan.foot
          apply bool_eq
          rw [List.isEmpty_iff, h]
          simp [missTo]
        go_wp2_with fail
        clear q2 q3 q4
        refine (secretRef_any ra rcap r j.plan.foot _ hrm Hr3.out).mono ?_
        rintro e w4 ⟨rfl, hb4⟩
        clear x0 x1 x2 x3 x4 x5 x6
        generalize secretB r j.plan.foot = sv at *
        go_wp2_with fail
        rw [HS0.out]
        clear HS0
        go_loopw [8, 9] (fun mv i wr => ∃ k : Nat, k ≤ j.table.length ∧ i = .int .i64 k ∧ mv = .bool (missTo j r k) ∧ Below w3.heap.size w3 wr) (fun _ i _ => j.table.length - (intOf i).toNat)
        case atStart => exact ⟨0, Nat.zero_le _, rfl, rfl, hb4⟩
        case round =>
          clear hb4
          obtain ⟨k, hkl, rfl, rfl, hB⟩ := hrel
          obtain ⟨x0, x1, x2, x3, x4, x5, x6⟩ := Hx3.out.later hs3 hB
          clear x1 x2 x3 x4 x5 x6
          by_cases hlt : k < j.table.length
          · have hjr := Hj3.out.table.later hB
            obtain ⟨b, off, rfl, hbw, hcell⟩ := hjr.at_ (List.ne_nil_of_length_pos (by omega))
            obtain ⟨g1, g2, g3, _⟩ := hcell k hlt
            have Hrr := hid (Hr3.out.later hB)
            clear hcell g1 g2 hjr
            have HT := hid (missTo_succ (r := r) hlt)
            have hki : (k : Int) < (j.table.length : Int) := by omega
            cases hmk : missTo j r k with
            | true =>
              have HT1 : Hid (missTo j r (k + 1) = true) := by show _ = _; rw [HT.out, hmk]; rfl
              clear hmk HT
              go_wp2
              go_roundw
              case rel => exact ⟨k + 1, by omega, by go_num, by rw [HT1.out], hB⟩
              case measure => simp [intOf]; omega
            | false =>
              have HT1 : Hid (missTo j r (k + 1) = (decide (0 < (j.table[k]).key) && !hasNumB r (j.table[k]).key)) := by show _ = _; rw [HT.out, hmk]; rfl
              clear hmk HT
              by_cases hky : 0 < (j.table[k]).key
              · have HS1 : Hid ((secretB r (j.table[k]).key).isEmpty = missTo j r (k + 1)) := by
                  show _ = _
                  have h := HSN.out (j.table[k]).key
                  rw [HT1.out, decide_eq_true hky, Bool.true_and]
                  apply bool_eq
                  rw [List.isEmpty_iff, h]
                  simp
                clear HT1
                go_wp2_with fail
                refine (secretRef_any ra rcap r (j.table[k]).key _ hrm Hrr.out).mono ?_
                rintro e w5 ⟨rfl, hb5⟩
                have hB5 := hB.trans (hb5.mono hB.size)
                clear hB hb5 x0 g3
                generalize secretB r (j.table[k]).key = sv2 at *
                go_wp2
                go_roundw
                case rel => exact ⟨k + 1, by omega, by go_num, by rw [← HS1.out], hB5⟩
                case measure => simp [intOf]; omega
              · have HT2 : Hid (missTo j r (k + 1) = false) := by show _ = _; rw [HT1.out]; simp [hky]
                clear HT1
                go_wp2
                go_roundw
                case rel => exact ⟨k + 1, by omega, by go_num, by rw [HT2.out], hB⟩
                case measure => simp [intOf]; omega
          · have hke : k = j.table.length := by omega
            subst hke
            rw [HM.out]
            have HBB := hid (HB3.out.trans (hB.mono HB3.out.size))
            cases hms : missesB j r with
            | true =>
              have HX : Hid (jobErrB j r = 8) := by show _ = _; rw [HEE.out, hms]; rfl
              clear hms
              go_wp2
              go_ret
              exact ⟨ret_int HX.out.symm, HBB.out⟩
            | false =>
              have HX : Hid (jobErrB j r = 0) := by show _ = _; rw [HEE.out, hms]; rfl
              clear hms
              go_wp2
              go_ret
              exact ⟨ret_int HX.out.symm, HBB.out⟩

end Go.Proofs.YthhpbhpfagoapaaGreat
