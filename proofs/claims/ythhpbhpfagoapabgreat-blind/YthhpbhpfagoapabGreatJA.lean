
/-
  Proved: the law Blind, for every input: whatever raw numbers, prefix, keys and other numbers are handed over, the call returns true, and each argument reads behind the call as it read before. No conditions.
-/
import Derived.Test.YthhpbhpfagoapabGreatWEnd
import Derived.Test.YthhpbhpfagoapabGreatWCheck
import Derived.Test.YthhpbhpfagoapabGreatBFile
import Derived.Test.YthhpbhpfagoapabGreatKMake
import Derived.Test.YthhpbhpfagoapabGreatRCells
import Derived.ProofKit
import Derived.OpenShut
import Derived.Deep.Slices
import Derived.Deep.Strs
import Derived.SizedLaws
import Derived.Test.YthhpbhpfagoapabGreatRows
import Derived.WalkKit
import Derived.ShutString
namespace Go.Proofs.YthhpbhpfagoapabGreat
open Go.RowKit
set_option linter.unusedVariables false
set_option linter.unusedSimpArgs false
set_option maxRecDepth 100000

theorem own_mono {w : World} {b b' e s n : Nat} {v : Value} {xs : List Value} (h : w.ownsRow b e s v n xs) (hb : b' ≤ b) : w.ownsRow b' e s v n xs := by
  obtain ⟨h1, h2⟩ := h
  refine ⟨h1, ?_⟩
  rcases h2 with h2 | ⟨g, cap, cur, hv, hg, rest⟩
  · exact .inl h2
  · exact .inr ⟨g, cap, cur, hv, Nat.le_trans hb hg, rest⟩

theorem lies_fits {w : World} {a : Option Addr} {t : List ColB} (h : LiesT w a t) : ∀ c ∈ t, ∀ x ∈ c.cells, -9223372036854775808 ≤ x.int ∧ x.int ≤ 9223372036854775807 := by
  intro c hc x hx
  obtain ⟨k, hk, rfl⟩ := List.mem_iff_getElem.1 hc
  obtain ⟨b, off, _, _, hcell⟩ := h.at_ (List.ne_nil_of_length_pos (by omega))
  obtain ⟨_, _, _, v, _, ca, cap, _, _, hl, _⟩ := hcell k hk
  obtain ⟨h0, h1, _⟩ := hl.ok x hx
  exact ⟨h0, h1⟩

theorem good_of_err {j : JobB} {r : List KeyB} (h : jobErrB j r = 0) (hf : ∀ c ∈ j.table, ∀ x ∈ c.cells, -9223372036854775808 ≤ x.int ∧ x.int ≤ 9223372036854775807) : GoodJ j r := by
  unfold jobErrB at h
  split at h
  · omega
  · rename_i h1
    split at h
    · omega
    · rename_i h2
      split at h
      · omega
      · rename_i h3
        split at h
        · omega
        · rename_i h4
          simp only [Bool.not_eq_false, Bool.and_eq_true, decide_eq_true_eq] at h1 h2 h3 h4
          exact ⟨⟨h1, hf⟩, h2.1, h2.2.1, h2.2.2, h3, by simpa using h4⟩

theorem box_job {w : World} {b : Nat} {v : Value} {j : JobB} (h : w.heap[b]? = some (.cells #[v, .int .i64 j.plan.group, .int .i64 j.plan.page, .int .i64 j.plan.foot, .bool j.plan.told, strB j.pre, .int .i64 j.draw] 27 (0, 0))) :
    w.cell? ⟨b, 0, none⟩ = some v ∧ w.cell? ⟨b, 1, none⟩ = some (.int .i64 j.plan.group) ∧ w.cell? ⟨b, 2, none⟩ = some (.int .i64 j.plan.page) ∧ w.cell? ⟨b, 3, none⟩ = some (.int .i64 j.plan.foot) ∧ w.cell? ⟨b, 4, none⟩ = some (.bool j.plan.told) :=
  ⟨by rw [cell_of_heap h]; rfl, by rw [cell_of_heap h]; rfl, by rw [cell_of_heap h]; rfl, by rw [cell_of_heap h]; rfl, by rw [cell_of_heap h]; rfl⟩

set_option maxHeartbeats 8000000 in
theorem fwrite_any (ta : Option Addr) (tcap : Nat) (ra : Option Addr) (rcap : Nat) (r : List KeyB) (j : JobB) (w : World) (hL : Laid w ta tcap ra rcap j r) :
    Calls Tryz.prog 37 #[jobV (.slice ta j.table.length tcap) j, .slice ra r.length rcap] w
      fun e w' => ∃ lv, e = .returned (.tuple #[strB (fileB j r), lv]) ∧ w'.ownsRow w.heap.size 54 4 lv (logB j r).length (sealsC (logB j r)) ∧ Below w.heap.size w w' := by
  have HL := hid hL
  obtain ⟨hpl, hpb, hft⟩ := hL.good.foot
  have Hpb := hid hpb
  obtain ⟨hbo, hbg⟩ := hL.good.body (spotsJ j).length
  rw [List.take_length] at hbo hbg
  have hf0 := hL.good.sizes.2.2
  have h1 := hL.good.table.few.1
  have HFB : Hid (fileB j r = (endSt j r (footJ j r) (bodySt j r)).out ++ (twoB (((endSt j r (footJ j r) (bodySt j r)).out.length - (bodySt j r).out.length : Nat) : Int) ++ [67, 70])) := rfl
  have HLB : Hid (logB j r = (endSt j r (footJ j r) (bodySt j r)).log) := rfl
  clear hL hpb
  go_enter Tryz.func37, Tryz.ntmps37
  go_wp2_with fail
  obtain ⟨hbA, _, _, hhA⟩ := boxedW w #[.slice ta j.table.length tcap, .int .i64 j.plan.group, .int .i64 j.plan.page, .int .i64 j.plan.foot, .bool j.plan.told, strB j.pre, .int .i64 j.draw] 27
  have hsz : (w.alloc (.cells #[.slice ta j.table.length tcap, .int .i64 j.plan.group, .int .i64 j.plan.page, .int .i64 j.plan.foot, .bool j.plan.told, strB j.pre, .int .i64 j.draw] 27)).heap.size = w.heap.size + 1 := by simp
  generalize w.alloc (.cells #[.slice ta j.table.length tcap, .int .i64 j.plan.group, .int .i64 j.plan.page, .int .i64 j.plan.foot, .bool j.plan.told, strB j.pre, .int .i64 j.draw] 27) = wa at *
  obtain ⟨hbB, _, _, hhB⟩ := boxedW wa (pressC (.slice ta j.table.length tcap) (.slice ra r.length rcap) (.slice none 0 0) (.slice none 0 0) j) 131
  have HLA : Hid (Laid wa ta tcap ra rcap j r) := ⟨HL.out.table.later hbA, HL.out.ring.later hbA, HL.out.len, HL.out.good, HL.out.caps⟩
  have HP0 : Hid (PressAt (wa.alloc (.cells (pressC (.slice ta j.table.length tcap) (.slice ra r.length rcap) (.slice none 0 0) (.slice none 0 0) j) 131)) wa.heap.size wa.heap.size (.slice ta j.table.length tcap) (.slice ra r.length rcap) j ⟨[], []⟩) :=
    ⟨_, _, hhB, Nat.le_refl _, World.ownsRow_nil _ _ _ _, World.ownsRow_nil _ _ _ _⟩
  have hjB := heap_later hbB hhA
  rw [← hsz]
  clear hhB hsz
  generalize wa.alloc _ = wb at *
  have HbA := hid hbA
  have HbB := hid hbB
  have HjB := hid hjB
  clear hbA hbB hjB hhA
  generalize hqq : wa.heap.size = q at *
  have Hqq := hid hqq
  have hqb : q ≤ wb.heap.size := by have := HbB.out.size; rw [hqq] at this; exact this
  clear hqq
  refine (head_does j.plan wb hf0.1 hf0.2).mono ?_
  rintro e w1 ⟨rfl, hb1⟩
  have hB1 : Below q wa w1 := HbB.out.trans (hb1.mono hqb)
  go_wp2_with fail
  obtain ⟨hb2, _, _, hh2⟩ := boxedW w1 #[strB (startB j.plan)] 9
  have hB2 : Below q wa (w1.alloc (.cells #[strB (startB j.plan)] 9)) := hB1.trans (hb2.mono (Nat.le_trans hqb hb1.size))
  refine (pwrite_any q q w1.heap.size 1 (.slice ta j.table.length tcap) (.slice ra r.length rcap) j ⟨[], []⟩ [startB j.plan] _ rfl (by decide) (by simp [startB]) ?_ ((HP0.out.later hb1).later hb2) hh2).mono ?_
  · exact Nat.le_trans hqb (Nat.le_trans hb1.size hb2.size)
  rintro e w3 ⟨rfl, hp3, hk3⟩
  have hp3' : PressAt w3 q q (.slice ta j.table.length tcap) (.slice ra r.length rcap) j ⟨startB j.plan, []⟩ := by simpa using hp3
  have Hp3 := hid hp3'
  have hB3 : Below q wa w3 := hB2.trans hk3.below
  have HJ3 := hid (hk3.row (heap_later hb2 (heap_later hb1 HjB.out)) (by decide))
  clear hp3 hp3' hk3 hh2 hb2 hb1 hB1 hB2 HjB HP0
  go_wp2_with fail
  have Hch := pchunks_any q ta tcap ra rcap r j ⟨startB j.plan, []⟩ wa w3 HLA.out (by rw [Hqq.out]; exact hB3) (by simp [startB]) rfl (by rw [Hqq.out]; exact Hp3.out)
  rw [Hqq.out] at Hch
  refine Hch.mono ?_
  clear Hch
  rintro e w4 ⟨pv, rfl, ho4, hp4, hk4⟩
  have Ho4 : Hid (w4.ownsRow w3.heap.size 3 1 pv (placesJ j r).length (placesC (placesJ j r))) := ho4
  have Hp4 : Hid (PressAt w4 q q (.slice ta j.table.length tcap) (.slice ra r.length rcap) j (bodySt j r)) := hp4
  have hB4 : Below q wa w4 := hB3.trans hk4.below
  have HJ4 := hid (hk4.row HJ3.out (by decide))
  clear ho4 hp4 hk4 HJ3 hB3 Hp3
  obtain ⟨pa, pc, rfl, _⟩ := places_at Ho4.out
  go_wp2_with fail
  have hj4 := HJ4.out
  have HRW := hid (fun w' => prows_any q ta tcap (.slice ra r.length rcap) j (bodySt j r) q w' (by omega))
  have HEN : Hid (∀ w', Below q wa w' → w'.ownsRow w3.heap.size 3 1 (.slice pa (placesJ j r).length pc) (placesJ j r).length (placesC (placesJ j r)) → PressAt w' q q (.slice ta j.table.length tcap) (.slice ra r.length rcap) j (bodySt j r) →
      Calls Tryz.prog 65 #[.pointer (some ⟨q, 0, none⟩), .agg #[.int .i64 (rowsB j.table : Int), .int .i64 j.plan.group, .int .i64 j.plan.page, .int .i64 j.plan.foot, .bool j.plan.told, .slice ta j.table.length tcap, .slice pa (placesJ j r).length pc]] w'
        fun e w2 => e = .returned (.tuple #[]) ∧ PressAt w2 q q (.slice ta j.table.length tcap) (.slice ra r.length rcap) j ⟨fileB j r, logB j r⟩ ∧ KeptT pressT q w' w2) := by
    intro w' hw' ho' hp'
    have := pend_any q ta tcap ra rcap r j (bodySt j r) (.slice pa (placesJ j r).length pc) (placesJ j r) w3.heap.size wa w' HLA.out (by rw [Hqq.out]; exact hw') hbo (Nat.le_trans hbg (by decide)) hpl Hpb.out hft ho' (by rw [Hqq.out]; exact hp')
    rw [Hqq.out] at this
    exact this
  clear hbo hbg
  generalize bodySt j r = bst at *
  generalize placesJ j r = plj at *
  go_region_held3 (fun w' => w'.cell? ⟨w.heap.size, 0, none⟩ = some (.slice ta j.table.length tcap) ∧ w'.cell? ⟨w.heap.size, 1, none⟩ = some (.int .i64 j.plan.group) ∧ w'.cell? ⟨w.heap.size, 2, none⟩ = some (.int .i64 j.plan.page) ∧ w'.cell? ⟨w.heap.size, 3, none⟩ = some (.int .i64 j.plan.foot) ∧ w'.cell? ⟨w.heap.size, 4, none⟩ = some (.bool j.plan.told))
    (first | exact box_job Y6 | exact box_job hj4)
    (first
      | (go_at_call 66; refine (HRW.out _ (HLA.out.table.later (by rw [Hqq.out]; exact hB4.drew)) (Hp4.out.later (self_drew _))).mono ?_; rintro e w5 ⟨rfl, rfl⟩)
      | (go_at_call 65; refine (HEN.out _ hB4.drew (own_after Ho4.out (self_drew _)) (Hp4.out.later (self_drew _))).mono ?_; rintro e w6 ⟨rfl, hp6, hk6⟩; have Y6 := (KeptT.undrew hk6).row hj4 (by decide)))
  have hk6' := KeptT.undrew hk6
  have HB6 : Hid (Below w.heap.size w w6) := by
    have h6 : Below q wa w6 := hB4.trans hk6'.below
    exact HbA.out.trans (h6.mono (by rw [← Hqq.out]; exact HbA.out.size))
  have hBq6 : w.heap.size ≤ q := by rw [← Hqq.out]; exact HbA.out.size
  obtain ⟨ov, lv, hrow6, _, hout6, hlog6⟩ := hp6
  simp only at hout6 hlog6
  obtain ⟨oa, oc, rfl⟩ := own_slice hout6
  obtain ⟨la, lc, rfl⟩ := own_slice hlog6
  have HL6 := hid (own_mono hlog6 hBq6)
  have c8 := (press_cells hrow6).1.2.2.2.2.2.2.1
  have c9 := (press_cells hrow6).1.2.2.2.2.2.2.2
  have hcv : ∀ n, Sem.run Tryz.prog (convert 64 9 (.slice oa (fileB j r).length oc)) (w6.drewN n) = .ok (strB (fileB j r)) (w6.drewN n) := fun n => conv_any (W := w6.drewN n) (base := q) (n := (fileB j r).length) hout6
  clear Y6 hj4 hrow6 hout6 hlog6 hk6 hk6' hB4 HFB HLB
  generalize hFF : fileB j r = FF at *
  have HFF := hid hFF
  generalize hLG : logB j r = LG at *
  have HLG := hid hLG
  clear hFF hLG
  go_wp2_with fail
  go_quiet (fail)
  go_wp2
  go_ret2
  rw [HFF.out, HLG.out]
  exact ⟨_, rfl, HL6.out, below_drewN HB6.out nq⟩

set_option maxHeartbeats 4000000 in
theorem write_does (ta : Option Addr) (tcap : Nat) (ra : Option Addr) (rcap : Nat) (r : List KeyB) (j : JobB) (w : World) (hj : LiesJ w ta tcap j) (hr : LiesK w ra r) (hrm : r.length ≤ maxLen) :
    Calls Tryz.prog 22 #[jobV (.slice ta j.table.length tcap) j, .slice ra r.length rcap] w
      fun e w' => Below w.heap.size w w' ∧ ((jobErrB j r ≠ 0 ∧ e = .returned (.tuple #[strB [], .slice none 0 0, .int .i64 (jobErrB j r)])) ∨
        (jobErrB j r = 0 ∧ ∃ lv, e = .returned (.tuple #[strB (fileB j r), lv, .int .i64 0]) ∧ w'.ownsRow w.heap.size 54 4 lv (logB j r).length (sealsC (logB j r)))) := by
  have Hj := hid hj
  have Hr := hid hr
  have HGE := hid (fun h => good_of_err (j := j) (r := r) h (lies_fits hj.table))
  clear hj hr
  go_enter Tryz.func22, Tryz.ntmps22
  go_wp2_with fail
  obtain ⟨hb0, hs1, _, _⟩ := boxedW w #[.slice ta j.table.length tcap, .int .i64 j.plan.group, .int .i64 j.plan.page, .int .i64 j.plan.foot, .bool j.plan.told, strB j.pre, .int .i64 j.draw] 27
  have Hx0 := hid (boxJ_new w (.slice ta j.table.length tcap) j 27)
  have Hj0 := hid (Hj.out.later hb0)
  have Hr0 := hid (Hr.out.later hb0)
  have Hb0 := hid hb0
  clear hb0
  generalize w.alloc _ = w0 at *
  refine (checkJob_any ta tcap j ra rcap r w0 Hj0.out Hr0.out hrm).mono ?_
  rintro e w1 ⟨rfl, hb1⟩
  have hB1 := Hb0.out.trans (hb1.mono Hb0.out.size)
  by_cases hz : jobErrB j r = 0
  · have HG := hid (HGE.out hz)
    have Hz := hid hz
    rw [hz]
    clear hz
    obtain ⟨x0, x1, x2, x3, x4, x5, x6⟩ := Hx0.out.later hs1 hb1
    go_wp2_with fail
    refine (fwrite_any ta tcap ra rcap r j w1 ⟨Hj0.out.table.later hb1, Hr0.out.later hb1, hrm, HG.out, Hj0.out.cap_⟩).mono ?_
    rintro e w2 ⟨lv, rfl, ho2, hb2⟩
    have HB2 := hid (hB1.trans (hb2.mono hB1.size))
    have HO2 := hid (own_mono ho2 hB1.size)
    clear x0 x1 x2 x3 x4 x5 x6 ho2 hb2 hb1 hB1
    generalize hFF : fileB j r = FF at *
    have HFF := hid hFF
    generalize hLG : logB j r = LG at *
    have HLG := hid hLG
    clear hFF hLG
    go_wp2
    refine bodyPost_ret (v := .tuple #[strB FF, lv, .int .i64 0]) (by simp [results, Tryz.results22, go_sem]) rfl ?_
    rw [HFF.out, HLG.out]
    exact ⟨HB2.out, .inr ⟨Hz.out, lv, rfl, HO2.out⟩⟩
  · have hz2 : (jobErrB j r != 0) = true := by simpa using hz
    have Hz := hid hz
    clear hz
    generalize hER : jobErrB j r = er at *
    have HER := hid hER
    clear hER
    go_wp2
    refine bodyPost_ret (v := .tuple #[strB [], .slice none 0 0, .int .i64 er]) (by simp [results, Tryz.results22, go_sem]) rfl ?_
    rw [HER.out]
    exact ⟨hB1, .inl ⟨Hz.out, rfl⟩⟩

end Go.Proofs.YthhpbhpfagoapabGreat

namespace Go.Proofs.YthhpbhpfagoapabGreat
open Go.RowKit
set_option linter.unusedVariables false
set_option linter.unusedSimpArgs false
set_option maxRecDepth 100000

theorem byte_at {s : List UInt8} {i : Nat} {b : UInt8} (h : i < (⟨s.toArray⟩ : ByteArray).size) (hb : s[i]? = some b) : (⟨s.toArray⟩ : ByteArray)[i]'h = b := by
  have hi : i < s.length := (List.getElem?_eq_some_iff.1 hb).1
  have e : (⟨s.toArray⟩ : ByteArray)[i]'h = s[i] := rfl
  rw [e]
  exact (List.getElem?_eq_some_iff.1 hb).2

set_option maxHeartbeats 400000 in
theorem two_at (s : List UInt8) (i : Nat) (b0 b1 : UInt8) (w : World) (hs : s.length ≤ 1000000000) (h0 : s[i]? = some b0) (h1 : s[i + 1]? = some b1) :
    Calls Tryz.prog 23 #[strB s, .int .i64 (i : Int)] w fun e w' => e = .returned (.int .i64 ((b0.toNat : Int) + 256 * (b1.toNat : Int))) ∧ Below w.heap.size w w' := by
  have hi : i + 1 < s.length := (List.getElem?_eq_some_iff.1 h1).1
  have e0 : ∀ h, (⟨s.toArray⟩ : ByteArray)[i]'h = b0 := fun h => byte_at h h0
  have e1 : ∀ h, (⟨s.toArray⟩ : ByteArray)[i + 1]'h = b1 := fun h => byte_at h h1
  have l0 : b0.toNat < 256 := b0.toNat_lt
  have l1 : b1.toNat < 256 := b1.toNat_lt
  have hw : IntKind.i64.wrap ((i : Int) + 1) = (i : Int) + 1 := IntWalk.i64_in _ ⟨by omega, by omega⟩
  have hw0 : IntKind.i64.wrap (b0.toNat : Int) = (b0.toNat : Int) := IntWalk.i64_in _ ⟨by omega, by omega⟩
  have hw1 : IntKind.i64.wrap (b1.toNat : Int) = (b1.toNat : Int) := IntWalk.i64_in _ ⟨by omega, by omega⟩
  have hw2 : IntKind.i64.wrap (256 * (b1.toNat : Int)) = 256 * (b1.toNat : Int) := IntWalk.i64_in _ ⟨by omega, by omega⟩
  have hw3 : IntKind.i64.wrap ((b0.toNat : Int) + 256 * (b1.toNat : Int)) = (b0.toNat : Int) + 256 * (b1.toNat : Int) := IntWalk.i64_in _ ⟨by omega, by omega⟩
  have htn : ((i : Int) + 1).toNat = i + 1 := by omega
  have hge : (0 : Int) ≤ (i : Int) + 1 := by omega
  go_enter Tryz.func23, Tryz.ntmps23
  have hn : ¬ ((s.length : Int) < (i : Int) + 2) := by omega
  have hi1 : (i : Int) < (s.length : Int) := by omega
  have hi2 : (i : Int) + 1 < (s.length : Int) := by omega
  go_wp2_with fail
  go_quiet (fail)
  go_wp2
  go_ret
  exact ⟨rfl, below_drewN (Below.refl _ _) nq⟩

theorem err_of_good {j : JobB} {r : List KeyB} (h : GoodJ j r) : jobErrB j r = 0 := by
  unfold jobErrB
  rw [if_neg (by rw [h.table.ok]; simp), if_neg, if_neg (by rw [h.ring]; simp), if_neg (by rw [h.has]; simp)]
  rw [h.plan]
  have := h.pre
  have := h.draw
  simp
  omega

theorem file_ne (j : JobB) (r : List KeyB) : (fileB j r).isEmpty = false := by
  unfold fileB
  simp [List.isEmpty_eq_false_iff]

set_option maxHeartbeats 1000000 in
theorem written_any (ta : Option Addr) (tcap : Nat) (ra : Option Addr) (rcap : Nat) (r : List KeyB) (j : JobB) (w : World) (hj : LiesJ w ta tcap j) (hr : LiesK w ra r) (hrm : r.length ≤ maxLen) (hg : GoodJ j r) :
    Calls Tryz.prog 10 #[jobV (.slice ta j.table.length tcap) j, .slice ra r.length rcap] w
      fun e w' => ∃ lv, e = .returned (.tuple #[strB (fileB j r), lv, .bool true]) ∧ w'.ownsRow w.heap.size 54 4 lv (logB j r).length (sealsC (logB j r)) ∧ Below w.heap.size w w' := by
  have Hj := hid hj
  have Hr := hid hr
  have hz := err_of_good hg
  have Hz := hid hz
  have hfe := file_ne j r
  clear hj hr hz
  go_enter Tryz.func10, Tryz.ntmps10
  go_wp2_with fail
  obtain ⟨hb0, hs0, _, _⟩ := boxedW w #[.slice ta j.table.length tcap, .int .i64 j.plan.group, .int .i64 j.plan.page, .int .i64 j.plan.foot, .bool j.plan.told, strB j.pre, .int .i64 j.draw] 27
  have Hj0 := hid (Hj.out.later hb0)
  have Hr0 := hid (Hr.out.later hb0)
  have Hb0 := hid hb0
  clear hb0
  generalize w.alloc (.cells #[.slice ta j.table.length tcap, .int .i64 j.plan.group, .int .i64 j.plan.page, .int .i64 j.plan.foot, .bool j.plan.told, strB j.pre, .int .i64 j.draw] 27) = w0 at *
  refine (write_does ta tcap ra rcap r j w0 Hj0.out Hr0.out hrm).mono ?_
  rintro e w1 ⟨hb1, hcase⟩
  obtain ⟨lv, rfl, hl⟩ : ∃ lv, e = .returned (.tuple #[strB (fileB j r), lv, .int .i64 0]) ∧ w1.ownsRow w0.heap.size 54 4 lv (logB j r).length (sealsC (logB j r)) := by
    rcases hcase with ⟨hne, _⟩ | ⟨_, h⟩
    · exact absurd Hz.out hne
    · exact h
  have HL := hid (own_mono hl Hb0.out.size)
  have HB := hid (Hb0.out.trans (hb1.mono Hb0.out.size))
  clear hcase hl hb1
  generalize hF : fileB j r = F at *
  have HF := hid hF
  clear hF
  go_wp2
  refine bodyPost_ret (v := .tuple #[strB F, lv, .bool true]) (by simp [results, Tryz.results10, go_sem]) rfl ?_
  exact ⟨lv, by rw [HF.out], HL.out, HB.out⟩

/-- Spans as they lie. -/
def spanPC (l : List (Nat × Nat)) : List Value := l.flatMap fun p => [.int .i64 (p.1 : Int), .int .i64 (p.2 : Int)]
theorem spanPC_length (l : List (Nat × Nat)) : (spanPC l).length = l.length * 2 := flat_length _ 2 (fun _ => rfl) l
theorem spanPC_append (a b : List (Nat × Nat)) : spanPC (a ++ b) = spanPC a ++ spanPC b := by simp [spanPC]
theorem spanPC_at (l : List (Nat × Nat)) (j : Nat) (h : j < l.length) : (spanPC l)[j * 2]? = some (.int .i64 ((l[j]).1 : Int)) ∧ (spanPC l)[j * 2 + 1]? = some (.int .i64 ((l[j]).2 : Int)) :=
  ⟨flat_at _ 2 (fun _ => rfl) l j 0 h (by decide), flat_at _ 2 (fun _ => rfl) l j 1 h (by decide)⟩

structure LiesP (w : World) (a : Option Addr) (l : List (Nat × Nat)) : Prop where
  at_ : l ≠ [] → ∃ b, a = some ⟨b, 0, none⟩ ∧ b < w.heap.size ∧ ∀ j (h : j < l.length), w.cell? ⟨b, j * 2, none⟩ = some (.int .i64 ((l[j]).1 : Int)) ∧ w.cell? ⟨b, j * 2 + 1, none⟩ = some (.int .i64 ((l[j]).2 : Int))

theorem LiesP.later {w w' : World} {a : Option Addr} {r : List (Nat × Nat)} (h : LiesP w a r) (hb : Below w.heap.size w w') : LiesP w' a r := by
  refine ⟨fun hne => ?_⟩
  obtain ⟨b, ha, hlt, hc⟩ := h.at_ hne
  refine ⟨b, ha, Nat.lt_of_lt_of_le hlt hb.size, fun j hj => ?_⟩
  obtain ⟨h1, h2⟩ := hc j hj
  exact ⟨(hb.cell (p := ⟨b, _, none⟩) hlt).trans h1, (hb.cell (p := ⟨b, _, none⟩) hlt).trans h2⟩

theorem own_liesP {w : World} {base n : Nat} {v : Value} {l : List (Nat × Nat)} (h : w.ownsRow base 71 2 v n (spanPC l)) :
    ∃ a cap, v = .slice a l.length cap ∧ LiesP w a l := by
  have hn : n = l.length := by have := h.1; rw [spanPC_length] at this; omega
  subst hn
  rcases h.2 with ⟨rfl, h0⟩ | ⟨g, cap, cur, rfl, _, hg, _⟩
  · have : l = [] := List.eq_nil_of_length_eq_zero h0
    subst this
    exact ⟨none, 0, rfl, ⟨fun hne => absurd rfl hne⟩⟩
  · refine ⟨_, _, rfl, ⟨fun _ => ⟨g, rfl, (h.lt g rfl).2, fun j hj => ?_⟩⟩⟩
    obtain ⟨h1, h2⟩ := spanPC_at l j hj
    exact ⟨by rw [h.cellAt (j * 2) (by omega)]; exact h1, by rw [h.cellAt (j * 2 + 1) (by omega)]; exact h2⟩

theorem take_eq_step {l m : List (Nat × Nat)} {k : Nat} (hk : k < l.length) (hk2 : k < m.length) (h : l.take k = m.take k) (he : l[k] = m[k]) : l.take (k + 1) = m.take (k + 1) := by
  rw [List.take_succ_eq_append_getElem hk, List.take_succ_eq_append_getElem hk2, h, he]

set_option maxHeartbeats 1000000 in
theorem sameSpans_any (a a2 : Option Addr) (cap cap2 : Nat) (l l2 : List (Nat × Nat)) (w : World) (hm : l.length ≤ 1000000) (hm2 : l2.length ≤ 1000000) (hl : LiesP w a l) (hl2 : LiesP w a2 l2) :
    Calls Tryz.prog 13 #[.slice a l.length cap, .slice a2 l2.length cap2] w fun e w' => e = .returned (.bool (decide (l = l2))) ∧ Below w.heap.size w w' := by
  have Hl := hid hl
  have Hl2 := hid hl2
  clear hl hl2
  by_cases hlen : l.length = l2.length
  · have hne : ((l.length : Int) != (l2.length : Int)) = false := by simp; omega
    have Hlen := hid hlen
    clear hlen
    go_enter Tryz.func13, Tryz.ntmps13
    go_wp2
    go_loopw [5] (fun i wr => ∃ k : Nat, k ≤ l.length ∧ i = .int .i64 (k : Int) ∧ l.take k = l2.take k ∧ Below w.heap.size w wr) (fun i _ => l.length - (intOf i).toNat)
    case atStart => exact ⟨0, Nat.zero_le _, rfl, by simp, Below.refl _ _⟩
    case round =>
      obtain ⟨k, hk, rfl, ht, hB⟩ := hrel
      have Ht := hid ht
      clear ht
      by_cases hlt : k < l.length
      · have hlt2 : k < l2.length := by have := Hlen.out; omega
        obtain ⟨b, rfl, hbw, hcell⟩ := (Hl.out.later hB).at_ (List.ne_nil_of_length_pos (by omega))
        obtain ⟨g1, g2⟩ := hcell k hlt
        obtain ⟨b', rfl, hbw', hcell'⟩ := (Hl2.out.later hB).at_ (List.ne_nil_of_length_pos (by omega))
        obtain ⟨k1, k2⟩ := hcell' k hlt2
        clear hcell hcell'
        have hki : (k : Int) < (l.length : Int) := by omega
        have hki2 : (k : Int) < (l2.length : Int) := by omega
        by_cases heq : l[k] = l2[k]
        · have HN := hid (take_eq_step hlt hlt2 Ht.out heq)
          rw [← heq] at k1 k2
          clear heq
          generalize l[k] = c at *
          go_wp2_with fail
          go_quiet (fail)
          go_wp2_with fail
          go_roundw
          case rel => exact ⟨k + 1, by omega, by go_num, HN.out, below_drewN hB nq⟩
          case measure => simp [intOf]; omega
        · have HNE : Hid (decide (l = l2) = false) := by
            show decide (l = l2) = false
            rw [decide_eq_false_iff_not]
            intro e
            subst e
            exact heq rfl
          have hcmp : ((l[k]).1 : Int) ≠ ((l2[k]).1 : Int) ∨ (((l[k]).1 : Int) = ((l2[k]).1 : Int) ∧ ((l[k]).2 : Int) ≠ ((l2[k]).2 : Int)) := by
            by_cases h1 : (l[k]).1 = (l2[k]).1
            · right
              refine ⟨by omega, fun h2 => heq ?_⟩
              exact Prod.ext h1 (by omega)
            · left; omega
          clear heq
          generalize l[k] = c at *
          generalize l2[k] = d at *
          obtain ⟨c1, c2⟩ := c
          obtain ⟨d1, d2⟩ := d
          simp only at g1 g2 k1 k2 hcmp
          rcases hcmp with hc | ⟨hc, hc2⟩
          · have q1 : ((c1 : Int) == (d1 : Int)) = false := by simpa using hc
            have q2 : ((c1 : Int) != (d1 : Int)) = true := by simpa using hc
            clear hc
            go_wp2_with fail
            go_quiet (fail)
            go_wp2_with fail
            go_ret
            exact ⟨congrArg (fun b => Ending.returned (Value.bool b)) HNE.out.symm, below_drewN hB nq⟩
          · rw [← hc] at k1
            clear hc
            have q1 : ((c2 : Int) == (d2 : Int)) = false := by simpa using hc2
            have q2 : ((c2 : Int) != (d2 : Int)) = true := by simpa using hc2
            clear hc2
            go_wp2_with fail
            go_quiet (fail)
            go_wp2_with fail
            go_ret
            exact ⟨congrArg (fun b => Ending.returned (Value.bool b)) HNE.out.symm, below_drewN hB nq⟩
      · have HE : Hid (decide (l = l2) = true) := by
          show decide (l = l2) = true
          rw [decide_eq_true_iff]
          have h1 := Ht.out
          rw [List.take_of_length_le (by omega), List.take_of_length_le (by have := Hlen.out; omega)] at h1
          exact h1
        go_wp2
        go_ret
        exact ⟨congrArg (fun b => Ending.returned (Value.bool b)) HE.out.symm, hB⟩
  · have HE : Hid (decide (l = l2) = false) := by
      show decide (l = l2) = false
      rw [decide_eq_false_iff_not]
      intro e
      rw [e] at hlen
      exact hlen rfl
    have hne : ((l.length : Int) != (l2.length : Int)) = true := by simp; omega
    clear hlen
    go_enter Tryz.func13, Tryz.ntmps13
    go_wp2
    go_ret
    exact ⟨congrArg (fun b => Ending.returned (Value.bool b)) HE.out.symm, Below.refl _ _⟩

end Go.Proofs.YthhpbhpfagoapabGreat

namespace Go.Proofs.YthhpbhpfagoapabGreat
open Go.RowKit
set_option linter.unusedVariables false
set_option linter.unusedSimpArgs false
set_option maxRecDepth 100000

/-- Bytes of the call's own. -/
structure BytesAt (w : World) (g : Nat) (l : List UInt8) : Prop where
  lt : g < w.heap.size
  cell : ∀ j (h : j < l.length), w.cell? ⟨g, j, none⟩ = some (.int .u8 ((l[j]).toNat : Int))
  free : ∀ j, j < l.length → w.frozen? ⟨g, j, none⟩ = false

theorem bytes_new (w : World) (s : List UInt8) : ∃ cap w', Sem.run Tryz.prog (convert 9 64 (strB s)) w = .ok (.slice (some ⟨w.heap.size, 0, none⟩) s.length cap) w' ∧ BytesAt w' w.heap.size s ∧ Below w.heap.size w w' := by
  have hnew : ∀ (C : Array Value) (fr : Nat × Nat), (w.drew.alloc (.cells C 5 fr)).heap[w.heap.size]? = some (.cells C 5 fr) := by
    intro C fr
    show (w.heap.push (.cells C 5 fr))[w.heap.size]? = _
    simp
  have hsz : (⟨s.toArray⟩ : ByteArray).size = s.length := by simp [ByteArray.size]
  refine ⟨_, _, by rw [← hsz]; exact run_bytes_of_string (P := Tryz.prog) w 9 64 5 ⟨s.toArray⟩ Tryz.underlying9 Tryz.underlying64 Tryz.underlying5, ⟨?_, ?_, ?_⟩, ?_⟩
  · simp
  · intro j hj
    unfold World.cell?
    rw [hnew]
    simp [bytesRow, Array.getElem?_append, hj]
  · intro j hj
    have hz : s.length ≤ (bytesRow ⟨s.toArray⟩ (grownCap w (⟨s.toArray⟩ : ByteArray).size 0 5)).size := by simp [bytesRow]
    unfold World.frozen?
    rw [hnew]
    simp
    omega
  · exact ((Below.refl _ _).drew).alloc (Nat.le_refl _) _

theorem BytesAt.set {w : World} {g : Nat} {l : List UInt8} (h : BytesAt w g l) (i : Nat) (hi : i < l.length) (u : UInt8) : BytesAt (w.setCell ⟨g, i, none⟩ (.int .u8 (u.toNat : Int))) g (l.set i u) := by
  refine ⟨by simpa using h.lt, fun j hj => ?_, fun j hj => ?_⟩
  · have hj' : j < l.length := by simpa using hj
    by_cases e : j = i
    · subst e
      rw [List.getElem_set_self]
      exact World.cell?_setCell_same _ _ _ (h.cell j hj')
    · rw [List.getElem_set_ne (fun e' => e e'.symm), World.cell?_setCell_other _ _ _ _ (by intro h; simp only [Addr.mk.injEq] at h; omega)]
      exact h.cell j hj'
  · have hj' : j < l.length := by simpa using hj
    rw [World.frozen?_setCell]
    exact h.free j hj'

theorem BytesAt.later {w w' : World} {g : Nat} {l : List UInt8} (h : BytesAt w g l) (hb : Below w.heap.size w w') : BytesAt w' g l :=
  ⟨Nat.lt_of_lt_of_le h.lt hb.size, fun j hj => (hb.cell (p := ⟨g, j, none⟩) h.lt).trans (h.cell j hj), fun j hj => (hb.frozen (p := ⟨g, j, none⟩) h.lt).trans (h.free j hj)⟩

theorem BytesAt.conv {w : World} {g : Nat} {l : List UInt8} (h : BytesAt w g l) (cap : Nat) : Sem.run Tryz.prog (convert 64 9 (.slice (some ⟨g, 0, none⟩) l.length cap)) w = .ok (strB l) w := by
  refine run_convert_bytes_back (P := Tryz.prog) w 64 9 5 ⟨g, 0, none⟩ cap l Tryz.underlying64 Tryz.underlying5 Tryz.underlying9 ?_
  intro j hj
  have e : (⟨g, 0, none⟩ : Addr).add j = ⟨g, j, none⟩ := by unfold Addr.add; split <;> simp_all
  rw [e]
  exact h.cell j hj

theorem blankOne_len (L : List UInt8) (p : Nat × Nat) : (blankOne L p).length = L.length := by simp [blankOne]
theorem blankB_len (l : List (Nat × Nat)) : ∀ s : List UInt8, (blankB s l).length = s.length := by
  induction l with
  | nil => intro s; rfl
  | cons p l ih => intro s; show (blankB (blankOne s p) l).length = _; rw [ih, blankOne_len]
theorem blankB_snoc (s : List UInt8) (l : List (Nat × Nat)) (p : Nat × Nat) : blankB s (l ++ [p]) = blankOne (blankB s l) p := by simp [blankB]

theorem blankOne_nil (L : List UInt8) (f : Nat) : blankOne L (f, f) = L := by
  apply List.ext_getElem?
  intro i
  rw [blankOne_at, if_neg]
  simp only
  omega

theorem blankOne_set (L : List UInt8) (f k : Nat) (h : f ≤ k) (hk : k < L.length) : (blankOne L (f, k)).set k 0 = blankOne L (f, k + 1) := by
  apply List.ext_getElem?
  intro i
  rw [List.getElem?_set, blankOne_at, blankOne_at, blankOne_len]
  simp only
  by_cases e : k = i
  · subst e
    rw [if_pos rfl, if_pos hk, if_pos (by omega), List.getElem?_eq_getElem hk]
    rfl
  · rw [if_neg e]
    by_cases h1 : f ≤ i ∧ i < k
    · rw [if_pos h1, if_pos (by omega)]
    · rw [if_neg h1, if_neg (by omega)]

theorem blankOne_end (L : List UInt8) (f t k : Nat) (hk : k ≤ t) (h : k = t ∨ L.length ≤ k) : blankOne L (f, k) = blankOne L (f, t) := by
  apply List.ext_getElem?
  intro i
  rw [blankOne_at, blankOne_at]
  simp only
  by_cases hi : i < L.length
  · have : (f ≤ i ∧ i < k) ↔ (f ≤ i ∧ i < t) := by omega
    simp only [this]
  · rw [List.getElem?_eq_none (by omega)]
    simp

set_option maxHeartbeats 2000000 in
theorem blank_any (a : Option Addr) (cap : Nat) (l : List (Nat × Nat)) (s : List UInt8) (w : World) (hs : s.length ≤ 1000000000) (hm : l.length ≤ 1000000) (hp : ∀ p ∈ l, p.1 ≤ p.2 ∧ p.2 ≤ 1000000000) (hl : LiesP w a l) :
    Calls Tryz.prog 14 #[strB s, .slice a l.length cap] w fun e w' => e = .returned (strB (blankB s l)) ∧ Below w.heap.size w w' := by
  have Hl := hid hl
  have Hp := hid hp
  obtain ⟨bcap, w1, hrun, hby, hb1⟩ := bytes_new w s
  have Hby := hid hby
  clear hl hp hby
  go_enter Tryz.func14, Tryz.ntmps14
  go_wp2_with fail
  generalize hg : w.heap.size = g at *
  have Hg := hid hg
  clear hg hrun
  go_loopw [6] (fun i wr => ∃ n : Nat, n ≤ l.length ∧ i = .int .i64 (n : Int) ∧ BytesAt wr g (blankB s (l.take n)) ∧ Below g w wr) (fun i _ => l.length - (intOf i).toNat)
  case atStart => exact ⟨0, Nat.zero_le _, rfl, Hby.out, hb1⟩
  case round =>
    clear Hby hb1
    obtain ⟨n, hn, rfl, hby, hB⟩ := hrel
    have Hby := hid hby
    clear hby
    have hB' : Below w.heap.size w wr := by rw [Hg.out]; exact hB
    by_cases hlt : n < l.length
    · obtain ⟨b, rfl, hbw, hcell⟩ := Hl.out.at_ (List.ne_nil_of_length_pos (by omega))
      obtain ⟨g1, g2⟩ := hcell n hlt
      rw [Hg.out] at hbw
      have HSN : Hid (blankB s (l.take (n + 1)) = blankOne (blankB s (l.take n)) l[n]) := by
        show _ = _
        rw [List.take_succ_eq_append_getElem hlt, blankB_snoc]
      have hLL : (blankB s (l.take n)).length = s.length := blankB_len _ _
      obtain ⟨q1, q2⟩ := Hp.out l[n] (List.getElem_mem hlt)
      generalize l[n] = p at *
      obtain ⟨f, t⟩ := p
      simp only at g1 g2 q1 q2
      generalize blankB s (l.take n) = L at *
      have HLL := hid hLL
      clear hLL hcell hB'
      have hni : (n : Int) < (l.length : Int) := by omega
      have e1 := (hB.cell (p := ⟨b, n * 2, none⟩) hbw).trans g1
      have e2 := (hB.cell (p := ⟨b, n * 2 + 1, none⟩) hbw).trans g2
      go_wp2_with fail
      clear e1 e2
      go_loopw [7] (fun k wr => ∃ m : Nat, f ≤ m ∧ m ≤ t ∧ k = .int .i64 (m : Int) ∧ BytesAt wr g (blankOne L (f, m)) ∧ Below g w wr) (fun k _ => t - (intOf k).toNat)
      case atStart => exact ⟨f, Nat.le_refl _, q1, rfl, by rw [blankOne_nil]; exact Hby.out, hB⟩
      case round =>
        clear hB Hby
        obtain ⟨m, hm1, hm2, rfl, hby, hB⟩ := hrel
        have Hby := hid hby
        clear hby
        have e1 := (hB.cell (p := ⟨b, n * 2, none⟩) hbw).trans g1
        have e2 := (hB.cell (p := ⟨b, n * 2 + 1, none⟩) hbw).trans g2
        by_cases hc : m < t ∧ m < s.length
        · obtain ⟨c1, c2⟩ := hc
          have i1 : (m : Int) < (t : Int) := by omega
          have i2 : (m : Int) < (s.length : Int) := by omega
          have hml : m < (blankOne L (f, m)).length := by rw [blankOne_len, HLL.out]; exact c2
          have d1 := Hby.out.cell m hml
          have d2 := Hby.out.free m hml
          have HB2 := hid (hB.setCell (p := ⟨g, m, none⟩) (Nat.le_refl _) (.int .u8 0))
          have HY2 : Hid (BytesAt (wr.setCell ⟨g, m, none⟩ (.int .u8 0)) g (blankOne L (f, m + 1))) := by
            have := Hby.out.set m hml 0
            rw [blankOne_set L f m hm1 (by rw [HLL.out]; exact c2)] at this
            exact this
          clear hB
          generalize (blankOne L (f, m))[m] = bb at *
          clear hml
          have hif : decide ((m : Int) < (t : Int)) = true := by simp; omega
          go_wp2_with fail
          exact ⟨⟨m + 1, by omega, by omega, by go_num, HY2.out, HB2.out⟩, by simp [intOf]; omega⟩
        · have HE := hid (blankOne_end L f t m hm2 (by rw [HLL.out]; omega))
          have HY2 : Hid (BytesAt wr g (blankB s (l.take (n + 1)))) := by
            show BytesAt wr g (blankB s (l.take (n + 1)))
            rw [HSN.out, ← HE.out]
            exact Hby.out
          by_cases hc1 : m < t
          · have i1 : (m : Int) < (t : Int) := by omega
            have i2 : ¬ (m : Int) < (s.length : Int) := by omega
            go_wp2_with fail
            exact ⟨⟨n + 1, by omega, by go_num, HY2.out, hB⟩, by simp [intOf]; omega⟩
          · have i1 : ¬ (m : Int) < (t : Int) := by omega
            go_wp2_with fail
            exact ⟨⟨n + 1, by omega, by go_num, HY2.out, hB⟩, by simp [intOf]; omega⟩
    · have hne : n = l.length := by omega
      subst hne
      have hLL : (blankB s (l.take l.length)).length = s.length := blankB_len _ _
      have hcv := Hby.out.conv bcap
      rw [hLL] at hcv
      have HT : Hid (blankB s l = blankB s (l.take l.length)) := by show _ = _; rw [List.take_length]
      clear hLL
      generalize blankB s (l.take l.length) = TT at *
      go_wp2
      go_ret
      exact ⟨congrArg (fun x => Ending.returned (strB x)) HT.out.symm, hB'⟩

/-- A text whose first k bytes are shaken. -/
def shakeTo (s : List UInt8) (v : Int) (k : Nat) : List UInt8 := s.mapIdx fun i b => if i < k then byB (97 + ((b.toNat : Int) + thirdB v i) % 26) else b
def shakenB (s : List UInt8) (c : Int) : List UInt8 := shakeTo s (pickB c 1099511627776) s.length

theorem shakeTo_len (s : List UInt8) (v : Int) (k : Nat) : (shakeTo s v k).length = s.length := by simp [shakeTo]
theorem shakeTo_zero (s : List UInt8) (v : Int) : shakeTo s v 0 = s := by
  apply List.ext_getElem?
  intro i
  simp [shakeTo, List.getElem?_mapIdx]
theorem shakeTo_at (s : List UInt8) (v : Int) (k : Nat) (h : k < s.length) : (shakeTo s v k)[k]'(by rw [shakeTo_len]; exact h) = s[k] := by simp [shakeTo]
theorem shakeTo_step (s : List UInt8) (v : Int) (k : Nat) (h : k < s.length) : (shakeTo s v k).set k (byB (97 + ((s[k].toNat : Int) + thirdB v k) % 26)) = shakeTo s v (k + 1) := by
  apply List.ext_getElem?
  intro i
  rw [List.getElem?_set, shakeTo_len]
  by_cases e : k = i
  · subst e
    rw [if_pos rfl, if_pos h]
    simp [shakeTo, List.getElem?_mapIdx, List.getElem?_eq_getElem h]
  · rw [if_neg e]
    simp only [shakeTo, List.getElem?_mapIdx]
    congr 1
    funext b
    by_cases h1 : i < k
    · rw [if_pos h1, if_pos (by omega)]
    · rw [if_neg h1, if_neg (by omega)]

set_option maxHeartbeats 2000000 in
theorem shaken_any (s : List UInt8) (c : Int) (w : World) (hs : s.length ≤ 12) (h0 : -9223372036854775808 ≤ c) (h1 : c ≤ 9223372036854775807) :
    Calls Tryz.prog 9 #[strB s, .int .i64 c] w fun e w' => e = .returned (strB (shakenB s c)) ∧ Below w.heap.size w w' := by
  obtain ⟨hp0, hp1⟩ := pickB_range c 1099511627776 (by decide)
  obtain ⟨bcap, w1, hrun, hby, hb1⟩ := bytes_new w s
  have HE : Hid (shakenB s c = shakeTo s (pickB c 1099511627776) s.length) := rfl
  have Hby := hid hby
  clear hby
  go_enter Tryz.func9, Tryz.ntmps9
  go_wp2_with fail
  refine (pick_any c _ _ h0 h1 (by decide) (by decide)).mono ?_
  rintro e w2 ⟨rfl, rfl⟩
  generalize pickB c 1099511627776 = V at *
  have HTR := hid (thirdB_range V hp0 (by omega))
  go_wp2_with fail
  generalize hg : w2.heap.size = g at *
  have Hg := hid hg
  clear hg hrun
  go_loopw [5, 7] (fun v i wr => ∃ k : Nat, k ≤ s.length ∧ i = .int .i64 (k : Int) ∧ v = .int .i64 (thirdB V k) ∧ BytesAt wr g (shakeTo s V k) ∧ Below g w2 wr) (fun _ i _ => s.length - (intOf i).toNat)
  case atStart => exact ⟨0, Nat.zero_le _, rfl, rfl, by rw [shakeTo_zero]; exact Hby.out, hb1⟩
  case round =>
    clear Hby hb1
    obtain ⟨k, hk, rfl, rfl, hby, hB⟩ := hrel
    obtain ⟨hx0, hx1⟩ := HTR.out k
    have HS : Hid (thirdB V (k + 1) = thirdB V k / 3) := rfl
    have hLL := shakeTo_len s V k
    by_cases hlt : k < s.length
    · have hkl : k < (shakeTo s V k).length := by rw [hLL]; exact hlt
      have d1 := hby.cell k hkl
      have d2 := hby.free k hkl
      rw [shakeTo_at s V k hlt] at d1
      have HY := hid (hby.set k hkl (byB (97 + ((s[k].toNat : Int) + thirdB V k) % 26)))
      rw [shakeTo_step s V k hlt] at HY
      have lb : s[k].toNat < 256 := s[k].toNat_lt
      have hki : (k : Int) < (s.length : Int) := by omega
      have HBS := hid (fun v => hB.setCell (p := ⟨g, k, none⟩) (Nat.le_refl _) v)
      rw [byB_toNat _ (by omega) (by omega)] at HY
      generalize thirdB V k = x at *
      generalize s[k] = bb at *
      clear hby hB hkl
      have hwx : 0 ≤ ((bb.toNat : Int) + x) % 26 ∧ ((bb.toNat : Int) + x) % 26 < 26 := ⟨by omega, by omega⟩
      go_wp2_with fail
      exact ⟨⟨k + 1, by omega, by go_num, by rw [HS.out], HY.out, HBS.out _⟩, by simp [intOf]; omega⟩
    · have hne : k = s.length := by omega
      subst hne
      have hcv := hby.conv bcap
      rw [hLL] at hcv
      clear hLL hby
      generalize shakeTo s V s.length = TT at *
      have HB' : Hid (Below w2.heap.size w2 wr) := by show Below _ _ _; rw [Hg.out]; exact hB
      go_wp2
      go_ret
      exact ⟨congrArg (fun x => Ending.returned (strB x)) HE.out.symm, HB'.out⟩

end Go.Proofs.YthhpbhpfagoapabGreat

namespace Go.Proofs.YthhpbhpfagoapabGreat
open Go.RowKit
set_option linter.unusedVariables false
set_option linter.unusedSimpArgs false
set_option maxRecDepth 100000

/-- Is a key among these (bits)? -/
def hkB (keys key : Int) : Bool := decide (0 < key) && (bits .and .i64 keys (wrap64 (2 ^ key.toNat)) != 0)

theorem Tryz.infoSpanK : (Tryz.prog.info? 71).map (fun i => (i.zero, i.size, i.bytes)) = some (some (.agg #[.int .i64 0, .int .i64 0]), 2, 16) := by kernel_rfl

theorem spans_few {j : JobB} {r : List KeyB} (hk : Int → Bool) (L : List SpotB) : ∀ st, (spansB j r hk st L).length ≤ L.length := by
  induction L with
  | nil => intro st; exact Nat.le_refl _
  | cons s L ih =>
    intro st
    simp only [spansB, List.length_append, List.length_cons]
    have := ih (spotSt j r st s)
    split <;> simp <;> omega

theorem GoodJ.fileLen {j : JobB} {r : List KeyB} (h : GoodJ j r) : (fileB j r).length ≤ 90000000 := by
  have h1 := (h.body (spotsJ j).length).1
  rw [List.take_length] at h1
  have h2 := h.foot.2.2
  have e : bodySt j r = spotsSt j r ⟨startB j.plan, []⟩ (spotsJ j) := rfl
  rw [← e] at h1
  unfold fileB
  simp only [List.length_append, twoB_length, List.length_cons, List.length_nil]
  unfold endSt
  split
  · rw [(seal_len _ _ _ _ _).1, open_len]; simp only [List.length_nil]; omega
  · rw [(seal_len _ _ _ _ _).1]; omega

theorem twoB_bytes (n : Nat) (h : n ≤ 65535) : ∃ b0 b1 : UInt8, twoB (n : Int) = [b0, b1] ∧ (b0.toNat : Int) + 256 * (b1.toNat : Int) = (n : Int) := by
  refine ⟨_, _, rfl, ?_⟩
  simp only [UInt8.toNat_ofNat']
  omega

/-- What stands at the next module. -/
theorem next_mod {j : JobB} {r : List KeyB} (hg : GoodJ j r) {q c m : Nat} (hq : q < cntN (rowsB j.table) j.plan.group.toNat) (hc : c < j.table.length) (hm : m < (chunkSpots (rowsB j.table) j.plan.group.toNat j.plan.page.toNat q c).length) :
    ∃ (s : SpotB) (b0 b1 : UInt8), s = (chunkSpots (rowsB j.table) j.plan.group.toNat j.plan.page.toNat q c)[m] ∧ s.c = c ∧
      (fileB j r)[outN j r (upTo (rowsB j.table) j.table.length j.plan.group.toNat j.plan.page.toNat q c m)]? = some b0 ∧ (fileB j r)[outN j r (upTo (rowsB j.table) j.table.length j.plan.group.toNat j.plan.page.toNat q c m) + 1]? = some b1 ∧
      (b0.toNat : Int) + 256 * (b1.toNat : Int) = (lenM j.table s : Int) ∧ outN j r (upTo (rowsB j.table) j.table.length j.plan.group.toNat j.plan.page.toNat q c m) + 6 + lenM j.table s ≤ (fileB j r).length ∧ lenM j.table s ≤ 3502 := by
  obtain ⟨T, hT⟩ := upTo_next (R := rowsB j.table) (C := j.table.length) (G := j.plan.group.toNat) (P := j.plan.page.toNat) hq hc hm
  have hspots : spotsJ j = upTo (rowsB j.table) j.table.length j.plan.group.toNat j.plan.page.toNat q c m ++ (chunkSpots (rowsB j.table) j.plan.group.toNat j.plan.page.toNat q c)[m] :: T := hT
  have hin := hg.spotIn _ (by rw [hspots]; exact List.mem_append_right _ (List.mem_cons_self ..))
  have hcol := chunk_col (List.getElem_mem hm)
  generalize (chunkSpots (rowsB j.table) j.plan.group.toNat j.plan.page.toNat q c)[m] = s at *
  generalize upTo (rowsB j.table) j.table.length j.plan.group.toNat j.plan.page.toNat q c m = L at *
  obtain ⟨A, rest, hF, hA, hrest⟩ := file_at (r := r) hspots
  have hpl := plain_len hg.table hin.col hin.few.2.2.2.2
  have hlm : lenM j.table s ≤ 3502 := by unfold lenM; split <;> omega
  obtain ⟨b0, b1, htwo, hval⟩ := twoB_bytes (lenM j.table s) (by omega)
  rw [htwo] at hF
  refine ⟨s, b0, b1, rfl, hcol, ?_, ?_, hval, ?_, hlm⟩
  · rw [hF, ← hA, List.getElem?_append_right (Nat.le_refl _), Nat.sub_self]; rfl
  · rw [hF, ← hA, List.getElem?_append_right (by omega), show A.length + 1 - A.length = 1 by omega]; rfl
  · rw [hF, ← hA]
    simp only [List.length_append, List.length_cons, List.length_nil]
    omega

/-- All that the walk needs to know of a file: how far it is read after m modules of chunk c of group q, and what was found. -/
structure Walks (j : JobB) (r : List KeyB) (hk : Int → Bool) (O : Nat → Nat → Nat → Nat) (S : Nat → Nat → Nat → List (Nat × Nat)) : Prop where
  step : ∀ q c m, q < cntN (rowsB j.table) j.plan.group.toNat → (hc : c < j.table.length) → m < cntN (partN (rowsB j.table) j.plan.group.toNat q) j.plan.page.toNat + 1 → ∃ (len : Nat) (b0 b1 : UInt8),
    (fileB j r)[O q c m]? = some b0 ∧ (fileB j r)[O q c m + 1]? = some b1 ∧ (b0.toNat : Int) + 256 * (b1.toNat : Int) = (len : Int) ∧ O q c m + 6 + len ≤ (fileB j r).length ∧ len ≤ 3502 ∧
      O q c (m + 1) = O q c m + 2 + (len + if (j.table[c]).key = 0 then 0 else 4) ∧ S q c (m + 1) = S q c m ++ (if hk (j.table[c]).key = true then [(O q c m + 6, O q c m + 6 + len)] else []) ∧ (S q c m).length ≤ 30000
  chunk : ∀ q c, O q c (cntN (partN (rowsB j.table) j.plan.group.toNat q) j.plan.page.toNat + 1) = O q (c + 1) 0 ∧ S q c (cntN (partN (rowsB j.table) j.plan.group.toNat q) j.plan.page.toNat + 1) = S q (c + 1) 0
  group : ∀ q, O q j.table.length 0 = O (q + 1) 0 0 ∧ S q j.table.length 0 = S (q + 1) 0 0
  start : O 0 0 0 = 4 ∧ S 0 0 0 = []
  fin : S (cntN (rowsB j.table) j.plan.group.toNat) 0 0 = spansJ j r hk

theorem walks_of {j : JobB} {r : List KeyB} (hg : GoodJ j r) (hk : Int → Bool) (h0 : hk 0 = false) : ∃ O S, Walks j r hk O S := by
  refine ⟨fun q c m => outN j r (upTo (rowsB j.table) j.table.length j.plan.group.toNat j.plan.page.toNat q c m), fun q c m => spansL j r hk (upTo (rowsB j.table) j.table.length j.plan.group.toNat j.plan.page.toNat q c m), ?_, ?_, ?_, ?_, ?_⟩
  · intro q c m hq hc hm
    have hm' : m < (chunkSpots (rowsB j.table) j.plan.group.toNat j.plan.page.toNat q c).length := by rw [chunk_length]; exact hm
    obtain ⟨s, b0, b1, hs, hsc, h1, h2, h3, h4, h5⟩ := next_mod hg hq hc hm'
    have hst := upTo_step (C := j.table.length) hm'
    rw [← hs] at hst
    refine ⟨lenM j.table s, b0, b1, h1, h2, h3, h4, h5, ?_, ?_, ?_⟩
    · show outN j r _ = _
      rw [hst, outN_snoc, hsc, colAt_eq hc]
    · show spansL j r hk _ = _
      rw [hst, spansL_snoc _ _ _ _ _ h0, hsc, colAt_eq hc]
    · obtain ⟨T, hT⟩ := upTo_next (R := rowsB j.table) (C := j.table.length) (G := j.plan.group.toNat) (P := j.plan.page.toNat) hq hc hm'
      have hsp := hg.spotLen
      have hT2 : spotsJ j = _ := hT
      rw [hT2, List.length_append, List.length_cons] at hsp
      have := spans_few (j := j) (r := r) hk (upTo (rowsB j.table) j.table.length j.plan.group.toNat j.plan.page.toNat q c m) (st0 j)
      show (spansB _ _ _ _ _).length ≤ _
      omega
  · intro q c
    have := upTo_chunk (R := rowsB j.table) (C := j.table.length) (G := j.plan.group.toNat) (P := j.plan.page.toNat) (q := q) (c := c)
    rw [chunk_length] at this
    exact ⟨by show outN j r _ = _; rw [this], by show spansL j r hk _ = _; rw [this]⟩
  · intro q
    have := upTo_group (R := rowsB j.table) (C := j.table.length) (G := j.plan.group.toNat) (P := j.plan.page.toNat) (q := q)
    exact ⟨by show outN j r _ = _; rw [this], by show spansL j r hk _ = _; rw [this]⟩
  · constructor
    · show outN j r _ = 4
      simp [upTo, groupSpots, spotsTo, outN, spotsSt, st0, startB]
    · show spansL j r hk _ = []
      simp [upTo, groupSpots, spotsTo, spansL, spansB]
  · show spansL j r hk _ = _
    unfold upTo spansL spansJ spotsJ
    simp [groupSpots, spotsB, st0]

set_option maxHeartbeats 8000000 in
theorem bodies_any (ta : Option Addr) (tcap : Nat) (j : JobB) (r : List KeyB) (keys : Int) (w : World) (hj : LiesJ w ta tcap j) (hg : GoodJ j r) (hk0 : -9223372036854775808 ≤ keys) (hk1 : keys ≤ 9223372036854775807) :
    Calls Tryz.prog 12 #[jobV (.slice ta j.table.length tcap) j, strB (fileB j r), .int .i64 keys] w
      fun e w' => ∃ lv, e = .returned (.tuple #[lv, .bool true]) ∧ w'.ownsRow w.heap.size 71 2 lv (spansJ j r (hkB keys)).length (spanPC (spansJ j r (hkB keys))) ∧ Below w.heap.size w w' := by
  obtain ⟨i0, hi, hz0, hz1, hz2⟩ := info_parts Tryz.infoSpanK
  obtain ⟨O, S, hW⟩ := walks_of hg (hkB keys) rfl
  have HW := hid hW
  have Hj := hid hj
  have HG := hid hg
  obtain ⟨⟨hG1, hG6⟩, ⟨hP1, hP6⟩, _, _⟩ := hg.sizes
  have hR := hg.table.rows
  obtain ⟨hC1, hC6⟩ := hg.table.few
  have hfl := hg.fileLen
  have hplan := hg.plan
  simp only [planOkB, Bool.and_eq_true, decide_eq_true_eq] at hplan
  have eG : j.plan.group = (j.plan.group.toNat : Int) := by omega
  have eP : j.plan.page = (j.plan.page.toNat : Int) := by omega
  have EG := hid eG
  have EP := hid eP
  have HHead := hid (fun c hc => hg.table.head c hc)
  have HCQ : Hid (∀ q, (q * j.plan.group.toNat < rowsB j.table) ↔ q < cntN (rowsB j.table) j.plan.group.toNat) := fun q => (cnt_lt hG1).symm
  have hr0 := (hg.table.cells 0 (by omega)).1
  clear hj hg hplan eG eP hW
  go_enter Tryz.func12, Tryz.ntmps12
  go_upto_region 1 with fail
  obtain ⟨hb0, hs0, _, _⟩ := boxedW w #[.slice ta j.table.length tcap, .int .i64 j.plan.group, .int .i64 j.plan.page, .int .i64 j.plan.foot, .bool j.plan.told, strB j.pre, .int .i64 j.draw] 27
  have Hx0 := hid (boxJ_new w (.slice ta j.table.length tcap) j 27)
  generalize w.alloc (.cells #[.slice ta j.table.length tcap, .int .i64 j.plan.group, .int .i64 j.plan.page, .int .i64 j.plan.foot, .bool j.plan.told, strB j.pre, .int .i64 j.draw] 27) = wa at *
  have HT := hid (Hj.out.table.later hb0)
  have HB0 := hid hb0
  clear hb0 Hj
  obtain ⟨b, off, rfl, hbw, hcell0⟩ := HT.out.at_ (List.ne_nil_of_length_pos (by omega))
  obtain ⟨_, _, _, v, c3, ca, ccap, rfl, _, _, _⟩ := hcell0 0 (by omega)
  have HKey : Hid (∀ c (hc : c < j.table.length), wa.cell? ⟨b, off + c * 4 + 2, none⟩ = some (.int .i64 (j.table[c]).key)) := fun c hc => (hcell0 c hc).2.2.1
  rw [hr0] at c3
  simp only [Nat.zero_mul, Nat.add_zero] at c3
  obtain ⟨x0, _⟩ := Hx0.out
  clear hcell0 hr0 HT
  have HN : Hid (∀ q, partN (rowsB j.table) j.plan.group.toNat q = min j.plan.group.toNat (rowsB j.table - q * j.plan.group.toNat)) := fun q => rfl
  have HM : Hid (∀ n, cntN n j.plan.page.toNat = (n + j.plan.page.toNat - 1) / j.plan.page.toNat) := fun n => rfl
  go_wp2_with fail
  clear x0 c3
  generalize hFF : fileB j r = FF at *
  have HFF := hid hFF
  clear hFF
  go_loopw [8, 9, 11] (fun lv iv gv wr => ∃ q : Nat, q ≤ cntN (rowsB j.table) j.plan.group.toNat ∧ gv = .int .i64 ((q * j.plan.group.toNat : Nat) : Int) ∧ iv = .int .i64 (O q 0 0 : Int) ∧ wr.ownsRow wa.heap.size 71 2 lv (S q 0 0).length (spanPC (S q 0 0)) ∧ Below wa.heap.size wa wr) (fun _ _ gv _ => rowsB j.table - (intOf gv).toNat)
  case atStart => exact ⟨0, Nat.zero_le _, by simp, by rw [HW.out.start.1]; rfl, by rw [HW.out.start.2]; exact World.ownsRow_nil _ _ _ _, Below.refl _ _⟩
  case round =>
    obtain ⟨q, hq, rfl, rfl, hown, hB⟩ := hrel
    by_cases hlt : q < cntN (rowsB j.table) j.plan.group.toNat
    · have hgr := (HCQ.out q).2 hlt
      have hQ1 : Hid ((q + 1) * j.plan.group.toNat = q * j.plan.group.toNat + j.plan.group.toNat) := Nat.succ_mul _ _
      have HNq := hid (HN.out q)
      have Hst := hid (fun c m => HW.out.step q c m hlt)
      have Hch := hid (HW.out.chunk q)
      have Hgp := hid (HW.out.group q)
      obtain ⟨x0, x1, x2, x3, x4, x5, x6⟩ := Hx0.out.later hs0 hB
      clear x0 x1 x2 x3 x4 x5 x6
      have HXX : Hid (∀ wr', Below wa.heap.size wa wr' → wr'.cell? ⟨w.heap.size, 0, none⟩ = some (.slice (some ⟨b, off, none⟩) j.table.length tcap) ∧ wr'.cell? ⟨w.heap.size, 1, none⟩ = some (.int .i64 (j.plan.group.toNat : Int)) ∧ wr'.cell? ⟨w.heap.size, 2, none⟩ = some (.int .i64 (j.plan.page.toNat : Int))) := by
        intro wr' hb'
        obtain ⟨x0, x1, x2, _⟩ := Hx0.out.later hs0 hb'
        rw [EG.out] at x1
        rw [EP.out] at x2
        exact ⟨x0, x1, x2⟩
      have HMq := hid (HM.out (partN (rowsB j.table) j.plan.group.toNat q))
      generalize hgq : q * j.plan.group.toNat = gq at *
      have Hgq := hid hgq
      clear hgq HM HN HCQ EG EP Hx0
      generalize hPN : partN (rowsB j.table) j.plan.group.toNat q = n at *
      have hn1 : n ≤ 60 := by have := HNq.out; omega
      have hn0 : n ≤ j.plan.group.toNat ∧ (n : Int) ≤ (rowsB j.table : Int) - (gq : Int) ∧ (n = j.plan.group.toNat ∨ (n : Int) = (rowsB j.table : Int) - (gq : Int)) := by have := HNq.out; omega
      clear hPN HNq
      generalize hcm : cntN n j.plan.page.toNat = M at *
      have hMi : (n + j.plan.page.toNat - 1 : Int) / (j.plan.page.toNat : Int) = (M : Int) := by
        have h1 := HMq.out
        have h2 : ((n + j.plan.page.toNat - 1 : Nat) : Int) = (n : Int) + (j.plan.page.toNat : Int) - 1 := by omega
        rw [← h2, h1]
        exact (Int.natCast_ediv _ _).symm
      have hM6 : M ≤ 60 := by have := cnt_le (n := n) hP1; rw [hcm] at this; omega
      clear hcm HMq
      generalize j.plan.group.toNat = Gn at *
      generalize j.plan.page.toNat = Pn at *
      generalize rowsB j.table = R at *
      have hi1 : (gq : Int) < (R : Int) := by omega
      obtain ⟨x0, x1, x2⟩ := HXX.out wr hB
      obtain ⟨hnG, hnR, hnE⟩ := hn0
      by_cases hbig : (R : Int) - (gq : Int) < (Gn : Int)
      case' pos =>
        have hne : (R : Int) - (gq : Int) = (n : Int) := by omega
        have Hne := hid hne
        clear hne
        go_upto_block 2 with fail
        rw [Hne.out]
      case' neg =>
        have hne : (Gn : Int) = (n : Int) := by omega
        have Hne := hid hne
        clear hne
        go_upto_block 2 with fail
        rw [Hne.out]
      all_goals
        clear x0 x1 x2
        go_wp2_with fail
        go_loopw [8, 9, 13] (fun lv iv cv wr => ∃ c : Nat, c ≤ j.table.length ∧ cv = .int .i64 (c : Int) ∧ iv = .int .i64 (O q c 0 : Int) ∧ wr.ownsRow wa.heap.size 71 2 lv (S q c 0).length (spanPC (S q c 0)) ∧ Below wa.heap.size wa wr) (fun _ _ cv _ => j.table.length - (intOf cv).toNat)
        case atStart => exact ⟨0, Nat.zero_le _, rfl, rfl, hown, hB⟩
        case round =>
          clear hown hB
          obtain ⟨c, hc, rfl, rfl, hown, hB⟩ := hrel
          obtain ⟨x0, x1, x2⟩ := HXX.out wr hB
          by_cases hltc : c < j.table.length
          · have hci : (c : Int) < (j.table.length : Int) := by omega
            have hpz : (Pn : Int) ≠ 0 := by omega
            have hpz2 : ((Pn : Int) == 0) = false := by simp; omega
            have Hstc := hid (fun m => Hst.out c m hltc)
            have Hchc := hid (Hch.out c)
            have hkr := HHead.out c hltc
            go_upto_block 4 with fail
            rw [hMi]
            clear x0 x1 x2 hMi
            go_wp2_with fail
            go_loopw [8, 9, 15] (fun lv iv mv wr => ∃ m : Nat, m ≤ M + 1 ∧ mv = .int .i64 (m : Int) ∧ iv = .int .i64 (O q c m : Int) ∧ wr.ownsRow wa.heap.size 71 2 lv (S q c m).length (spanPC (S q c m)) ∧ Below wa.heap.size wa wr) (fun _ _ mv _ => M + 1 - (intOf mv).toNat)
            case atStart => exact ⟨0, Nat.zero_le _, rfl, rfl, hown, hB⟩
            case round =>
              clear hown hB
              obtain ⟨m, hm, rfl, rfl, hown, hB⟩ := hrel
              by_cases hltm : m < M + 1
              · obtain ⟨len, b0, b1, h1, h2, h3, h4, h5, h6, h7, h8⟩ := Hstc.out m hltm
                rw [HFF.out] at h1 h2 h4
                have H6 := hid h6
                have H7 := hid h7
                have H3 := hid h3
                clear h6 h7 h3
                have HK := hid (HKey.out c hltc)
                obtain ⟨_, _, ky0, ky9⟩ := hkr
                generalize O q c m = o at *
                generalize S q c m = Sm at *
                generalize (j.table[c]).key = ky at *
                have hmi : (m : Int) < 1 + (M : Int) := by omega
                go_wp2_with fail
                refine (two_at FF o b0 b1 wr (by omega) h1 h2).mono ?_
                rintro e w1 ⟨rfl, hb1⟩
                rw [H3.out]
                have hB1 := hB.trans (hb1.mono hB.size)
                have hown1 := own_laterT hown hb1
                obtain ⟨x0, x1, x2⟩ := HXX.out w1 hB1
                have hky := (hB1.cell (p := ⟨b, off + c * 4 + 2, none⟩) hbw).trans HK.out
                clear hB hb1 hown h1 h2 H3
                have hl0 : ¬ (len : Int) < 0 := by omega
                have hl1 : ¬ (FF.length : Int) < (o : Int) + 6 + (len : Int) := by omega
                by_cases hz : ky = 0
                · have HO : Hid (O q c (m + 1) = o + 2 + len) := by show _ = _; rw [H6.out, if_pos hz]; omega
                  have HS : Hid (S q c (m + 1) = Sm) := by show _ = _; rw [H7.out, hz]; simp [hkB]
                  clear H6 H7
                  subst hz
                  go_wp2_with fail
                  exact ⟨⟨m + 1, by omega, by go_num, by rw [HO.out]; go_num, by rw [HS.out]; exact hown1, hB1⟩, by simp [intOf]; omega⟩
                · have hkp : 0 < ky := by omega
                  have HO : Hid (O q c (m + 1) = o + 2 + 4 + len) := by show _ = _; rw [H6.out, if_neg hz]; omega
                  cases hbit : (bits .and .i64 keys (wrap64 (2 ^ ky.toNat)) != 0) with
                  | false =>
                    have HS : Hid (S q c (m + 1) = Sm) := by show _ = _; rw [H7.out]; simp only [hkB, hbit]; simp
                    clear H6 H7 hz
                    go_wp2_with fail
                    exact ⟨⟨m + 1, by omega, by go_num, by rw [HO.out]; go_num, by rw [HS.out]; exact hown1, hB1⟩, by simp [intOf]; omega⟩
                  | true =>
                    have HS : Hid (S q c (m + 1) = Sm ++ [(o + 6, o + 6 + len)]) := by
                      show _ = _
                      rw [H7.out, if_pos]
                      simp only [hkB, hbit, decide_eq_true hkp]; rfl
                    clear H6 H7 hz
                    go_wp2_with (at_builtin; refine wpList_append_own _ rfl (.tmp 101) (.tmp 107) 42 rfl wa.heap.size 71 i0 (.agg #[.int .i64 0, .int .i64 0]) 2 16 Tryz.underlying42 hi hz0 hz1 hz2 rfl (by decide) _ _ _ rfl (hown1.alloc _) ⟨_, 0, none⟩ 1 1 [.int .i64 ((o : Int) + 2 + 4), .int .i64 ((o : Int) + 2 + 4 + (len : Int))] rfl rfl (cell_laid w1 #[.int .i64 ((o : Int) + 2 + 4), .int .i64 ((o : Int) + 2 + 4 + (len : Int))] 71) (by intro u hu; simp at hu; rcases hu with rfl | rfl <;> rfl) (by unfold maxLen; omega) (by omega) (by have := hB1.size; simp; omega) ?_; intro v2 w2 hown2 hgr2 _)
                    have HB2 := hid ((hB1.alloc hB1.size _).grown hgr2 (by have := hB1.size; simp; omega) (fun k hk => (hown1.lt k hk).1))
                    have HW2 : Hid (w2.ownsRow wa.heap.size 71 2 v2 (S q c (m + 1)).length (spanPC (S q c (m + 1)))) := by
                      show w2.ownsRow _ _ _ _ _ _
                      rw [HS.out, spanPC_append, List.length_append]
                      have e1 : spanPC [(o + 6, o + 6 + len)] = [.int .i64 ((o : Int) + 2 + 4), .int .i64 ((o : Int) + 2 + 4 + (len : Int))] := by
                        simp only [spanPC, List.flatMap_cons, List.flatMap_nil, List.append_nil]
                        rw [show (((o + 6 : Nat)) : Int) = (o : Int) + 2 + 4 by omega, show (((o + 6 + len : Nat)) : Int) = (o : Int) + 2 + 4 + (len : Int) by omega]
                      rw [e1]
                      exact hown2
                    clear hown1 hown2 hgr2 hB1 hky x0 x1 x2
                    go_wp2_with fail
                    exact ⟨⟨m + 1, by omega, by go_num, by rw [HO.out]; go_num, HW2.out, HB2.out⟩, by simp [intOf]; omega⟩
              · have hme : m = M + 1 := by omega
                subst hme
                have HO := hid Hchc.out.1
                have HS := hid Hchc.out.2
                have HS2 : Hid (wr.ownsRow wa.heap.size 71 2 u8 (S q (c + 1) 0).length (spanPC (S q (c + 1) 0))) := by
                  show wr.ownsRow _ _ _ _ _ _
                  rw [← HS.out]; exact hown
                clear hown
                go_wp2_with fail
                exact ⟨⟨c + 1, by omega, by go_num, by rw [HO.out], HS2.out, hB⟩, by simp [intOf]; omega⟩
          · have hce : c = j.table.length := by omega
            subst hce
            have HO := hid Hgp.out.1
            have HS2 : Hid (wr.ownsRow wa.heap.size 71 2 u8 (S (q + 1) 0 0).length (spanPC (S (q + 1) 0 0))) := by
              show wr.ownsRow _ _ _ _ _ _
              rw [← Hgp.out.2]; exact hown
            clear hown
            go_wp2_with fail
            exact ⟨⟨q + 1, by omega, by rw [hQ1.out]; go_num, by rw [HO.out], HS2.out, hB⟩, by simp [intOf]; omega⟩
    · have hqe : q = cntN (rowsB j.table) j.plan.group.toNat := by omega
      have hnr : ¬ ((q * j.plan.group.toNat : Nat) : Int) < (rowsB j.table : Int) := by
        intro h
        exact hlt ((HCQ.out q).1 (by omega))
      have HS2 : Hid (wr.ownsRow w.heap.size 71 2 u8 (spansJ j r (hkB keys)).length (spanPC (spansJ j r (hkB keys)))) := by
        show wr.ownsRow _ _ _ _ _ _
        rw [← HW.out.fin, ← hqe]
        exact own_mono hown HB0.out.size
      have HBF := hid (HB0.out.trans (hB.mono HB0.out.size))
      clear hown hqe hlt hq
      generalize q * j.plan.group.toNat = gq at *
      go_wp2
      refine bodyPost_ret (v := .tuple #[u8, .bool true]) (by simp [results, Tryz.results12, go_sem]) rfl ?_
      exact ⟨_, rfl, HS2.out, HBF.out⟩

end Go.Proofs.YthhpbhpfagoapabGreat

namespace Go.Proofs.YthhpbhpfagoapabGreat
open Go.RowKit
set_option linter.unusedVariables false
set_option linter.unusedSimpArgs false
set_option maxRecDepth 100000

def alterC (kind : Int) (x : CellB) (v : Int) : CellB :=
  if x.null = true then x
  else if kind = 0 ∧ 0 ≤ x.int ∧ x.int < 40 then ⟨x.null, pickB v 40, x.text⟩
  else if kind = 1 then ⟨x.null, x.int, shakenB x.text v⟩ else x

theorem alterC_fits (kind : Int) (x : CellB) (v : Int) (hk : kind = 0 ∨ kind = 1) (h : fitsB kind x = true ∧ inI64 x.int) : fitsB kind (alterC kind x v) = true ∧ inI64 (alterC kind x v).int := by
  unfold alterC
  have hp := pickB_range v 40 (by decide)
  split
  · exact h
  · rename_i hn
    simp only [Bool.not_eq_true] at hn
    split
    · rename_i h1
      obtain ⟨rfl, _, _⟩ := h1
      obtain ⟨h2, _⟩ := h
      simp only [fitsB, hn] at h2 ⊢
      exact ⟨h2, by simp only [inI64]; omega⟩
    · split
      · rename_i h1
        subst h1
        obtain ⟨h2, h3⟩ := h
        refine ⟨?_, h3⟩
        have hl : (shakenB x.text v).length = x.text.length := shakeTo_len _ _ _
        simp only [fitsB, hn, hl] at h2 ⊢
        exact h2
      · exact h

/-- The cells of the i-th column, the first m of them altered. -/
def alterL (other : List Int) (i : Nat) (kind : Int) (l : List CellB) (m : Nat) : List CellB := l.mapIdx fun k x => if k < m then alterC kind x (atB other (i * 20 + k)) else x
def altCol (hidden : Int) (other : List Int) (i : Nat) (c : ColB) : ColB := if hkB hidden c.key = true ∧ other ≠ [] then ⟨c.name, c.kind, c.key, alterL other i c.kind c.cells c.cells.length⟩ else c

theorem alterL_len (other : List Int) (i : Nat) (kind : Int) (l : List CellB) (m : Nat) : (alterL other i kind l m).length = l.length := by simp [alterL]
theorem alterL_zero (other : List Int) (i : Nat) (kind : Int) (l : List CellB) : alterL other i kind l 0 = l := by
  apply List.ext_getElem?
  intro k
  simp [alterL, List.getElem?_mapIdx]
theorem alterL_at (other : List Int) (i : Nat) (kind : Int) (l : List CellB) (m : Nat) (h : m < l.length) : (alterL other i kind l m)[m]'(by rw [alterL_len]; exact h) = l[m] := by simp [alterL]
theorem alterL_step (other : List Int) (i : Nat) (kind : Int) (l : List CellB) (m : Nat) (h : m < l.length) : (alterL other i kind l m).set m (alterC kind l[m] (atB other (i * 20 + m))) = alterL other i kind l (m + 1) := by
  apply List.ext_getElem?
  intro k
  rw [List.getElem?_set, alterL_len]
  by_cases e : m = k
  · subst e
    rw [if_pos rfl, if_pos h]
    simp [alterL, List.getElem?_mapIdx, List.getElem?_eq_getElem h]
  · rw [if_neg e]
    simp only [alterL, List.getElem?_mapIdx]
    congr 1
    funext b
    by_cases h1 : k < m
    · rw [if_pos h1, if_pos (by omega)]
    · rw [if_neg h1, if_neg (by omega)]

/-- The first n columns altered. -/
def altT (hidden : Int) (other : List Int) (t : List ColB) (n : Nat) : List ColB := t.mapIdx fun i c => if i < n then altCol hidden other i c else c
def jobAlt (hidden : Int) (other : List Int) (j : JobB) : JobB := ⟨altT hidden other j.table j.table.length, j.plan, j.pre, j.draw⟩

theorem altT_len (hidden : Int) (other : List Int) (t : List ColB) (n : Nat) : (altT hidden other t n).length = t.length := by simp [altT]
theorem altT_zero (hidden : Int) (other : List Int) (t : List ColB) : altT hidden other t 0 = t := by
  apply List.ext_getElem?
  intro k
  simp [altT, List.getElem?_mapIdx]
theorem altT_at (hidden : Int) (other : List Int) (t : List ColB) (n k : Nat) (h : k < t.length) : (altT hidden other t n)[k]'(by rw [altT_len]; exact h) = if k < n then altCol hidden other k t[k] else t[k] := by simp [altT]
theorem altT_step (hidden : Int) (other : List Int) (t : List ColB) (n : Nat) (h : n < t.length) : (altT hidden other t n).set n (altCol hidden other n t[n]) = altT hidden other t (n + 1) := by
  apply List.ext_getElem?
  intro k
  rw [List.getElem?_set, altT_len]
  by_cases e : n = k
  · subst e
    rw [if_pos rfl, if_pos h]
    simp [altT, List.getElem?_mapIdx, List.getElem?_eq_getElem h]
  · rw [if_neg e]
    simp only [altT, List.getElem?_mapIdx]
    congr 1
    funext b
    by_cases h1 : k < n
    · rw [if_pos h1, if_pos (by omega)]
    · rw [if_neg h1, if_neg (by omega)]

theorem altCol_head (hidden : Int) (other : List Int) (i : Nat) (c : ColB) : (altCol hidden other i c).name = c.name ∧ (altCol hidden other i c).kind = c.kind ∧ (altCol hidden other i c).key = c.key ∧ (altCol hidden other i c).cells.length = c.cells.length := by
  unfold altCol
  split
  · exact ⟨rfl, rfl, rfl, alterL_len _ _ _ _ _⟩
  · exact ⟨rfl, rfl, rfl, rfl⟩

/-- The ring of a raw number. -/
theorem ring_ok (c : Int) : ringOkB (ringRaw c 0) = true ∧ (∀ n : Int, 1 ≤ n → n ≤ 5 → hasNumB (ringRaw c 0) n = true) ∧ (ringRaw c 0).length = 5 ∧ ∀ x ∈ ringRaw c 0, okKey x := by
  have hz : ∀ n, outB 0 n = false := by
    intro n
    have h : ∀ x : Int, bits .and .i64 0 x = 0 := by
      intro x
      show IntKind.i64.wrap ((BitVec.ofInt 64 0 &&& BitVec.ofInt 64 x).toNat : Nat) = 0
      simp
      decide
    unfold outB
    rw [h]
    rfl
  have e : ringRaw c 0 = [⟨1, rawSecB c 1⟩, ⟨2, rawSecB c 2⟩, ⟨3, rawSecB c 3⟩, ⟨4, rawSecB c 4⟩, ⟨5, rawSecB c 5⟩] := by
    simp [ringRaw, ringB, hz]
  rw [e]
  have l := fun n => rawSecB_length c n
  refine ⟨?_, ?_, rfl, ?_⟩
  · simp [ringOkB, ringTo, keyOkB, hasNumB, l]
  · intro n h1 h5
    have : n = 1 ∨ n = 2 ∨ n = 3 ∨ n = 4 ∨ n = 5 := by omega
    rcases this with rfl | rfl | rfl | rfl | rfl <;> simp [hasNumB]
  · intro x hx
    simp only [List.mem_cons, List.not_mem_nil, or_false] at hx
    rcases hx with rfl | rfl | rfl | rfl | rfl <;> exact ⟨by rw [l]; decide, by dsimp only; omega, by dsimp only; omega⟩

/-- A table with the heads of a job of raw numbers, whose cells fit, makes a job that can be done. -/
theorem good_of_heads {raw : List Int} {pre : List UInt8} {c : Int} {t : List ColB} (hlen : t.length = colsRaw raw) (ht : ∀ k (hk : k < t.length), (t[k]).name = nameRaw k ∧ (t[k]).kind = kindRaw raw k ∧ (t[k]).key = pickB (atB raw (10 + k)) 5)
    (hc : ∀ x ∈ t, x.cells.length = rowsRaw raw ∧ ∀ y ∈ x.cells, fitsB x.kind y = true ∧ inI64 y.int) : GoodJ ⟨t, planRaw raw, pre.take 20, pickB (atB raw 2) 65536⟩ (ringRaw c 0) := by
  obtain ⟨h1, h4⟩ := colsRaw_range raw
  have hr := rowsRaw_range raw
  have hd := pickB_range (atB raw 2) 65536 (by decide)
  obtain ⟨r1, r2, _, _⟩ := ring_ok c
  have hkey : ∀ k, 0 ≤ pickB (atB raw (10 + k)) 5 ∧ pickB (atB raw (10 + k)) 5 < 5 := fun k => pickB_range _ 5 (by decide)
  refine ⟨good_raw t (rowsRaw raw) (by omega) (by omega) (by omega) (fun k hk => ?_) hc, planRaw_ok raw, ?_, ⟨by simp only; omega, by simp only; omega⟩, r1, ?_⟩
  · obtain ⟨a, b, d⟩ := ht k hk
    have := hkey k
    exact ⟨a, by rw [b]; exact kindRaw_range raw k, by rw [d]; omega, by rw [d]; omega⟩
  · simp only [List.length_take]; omega
  · simp only [missesB, Bool.or_eq_false_iff, Bool.not_eq_false', List.any_eq_false, Bool.and_eq_true, decide_eq_true_eq, Bool.not_eq_true']
    refine ⟨r2 5 (by decide) (by decide), fun x hx => ?_⟩
    obtain ⟨k, hk, rfl⟩ := List.mem_iff_getElem.1 hx
    rw [(ht k hk).2.2]
    have := hkey k
    rintro ⟨h0, h⟩
    rw [r2 _ (by omega) (by omega)] at h
    cases h

theorem good_jobRaw (raw : List Int) (pre : List UInt8) (c : Int) (hr : ∀ x ∈ raw, inI64 x) : GoodJ (jobRaw raw pre) (ringRaw c 0) := by
  refine good_of_heads (tableRaw_length _ _) (fun k hk => ?_) (fun x hx => ?_)
  · rw [tableRaw_at]; exact ⟨rfl, rfl, rfl⟩
  · obtain ⟨k, hk, rfl⟩ := List.mem_iff_getElem.1 hx
    rw [tableRaw_at]
    refine ⟨by simp [colRaw], fun y hy => ?_⟩
    simp only [colRaw, List.mem_map, List.mem_range] at hy
    obtain ⟨m, _, rfl⟩ := hy
    exact cellRaw_fits _ _ (kindRaw_range raw k) (atB_range raw _ hr)

theorem good_jobAlt (hidden : Int) (other raw : List Int) (pre : List UInt8) (c : Int) (hr : ∀ x ∈ raw, inI64 x) : GoodJ (jobAlt hidden other (jobRaw raw pre)) (ringRaw c 0) := by
  have hg := good_jobRaw raw pre c hr
  refine good_of_heads (by rw [altT_len]; exact tableRaw_length _ _) (fun k hk => ?_) (fun x hx => ?_)
  · rw [altT_len] at hk
    rw [altT_at _ _ _ _ _ hk, if_pos hk]
    obtain ⟨a, b, d, _⟩ := altCol_head hidden other k ((jobRaw raw pre).table[k])
    rw [a, b, d]
    have e : (jobRaw raw pre).table[k] = colRaw raw k (rowsRaw raw) := tableRaw_at raw (colsRaw raw) k hk
    rw [e]; exact ⟨rfl, rfl, rfl⟩
  · obtain ⟨k, hk, rfl⟩ := List.mem_iff_getElem.1 hx
    rw [altT_len] at hk
    rw [altT_at _ _ _ _ _ hk, if_pos hk]
    have e : (jobRaw raw pre).table[k] = colRaw raw k (rowsRaw raw) := tableRaw_at raw (colsRaw raw) k hk
    obtain ⟨a, b, d, f⟩ := altCol_head hidden other k ((jobRaw raw pre).table[k])
    have hcells : ∀ y ∈ (colRaw raw k (rowsRaw raw)).cells, fitsB (kindRaw raw k) y = true ∧ inI64 y.int := by
      intro y hy
      simp only [colRaw, List.mem_map, List.mem_range] at hy
      obtain ⟨m, _, rfl⟩ := hy
      exact cellRaw_fits _ _ (kindRaw_range raw k) (atB_range raw _ hr)
    refine ⟨by rw [f, e]; simp [colRaw], fun y hy => ?_⟩
    rw [b, e]
    rw [e] at hy
    unfold altCol at hy
    split at hy
    · simp only [alterL] at hy
      obtain ⟨m, hm, hy⟩ := List.mem_iff_getElem.1 hy
      have hm' : m < (colRaw raw k (rowsRaw raw)).cells.length := by simpa using hm
      rw [List.getElem_mapIdx, if_pos hm'] at hy
      subst hy
      exact alterC_fits _ _ _ (kindRaw_range raw k) (hcells _ (List.getElem_mem hm'))
    · exact hcells y hy

theorem twin_alt (hidden : Int) (other : List Int) (j : JobB) (h1 : 1 ≤ j.table.length) : Twin (hkB hidden) j (jobAlt hidden other j) := by
  have hat : ∀ c, (c < j.table.length → colAt (jobAlt hidden other j).table c = altCol hidden other c (colAt j.table c)) ∧ (¬ c < j.table.length → colAt (jobAlt hidden other j).table c = colAt j.table c) := by
    intro c
    constructor
    · intro hc
      have hc' : c < (jobAlt hidden other j).table.length := by show c < (altT _ _ _ _).length; rw [altT_len]; exact hc
      rw [colAt_eq hc, colAt_eq hc']
      exact (altT_at hidden other j.table j.table.length c hc).trans (if_pos hc)
    · intro hc
      have hc' : ¬ c < (jobAlt hidden other j).table.length := by show ¬ c < (altT _ _ _ _).length; rw [altT_len]; exact hc
      unfold colAt
      rw [List.getD_eq_getElem?_getD, List.getD_eq_getElem?_getD, List.getElem?_eq_none (by omega), List.getElem?_eq_none (by omega)]
  refine ⟨rfl, rfl, rfl, ?_, ?_, fun c => ?_, fun c hc => ?_, rfl⟩
  · show _ = (altT _ _ _ _).length; rw [altT_len]
  · have h0 := (hat 0).1 h1
    have e : ∀ t : List ColB, 1 ≤ t.length → rowsB t = (colAt t 0).cells.length := by
      intro t ht
      cases t with
      | nil => simp at ht
      | cons a l => rfl
    rw [e _ h1, e (jobAlt hidden other j).table (by show 1 ≤ (altT _ _ _ _).length; rw [altT_len]; exact h1), h0, (altCol_head _ _ _ _).2.2.2]
  · by_cases hc : c < j.table.length
    · rw [(hat c).1 hc]
      obtain ⟨a, b, d, _⟩ := altCol_head hidden other c (colAt j.table c)
      exact ⟨a.symm, b.symm, d.symm⟩
    · rw [(hat c).2 hc]; exact ⟨rfl, rfl, rfl⟩
  · by_cases hlt : c < j.table.length
    · rw [(hat c).1 hlt]
      unfold altCol
      rw [if_neg (by rw [hc]; simp)]
    · rw [(hat c).2 hlt]

end Go.Proofs.YthhpbhpfagoapabGreat

namespace Go.Proofs.YthhpbhpfagoapabGreat
open Go.RowKit
set_option linter.unusedVariables false
set_option linter.unusedSimpArgs false
set_option maxRecDepth 100000

theorem cellsC_set (L : List CellB) (m : Nat) (h : m < L.length) (x : CellB) : cellsC (L.set m x) = (((cellsC L).set (m * 3) (.bool x.null)).set (m * 3 + 1) (.int .i64 x.int)).set (m * 3 + 2) (strB x.text) := by
  have e : L = L.take m ++ L[m] :: L.drop (m + 1) := by rw [List.getElem_cons_drop, List.take_append_drop]
  have e2 : L.set m x = L.take m ++ x :: L.drop (m + 1) := by
    rw [List.set_eq_take_append_cons_drop, if_pos h]
  have hl : (L.take m).length = m := by rw [List.length_take]; omega
  have := set3 (L.take m) (L.drop (m + 1)) L[m] x
  rw [hl, ← e] at this
  rw [e2, this]

/-- The number of a cell is set. -/
theorem cellsC_int (L : List CellB) (m : Nat) (h : m < L.length) (z : Int) : (cellsC L).set (m * 3 + 1) (.int .i64 z) = cellsC (L.set m ⟨(L[m]).null, z, (L[m]).text⟩) := by
  rw [cellsC_set L m h]
  obtain ⟨c1, c2, c3⟩ := cellsC_at L m h
  apply List.ext_getElem?
  intro i
  rw [List.getElem?_set, List.getElem?_set, List.getElem?_set, List.getElem?_set]
  simp only [List.length_set]
  by_cases h1 : m * 3 + 2 = i
  · subst h1
    have hlt := (List.getElem?_eq_some_iff.1 c3).1
    rw [if_neg (by omega), if_pos rfl, if_pos hlt, c3]
  · rw [if_neg h1]
    by_cases h2 : m * 3 + 1 = i
    · rw [if_pos h2, if_pos h2]
    · rw [if_neg h2, if_neg h2]
      by_cases h3 : m * 3 = i
      · subst h3
        have hlt := (List.getElem?_eq_some_iff.1 c1).1
        rw [if_pos rfl, if_pos hlt, c1]
      · rw [if_neg h3]

/-- The text of a cell is set. -/
theorem cellsC_text (L : List CellB) (m : Nat) (h : m < L.length) (t : List UInt8) : (cellsC L).set (m * 3 + 2) (strB t) = cellsC (L.set m ⟨(L[m]).null, (L[m]).int, t⟩) := by
  rw [cellsC_set L m h]
  obtain ⟨c1, c2, c3⟩ := cellsC_at L m h
  apply List.ext_getElem?
  intro i
  rw [List.getElem?_set, List.getElem?_set, List.getElem?_set, List.getElem?_set]
  simp only [List.length_set]
  by_cases h1 : m * 3 + 2 = i
  · rw [if_pos h1, if_pos h1]
  · rw [if_neg h1, if_neg h1]
    by_cases h2 : m * 3 + 1 = i
    · subst h2
      have hlt := (List.getElem?_eq_some_iff.1 c2).1
      rw [if_pos rfl, if_pos hlt, c2]
    · rw [if_neg h2]
      by_cases h3 : m * 3 = i
      · subst h3
        have hlt := (List.getElem?_eq_some_iff.1 c1).1
        rw [if_pos rfl, if_pos hlt, c1]
      · rw [if_neg h3]

/-- One column's cells are altered in place. -/
theorem RowsT.setCol {w w' : World} {base i : Nat} {tv : Value} {P : List (ColB × Value)} (h : RowsT w base tv P) (hi : i < P.length) {c' : ColB} (h1 : c'.name = (P[i]).1.name) (h2 : c'.kind = (P[i]).1.kind) (h3 : c'.key = (P[i]).1.key)
    (ho : w'.ownsRow base 34 3 (P[i]).2 c'.cells.length (cellsC c'.cells)) (hg : w.grownBy w' (P[i]).2.ownBlock) : RowsT w' base tv (P.set i (c', (P[i]).2)) := by
  have hci := h.cells P[i] (List.getElem_mem hi)
  have hcols : colsC (P.set i (c', (P[i]).2)) = colsC P := by
    unfold colsC
    rw [List.flatMap_def, List.flatMap_def]
    congr 1
    apply List.ext_getElem?
    intro k
    rw [List.getElem?_map, List.getElem?_map, List.getElem?_set]
    by_cases e : i = k
    · subst e
      rw [if_pos rfl, if_pos hi, List.getElem?_eq_getElem hi]
      simp [h1, h2, h3]
    · rw [if_neg e]
  refine ⟨?_, ?_, ?_⟩
  · rw [hcols, List.length_set]
    exact h.table.kept hg (rows_apart h.table hci (by decide))
  · intro p hp
    obtain ⟨k, hk, rfl⟩ := List.mem_iff_getElem.1 hp
    rw [List.length_set] at hk
    by_cases e : i = k
    · subst e
      rw [List.getElem_set_self]
      exact ho
    · rw [List.getElem_set_ne e]
      exact (h.cells P[k] (List.getElem_mem hk)).kept hg (h.apart k i hk hi (fun e' => e e'.symm))
  · intro a b ha hb hne
    rw [List.length_set] at ha hb
    have key : ∀ k (hk : k < P.length), ((P.set i (c', (P[i]).2))[k]'(by rw [List.length_set]; exact hk)).2 = (P[k]).2 := by
      intro k hk
      by_cases e : i = k
      · subst e; rw [List.getElem_set_self]
      · rw [List.getElem_set_ne e]
    rw [key a ha, key b hb]
    exact h.apart a b ha hb hne

/-- A ring of raw numbers, where it lies. -/
theorem ring_lies {w : World} {base n : Nat} {v : Value} {c without : Int} (h : w.ownsRow base 68 2 v n (keysC (ringB c without 5))) (hok : ∀ x ∈ ringRaw c without, okKey x) :
    ∃ a cap, v = .slice a (ringRaw c without).length cap ∧ LiesK w a (ringRaw c without) := by
  have hk : keysC (ringB c without 5) = (ringRaw c without).flatMap fun x => [.int .i64 x.number, strB x.secret] := by
    simp [keysC, ringRaw, List.flatMap_map]
  rw [hk] at h
  have hlen := flat_length (fun x : KeyB => [Value.int .i64 x.number, strB x.secret]) 2 (fun _ => rfl) (ringRaw c without)
  have hn : n = (ringRaw c without).length := by have := h.1; rw [hlen] at this; omega
  subst hn
  rcases h.2 with ⟨rfl, h0⟩ | ⟨g, cap, cur, rfl, _, hg, _⟩
  · refine ⟨none, 0, by rw [h0], hok, fun hne => absurd (List.eq_nil_of_length_eq_zero h0) hne⟩
  · refine ⟨_, _, rfl, hok, fun _ => ⟨g, 0, rfl, (h.lt g rfl).2, fun j hj => ?_⟩⟩
    have f1 := flat_at (fun x : KeyB => [Value.int .i64 x.number, strB x.secret]) 2 (fun _ => rfl) (ringRaw c without) j 0 hj (by decide)
    have f2 := flat_at (fun x : KeyB => [Value.int .i64 x.number, strB x.secret]) 2 (fun _ => rfl) (ringRaw c without) j 1 hj (by decide)
    simp only [Nat.zero_add]
    exact ⟨by rw [h.cellAt (j * 2) (by omega)]; exact f1, by rw [h.cellAt (j * 2 + 1) (by omega)]; exact f2⟩

/-- A job whose rows lie so, handed over. -/
theorem rows_liesJ {w : World} {base : Nat} {tv : Value} {P : List (ColB × Value)} {j : JobB} {r : List KeyB} (h : RowsT w base tv P) (hP : P.map Prod.fst = j.table) (hg : GoodJ j r) :
    ∃ a cap, tv = .slice a j.table.length cap ∧ LiesJ w a cap j := by
  have hlen : P.length = j.table.length := by rw [← hP, List.length_map]
  obtain ⟨a, cap, rfl, hc, hl⟩ := h.lies (by
    intro p hp
    obtain ⟨k, hk, rfl⟩ := List.mem_iff_getElem.1 hp
    have hk' : k < j.table.length := by omega
    have e : (P[k]).1 = j.table[k] := by
      have : (P.map Prod.fst)[k]'(by rw [List.length_map]; exact hk) = j.table[k] := by simp only [hP]
      simpa using this
    obtain ⟨n1, n2, n3, n4⟩ := hg.table.head k hk'
    obtain ⟨c1, c2, c3⟩ := hg.table.cells k hk'
    rw [e]
    refine ⟨⟨by have := (name_len n1).2; unfold maxLen; omega, ⟨by omega, by omega⟩, ⟨by omega, by omega⟩⟩, fun x hx => ?_, by omega⟩
    obtain ⟨s1, s2, s3⟩ := c3 x hx
    exact ⟨s1, s2, by unfold maxLen; omega⟩)
  rw [hP] at hl
  have hp := hg.sizes
  have hpl := hg.plan
  simp only [planOkB, Bool.and_eq_true, decide_eq_true_eq] at hpl
  have h6 := hg.table.few.2
  have hd := hg.draw
  have hpr := hg.pre
  exact ⟨a, cap, by rw [hlen], hl, by unfold maxLen; omega, by omega, by unfold maxLen; omega, ⟨by omega, by omega⟩, ⟨by omega, by omega⟩, ⟨by omega, by omega⟩, ⟨by omega, by omega⟩⟩

end Go.Proofs.YthhpbhpfagoapabGreat

namespace Go.Proofs.YthhpbhpfagoapabGreat
open Go.RowKit
set_option linter.unusedVariables false
set_option linter.unusedSimpArgs false
set_option maxRecDepth 100000

abbrev jobC (tv : Value) (j : JobB) : Array Value := #[tv, .int .i64 j.plan.group, .int .i64 j.plan.page, .int .i64 j.plan.foot, .bool j.plan.told, strB j.pre, .int .i64 j.draw]

/-- Two jobs of raw numbers, the second with some columns altered. -/
structure Made2 (w1 wr : World) (base2 p1 p2 : Nat) (tv1 tv2 : Value) (P1 : List (ColB × Value)) (J : JobB) (hidden : Int) (other : List Int) (n : Nat) : Prop where
  ex : ∃ P, P.map Prod.fst = altT hidden other J.table n ∧ RowsT wr base2 tv2 P
  box2 : wr.heap[p2]? = some (.cells (jobC tv2 J) 27 (0, 0))
  below : Below base2 w1 wr

theorem rows_liesJ' {w : World} {base n tc : Nat} {ta : Option Addr} {P : List (ColB × Value)} {j : JobB} {r : List KeyB} (h : RowsT w base (.slice ta n tc) P) (hP : P.map Prod.fst = j.table) (hg : GoodJ j r) : LiesJ w ta tc j := by
  obtain ⟨a, cap, e, hl⟩ := rows_liesJ h hP hg
  simp only [Value.slice.injEq] at e
  obtain ⟨rfl, _, rfl⟩ := e
  exact hl

/-- What a job's box holds. -/
abbrev Box7 (p : Nat) (tv : Value) (j : JobB) (w : World) : Prop :=
  w.cell? ⟨p, 0, none⟩ = some tv ∧ w.cell? ⟨p, 1, none⟩ = some (.int .i64 j.plan.group) ∧ w.cell? ⟨p, 2, none⟩ = some (.int .i64 j.plan.page) ∧ w.cell? ⟨p, 3, none⟩ = some (.int .i64 j.plan.foot) ∧ w.cell? ⟨p, 4, none⟩ = some (.bool j.plan.told) ∧ w.cell? ⟨p, 5, none⟩ = some (strB j.pre) ∧ w.cell? ⟨p, 6, none⟩ = some (.int .i64 j.draw)

theorem box7_later {p : Nat} {tv : Value} {j : JobB} {w w' : World} (h : Box7 p tv j w) (hp : p < w.heap.size) (hb : Below w.heap.size w w') : Box7 p tv j w' := by
  obtain ⟨h0, h1, h2, h3, h4, h5, h6⟩ := h
  exact ⟨(hb.cell (p := ⟨p, _, none⟩) hp).trans h0, (hb.cell (p := ⟨p, _, none⟩) hp).trans h1, (hb.cell (p := ⟨p, _, none⟩) hp).trans h2, (hb.cell (p := ⟨p, _, none⟩) hp).trans h3, (hb.cell (p := ⟨p, _, none⟩) hp).trans h4, (hb.cell (p := ⟨p, _, none⟩) hp).trans h5, (hb.cell (p := ⟨p, _, none⟩) hp).trans h6⟩

theorem spans_in {j : JobB} {r : List KeyB} {hk : Int → Bool} (h0 : hk 0 = false) (L : List SpotB) : ∀ st, ∀ p ∈ spansB j r hk st L, p.1 ≤ p.2 ∧ p.2 ≤ (spotsSt j r st L).out.length := by
  induction L with
  | nil => intro st p hp; simp [spansB] at hp
  | cons s L ih =>
    intro st p hp
    have e : spotsSt j r st (s :: L) = spotsSt j r (spotSt j r st s) L := rfl
    rw [e]
    simp only [spansB, List.mem_append] at hp
    rcases hp with hp | hp
    · split at hp
      · rename_i hh
        have hne : (colAt j.table s.c).key ≠ 0 := by
          intro e0
          rw [e0, h0] at hh
          cases hh
        simp only [List.mem_cons, List.not_mem_nil, or_false] at hp
        subst hp
        obtain ⟨x, hx⟩ := spotsSt_grow j r L (spotSt j r st s)
        rw [hx, List.length_append, spotSt_out]
        simp only [List.length_append, twoB_length, modB_len, lenM, if_neg hne]
        omega
      · simp at hp
    · exact ih _ p hp

theorem spansJ_in {j : JobB} {r : List KeyB} {hk : Int → Bool} (h0 : hk 0 = false) (hg : GoodJ j r) : (∀ p ∈ spansJ j r hk, p.1 ≤ p.2 ∧ p.2 ≤ 1000000000) ∧ (spansJ j r hk).length ≤ 30000 := by
  have h1 := (hg.body (spotsJ j).length).1
  rw [List.take_length] at h1
  refine ⟨fun p hp => ?_, ?_⟩
  · have := spans_in h0 (spotsJ j) _ p hp
    omega
  · have := spans_few (j := j) (r := r) hk (spotsJ j) ⟨startB j.plan, []⟩
    have := hg.spotLen
    show (spansB _ _ _ _ _).length ≤ _
    omega

/-- The ring, made where a job's box lies. -/
theorem ringB_any (c : Int) (w : World) (p : Nat) (tv : Value) (j : JobB) (h0 : -9223372036854775808 ≤ c) (h1 : c ≤ 9223372036854775807) (hp : p < w.heap.size) (hb : Box7 p tv j w) :
    Calls Tryz.prog 11 #[.int .i64 c, .int .i64 0] w.drew fun e w' => ∃ ra rcap, e = .returned (.slice ra (ringRaw c 0).length rcap) ∧ LiesK w' ra (ringRaw c 0) ∧ Below w.heap.size w w' ∧ Box7 p tv j w' := by
  refine (ring_any c 0 w.drew h0 h1).mono ?_
  rintro e w5 ⟨rv, rfl, hrv, hb5⟩
  have hb5' : Below w.heap.size w w5 := below_undrew hb5
  obtain ⟨ra, rcap, rfl, hrl⟩ := ring_lies hrv (ring_ok c).2.2.2
  exact ⟨ra, rcap, rfl, hrl, hb5', box7_later hb hp hb5'⟩

theorem altT_same {hidden : Int} {other : List Int} {t : List ColB} {n : Nat} (h : n < t.length) (he : altCol hidden other n t[n] = t[n]) : altT hidden other t (n + 1) = altT hidden other t n := by
  rw [← altT_step hidden other t n h, he]
  apply List.ext_getElem?
  intro k
  rw [List.getElem?_set, altT_len]
  by_cases e : n = k
  · subst e
    rw [if_pos rfl, if_pos h, List.getElem?_eq_getElem (by rw [altT_len]; exact h), altT_at _ _ _ _ _ h, if_neg (Nat.lt_irrefl _)]
  · rw [if_neg e]

theorem Made2.later {w1 wr w' : World} {base2 p1 p2 : Nat} {tv1 tv2 : Value} {P1 : List (ColB × Value)} {J : JobB} {hidden : Int} {other : List Int} {n : Nat} (h : Made2 w1 wr base2 p1 p2 tv1 tv2 P1 J hidden other n) (hs : base2 ≤ wr.heap.size) (hb : Below wr.heap.size wr w') : Made2 w1 w' base2 p1 p2 tv1 tv2 P1 J hidden other n := by
  obtain ⟨P, h1, h2⟩ := h.ex
  exact ⟨⟨P, h1, h2.later hb⟩, heap_later_K hb h.box2, h.below.trans (hb.mono hs)⟩

theorem inner_alt {w w' : World} {base n : Nat} {tv vn : Value} {P : List (ColB × Value)} {nm : List UInt8} {kd ky : Int} {L L' : List CellB} (h : RowsT w base tv (P.set n (⟨nm, kd, ky, L⟩, vn))) (hn : n < P.length)
    (ho : w'.ownsRow base 34 3 vn L'.length (cellsC L')) (hg : w.grownBy w' vn.ownBlock) : RowsT w' base tv (P.set n (⟨nm, kd, ky, L'⟩, vn)) := by
  have hl : n < (P.set n (⟨nm, kd, ky, L⟩, vn)).length := by rw [List.length_set]; exact hn
  have e : (P.set n ((⟨nm, kd, ky, L⟩ : ColB), vn))[n]'hl = (⟨nm, kd, ky, L⟩, vn) := List.getElem_set_self ..
  have := RowsT.setCol h hl (c' := ⟨nm, kd, ky, L'⟩) (by rw [e]) (by rw [e]) (by rw [e]) (by rw [e]; exact ho) (by rw [e]; exact hg)
  rw [e, List.set_set] at this
  exact this

theorem inner_own {w : World} {base n : Nat} {tv vn : Value} {P : List (ColB × Value)} {c : ColB} (h : RowsT w base tv (P.set n (c, vn))) (hn : n < P.length) : w.ownsRow base 34 3 vn c.cells.length (cellsC c.cells) := by
  have hl : n < (P.set n (c, vn)).length := by rw [List.length_set]; exact hn
  have := h.cells _ (List.getElem_mem hl)
  rw [List.getElem_set_self] at this
  exact this

theorem keptCell {w : World} {base g n cap : Nat} {xs : List Value} (h : w.ownsRow base 34 3 (.slice (some ⟨g, 0, none⟩) n cap) n xs) (o : Nat) (u : Value) : KeptT [34] base w (w.setCell ⟨g, o, none⟩ u) := by
  rcases h.2 with ⟨h', _⟩ | ⟨g', cap', cur, h', hb, hg, _⟩
  · simp at h'
  · simp only [Value.slice.injEq, Option.some.injEq, Addr.mk.injEq, and_true, true_and] at h'
    obtain ⟨rfl, rfl⟩ := h'
    exact (KeptT.refl _ _ _).set hg hb (by simp) u

/-- One number is altered. -/
theorem alt_int {w : World} {base n g cap m : Nat} {tv : Value} {P : List (ColB × Value)} {nm : List UInt8} {kd ky : Int} {L : List CellB} (h : RowsT w base tv (P.set n (⟨nm, kd, ky, L⟩, .slice (some ⟨g, 0, none⟩) L.length cap))) (hn : n < P.length) (hm : m < L.length) (z : Int) :
    RowsT (w.setCell ⟨g, m * 3 + 1, none⟩ (.int .i64 z)) base tv (P.set n (⟨nm, kd, ky, L.set m ⟨(L[m]).null, z, (L[m]).text⟩⟩, .slice (some ⟨g, 0, none⟩) L.length cap)) ∧ KeptT [34] base w (w.setCell ⟨g, m * 3 + 1, none⟩ (.int .i64 z)) := by
  have ho := inner_own h hn
  obtain ⟨s1, s2⟩ := ho.stored (m * 3 + 1) (.int .i64 z)
  rw [cellsC_int L m hm] at s1
  exact ⟨inner_alt h hn (by rw [List.length_set]; exact s1) s2, keptCell ho _ _⟩

theorem alt_text {w : World} {base n g cap m : Nat} {tv : Value} {P : List (ColB × Value)} {nm : List UInt8} {kd ky : Int} {L : List CellB} (h : RowsT w base tv (P.set n (⟨nm, kd, ky, L⟩, .slice (some ⟨g, 0, none⟩) L.length cap))) (hn : n < P.length) (hm : m < L.length) (t : List UInt8) :
    RowsT (w.setCell ⟨g, m * 3 + 2, none⟩ (strB t)) base tv (P.set n (⟨nm, kd, ky, L.set m ⟨(L[m]).null, (L[m]).int, t⟩⟩, .slice (some ⟨g, 0, none⟩) L.length cap)) ∧ KeptT [34] base w (w.setCell ⟨g, m * 3 + 2, none⟩ (strB t)) := by
  have ho := inner_own h hn
  obtain ⟨s1, s2⟩ := ho.stored (m * 3 + 2) (strB t)
  rw [cellsC_text L m hm] at s1
  exact ⟨inner_alt h hn (by rw [List.length_set]; exact s1) s2, keptCell ho _ _⟩

set_option maxHeartbeats 8000000 in
theorem blind_walk (a : Option Addr) (cap : Nat) (raw : List Int) (pre : List UInt8) (c hidden : Int) (a2 : Option Addr) (cap2 : Nat) (other : List Int) (w : World) (hl : LiesI w a raw) (hl2 : LiesI w a2 other) (hp : pre.length ≤ maxLen)
    (hc0 : -9223372036854775808 ≤ c) (hc1 : c ≤ 9223372036854775807) (hh0 : -9223372036854775808 ≤ hidden) (hh1 : hidden ≤ 9223372036854775807) :
    Calls Tryz.prog 3 #[.slice a raw.length cap, strB pre, .int .i64 c, .int .i64 hidden, .slice a2 other.length cap2] w fun e w' => e = .returned (.bool true) ∧ Below w.heap.size w w' := by
  have Hl := hid hl
  have Hl2 := hid hl2
  have HJ0 := hid (fun (w' : World) (hb : Below w.heap.size w w') => job_any a cap raw pre w' (hl.later hb) hp)
  have HG1 := hid (good_jobRaw raw pre c hl.ok)
  have HG2 := hid (good_jobAlt hidden other raw pre c hl.ok)
  have HTw := hid (twin_alt hidden other (jobRaw raw pre) HG1.out.table.few.1)
  obtain ⟨hr1, hr2, hr5, hrk⟩ := ring_ok c
  have HRK := hid hrk
  have hr5' : (ringRaw c 0).length ≤ maxLen := by rw [hr5]; decide
  have h20 := HG1.out.table.few
  have HA2 : Hid (∀ (i : Nat) w', i ≤ 100000 → Below w.heap.size w w' → Calls Tryz.prog 7 #[.slice a2 other.length cap2, .int .i64 (i : Int)] w' fun e w2 => e = .returned (.int .i64 (atB other i)) ∧ w2 = w') :=
    fun i w' hi hb => at_any a2 cap2 other i w' (hl2.later hb) hi
  have HI2 := hid (fun i => atB_range other i hl2.ok)
  have hfo := hl2.few
  clear hl hl2 hrk hr1 hr2 hr5
  generalize jobRaw raw pre = J at *
  go_enter Tryz.func3, Tryz.ntmps3
  go_wp2_with fail
  refine (HJ0.out w (Below.refl _ _)).mono ?_
  rintro e w1 ⟨tv1, P1, rfl, hP1, hR1, hb1⟩
  obtain ⟨ta1, tc1, rfl⟩ := own_sliceK hR1.table
  have HP1 := hid hP1
  have HR1 := hid hR1
  clear hP1 hR1
  go_upto_region 2 with fail
  obtain ⟨hbb1, hsb1, _, hhb1⟩ := boxedW w1 (jobC (.slice ta1 P1.length tc1) J) 27
  generalize w1.alloc (.cells #[.slice ta1 P1.length tc1, .int .i64 J.plan.group, .int .i64 J.plan.page, .int .i64 J.plan.foot, .bool J.plan.told, .string ⟨J.pre.toArray⟩, .int .i64 J.draw] 27) = w2 at *
  have HR2 := hid (HR1.out.later hbb1)
  have HX2 := hid hhb1
  have hB2 := hb1.trans (hbb1.mono hb1.size)
  generalize hp1 : w1.heap.size = p1 at *
  clear hb1 hbb1 hhb1 HR1 hp1
  go_wp2_with fail
  refine (HJ0.out w2 hB2).mono ?_
  rintro e w3 ⟨tv2, P2, rfl, hP2, hR3, hb3⟩
  obtain ⟨ta2, tc2, rfl⟩ := own_sliceK hR3.table
  go_upto_region 3 with fail
  obtain ⟨hbb3, hsb3, _, hhb3⟩ := boxedW w3 (jobC (.slice ta2 P2.length tc2) J) 27
  generalize w3.alloc (.cells #[.slice ta2 P2.length tc2, .int .i64 J.plan.group, .int .i64 J.plan.page, .int .i64 J.plan.foot, .bool J.plan.told, .string ⟨J.pre.toArray⟩, .int .i64 J.draw] 27) = w4 at *
  have hp2l : P2.length = J.table.length := map_fst_len hP2
  have hp1l : P1.length = J.table.length := map_fst_len HP1.out
  have HM0 : Hid (Made2 w2 w4 w2.heap.size p1 w3.heap.size (.slice ta1 P1.length tc1) (.slice ta2 P2.length tc2) P1 J hidden other 0) :=
    ⟨⟨P2, by rw [altT_zero]; exact hP2, hR3.later hbb3⟩, hhb3, hb3.trans (hbb3.mono hb3.size)⟩
  have hp2s : w2.heap.size ≤ w3.heap.size := hb3.size
  clear hP2 hR3 hb3 hbb3 hhb3
  generalize w3.heap.size = p2 at *
  rw [hp2l] at HM0
  rw [hp1l] at HM0 HR2 HX2
  rw [hp1l, hp2l]
  go_wp2_with fail
  go_loopw [13] (fun i wr => ∃ n : Nat, n ≤ J.table.length ∧ i = .int .i64 (n : Int) ∧ Made2 w2 wr w2.heap.size p1 p2 (.slice ta1 J.table.length tc1) (.slice ta2 J.table.length tc2) P1 J hidden other n) (fun i _ => J.table.length - (intOf i).toNat)
  case atStart => exact ⟨0, Nat.zero_le _, rfl, HM0.out⟩
  case round =>
    clear HM0
    obtain ⟨n, hn, rfl, hM⟩ := hrel
    have HM := hid hM
    have hB := hM.below
    obtain ⟨y0, y1, y2, y3, y4, y5, y6⟩ := cells7K hM.box2
    clear hM
    by_cases hlt : n < J.table.length
    · obtain ⟨P, hPm, hRP⟩ := HM.out.ex
      have hPl : P.length = J.table.length := by rw [map_fst_len hPm, altT_len]
      have hnP : n < P.length := by omega
      have hPn : (P[n]).1 = J.table[n] := by
        have h1 : (P.map Prod.fst)[n]'(by rw [List.length_map]; exact hnP) = (altT hidden other J.table n)[n]'(by rw [altT_len]; exact hlt) := by simp only [hPm]
        rw [altT_at _ _ _ _ _ hlt, if_neg (Nat.lt_irrefl _)] at h1
        simpa using h1
      have hcn := hRP.cells P[n] (List.getElem_mem hnP)
      obtain ⟨va, vc, hvn⟩ := own_sliceK hcn
      rw [hPn] at hvn hcn
      obtain ⟨hk9, hkd, hky0, hky9⟩ := HG1.out.table.head n hlt
      have hcl2 := (HG1.out.table.cells n hlt).2.1
      have HCL3 := hid (HG1.out.table.cells n hlt).2.2
      obtain ⟨gt, rfl⟩ : ∃ gt, ta2 = some ⟨gt, 0, none⟩ := by
        rcases hRP.table.2 with ⟨_, h0⟩ | ⟨g, cap', cur, e, _⟩
        · omega
        · simp only [Value.slice.injEq] at e
          exact ⟨g, e.1⟩
      obtain ⟨t1, t2, t3, t4⟩ := colsC_at P n hnP
      have htl := hRP.table.1
      have hcl : (colsC P).length = P.length * 4 := colsC_length P
      have hT := hRP.table
      rw [hPl] at hT
      have d1 : wr.cell? ⟨gt, n * 4, none⟩ = some (strB (J.table[n]).name) := by rw [hT.cellAt _ (by omega), t1, hPn]
      have d2 : wr.cell? ⟨gt, n * 4 + 1, none⟩ = some (.int .i64 (J.table[n]).kind) := by rw [hT.cellAt _ (by omega), t2, hPn]
      have d3 : wr.cell? ⟨gt, n * 4 + 2, none⟩ = some (.int .i64 (J.table[n]).key) := by rw [hT.cellAt _ (by omega), t3, hPn]
      have d4 : wr.cell? ⟨gt, n * 4 + 3, none⟩ = some (.slice va (J.table[n]).cells.length vc) := by rw [hT.cellAt _ (by omega), t4, hvn]
      have hbs : w2.heap.size ≤ wr.heap.size := hB.size
      have hni : (n : Int) < (J.table.length : Int) := by omega
      have HRP := hid hRP
      have HPm := hid hPm
      have Hvn := hid hvn
      have HPn := hid hPn
      clear hRP hPm t1 t2 t3 t4 htl hcl hT hvn hcn hPn
      have HAC : Hid (altCol hidden other n J.table[n] = if hkB hidden (J.table[n]).key = true ∧ other ≠ [] then ⟨(J.table[n]).name, (J.table[n]).kind, (J.table[n]).key, alterL other n (J.table[n]).kind (J.table[n]).cells (J.table[n]).cells.length⟩ else J.table[n]) := rfl
      have HSame := hid (fun he => altT_same (hidden := hidden) (other := other) hlt he)
      have HStep := hid (altT_step hidden other J.table n hlt)
      generalize hcc : J.table[n] = cc at *
      have Hcc := hid hcc
      clear hcc
      obtain ⟨nm, kd, ky, CL⟩ := cc
      simp only at d1 d2 d3 d4 hkd hky0 hky9 hcl2
      go_upto_region 7 with fail
      obtain ⟨hbx, hsx, _, hhx⟩ := boxedW wr #[strB nm, .int .i64 kd, .int .i64 ky, .slice va CL.length vc] 31
      clear d1 d2 d3 d4 y0 y1 y2 y3 y4 y5 y6
      generalize wr.alloc (.cells #[.string ⟨nm.toArray⟩, .int .i64 kd, .int .i64 ky, .slice va CL.length vc] 31) = wx at *
      have HHx := hid hhx
      have HBx := hid hbx
      obtain ⟨x0, x1, x2, x3⟩ := cells4K hhx
      generalize hpx : wr.heap.size = px at *
      have Hpx := hid hpx
      clear hpx hhx hbx
      have hbs' : w2.heap.size ≤ wr.heap.size := by rw [Hpx.out]; exact hbs
      have HBx' : Hid (Below wr.heap.size wr wx) := by show Below _ _ _; rw [Hpx.out]; exact HBx.out
      have HMx := hid (HM.out.later hbs' HBx'.out)
      have HNext : Hid (altCol hidden other n ⟨nm, kd, ky, CL⟩ = ⟨nm, kd, ky, CL⟩ → Made2 w2 wx w2.heap.size p1 p2 (.slice ta1 J.table.length tc1) (.slice (some ⟨gt, 0, none⟩) J.table.length tc2) P1 J hidden other (n + 1)) := by
        intro he
        obtain ⟨Q, q1, q2⟩ := HMx.out.ex
        refine ⟨⟨Q, ?_, q2⟩, HMx.out.box2, HMx.out.below⟩
        rw [q1, HSame.out he]
      by_cases hz : ky = 0
      · have HN := hid (HNext.out (by rw [HAC.out, if_neg]; rw [hz]; simp [hkB]))
        subst hz
        go_wp2_with fail
        exact ⟨⟨n + 1, by omega, by go_num, HN.out⟩, by simp [intOf]; omega⟩
      · have hkz : (ky == 0) = false := by simpa using hz
        have hkp : 0 < ky := by omega
        cases hbit : (bits .and .i64 hidden (wrap64 (2 ^ ky.toNat)) == 0) with
        | true =>
          have HN := hid (HNext.out (by rw [HAC.out, if_neg]; simp only [hkB, bne, hbit]; simp))
          clear hz
          go_wp2_with fail
          exact ⟨⟨n + 1, by omega, by go_num, HN.out⟩, by simp [intOf]; omega⟩
        | false =>
          by_cases ho : other = []
          · have HN := hid (HNext.out (by rw [HAC.out, if_neg]; simp [ho]))
            subst ho
            clear hz
            go_wp2_with fail
            exact ⟨⟨n + 1, by omega, by go_num, HN.out⟩, by simp [intOf]; omega⟩
          · have hol : 0 < other.length := List.length_pos_iff.2 ho
            have hoz : ((other.length : Int) == 0) = false := by simp; omega
            have HAC2 : Hid (altCol hidden other n ⟨nm, kd, ky, CL⟩ = ⟨nm, kd, ky, alterL other n kd CL CL.length⟩) := by
              show _ = _
              rw [HAC.out, if_pos ⟨by simp only [hkB, bne, hbit, decide_eq_true hkp]; rfl, ho⟩]
            clear hz ho
            go_wp2_with fail
            have hPS : P.set n ((⟨nm, kd, ky, alterL other n kd CL 0⟩ : ColB), Value.slice va CL.length vc) = P := by
              have e : P[n] = ((⟨nm, kd, ky, CL⟩ : ColB), Value.slice va CL.length vc) := Prod.ext HPn.out Hvn.out
              rw [alterL_zero, ← e]
              exact List.set_getElem_self hnP
            have HRx : Hid (RowsT wx w2.heap.size (.slice (some ⟨gt, 0, none⟩) J.table.length tc2) (P.set n (⟨nm, kd, ky, alterL other n kd CL 0⟩, .slice va CL.length vc))) := by
              show RowsT _ _ _ _
              rw [hPS]
              exact HRP.out.later HBx'.out
            have hwx := HMx.out.below
            have hn4 : n < 6 := by have := h20.2; omega
            clear hPS x0 x1 x2 x3 hB HNext HSame
            go_loopw [15] (fun mv wi => ∃ m : Nat, m ≤ CL.length ∧ mv = .int .i64 (m : Int) ∧ RowsT wi w2.heap.size (.slice (some ⟨gt, 0, none⟩) J.table.length tc2) (P.set n (⟨nm, kd, ky, alterL other n kd CL m⟩, .slice va CL.length vc)) ∧ KeptT [34] w2.heap.size wx wi) (fun mv _ => CL.length - (intOf mv).toNat)
            case atStart => exact ⟨0, Nat.zero_le _, rfl, HRx.out, KeptT.refl _ _ _⟩
            case round =>
              clear HRx
              obtain ⟨m, hm, rfl, hRi, hKi⟩ := hrel
              have hXi := hKi.row HHx.out (by decide)
              obtain ⟨_, x1, _, x3⟩ := cells4K hXi
              have hown := inner_own hRi hnP
              have hLL := alterL_len other n kd CL m
              simp only [hLL] at hown
              by_cases hltm : m < CL.length
              · have HLm := hid (alterL_at other n kd CL m hltm)
                have HLs := hid (alterL_step other n kd CL m hltm)
                have hsm := HCL3.out CL[m] (List.getElem_mem hltm)
                obtain ⟨gv, rfl⟩ : ∃ gv, va = some ⟨gv, 0, none⟩ := by
                  rcases hown.2 with ⟨_, h0⟩ | ⟨g, cap', cur, e, _⟩
                  · omega
                  · simp only [Value.slice.injEq] at e
                    exact ⟨g, e.1⟩
                obtain ⟨t1, t2, t3⟩ := cellsC_at (alterL other n kd CL m) m (by rw [hLL]; exact hltm)
                rw [HLm.out] at t1 t2 t3
                have hcl : (cellsC (alterL other n kd CL m)).length = CL.length * 3 := by rw [cellsC_length, hLL]
                have c1 := (hown.cellAt (m * 3) (by omega)).trans t1
                have c2 := (hown.cellAt (m * 3 + 1) (by omega)).trans t2
                have c3 := (hown.cellAt (m * 3 + 2) (by omega)).trans t3
                have z1 := hown.frozenAt (m * 3 + 1)
                have z2 := hown.frozenAt (m * 3 + 2)
                have hgl := (hown.lt gv rfl)
                have hmi : (m : Int) < (CL.length : Int) := by omega
                have hBi : Below w.heap.size w wr := hB2.trans ((hwx.trans hKi.below).mono hB2.size)
                have HAm : Hid (∀ w', Below w.heap.size w w' → Calls Tryz.prog 7 #[.slice a2 other.length cap2, .int .i64 ((n : Int) * 20 + (m : Int))] w' fun e w2 => e = .returned (.int .i64 (atB other (n * 20 + m))) ∧ w2 = w') := by
                  intro w' hb
                  have := HA2.out (n * 20 + m) w' (by omega) hb
                  rwa [show (((n * 20 + m : Nat)) : Int) = (n : Int) * 20 + (m : Int) by omega] at this
                have hpg : px ≠ gv := by
                  intro e
                  subst e
                  rcases hown.2 with ⟨h', _⟩ | ⟨g', cap', cur, h', _, hg, _⟩
                  · simp at h'
                  · simp only [Value.slice.injEq, Option.some.injEq, Addr.mk.injEq, and_true, true_and] at h'
                    obtain ⟨rfl, rfl⟩ := h'
                    rw [hXi] at hg
                    simp at hg
                have HRi : Hid (RowsT wr w2.heap.size (.slice (some ⟨gt, 0, none⟩) J.table.length tc2) (P.set n (⟨nm, kd, ky, alterL other n kd CL m⟩, .slice (some ⟨gv, 0, none⟩) (alterL other n kd CL m).length vc))) := by
                  show RowsT _ _ _ _
                  rw [hLL]
                  exact hRi
                have HKi := hid hKi
                have hV := HI2.out (n * 20 + m)
                have HSt : Hid (∀ x, alterC kd CL[m] (atB other (n * 20 + m)) = x → alterL other n kd CL (m + 1) = (alterL other n kd CL m).set m x) := fun x hx => by rw [← hx]; exact HLs.out.symm
                have HLx : Hid (∀ x, x = CL[m] → (alterL other n kd CL m).set m x = alterL other n kd CL m) := by
                  intro x hx
                  rw [hx, ← HLm.out]
                  exact List.set_getElem_self _
                have HLn := hid hLL
                have HXi := hid hXi
                clear hRi hKi hown t1 t2 t3 hcl hLL HLs hXi
                generalize hV2 : atB other (n * 20 + m) = V at *
                generalize hx2 : CL[m] = cx at *
                obtain ⟨xn, xi, xt⟩ := cx
                have Hx2 := hid hx2
                clear hV2 hx2
                simp only at c1 c2 c3 hsm
                go_wp2_with fail
                refine (HAm.out wr hBi).mono ?_
                rintro e w9 ⟨rfl, rfl⟩
                cases xn with
                | true =>
                  have HE : Hid (alterL other n kd CL (m + 1) = alterL other n kd CL m) := by
                    show _ = _
                    rw [HSt.out _ (by simp [alterC]; rfl), HLx.out _ rfl]
                  have HRi' : Hid (RowsT w9 w2.heap.size (.slice (some ⟨gt, 0, none⟩) J.table.length tc2) (P.set n (⟨nm, kd, ky, alterL other n kd CL (m + 1)⟩, .slice (some ⟨gv, 0, none⟩) CL.length vc))) := by
                    show RowsT _ _ _ _
                    have := HRi.out
                    rw [HLn.out] at this
                    rw [HE.out]
                    exact this
                  go_wp2_with fail
                  exact ⟨⟨m + 1, by omega, by go_num, HRi'.out, HKi.out⟩, by simp [intOf]; omega⟩
                | false =>
                  by_cases h40 : kd = 0 ∧ 0 ≤ xi ∧ xi < 40
                  · obtain ⟨rfl, h1, h2⟩ := h40
                    have HE := hid (HSt.out ⟨false, pickB V 40, xt⟩ (by simp [alterC, h1, h2]))
                    have HAI := hid (alt_int HRi.out hnP (by rw [HLn.out]; exact hltm) (pickB V 40))
                    have hpk := pickB_range V 40 (by decide)
                    have HPk : Hid (∀ w', Calls Tryz.prog 8 #[.int .i64 V, .int .i64 40] w' fun e w2 => e = .returned (.int .i64 (pickB V 40)) ∧ w2 = w') := fun w' => pick_any V 40 w' hV.1 hV.2 (by decide) (by decide)
                    generalize pickB V 40 = Z at *
                    have HRf : Hid (RowsT (w9.setCell ⟨gv, m * 3 + 1, none⟩ (.int .i64 Z)).drew w2.heap.size (.slice (some ⟨gt, 0, none⟩) J.table.length tc2) (P.set n (⟨nm, 0, ky, alterL other n 0 CL (m + 1)⟩, .slice (some ⟨gv, 0, none⟩) CL.length vc))) := by
                      show RowsT _ _ _ _
                      have h := HAI.out.1.later (self_drew _)
                      rw [HLm.out, HLn.out] at h
                      rw [HE.out]
                      exact h
                    have HKf := hid (HKi.out.trans HAI.out.2).drew
                    have h1' : decide (xi < 0) = false := by simp; omega
                    clear HAI HE
                    go_wp2_with fail
                    go_region_with (go_at_call 8; refine (HPk.out _).mono ?_; rintro e w10 ⟨rfl, rfl⟩)
                    all_goals
                      go_wp2_with fail
                      exact ⟨⟨m + 1, by omega, by go_num, HRf.out, HKf.out⟩, by simp [intOf]; omega⟩
                  · rcases hkd with rfl | rfl
                    · have hno : ¬ (0 ≤ xi ∧ xi < 40) := fun h => h40 ⟨rfl, h⟩
                      have HE : Hid (alterL other n 0 CL (m + 1) = alterL other n 0 CL m) := by
                        show _ = _
                        rw [HSt.out ⟨false, xi, xt⟩ (by simp [alterC, hno]), HLx.out _ rfl]
                      have HRi' : Hid (RowsT w9 w2.heap.size (.slice (some ⟨gt, 0, none⟩) J.table.length tc2) (P.set n (⟨nm, 0, ky, alterL other n 0 CL (m + 1)⟩, .slice (some ⟨gv, 0, none⟩) CL.length vc))) := by
                        show RowsT _ _ _ _
                        have := HRi.out
                        rw [HLn.out] at this
                        rw [HE.out]
                        exact this
                      clear h40
                      by_cases hx0 : 0 ≤ xi
                      · have hx4 : ¬ xi < 40 := fun h => hno ⟨hx0, h⟩
                        clear hno
                        go_wp2_with fail
                        exact ⟨⟨m + 1, by omega, by go_num, HRi'.out, HKi.out⟩, by simp [intOf]; omega⟩
                      · clear hno
                        go_wp2_with fail
                        exact ⟨⟨m + 1, by omega, by go_num, HRi'.out, HKi.out⟩, by simp [intOf]; omega⟩
                    · clear h40
                      have HE := hid (HSt.out ⟨false, xi, shakenB xt V⟩ (by simp [alterC]))
                      have HSh : Hid (∀ w', Calls Tryz.prog 9 #[strB xt, .int .i64 V] w' fun e w2 => e = .returned (strB (shakenB xt V)) ∧ Below w'.heap.size w' w2) := fun w' => shaken_any xt V w' hsm.2.2 hV.1 hV.2
                      have hpl : px < w9.heap.size := (Array.getElem?_eq_some_iff.1 HXi.out).1
                      have HAT := hid (fun (w' : World) (hb : Below w9.heap.size w9 w') => alt_text (HRi.out.later hb) hnP (by rw [HLn.out]; exact hltm) (shakenB xt V))
                      generalize shakenB xt V = SX at *
                      go_wp2_with fail
                      go_region_with (go_at_call 9; refine (HSh.out _).mono ?_; rintro e w10 ⟨rfl, hb10⟩; have X3 := (hb10.cell (p := ⟨px, 3, none⟩) hpl).trans x3; have C3 := (hb10.cell (p := ⟨gv, m * 3 + 2, none⟩) hgl.2).trans c3; have Z2 := (hb10.frozen (p := ⟨gv, m * 3 + 2, none⟩) hgl.2).trans z2)
                      all_goals
                        have hb' : Below w9.heap.size w9 w10 := below_undrew hb10
                        obtain ⟨hr, hk⟩ := HAT.out w10 hb'
                        rw [HLm.out, HLn.out] at hr
                        have HRf : Hid (RowsT (w10.setCell ⟨gv, m * 3 + 2, none⟩ (strB SX)) w2.heap.size (.slice (some ⟨gt, 0, none⟩) J.table.length tc2) (P.set n (⟨nm, 1, ky, alterL other n 1 CL (m + 1)⟩, .slice (some ⟨gv, 0, none⟩) CL.length vc))) := by
                          show RowsT _ _ _ _
                          rw [HE.out]
                          exact hr
                        have HKf := hid ((HKi.out.trans (Below.keptT hb' (by omega))).trans hk)
                        clear hr hk hb' hb10 X3 C3 Z2
                        go_wp2_with fail
                        exact ⟨⟨m + 1, by omega, by go_num, HRf.out, HKf.out⟩, by simp [intOf]; omega⟩
              · have hme : m = CL.length := by omega
                subst hme
                have HMf : Hid (Made2 w2 wr w2.heap.size p1 p2 (.slice ta1 J.table.length tc1) (.slice (some ⟨gt, 0, none⟩) J.table.length tc2) P1 J hidden other (n + 1)) := by
                  refine ⟨⟨_, ?_, hRi⟩, hKi.row HMx.out.box2 (by decide), hwx.trans hKi.below⟩
                  rw [List.map_set, HPm.out, ← HStep.out, HAC2.out]
                clear hRi hKi hown
                go_wp2_with fail
                exact ⟨⟨n + 1, by omega, by go_num, HMf.out⟩, by simp [intOf]; omega⟩
    · have hne : n = J.table.length := by omega
      subst hne
      obtain ⟨P, hPm, hRP⟩ := HM.out.ex
      have hPm' : P.map Prod.fst = (jobAlt hidden other J).table := hPm
      have hBw : Below w.heap.size w wr := hB2.trans (hB.mono hB2.size)
      have hlt1 : p1 < wr.heap.size := Nat.lt_of_lt_of_le hsb1 hB.size
      have hlt2 : p2 < wr.heap.size := (Array.getElem?_eq_some_iff.1 HM.out.box2).1
      have hX1 : Box7 p1 (.slice ta1 J.table.length tc1) J wr := cells7K (heap_later_K hB HX2.out)
      have hX2 : Box7 p2 (.slice ta2 J.table.length tc2) J wr := cells7K HM.out.box2
      have HLJ1 : Hid (∀ w', Below wr.heap.size wr w' → LiesJ w' ta1 tc1 J) := fun w' hb => rows_liesJ' ((HR2.out.later hB).later hb) HP1.out HG1.out
      have HLJ2 : Hid (∀ w', Below wr.heap.size wr w' → LiesJ w' ta2 tc2 (jobAlt hidden other J)) := fun w' hb => rows_liesJ' (hRP.later hb) hPm' HG2.out
      have HRg1 := hid (ringB_any c wr p1 _ J hc0 hc1 hlt1 hX1)
      clear hPm hPm' hRP y0 y1 y2 y3 y4 y5 y6
      have HW1 : Hid (∀ w' ra rcap, Below wr.heap.size wr w' → LiesK w' ra (ringRaw c 0) → Box7 p1 (.slice ta1 J.table.length tc1) J w' → Calls Tryz.prog 10 #[jobV (.slice ta1 J.table.length tc1) J, .slice ra (ringRaw c 0).length rcap] w'
          fun e w2 => ∃ lv, e = .returned (.tuple #[strB (fileB J (ringRaw c 0)), lv, .bool true]) ∧ Below wr.heap.size wr w2 ∧ Box7 p1 (.slice ta1 J.table.length tc1) J w2) := by
        intro w' ra rcap hb hk hx
        refine (written_any ta1 tc1 ra rcap (ringRaw c 0) J w' (HLJ1.out w' hb) hk hr5' HG1.out).mono ?_
        rintro e w2 ⟨lv, he, _, hb2⟩
        exact ⟨lv, he, hb.trans (hb2.mono hb.size), box7_later hx (Nat.lt_of_lt_of_le hlt1 hb.size) hb2⟩
      go_wp2_with fail
      have hX1d : Box7 p1 (.slice ta1 J.table.length tc1) J wr.drew := hX1
      go_region_held3 (fun w' => w'.cell? ⟨p1, 0, none⟩ = some (.slice ta1 J.table.length tc1) ∧ w'.cell? ⟨p1, 1, none⟩ = some (.int .i64 J.plan.group) ∧ w'.cell? ⟨p1, 2, none⟩ = some (.int .i64 J.plan.page) ∧ w'.cell? ⟨p1, 3, none⟩ = some (.int .i64 J.plan.foot) ∧ w'.cell? ⟨p1, 4, none⟩ = some (.bool J.plan.told) ∧ w'.cell? ⟨p1, 5, none⟩ = some (strB J.pre) ∧ w'.cell? ⟨p1, 6, none⟩ = some (.int .i64 J.draw))
        (first | with_reducible exact Y6 | with_reducible exact Y5 | with_reducible exact hX1d)
        (first
          | (go_at_call 11; refine HRg1.out.mono ?_; rintro e w5 ⟨ra, rcap, rfl, hk5, hb5, Y5⟩)
          | (go_at_call 10; refine (HW1.out _ _ _ hb5 hk5 Y5).mono ?_; rintro e w6 ⟨lv1, rfl, hb6, Y6⟩))
      rename_i hSS
      clear hSS
      have hX2b : Box7 p2 (.slice ta2 J.table.length tc2) J w6 := box7_later hX2 hlt2 hb6
      have hlt6 : p2 < w6.heap.size := Nat.lt_of_lt_of_le hlt2 hb6.size
      have HX1b := hid Y6
      have eKA : (jobAlt hidden other J).table.length = J.table.length := altT_len _ _ _ _
      have HKA := hid eKA
      have HRg2 := hid (ringB_any c w6 p2 _ J hc0 hc1 hlt6 hX2b)
      have HB6 := hid hb6
      clear Y5 Y6 hX1 hX1d hb5 hk5 HRg1 HW1 eKA hX2
      have HW2 : Hid (∀ w' ra rcap, Below w6.heap.size w6 w' → LiesK w' ra (ringRaw c 0) → Box7 p2 (.slice ta2 J.table.length tc2) J w' → Calls Tryz.prog 10 #[jobV (.slice ta2 J.table.length tc2) J, .slice ra (ringRaw c 0).length rcap] w'
          fun e w2 => ∃ lv, e = .returned (.tuple #[strB (fileB (jobAlt hidden other J) (ringRaw c 0)), lv, .bool true]) ∧ Below w6.heap.size w6 w2 ∧ Box7 p2 (.slice ta2 J.table.length tc2) J w2) := by
        intro w' ra rcap hb hk hx
        have h := written_any ta2 tc2 ra rcap (ringRaw c 0) (jobAlt hidden other J) w' (HLJ2.out w' (HB6.out.trans (hb.mono HB6.out.size))) hk hr5' HG2.out
        rw [HKA.out] at h
        refine Calls.mono h ?_
        rintro e w2 ⟨lv, he, _, hb2⟩
        exact ⟨lv, he, hb.trans (hb2.mono hb.size), box7_later hx (Nat.lt_of_lt_of_le hlt6 hb.size) hb2⟩
      clear hb6
      go_wp2_with fail
      have hX2d : Box7 p2 (.slice ta2 J.table.length tc2) J w6.drew := hX2b
      go_region_held3 (fun w' => w'.cell? ⟨p2, 0, none⟩ = some (.slice ta2 J.table.length tc2) ∧ w'.cell? ⟨p2, 1, none⟩ = some (.int .i64 J.plan.group) ∧ w'.cell? ⟨p2, 2, none⟩ = some (.int .i64 J.plan.page) ∧ w'.cell? ⟨p2, 3, none⟩ = some (.int .i64 J.plan.foot) ∧ w'.cell? ⟨p2, 4, none⟩ = some (.bool J.plan.told) ∧ w'.cell? ⟨p2, 5, none⟩ = some (strB J.pre) ∧ w'.cell? ⟨p2, 6, none⟩ = some (.int .i64 J.draw))
        (first | with_reducible exact Y8 | with_reducible exact Y7 | with_reducible exact hX2d)
        (first
          | (go_at_call 11; refine HRg2.out.mono ?_; rintro e w7 ⟨ra2, rcap2, rfl, hk7, hb7, Y7⟩)
          | (go_at_call 10; refine (HW2.out _ _ _ hb7 hk7 Y7).mono ?_; rintro e w8 ⟨lv2, rfl, hb8, Y8⟩))
      rename_i hSS
      clear hSS
      have HX2c := hid Y8
      have HX1c := hid (box7_later HX1b.out (Nat.lt_of_lt_of_le hlt1 HB6.out.size) hb8)
      have HB8 := hid (HB6.out.trans (hb8.mono HB6.out.size))
      clear Y7 Y8 hX2b hX2d hb7 hb8 hk7 HRg2 HW2 HX1b HB6
      generalize hr : ringRaw c 0 = r at *
      clear hr
      have HTF := hid (twin_file (r := r) HTw.out)
      obtain ⟨hs1, hs1l⟩ := spansJ_in (hk := hkB hidden) rfl HG1.out
      obtain ⟨hs2, hs2l⟩ := spansJ_in (hk := hkB hidden) rfl HG2.out
      have HS1 := hid hs1
      have HS2 := hid hs2
      clear hs1 hs2
      have hf1 := HG1.out.fileLen
      have hf2 := HG2.out.fileLen
      have hlt8 : p1 < w8.heap.size := Nat.lt_of_lt_of_le hlt1 HB8.out.size
      have hlt82 : p2 < w8.heap.size := Nat.lt_of_lt_of_le hlt2 HB8.out.size
      have HD1 : Hid (∀ w', Below w8.heap.size w8 w' → Calls Tryz.prog 12 #[jobV (.slice ta1 J.table.length tc1) J, strB (fileB J r), .int .i64 hidden] w'
          fun e w2 => ∃ la lc, e = .returned (.tuple #[.slice la (spansJ J r (hkB hidden)).length lc, .bool true]) ∧ LiesP w2 la (spansJ J r (hkB hidden)) ∧ Below w8.heap.size w8 w2) := by
        intro w' hb
        refine (bodies_any ta1 tc1 J r hidden w' (HLJ1.out w' (HB8.out.trans (hb.mono HB8.out.size))) HG1.out hh0 hh1).mono ?_
        rintro e w2 ⟨lv, he, ho, hb2⟩
        obtain ⟨la, lc, rfl, hla⟩ := own_liesP ho
        exact ⟨la, lc, he, hla, hb.trans (hb2.mono hb.size)⟩
      have HD2 : Hid (∀ w', Below w8.heap.size w8 w' → Calls Tryz.prog 12 #[jobV (.slice ta2 J.table.length tc2) J, strB (fileB (jobAlt hidden other J) r), .int .i64 hidden] w'
          fun e w2 => ∃ la lc, e = .returned (.tuple #[.slice la (spansJ (jobAlt hidden other J) r (hkB hidden)).length lc, .bool true]) ∧ LiesP w2 la (spansJ (jobAlt hidden other J) r (hkB hidden)) ∧ Below w'.heap.size w' w2) := by
        intro w' hb
        have h := bodies_any ta2 tc2 (jobAlt hidden other J) r hidden w' (HLJ2.out w' (HB8.out.trans (hb.mono HB8.out.size))) HG2.out hh0 hh1
        rw [HKA.out] at h
        refine Calls.mono h ?_
        rintro e w2 ⟨lv, he, ho, hb2⟩
        obtain ⟨la, lc, rfl, hla⟩ := own_liesP ho
        exact ⟨la, lc, he, hla, hb2⟩
      generalize fileB J r = F1 at *
      generalize fileB (jobAlt hidden other J) r = F2 at *
      generalize spansJ J r (hkB hidden) = S1 at *
      generalize spansJ (jobAlt hidden other J) r (hkB hidden) = S2 at *
      have HBF : Hid (∀ w', Below w8.heap.size w8 w' → Below w.heap.size w w') := fun w' hb => by
        have h1 := hBw.trans (HB8.out.mono hBw.size)
        exact h1.trans (hb.mono h1.size)
      clear hBw hB
      obtain ⟨x0, x1, x2, x3, x4, x5, x6⟩ := HX1c.out
      go_wp2_with fail
      clear x0 x1 x2 x3 x4 x5 x6
      refine (HD1.out w8 (Below.refl _ _)).mono ?_
      rintro e w9 ⟨la, lc, rfl, hla, hb9⟩
      have HLA := hid hla
      clear hla
      obtain ⟨x0, x1, x2, x3, x4, x5, x6⟩ := box7_later HX2c.out hlt82 hb9
      go_wp2_with fail
      clear x0 x1 x2 x3 x4 x5 x6
      refine (HD2.out w9 hb9).mono ?_
      rintro e w10 ⟨la2, lc2, rfl, hla2, hb10⟩
      have HLA2 := hid hla2
      have HLA1 := hid (HLA.out.later hb10)
      have hB10 := hb9.trans (hb10.mono hb9.size)
      clear hla2 hb9 hb10 HLA HD1 HD2
      go_wp2_with fail
      refine (sameSpans_any la la2 lc lc2 S1 S2 w10 (by omega) (by omega) HLA1.out HLA2.out).mono ?_
      rintro e w11 ⟨rfl, hb11⟩
      have hB11 := hB10.trans (hb11.mono hB10.size)
      have HL1 := hid (HLA1.out.later hb11)
      have HL2 := hid (HLA2.out.later hb11)
      clear hb11 hB10 HLA1 HLA2
      by_cases hS : S1 = S2
      · have HE := hid (HTF.out hS)
        have hd : decide (S1 = S2) = true := by simp [hS]
        rw [hd]
        clear hd hS
        by_cases hF : F1.length = F2.length
        · have hF1 : ((F1.length : Int) != (F2.length : Int)) = false := by simp; omega
          clear hF
          have HK1 : Hid (∀ w', Below w11.heap.size w11 w' → Calls Tryz.prog 14 #[strB F1, .slice la S1.length lc] w' fun e w2 => e = .returned (strB (blankB F1 S1)) ∧ Below w'.heap.size w' w2) := fun w' hb => blank_any la lc S1 F1 w' (by omega) (by omega) HS1.out (HL1.out.later hb)
          have HK2 : Hid (∀ w', Below w11.heap.size w11 w' → Calls Tryz.prog 14 #[strB F2, .slice la2 S2.length lc2] w' fun e w2 => e = .returned (strB (blankB F1 S1)) ∧ Below w'.heap.size w' w2) := fun w' hb => by
            rw [HE.out]
            exact blank_any la2 lc2 S2 F2 w' (by omega) (by omega) HS2.out (HL2.out.later hb)
          generalize blankB F1 S1 = BB at *
          go_wp2_with fail
          refine (HK1.out w11 (Below.refl _ _)).mono ?_
          rintro e w12 ⟨rfl, hb12⟩
          go_wp2_with fail
          refine (HK2.out w12 hb12).mono ?_
          rintro e w13 ⟨rfl, hb13⟩
          have HBX := hid (HBF.out w13 ((hB11.trans (hb12.mono hB11.size)).trans (hb13.mono (Nat.le_trans hB11.size hb12.size))))
          clear hb12 hb13 hB11
          go_wp2
          go_ret
          exact ⟨by simp, HBX.out⟩
        · have hF1 : ((F1.length : Int) != (F2.length : Int)) = true := by simp; omega
          clear hF
          have HBX := hid (HBF.out w11 hB11)
          go_wp2
          go_ret
          exact ⟨rfl, HBX.out⟩
      · have hd : decide (S1 = S2) = false := by simp [hS]
        rw [hd]
        clear hd hS
        have HBX := hid (HBF.out w11 hB11)
        go_wp2
        go_ret
        exact ⟨rfl, HBX.out⟩

end Go.Proofs.YthhpbhpfagoapabGreat

namespace Go.Proofs.YthhpbhpfagoapabGreat
open Go.ChangeShapes Go.WideShapes Go.ChangeAt Go.RowKit Go.Deep
set_option linter.unusedVariables false
set_option maxRecDepth 100000

theorem lt_of_cell {w : World} {b o : Nat} {v : Value} (h : w.cell? ⟨b, o, none⟩ = some v) : b < w.heap.size := by
  rcases Nat.lt_or_ge b w.heap.size with h1 | h1
  · exact h1
  · simp [World.cell?, Array.getElem?_eq_none h1] at h

theorem wf_range {x : Int} (h : (Lit.int .i64 x).wf = true) : -9223372036854775808 ≤ x ∧ x ≤ 9223372036854775807 := by
  simp [Lit.wf, IntKind.min, IntKind.max, IntKind.signed, IntKind.bits] at h
  exact ⟨by omega, by omega⟩

theorem Tryz.cellsCell : Tryz.prog.cellsOf 34 = 3 := by kernel_rfl
theorem Tryz.cellsBool : Tryz.prog.cellsOf 4 = 1 := by kernel_rfl
theorem Tryz.cellsInt : Tryz.prog.cellsOf 3 = 1 := by kernel_rfl
theorem Tryz.cellsString : Tryz.prog.cellsOf 9 = 1 := by kernel_rfl

/-- One cell, read. -/
theorem open_cell {H : Type} {enc : TypeId × Value → H} {W : World} {base : Nat} {spare : Nat → Bool} {held : Bool} {fuel : Nat} {cs : List Value} {x : DataW H × List MemPlace}
    (h : DataW.trod enc Tryz.prog W base spare held fuel 34 cs = some x) : ∃ c : CellB, okC c ∧ cs = [.bool c.null, .int .i64 c.int, strB c.text] := by
  obtain ⟨y0, y1, y2, n, hx, hlen, h0, h1, h2⟩ := trod_struct3 Tryz.underlying34 h
  rw [Tryz.cellsCell] at hlen
  match cs, hlen with
  | [c0, c1, c2], _ =>
    simp only [Tryz.cellsBool, Tryz.cellsInt, Tryz.cellsString] at h0 h1 h2
    obtain ⟨b, e0, _⟩ := DataW.trod_bool Tryz.underlying4 h0
    obtain ⟨i, e1, _, wi⟩ := DataW.trod_int Tryz.underlying3 h1
    obtain ⟨s, e2, _, ws⟩ := DataW.trod_string Tryz.underlying9 h2
    simp at e0 e1 e2
    subst e0 e1 e2
    obtain ⟨i0, i1⟩ := wf_range wi
    refine ⟨⟨b, i, s.data.toList⟩, ⟨i0, i1, by simpa using ws⟩, ?_⟩
    obtain ⟨⟨t⟩⟩ := s
    rfl

/-- A list of cells, read. -/
theorem open_cells {H : Type} {enc : TypeId × Value → H} {W : World} {fuel len cap : Nat} {a : Option Addr} {x : DataW H × List MemPlace}
    (h : DataW.trod enc Tryz.prog W 0 (fun _ => true) true fuel 29 [.slice a len cap] = some x) :
    ∃ l : List CellB, l.length = len ∧ len ≤ cap ∧ cap ≤ maxLen ∧ Lies W a l ∧ (len = 0 ∨ ∃ es sp, x.1 = .slice es sp ∧ es.length + sp.length = cap) := by
  rcases open_slice Tryz.underlying29 h with ⟨hcs, _⟩ | ⟨a', len', cap', m, n, D, Pl, hcs, _, hl, hm, hmm, rfl, hx⟩
  · simp at hcs
    obtain ⟨rfl, rfl, rfl⟩ := hcs
    exact ⟨[], rfl, Nat.le_refl _, by decide, ⟨by simp, fun h => absurd rfl h⟩, .inl rfl⟩
  · simp at hcs
    obtain ⟨rfl, rfl, rfl⟩ := hcs
    simp only [if_true] at hmm
    subst hmm
    rw [Tryz.cellsCell] at hx
    have each : ∀ i, i < len → ∃ c : CellB, okC c ∧ W.cell? (a'.add (i * 3)) = some (.bool c.null) ∧ W.cell? (a'.add (i * 3 + 1)) = some (.int .i64 c.int) ∧ W.cell? (a'.add (i * 3 + 2)) = some (strB c.text) := by
      intro i hi
      obtain ⟨cs', h1, h2⟩ := hx i (by omega)
      obtain ⟨c, hok, rfl⟩ := open_cell h2
      obtain ⟨_, _, hcell⟩ := World.cells?_some h1
      have e0 := hcell 0 (by omega)
      have e1 := hcell 1 (by omega)
      have e2 := hcell 2 (by omega)
      rw [add_add] at e0 e1 e2
      exact ⟨c, hok, by simpa using e0, by simpa using e1, by simpa using e2⟩
    have inh : Inhabited CellB := ⟨⟨false, 0, []⟩⟩
    obtain ⟨f, hf⟩ := choose_lt each
    refine ⟨(List.range len).map f, by simp, hl, hm, ⟨?_, ?_⟩, .inr ⟨_, _, rfl, by simp; omega⟩⟩
    · intro c hc
      simp only [List.mem_map, List.mem_range] at hc
      obtain ⟨i, hi, rfl⟩ := hc
      exact (hf i hi).1
    · intro hne
      have hp : 0 < len := by
        rcases Nat.eq_zero_or_pos len with h0 | h0
        · subst h0; simp at hne
        · exact h0
      obtain ⟨b, off, spot⟩ := a'
      have hspot : spot = none := by simpa [Addr.add] using World.cell?_spot (hf 0 hp).2.1
      subst hspot
      have hb : b < W.heap.size := by
        have := (hf 0 hp).2.1
        rw [add_plain] at this
        exact lt_of_cell this
      refine ⟨b, off, rfl, hb, fun j hj => ?_⟩
      have hj' : j < len := by simpa using hj
      obtain ⟨_, g1, g2, g3⟩ := hf j hj'
      rw [add_plain] at g1 g2 g3
      simp only [List.getElem_map, List.getElem_range]
      exact ⟨g1, g2, g3⟩

end Go.Proofs.YthhpbhpfagoapabGreat

namespace Go.Proofs.YthhpbhpfagoapabGreat
namespace blind
open Go.ChangeShapes Go.WideShapes Go.ChangeAt Go.RowKit Go.Deep
open Go.ChangeMaps (open_string shut_string)
set_option linter.unusedVariables false
set_option maxRecDepth 100000

theorem own : ownKnob Tryz.prog.godebug = none := by kernel_rfl
theorem laidOut : laidOutB Tryz.prog = true := by kernel_rfl
theorem cellsInt1 : Tryz.prog.cellsOf 3 = 1 := by kernel_rfl
theorem bytesInt : Tryz.prog.bytesOf 3 = 8 := by kernel_rfl

/-- A list of numbers, opened. -/
theorem open_rawI {H : Type} {enc : TypeId × Value → H} {W : World} {fuel len cap : Nat} {a : Option Addr} {x : DataW H × List MemPlace}
    (h : DataW.trod enc Tryz.prog W 0 (fun _ => true) true fuel 22 [.slice a len cap] = some x) (hw : ∀ n ∈ x.1.weights Tryz.prog 22, n ≤ reachBytes) :
    ∃ raw : List Int, raw.length = len ∧ LiesI W a raw := by
  rcases open_ints Tryz.underlying22 Tryz.underlying3 cellsInt1 h with ⟨hcs, hx⟩ | ⟨a', len', cap', zs, hcs, _, hl, hm, hz, hx, hcell, hwz⟩
  · simp at hcs
    obtain ⟨rfl, rfl, rfl⟩ := hcs
    exact ⟨[], rfl, by simp, by simp, fun h => absurd rfl h⟩
  · simp at hcs
    obtain ⟨rfl, rfl, rfl⟩ := hcs
    simp only [if_true] at hz
    have hsz : len ≤ 140737488351232 := by
      have h1 : ∃ es sp, x.1 = .slice es sp ∧ es.length + sp.length = cap := ⟨_, _, by rw [hx], by simp [ChangeShapes.lits]; omega⟩
      obtain ⟨es, sp, hd, hc⟩ := h1
      have := hw ((es.length + sp.length) * Tryz.prog.bytesOf 3) (by rw [hd]; simp only [DataW.weights, Tryz.underlying22]; exact List.mem_cons_self ..)
      rw [bytesInt, hc] at this
      simp only [reachBytes] at this
      omega
    refine ⟨zs.take len, by simp; omega, fun z hz2 => wf_range (hwz z (List.mem_of_mem_take hz2)), by simp; omega, fun hne => ?_⟩
    have hp : 0 < len := by
      rcases Nat.eq_zero_or_pos len with h0 | h0
      · subst h0; simp at hne
      · exact h0
    obtain ⟨b, off, spot⟩ := a'
    have c0 := hcell 0 (by omega)
    have hspot : spot = none := by simpa [Addr.add] using World.cell?_spot c0
    subst hspot
    refine ⟨b, off, rfl, ?_, fun j hj => ?_⟩
    · rw [add_plain] at c0
      exact lt_of_cell c0
    · have hj' : j < len := by simp at hj; omega
      have cj := hcell j (by omega)
      rw [add_plain] at cj
      rw [cj, List.getElem_take, List.getD, List.getElem?_eq_getElem (by omega)]
      rfl

set_option maxRecDepth 100000 in
theorem lifted (os : Os) (started : os.Started) (H : Type) (enc : TypeId × Value → H) :
    ReturnsInHanded {} Tryz.checked os 3 .any (Rows.blindSpec.pre6 enc Tryz.prog Tryz.f3 Rows.blindRow.domain false) (Rows.blindSpec.post enc Tryz.prog Tryz.f3 false true false false) := by
  refine returnsInHanded_of_change_sized (C := Tryz.checked) own started (by kernel_rfl) Tryz.func3
    (ChangeSpec.witness6 (enc := enc) (C := Tryz.checked) false ⟨#[], #[.slice none 0 0, .string ⟨#[]⟩, .int .i64 0, .int .i64 0, .slice none 0 0], []⟩ 8 (by kernel_rfl) (by kernel_rfl) (by kernel_rfl) (by kernel_rfl)) ?_
  intro W base args ds gs before hval0 hW hcnd hsz0 _
  have hval : ∀ (j : Nat) t v, Tryz.f3.params[j]? = some t → args[j]? = some v → Value.okWide Tryz.prog W .any base t v := hval0
  have hsz : (DataW.weightsEach Tryz.prog (Tryz.f3.params.toList ++ Rows.blindSpec.plain.varTypes Tryz.prog) (ds ++ gs)).all (· ≤ reachBytes) = true := hsz0
  have hW' := hW
  obtain ⟨p, q, hA0, hV, rfl, hfz, hnd⟩ := hW
  have hA : DataW.TrodAll enc Tryz.prog W 0 (fun _ => true) true Tryz.f3.params.toList args.toList ds p := hA0
  rw [Tryz.params3] at hA hval hsz
  obtain ⟨v0, vs0, d0, ds0, p0, q0, hargs, rfl, rfl, h0, r0⟩ := trodAll_cons hA
  obtain ⟨v1, vs1, d1, ds1, p1, q1, rfl, rfl, rfl, h1, r1⟩ := trodAll_cons r0
  obtain ⟨v2, vs2, d2, ds2, p2, q2, rfl, rfl, rfl, h2, r2⟩ := trodAll_cons r1
  obtain ⟨v3, vs3, d3, ds3, p3, q3, rfl, rfl, rfl, h3, r3⟩ := trodAll_cons r2
  obtain ⟨v4, vs4, d4, ds4, p4, q4, rfl, rfl, rfl, h4, r4⟩ := trodAll_cons r3
  obtain ⟨rfl, rfl, rfl⟩ := trodAll_nil r4
  obtain rfl : args = #[v0, v1, v2, v3, v4] := by cases args; simp_all
  obtain ⟨rfl, rfl⟩ := trodVars_none hV
  obtain ⟨a0, len0, cap0, rfl⟩ := okWide_slice Tryz.underlying22 (hval 0 22 v0 rfl rfl)
  obtain ⟨s1, rfl, rfl, rfl, w1⟩ := open_string Tryz.underlying9 (hval 1 9 v1 rfl rfl) h1
  obtain ⟨a2, rfl, rfl, rfl, w2⟩ := open_int Tryz.underlying3 (hval 2 3 v2 rfl rfl) h2
  obtain ⟨a3, rfl, rfl, rfl, w3⟩ := open_int Tryz.underlying3 (hval 3 3 v3 rfl rfl) h3
  obtain ⟨a4, len4, cap4, rfl⟩ := okWide_slice Tryz.underlying22 (hval 4 22 v4 rfl rfl)
  have k0 := h0
  have k4 := h4
  have lt0 : ∀ x ∈ p0, x.block < W.heap.size := by obtain ⟨m, hm⟩ := k0; exact DataW.trod_lt m _ _ _ hm
  have lt4 : ∀ x ∈ p4, x.block < W.heap.size := by obtain ⟨m, hm⟩ := k4; exact DataW.trod_lt m _ _ _ hm
  have hszm := List.all_eq_true.1 hsz
  obtain ⟨raw, hlen0, hl0⟩ : ∃ raw : List Int, raw.length = len0 ∧ LiesI W a0 raw := by
    obtain ⟨fuel, hf⟩ := h0
    exact open_rawI hf (fun n hn => by simpa using hszm n (DataW.weights_mem_each (j := 0) (t := 22) (d := d0) rfl rfl _ hn))
  obtain ⟨other, hlen4, hl4⟩ : ∃ raw : List Int, raw.length = len4 ∧ LiesI W a4 raw := by
    obtain ⟨fuel, hf⟩ := h4
    exact open_rawI hf (fun n hn => by simpa using hszm n (DataW.weights_mem_each (j := 4) (t := 22) (d := d4) rfl rfl _ hn))
  clear hA0 hval0 hsz0
  subst hlen0
  subst hlen4
  obtain ⟨x2, y2⟩ := wf_range w2
  obtain ⟨x3, y3⟩ := wf_range w3
  have es : Value.string s1 = strB s1.data.toList := by obtain ⟨⟨t⟩⟩ := s1; rfl
  have hwalk := blind_walk a0 cap0 raw s1.data.toList a2 a3 a4 cap4 other W hl0 hl4 (by simpa using w1) x2 y2 x3 y3
  rw [← es] at hwalk
  refine Calls.mono hwalk fun e W' ⟨he, bel⟩ => ?_
  subst he
  exact ⟨_, rfl, _, _, _, [], _, [], hW', trodAll_mk1 (shut_bool Tryz.underlying4 _), (trodAll_cons_mk (Below.trod laidOut (by kernel_rfl) (of_decide_eq_true (by kernel_rfl)) k0 bel lt0) (trodAll_cons_mk (shut_string Tryz.underlying9 w1) (trodAll_cons_mk (shut_int Tryz.underlying3 w2) (trodAll_cons_mk (shut_int Tryz.underlying3 w3) (trodAll_cons_mk (Below.trod laidOut (by kernel_rfl) (of_decide_eq_true (by kernel_rfl)) k4 bel lt4) trodAll_mk0))))), rfl, bel.frame _, fun h => by cases h⟩

theorem over : Rows.blindRow.holds Tryz.pinned (OpenSpec.ofChange Rows.blindSpec) :=
  OpenClaim.holds_of_wide 3 Tryz.f3 rfl rfl rfl rfl rfl rfl rfl ⟨rfl, rfl, rfl, rfl, rfl⟩ rfl rfl rfl rfl rfl (by kernel_rfl) Tryz.func3 (by kernel_rfl)
    (of_decide_eq_true (by kernel_rfl)) (by unfold Func.isWrapper; first | (rw [if_pos (by decide +kernel)]; kernel_rfl) | (rw [if_neg (by decide +kernel)]; exact ⟨rfl, rfl⟩))
    (fun os started H enc _ => lifted os started H enc)

end blind

/-- THE STATEMENT. -/
theorem blind_holds : Rows.BlindSaid := blind.over
#print axioms blind_holds
end Go.Proofs.YthhpbhpfagoapabGreat
