/-
  What the laws' own look at a job that was handed over does, by a walk.
-/
import Derived.Test.YthhpbhpfagoapaaGreatLTab
import Derived.Deep.CutBlock
import Derived.Deep.RegionHeld3
namespace Go.Proofs.YthhpbhpfagoapaaGreat
open Go.RowKit
set_option linter.unusedVariables false
set_option linter.unusedSimpArgs false
set_option maxRecDepth 100000

/-- One column of what was made. -/
theorem HandedT.col {w : World} {base g : Nat} {t : List ColB} (h : HandedT w base g t) (k : Nat) (hk : k < t.length) :
    w.cell? ⟨g, k * 4, none⟩ = some (strB (t[k]).name) ∧ w.cell? ⟨g, k * 4 + 1, none⟩ = some (.int .i64 (t[k]).kind) ∧ w.cell? ⟨g, k * 4 + 2, none⟩ = some (.int .i64 (t[k]).key) ∧
      ∃ gi, w.cell? ⟨g, k * 4 + 3, none⟩ = some (.slice (some ⟨gi, 0, none⟩) (t[k]).cells.length ((t[k]).cells.length + 8)) ∧
        w.ownsRow base 58 3 (.slice (some ⟨gi, 0, none⟩) ((t[k]).cells.length + 8) ((t[k]).cells.length + 8)) ((t[k]).cells.length + 8) (cellsC (marked (t[k]).cells 8)) := by
  obtain ⟨P, h1, h2, h3⟩ := h.ex
  have hlen : P.length = t.length := by rw [← h1, List.length_map]
  have hjP : k < P.length := by omega
  obtain ⟨c1, c2, c3, c4⟩ := h3.at_ k (by rw [List.length_append]; omega)
  rw [List.getElem_append_left hjP] at c1 c2 c3 c4
  have e : P[k].1 = t[k] := by
    have : (P.map Prod.fst)[k]'(by rw [List.length_map]; exact hjP) = t[k] := by simp only [h1]
    simpa using this
  rw [e] at c1 c2 c3
  obtain ⟨gi, hv, ho⟩ := h2 P[k] (List.getElem_mem _)
  rw [e] at hv ho
  rw [hv] at c4
  exact ⟨c1, c2, c3, gi, c4, ho⟩

/-- One mark behind it. -/
theorem HandedT.mark {w : World} {base g : Nat} {t : List ColB} (h : HandedT w base g t) (m : Nat) (hm : m < 8) :
    w.cell? ⟨g, (t.length + m) * 4, none⟩ = some (strB [109, 97, 114, 107]) ∧ w.cell? ⟨g, (t.length + m) * 4 + 1, none⟩ = some (.int .i64 (-77)) ∧ w.cell? ⟨g, (t.length + m) * 4 + 2, none⟩ = some (.int .i64 0) ∧ w.cell? ⟨g, (t.length + m) * 4 + 3, none⟩ = some (.slice none 0 0) := by
  obtain ⟨P, h1, h2, h3⟩ := h.ex
  have hlen : P.length = t.length := by rw [← h1, List.length_map]
  have hl : t.length + m < (P ++ List.replicate 8 markT).length := by simp; omega
  obtain ⟨c1, c2, c3, c4⟩ := h3.at_ (t.length + m) hl
  have e : (P ++ List.replicate 8 markT)[t.length + m] = markT := by rw [List.getElem_append_right (by omega)]; simp only [List.getElem_replicate]
  rw [e] at c1 c2 c3 c4
  exact ⟨c1, c2, c3, c4⟩

theorem HandedT.lt {w : World} {base g : Nat} {t : List ColB} (h : HandedT w base g t) : base ≤ g ∧ g < w.heap.size := by
  obtain ⟨P, _, _, h3⟩ := h.ex
  exact h3.lt g rfl

set_option maxHeartbeats 4000000 in
theorem stillJ_any (a : Option Addr) (cap g base : Nat) (j : JobB) (w : World) (hj : LiesJ w a cap j) (hm : j.table.length * 56 ≤ 140737488351232) (hH : HandedT w base g j.table) :
    Calls Tryz.prog 34 #[jobV (.slice (some ⟨g, 0, none⟩) j.table.length (j.table.length + 8)) j, jobV (.slice a j.table.length cap) j] w fun e w' => e = .returned (.bool true) ∧ Below w.heap.size w w' := by
  have Hj := hid hj
  have HH := hid hH
  clear hj hH
  go_enter Tryz.func34, Tryz.ntmps34
  go_upto_region 1 with fail
  have Hx0 := hid (boxJ_new w (.slice (some ⟨g, 0, none⟩) j.table.length (j.table.length + 8)) j 26)
  obtain ⟨hb0, hs0, _, _⟩ := boxedW w #[.slice (some ⟨g, 0, none⟩) j.table.length (j.table.length + 8), .int .i64 j.plan.group, .int .i64 j.plan.page, .int .i64 j.plan.foot, .bool j.plan.told, strB j.pre, .int .i64 j.draw] 26
  have hz0 : (w.alloc (.cells #[.slice (some ⟨g, 0, none⟩) j.table.length (j.table.length + 8), .int .i64 j.plan.group, .int .i64 j.plan.page, .int .i64 j.plan.foot, .bool j.plan.told, strB j.pre, .int .i64 j.draw] 26)).heap.size = w.heap.size + 1 := by simp
  generalize w.alloc (.cells #[.slice (some ⟨g, 0, none⟩) j.table.length (j.table.length + 8), .int .i64 j.plan.group, .int .i64 j.plan.page, .int .i64 j.plan.foot, .bool j.plan.told, strB j.pre, .int .i64 j.draw] 26) = w0 at *
  have Hx1 := hid (boxJ_new w0 (.slice a j.table.length cap) j 26)
  obtain ⟨hb1, hs1, _, _⟩ := boxedW w0 #[.slice a j.table.length cap, .int .i64 j.plan.group, .int .i64 j.plan.page, .int .i64 j.plan.foot, .bool j.plan.told, strB j.pre, .int .i64 j.draw] 26
  generalize w0.alloc (.cells #[.slice a j.table.length cap, .int .i64 j.plan.group, .int .i64 j.plan.page, .int .i64 j.plan.foot, .bool j.plan.told, strB j.pre, .int .i64 j.draw] 26) = wa at *
  have HX0 := hid (Hx0.out.later hs0 hb1)
  rw [hz0] at Hx1
  have hsa : w.heap.size + 1 < wa.heap.size := by omega
  have HBa := hid (hb0.trans (hb1.mono hb0.size))
  have HJa := hid (Hj.out.later HBa.out)
  have HHa := hid (HH.out.later HBa.out)
  clear hb0 hb1 hs0 hs1 hz0 Hx0 Hj HH
  obtain ⟨x0, _⟩ := HX0.out
  obtain ⟨z0, _⟩ := Hx1.out
  have hne0 : ((j.table.length : Int) != (j.table.length : Int)) = false := by simp
  go_wp2_with fail
  clear x0 z0
  go_loopw [6] (fun i wr => ∃ k : Nat, k ≤ j.table.length ∧ i = .int .i64 (k : Int) ∧ Below wa.heap.size wa wr) (fun i _ => j.table.length - (intOf i).toNat)
  case atStart => exact ⟨0, Nat.zero_le _, rfl, Below.refl _ _⟩
  case round =>
    obtain ⟨k, hk, rfl, hB⟩ := hrel
    obtain ⟨x0, _⟩ := HX0.out.later (by omega) hB
    obtain ⟨z0, _⟩ := Hx1.out.later hsa hB
    have hgw := (HHa.out.later hB).lt.2
    by_cases hlt : k < j.table.length
    · have hjr := HJa.out.table.later hB
      obtain ⟨b, off, rfl, hbw, hcell⟩ := hjr.at_ (List.ne_nil_of_length_pos (by omega))
      obtain ⟨g1, g2, g3, v, g4, ca, ccap, rfl, hcc, hcl, hcm⟩ := hcell k hlt
      obtain ⟨o1, o2, o3, gi, o4, hown⟩ := (HHa.out.later hB).col k hlt
      have HT : Hid (∀ w', Below wr.heap.size wr w' → Calls Tryz.prog 77 #[.slice (some ⟨gi, 0, none⟩) (j.table[k]).cells.length ((j.table[k]).cells.length + 8), .slice ca (j.table[k]).cells.length ccap] w' fun e w2 => e = .returned (.bool true) ∧ Below w'.heap.size w' w2) :=
        fun w' hw' => still_any ca ccap gi base (j.table[k]).cells w' hcm (hcl.later hw') (own_laterT hown hw')
      have hsw := hB.size
      clear hcell hjr hown hcl
      have hki : (k : Int) < (j.table.length : Int) := by omega
      generalize j.table[k] = c at *
      go_wp2_with fail
      have hx0w : w.heap.size < wr.heap.size := by omega
      have hx1w : w.heap.size + 1 < wr.heap.size := by omega
      go_region_held3 (fun w' => w'.cell? ⟨w.heap.size, 0, none⟩ = some (.slice (some ⟨g, 0, none⟩) j.table.length (j.table.length + 8)) ∧ w'.cell? ⟨w.heap.size + 1, 0, none⟩ = some (.slice (some ⟨b, off, none⟩) j.table.length cap) ∧ w'.cell? ⟨g, k * 4 + 3, none⟩ = some (.slice (some ⟨gi, 0, none⟩) c.cells.length (c.cells.length + 8)) ∧ w'.cell? ⟨b, off + k * 4 + 3, none⟩ = some (.slice ca c.cells.length ccap))
        (first | exact Y5 | exact ⟨x0, z0, o4, g4⟩)
        (first | (go_at_call 77; refine (HT.out _ (self_drew _)).mono ?_; rintro e w5 ⟨rfl, hb5⟩; have Y5 : w5.cell? ⟨w.heap.size, 0, none⟩ = some (.slice (some ⟨g, 0, none⟩) j.table.length (j.table.length + 8)) ∧ w5.cell? ⟨w.heap.size + 1, 0, none⟩ = some (.slice (some ⟨b, off, none⟩) j.table.length cap) ∧ w5.cell? ⟨g, k * 4 + 3, none⟩ = some (.slice (some ⟨gi, 0, none⟩) c.cells.length (c.cells.length + 8)) ∧ w5.cell? ⟨b, off + k * 4 + 3, none⟩ = some (.slice ca c.cells.length ccap) := ⟨(hb5.cell (p := ⟨w.heap.size, 0, none⟩) hx0w).trans x0, (hb5.cell (p := ⟨w.heap.size + 1, 0, none⟩) hx1w).trans z0, (hb5.cell (p := ⟨g, k * 4 + 3, none⟩) hgw).trans o4, (hb5.cell (p := ⟨b, off + k * 4 + 3, none⟩) hbw).trans g4⟩))
      rename_i hSS
      clear hSS
      have X0 := (hb5.cell (p := ⟨w.heap.size, 0, none⟩) hx0w).trans x0
      have Z0 := (hb5.cell (p := ⟨w.heap.size + 1, 0, none⟩) hx1w).trans z0
      have G1 := (hb5.cell (p := ⟨b, off + k * 4, none⟩) hbw).trans g1
      have G2 := (hb5.cell (p := ⟨b, off + k * 4 + 1, none⟩) hbw).trans g2
      have G3 := (hb5.cell (p := ⟨b, off + k * 4 + 2, none⟩) hbw).trans g3
      have O1 := (hb5.cell (p := ⟨g, k * 4, none⟩) hgw).trans o1
      have O2 := (hb5.cell (p := ⟨g, k * 4 + 1, none⟩) hgw).trans o2
      have O3 := (hb5.cell (p := ⟨g, k * 4 + 2, none⟩) hgw).trans o3
      have HB5 := hid (hB.trans ((below_undrew hb5).mono hB.size))
      clear x0 z0 g1 g2 g3 g4 o1 o2 o3 o4 Y5 hb5 hB HT
      have hk1 : (c.kind != c.kind) = false := by simp
      have hk2 : (c.key != c.key) = false := by simp
      go_wp2_with fail
      go_quiet (fail)
      go_wp2_with fail
      go_roundw
      case rel => exact ⟨k + 1, by omega, by go_num, below_drewN HB5.out nq⟩
      case measure => simp [intOf]; omega
    · have hke : k = j.table.length := by omega
      subst hke
      go_wp2_with fail
      clear x0 z0
      go_loopw [9] (fun i wr => ∃ m : Nat, m ≤ 8 ∧ i = .int .i64 (m : Int) ∧ Below wa.heap.size wa wr) (fun i _ => 8 - (intOf i).toNat)
      case atStart => exact ⟨0, Nat.zero_le _, rfl, hB⟩
      case round =>
        clear hB hgw
        obtain ⟨m, hm8, rfl, hB⟩ := hrel
        have HBF := hid (HBa.out.trans (hB.mono HBa.out.size))
        by_cases hlt8 : m < 8
        · obtain ⟨c1, c2, c3, c4⟩ := (HHa.out.later hB).mark m hlt8
          go_wp2_with fail
          exact ⟨⟨m + 1, by omega, by go_num, hB⟩, by simp [intOf]; omega⟩
        · have hm : m = 8 := by omega
          subst hm
          go_wp2
          go_ret
          exact ⟨rfl, HBF.out⟩

end Go.Proofs.YthhpbhpfagoapaaGreat
