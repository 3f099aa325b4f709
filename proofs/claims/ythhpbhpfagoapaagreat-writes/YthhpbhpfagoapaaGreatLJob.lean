/-
  What the laws' own maker of jobs does, by a walk.
-/
import Derived.Test.YthhpbhpfagoapaaGreatLTab
import Derived.Deep.CutBlock
namespace Go.Proofs.YthhpbhpfagoapaaGreat
open Go.RowKit
set_option linter.unusedVariables false
set_option linter.unusedSimpArgs false
set_option maxRecDepth 100000

/-- The table so far: k columns made, the rest noughts. -/
structure MadeT (w : World) (base g : Nat) (t : List ColB) (k : Nat) : Prop where
  ex : ∃ P : List (ColB × Value), P.map Prod.fst = t.take k ∧ (∀ p ∈ P, OwnCells w base p.2 p.1.cells) ∧ OwnT w base g (t.length + 8) (P ++ List.replicate (t.length + 8 - k) zeroT)

/-- The marks so far. -/
structure MarkedT (w : World) (base g : Nat) (t : List ColB) (m : Nat) : Prop where
  ex : ∃ P : List (ColB × Value), P.map Prod.fst = t ∧ (∀ p ∈ P, OwnCells w base p.2 p.1.cells) ∧ OwnT w base g (t.length + 8) (P ++ (List.replicate m markT ++ List.replicate (8 - m) zeroT))

/-- The cells of a row that the call owns can be set. -/
structure SetT (w : World) (g n : Nat) : Prop where
  cell : ∀ o, o < n * 4 → ∃ v, w.cell? ⟨g, o, none⟩ = some v
  free : ∀ o, w.frozen? ⟨g, o, none⟩ = false

theorem OwnT.sets {w : World} {base g n : Nat} {P : List (ColB × Value)} (h : OwnT w base g n P) : SetT w g n := by
  have hl := h.1
  refine ⟨fun o ho => ?_, fun o => h.frozenAt o⟩
  rw [h.cellAt o (by omega), List.getElem?_eq_getElem (by omega)]; exact ⟨_, rfl⟩

theorem MadeT.sets {w : World} {base g : Nat} {t : List ColB} {k : Nat} (h : MadeT w base g t k) : SetT w g (t.length + 8) := by
  obtain ⟨P, _, _, h3⟩ := h.ex
  exact h3.sets

theorem MarkedT.sets {w : World} {base g : Nat} {t : List ColB} {k : Nat} (h : MarkedT w base g t k) : SetT w g (t.length + 8) := by
  obtain ⟨P, _, _, h3⟩ := h.ex
  exact h3.sets

theorem keptSet {w : World} {base g n : Nat} {xs : List Value} (h : w.ownsRow base 61 4 (.slice (some ⟨g, 0, none⟩) n n) n xs) (o : Nat) (u : Value) : KeptT [61] base w (w.setCell ⟨g, o, none⟩ u) := by
  rcases h.2 with ⟨h', _⟩ | ⟨g', cap', cur, h', hb, hg, _⟩
  · simp at h'
  · simp only [Value.slice.injEq, Option.some.injEq, Addr.mk.injEq, and_true, true_and] at h'
    obtain ⟨rfl, rfl⟩ := h'
    exact (KeptT.refl _ _ _).set hg hb (by simp) u

/-- Four cells of a row. -/
abbrev set4W (w : World) (g k : Nat) (c : ColB) (v : Value) : World := (((w.setCell ⟨g, k * 4, none⟩ (.string ⟨c.name.toArray⟩)).setCell ⟨g, k * 4 + 1, none⟩ (.int .i64 c.kind)).setCell ⟨g, k * 4 + 2, none⟩ (.int .i64 c.key)).setCell ⟨g, k * 4 + 3, none⟩ v

theorem keptSet4 {w : World} {base g n : Nat} {xs : List Value} (h : w.ownsRow base 61 4 (.slice (some ⟨g, 0, none⟩) n n) n xs) (k : Nat) (c : ColB) (v : Value) : KeptT [61] base w (set4W w g k c v) := by
  have h1 := (h.stored (k * 4) (strB c.name)).1
  have h2 := (h1.stored (k * 4 + 1) (.int .i64 c.kind)).1
  have h3 := (h2.stored (k * 4 + 2) (.int .i64 c.key)).1
  exact (((keptSet h _ _).trans (keptSet h1 _ _)).trans (keptSet h2 _ _)).trans (keptSet h3 _ _)

theorem map_fst_length {P : List (ColB × Value)} {t : List ColB} (h : P.map Prod.fst = t) : P.length = t.length := by rw [← h, List.length_map]

theorem zeros_step {n k : Nat} (h : k < n) : List.replicate (n - k) zeroT = zeroT :: List.replicate (n - (k + 1)) zeroT := by
  rw [show n - k = (n - (k + 1)) + 1 by omega, List.replicate_succ]

/-- One column more. -/
theorem MadeT.step {wr w5 : World} {base g : Nat} {t : List ColB} {k : Nat} (h : MadeT wr base g t k) (hk : k < t.length) {v0 v : Value} (hb : Below (set4W wr g k t[k] v0).heap.size (set4W wr g k t[k] v0) w5)
    (ho : OwnCells w5 base v (t[k]).cells) : MadeT (w5.setCell ⟨g, k * 4 + 3, none⟩ v) base g t (k + 1) := by
  obtain ⟨P, h1, h2, h3⟩ := h.ex
  have hP : P.length = k := by rw [map_fst_length h1, List.length_take]; omega
  rw [zeros_step (by omega)] at h3
  have h4 := h3.set4 hP (t[k], v0)
  have hk4 := keptSet4 h3 k t[k] v0
  have h5 := own_laterT h4 hb
  have h6 := OwnT.set1 h5 hP v
  have hk6 := keptSet h5 (k * 4 + 3) v
  refine ⟨P ++ [(t[k], v)], ?_, ?_, ?_⟩
  · rw [List.map_append, h1, List.take_succ_eq_append_getElem hk]; rfl
  · intro p hp
    rcases List.mem_append.1 hp with hp | hp
    · exact (((h2 p hp).keptT hk4 (by decide)).later hb).keptT hk6 (by decide)
    · simp only [List.mem_cons, List.not_mem_nil, or_false] at hp
      subst hp
      exact ho.keptT hk6 (by decide)
  · rw [List.append_assoc]
    exact h6

theorem MadeT.marks {w : World} {base g : Nat} {t : List ColB} (h : MadeT w base g t t.length) : MarkedT w base g t 0 := by
  obtain ⟨P, h1, h2, h3⟩ := h.ex
  rw [List.take_length] at h1
  exact ⟨P, h1, h2, by simpa using h3⟩

theorem MarkedT.step {wr w5 : World} {base g : Nat} {t : List ColB} {m : Nat} (h : MarkedT wr base g t m) (hm : m < 8) (hb : Below wr.heap.size wr w5) : MarkedT (set4W w5 g (t.length + m) markCol (.slice none 0 0)) base g t (m + 1) := by
  obtain ⟨P, h1, h2, h3⟩ := h.ex
  have hP := map_fst_length h1
  have h5 := own_laterT h3 hb
  have e : P ++ (List.replicate m markT ++ List.replicate (8 - m) zeroT) = (P ++ List.replicate m markT) ++ zeroT :: List.replicate (8 - (m + 1)) zeroT := by
    rw [zeros_step (n := 8) hm, List.append_assoc]
  rw [e] at h5
  have h6 := OwnT.set4 h5 (k := t.length + m) (by simp [hP]) markT
  have hk := keptSet4 h5 (t.length + m) markCol (.slice none 0 0)
  refine ⟨P, h1, fun p hp => ((h2 p hp).later hb).keptT hk (by decide), ?_⟩
  have e2 : P ++ (List.replicate (m + 1) markT ++ List.replicate (8 - (m + 1)) zeroT) = (P ++ List.replicate m markT) ++ markT :: List.replicate (8 - (m + 1)) zeroT := by
    rw [List.replicate_succ']; simp
  rw [e2]
  exact h6

theorem MarkedT.handed {w : World} {base g : Nat} {t : List ColB} (h : MarkedT w base g t 8) : HandedT w base g t := by
  obtain ⟨P, h1, h2, h3⟩ := h.ex
  exact ⟨P, h1, h2, by simpa using h3⟩

theorem set4_below {w wr : World} {B g : Nat} (hB : Below B w wr) (hg : B ≤ g) (k : Nat) (c : ColB) (v : Value) : Below B w (set4W wr g k c v) :=
  (((hB.setCell (p := ⟨g, k * 4, none⟩) hg _).setCell (p := ⟨g, k * 4 + 1, none⟩) hg _).setCell (p := ⟨g, k * 4 + 2, none⟩) hg _).setCell (p := ⟨g, k * 4 + 3, none⟩) hg _

theorem MadeT.start {w : World} {base g : Nat} {t : List ColB} (h : OwnT w base g (t.length + 8) (List.replicate (t.length + 8) zeroT)) : MadeT w base g t 0 :=
  ⟨[], by simp, by simp, by simpa using h⟩

theorem MadeT.own_lt {w : World} {base g : Nat} {t : List ColB} {k : Nat} (h : MadeT w base g t k) : base ≤ g ∧ g < w.heap.size := by
  obtain ⟨P, _, _, h3⟩ := h.ex
  exact h3.lt g rfl

theorem MarkedT.own_lt {w : World} {base g : Nat} {t : List ColB} {k : Nat} (h : MarkedT w base g t k) : base ≤ g ∧ g < w.heap.size := by
  obtain ⟨P, _, _, h3⟩ := h.ex
  exact h3.lt g rfl

theorem HandedT.base_ {w : World} {b b' g : Nat} {t : List ColB} (h : HandedT w b g t) (hb : b' ≤ b) : HandedT w b' g t := by
  obtain ⟨P, h1, h2, h3, h4⟩ := h.ex
  refine ⟨P, h1, fun p hp => (h2 p hp).base_ hb, h3, ?_⟩
  rcases h4 with h4 | ⟨g, cap, cur, hv, hg, rest⟩
  · exact .inl h4
  · exact .inr ⟨g, cap, cur, hv, Nat.le_trans hb hg, rest⟩

theorem heap_later_ {w w' : World} {q : Nat} {o : Obj} (hb : Below w.heap.size w w') (h : w.heap[q]? = some o) : w'.heap[q]? = some o :=
  (hb.block q (Array.getElem?_eq_some_iff.1 h).1).trans h

theorem own_base {w : World} {b b' e s n : Nat} {v : Value} {xs : List Value} (h : w.ownsRow b e s v n xs) (hb : b' ≤ b) : w.ownsRow b' e s v n xs := by
  obtain ⟨h1, h2⟩ := h
  refine ⟨h1, ?_⟩
  rcases h2 with h2 | ⟨g, cap, cur, hv, hg, rest⟩
  · exact .inl h2
  · exact .inr ⟨g, cap, cur, hv, Nat.le_trans hb hg, rest⟩

theorem frozen_heap {w : World} {g : Nat} {cur : Array Value} {t : TypeId} (h : w.heap[g]? = some (.cells cur t (0, 0))) (o : Nat) : w.frozen? ⟨g, o, none⟩ = false := by
  simp [World.frozen?, h]

/-- A job's box, filled anew. -/
theorem setJ7 {w : World} {g B : Nat} {c0 c1 c2 c3 c4 c5 c6 : Value} {t : TypeId} (h : w.heap[g]? = some (.cells #[c0, c1, c2, c3, c4, c5, c6] t (0, 0))) (hB : B ≤ g) (v0 v1 v2 v3 v4 v5 v6 : Value) :
    (((((((w.setCell ⟨g, 0, none⟩ v0).setCell ⟨g, 1, none⟩ v1).setCell ⟨g, 2, none⟩ v2).setCell ⟨g, 3, none⟩ v3).setCell ⟨g, 4, none⟩ v4).setCell ⟨g, 5, none⟩ v5).setCell ⟨g, 6, none⟩ v6).heap[g]? = some (.cells #[v0, v1, v2, v3, v4, v5, v6] t (0, 0)) ∧
      KeptT [t] B w (((((((w.setCell ⟨g, 0, none⟩ v0).setCell ⟨g, 1, none⟩ v1).setCell ⟨g, 2, none⟩ v2).setCell ⟨g, 3, none⟩ v3).setCell ⟨g, 4, none⟩ v4).setCell ⟨g, 5, none⟩ v5).setCell ⟨g, 6, none⟩ v6) := by
  have k0 := (KeptT.refl [t] B w).set h hB (by simp) v0 (j := 0)
  have h0 := heap_setCell_same w g 0 _ t v0 h
  have k1 := k0.set h0 hB (by simp) v1 (j := 1)
  have h1 := heap_setCell_same _ g 1 _ t v1 h0
  have k2 := k1.set h1 hB (by simp) v2 (j := 2)
  have h2 := heap_setCell_same _ g 2 _ t v2 h1
  have k3 := k2.set h2 hB (by simp) v3 (j := 3)
  have h3 := heap_setCell_same _ g 3 _ t v3 h2
  have k4 := k3.set h3 hB (by simp) v4 (j := 4)
  have h4 := heap_setCell_same _ g 4 _ t v4 h3
  have k5 := k4.set h4 hB (by simp) v5 (j := 5)
  have h5 := heap_setCell_same _ g 5 _ t v5 h4
  have k6 := k5.set h5 hB (by simp) v6 (j := 6)
  have h6 := heap_setCell_same _ g 6 _ t v6 h5
  exact ⟨by rw [h6]; rfl, k6⟩

theorem cells7 {w : World} {g : Nat} {c0 c1 c2 c3 c4 c5 c6 : Value} {t : TypeId} (h : w.heap[g]? = some (.cells #[c0, c1, c2, c3, c4, c5, c6] t (0, 0))) :
    w.cell? ⟨g, 0, none⟩ = some c0 ∧ w.cell? ⟨g, 1, none⟩ = some c1 ∧ w.cell? ⟨g, 2, none⟩ = some c2 ∧ w.cell? ⟨g, 3, none⟩ = some c3 ∧ w.cell? ⟨g, 4, none⟩ = some c4 ∧ w.cell? ⟨g, 5, none⟩ = some c5 ∧ w.cell? ⟨g, 6, none⟩ = some c6 :=
  ⟨by rw [cell_of_heap h]; rfl, by rw [cell_of_heap h]; rfl, by rw [cell_of_heap h]; rfl, by rw [cell_of_heap h]; rfl, by rw [cell_of_heap h]; rfl, by rw [cell_of_heap h]; rfl, by rw [cell_of_heap h]; rfl⟩

set_option maxHeartbeats 4000000 in
theorem jobOf_any (a : Option Addr) (cap : Nat) (j : JobB) (w : World) (hj : LiesJ w a cap j) (hm : j.table.length * 56 ≤ 140737488351232) :
    Calls Tryz.prog 32 #[jobV (.slice a j.table.length cap) j] w fun e w' => ∃ g, e = .returned (jobV (.slice (some ⟨g, 0, none⟩) j.table.length (j.table.length + 8)) j) ∧ HandedT w' w.heap.size g j.table ∧ Below w.heap.size w w' := by
  obtain ⟨i1, hi1, hy0, hy1, hy2⟩ := info_parts Tryz.infoColumn
  have Hj := hid hj
  clear hj
  go_enter Tryz.func32, Tryz.ntmps32
  go_upto_region 2 with fail
  obtain ⟨hb0, hs0, _, hh0⟩ := boxedW w #[.slice a j.table.length cap, .int .i64 j.plan.group, .int .i64 j.plan.page, .int .i64 j.plan.foot, .bool j.plan.told, strB j.pre, .int .i64 j.draw] 26
  have hz0 : (w.alloc (.cells #[.slice a j.table.length cap, .int .i64 j.plan.group, .int .i64 j.plan.page, .int .i64 j.plan.foot, .bool j.plan.told, strB j.pre, .int .i64 j.draw] 26)).heap.size = w.heap.size + 1 := by simp
  generalize w.alloc (.cells #[.slice a j.table.length cap, .int .i64 j.plan.group, .int .i64 j.plan.page, .int .i64 j.plan.foot, .bool j.plan.told, strB j.pre, .int .i64 j.draw] 26) = w0 at *
  obtain ⟨hbR, hsR, _, hhR⟩ := boxedW w0 #[.slice none 0 0, .int .i64 0, .int .i64 0, .int .i64 0, .bool false, .string ⟨#[]⟩, .int .i64 0] 26
  have hzR : (w0.alloc (.cells #[.slice none 0 0, .int .i64 0, .int .i64 0, .int .i64 0, .bool false, .string ⟨#[]⟩, .int .i64 0] 26)).heap.size = w.heap.size + 2 := by simp [hz0]
  generalize w0.alloc (.cells #[.slice none 0 0, .int .i64 0, .int .i64 0, .int .i64 0, .bool false, .string ⟨#[]⟩, .int .i64 0] 26) = wa at *
  have HX := hid (heap_later_ hbR hh0)
  rw [hz0] at hhR
  have HR := hid hhR
  have HBa := hid (hb0.trans (hbR.mono hb0.size))
  have HJa := hid (Hj.out.later HBa.out)
  have HZ := hid hzR
  clear hb0 hh0 hbR hhR hs0 hsR hz0 hzR
  go_wp2_with (at_make; refine wpList_make_full _ rfl (.tmp 11) (.tmp 11) 22 rfl wa.heap.size 61 i1 (.agg #[.string ⟨#[]⟩, .int .i64 0, .int .i64 0, .slice none 0 0]) 4 Tryz.underlying22 hi1 hy0 hy1 .i64 .i64 _ _ (j.table.length + 8) rfl rfl (by omega) (by omega) (by rw [hy2]; omega) (by unfold maxLen; omega) (Nat.le_refl _) ?_; intro w3 hown hgr; rw [← colsC_zero] at hown)
  have HM3 : Hid (MadeT w3 wa.heap.size wa.heap.size j.table 0) := MadeT.start hown
  have hB3 : Below wa.heap.size wa w3 := (Below.refl _ _).grown hgr (Nat.le_refl _) (fun _ h => by cases h)
  clear hown hgr
  generalize hgg : wa.heap.size = g at *
  have Hgg := hid hgg
  have hpg : w.heap.size + 2 ≤ g := by have := HZ.out; omega
  clear hgg
  go_loopw [5] (fun i wr => ∃ k : Nat, k ≤ j.table.length ∧ i = .int .i64 (k : Int) ∧ MadeT wr g g j.table k ∧ Below g wa wr) (fun i _ => j.table.length - (intOf i).toNat)
  case atStart => exact ⟨0, Nat.zero_le _, rfl, HM3.out, hB3⟩
  case round =>
    clear hB3 HM3
    obtain ⟨k, hk, rfl, hM, hB⟩ := hrel
    have HM := hid hM
    have hgr := hM.own_lt.2
    have hsets := hM.sets
    clear hM
    by_cases hlt : k < j.table.length
    · have hB' : Below wa.heap.size wa wr := by rw [Hgg.out]; exact hB
      have hjr := HJa.out.table.later hB'
      obtain ⟨x0, _⟩ := cells7 (heap_later_ hB' HX.out)
      obtain ⟨b, off, rfl, hbw, hcell⟩ := HJa.out.table.at_ (List.ne_nil_of_length_pos (by omega))
      obtain ⟨g1, g2, g3, v, g4, ca, ccap, rfl, hcc, hcl, hcm⟩ := hcell k hlt
      have Hcl := hid hcl
      rw [Hgg.out] at hbw
      have e1 := (hB.cell (p := ⟨b, off + k * 4, none⟩) hbw).trans g1
      have e2 := (hB.cell (p := ⟨b, off + k * 4 + 1, none⟩) hbw).trans g2
      have e3 := (hB.cell (p := ⟨b, off + k * 4 + 2, none⟩) hbw).trans g3
      have e4 := (hB.cell (p := ⟨b, off + k * 4 + 3, none⟩) hbw).trans g4
      obtain ⟨u0, s0⟩ := hsets.cell (k * 4) (by omega)
      obtain ⟨u1, s1⟩ := hsets.cell (k * 4 + 1) (by omega)
      obtain ⟨u2, s2⟩ := hsets.cell (k * 4 + 2) (by omega)
      obtain ⟨u3, s3⟩ := hsets.cell (k * 4 + 3) (by omega)
      have f0 := hsets.free (k * 4)
      have f1 := hsets.free (k * 4 + 1)
      have f2 := hsets.free (k * 4 + 2)
      have f3 := hsets.free (k * 4 + 3)
      clear hcell hjr hcl hsets hB'
      have hki : (k : Int) < (j.table.length : Int) := by omega
      have Hc := hid (rfl : j.table[k] = j.table[k])
      go_upto_region 7 with fail
      have hB4 := set4_below hB (Nat.le_refl g) k (j.table[k]) (.slice ca (j.table[k]).cells.length ccap)
      have hzz : g < (set4W wr g k j.table[k] (.slice ca (j.table[k]).cells.length ccap)).heap.size := by simp; omega
      have HS := hid (fun w5 v (hb : Below (set4W wr g k j.table[k] (.slice ca (j.table[k]).cells.length ccap)).heap.size (set4W wr g k j.table[k] (.slice ca (j.table[k]).cells.length ccap)) w5) ho => HM.out.step hlt (v := v) hb ho)
      have hset4 : SetT (set4W wr g k j.table[k] (.slice ca (j.table[k]).cells.length ccap)) g (j.table.length + 8) := by
        obtain ⟨P, p1, p2, p3⟩ := HM.out.ex
        have hP : P.length = k := by rw [map_fst_length p1, List.length_take]; omega
        rw [zeros_step (by omega)] at p3
        exact (p3.set4 hP (j.table[k], _)).sets
      clear HM e1 e2 e3 e4 s0 s1 s2 s3 f0 f1 f2 f3 hB x0
      dsimp only [set4W] at hB4 hzz HS hset4
      generalize (((wr.setCell ⟨g, k * 4, none⟩ (.string ⟨(j.table[k]).name.toArray⟩)).setCell ⟨g, k * 4 + 1, none⟩ (.int .i64 (j.table[k]).kind)).setCell ⟨g, k * 4 + 2, none⟩ (.int .i64 (j.table[k]).key)).setCell ⟨g, k * 4 + 3, none⟩ (.slice ca (j.table[k]).cells.length ccap) = w4 at *
      have hB4' : Below wa.heap.size wa w4 := by rw [Hgg.out]; exact hB4
      obtain ⟨x0, _⟩ := cells7 (heap_later_ hB4' HX.out)
      have e4 := (hB4.cell (p := ⟨b, off + k * 4 + 3, none⟩) hbw).trans g4
      have Hl4 := hid (Hcl.out.later hB4')
      clear hB4' g1 g2 g3 g4
      go_wp2_with fail
      refine (cellsOf_any ca ccap (j.table[k]).cells w4 hcm Hl4.out).mono ?_
      rintro e w5 ⟨gi, rfl, hown5, hb5⟩
      have HM5 := hid (HS.out w5 _ hb5 ⟨gi, rfl, own_base hown5 (by have := hB4.size; rw [Hgg.out] at this; exact this)⟩)
      have HB5 := hid ((hB4.trans (hb5.mono (by omega))).setCell (p := ⟨g, k * 4 + 3, none⟩) (Nat.le_refl _) (.slice (some ⟨gi, 0, none⟩) (j.table[k]).cells.length ((j.table[k]).cells.length + 8)))
      obtain ⟨u3, s3⟩ := hset4.cell (k * 4 + 3) (by omega)
      have f3 := hset4.free (k * 4 + 3)
      have s3' := (hb5.cell (p := ⟨g, k * 4 + 3, none⟩) hzz).trans s3
      have f3' := (hb5.frozen (p := ⟨g, k * 4 + 3, none⟩) hzz).trans f3
      clear hown5 hb5 hset4 s3 f3 x0 e4 HS
      go_wp2
      go_roundw
      case rel => exact ⟨k + 1, by omega, by go_num, HM5.out, HB5.out⟩
      case measure => simp [intOf]; omega
    · have hke : k = j.table.length := by omega
      subst hke
      have HK0 := hid HM.out.marks
      clear HM hsets
      go_wp2_with fail
      go_loopw [6] (fun i wr => ∃ m : Nat, m ≤ 8 ∧ i = .int .i64 (m : Int) ∧ MarkedT wr g g j.table m ∧ Below g wa wr) (fun i _ => 8 - (intOf i).toNat)
      case atStart => exact ⟨0, Nat.zero_le _, rfl, HK0.out, hB⟩
      case round =>
        clear hB HK0
        rename_i wq _ _ _
        obtain ⟨m, hm8, rfl, hM, hB⟩ := hrel
        have HM := hid hM
        have hgr := hM.own_lt.2
        have hsets := hM.sets
        clear hM
        by_cases hlt8 : m < 8
        · obtain ⟨u0, s0⟩ := hsets.cell ((j.table.length + m) * 4) (by omega)
          obtain ⟨u1, s1⟩ := hsets.cell ((j.table.length + m) * 4 + 1) (by omega)
          obtain ⟨u2, s2⟩ := hsets.cell ((j.table.length + m) * 4 + 2) (by omega)
          obtain ⟨u3, s3⟩ := hsets.cell ((j.table.length + m) * 4 + 3) (by omega)
          have f0 := hsets.free ((j.table.length + m) * 4)
          have f1 := hsets.free ((j.table.length + m) * 4 + 1)
          have f2 := hsets.free ((j.table.length + m) * 4 + 2)
          have f3 := hsets.free ((j.table.length + m) * 4 + 3)
          have HM1 := hid (HM.out.step hlt8 (Below.refl _ _))
          have HB1 := hid (set4_below hB (Nat.le_refl g) (j.table.length + m) markCol (.slice none 0 0))
          clear hB hsets HM
          go_wp2
          go_roundw
          case rel => exact ⟨m + 1, by omega, by go_num, HM1.out, HB1.out⟩
          case measure => simp [intOf]; omega
        · have hm : m = 8 := by omega
          subst hm
          have HH := hid HM.out.handed
          have hB' : Below wa.heap.size wa wr := by rw [Hgg.out]; exact hB
          have hX := heap_later_ hB' HX.out
          have hR := heap_later_ hB' HR.out
          clear HM hsets hB'
          obtain ⟨x0, _⟩ := cells7 hX
          have fx0 := frozen_heap hX 0
          have HX1 := hid (heap_setCell_same wr w.heap.size 0 _ 26 (.slice (some ⟨g, 0, none⟩) j.table.length (j.table.length + 8)) hX)
          have HK1 := hid ((KeptT.refl [26] w.heap.size wr).set hX (Nat.le_refl _) (by simp) (.slice (some ⟨g, 0, none⟩) j.table.length (j.table.length + 8)) (j := 0))
          have hne : w.heap.size + 1 ≠ w.heap.size := by omega
          have HR1 := hid ((heap_setCell_other wr ⟨w.heap.size, 0, none⟩ (w.heap.size + 1) (.slice (some ⟨g, 0, none⟩) j.table.length (j.table.length + 8)) hne).trans hR)
          clear hX hR
          go_upto_region 13 with fail
          clear x0 fx0
          generalize wr.setCell ⟨w.heap.size, 0, none⟩ (.slice (some ⟨g, 0, none⟩) j.table.length (j.table.length + 8)) = wx at *
          obtain ⟨x0, x1, x2, x3, x4, x5, x6⟩ := cells7 HX1.out
          obtain ⟨y0, y1, y2, y3, y4, y5, y6⟩ := cells7 HR1.out
          have fy0 := frozen_heap HR1.out 0
          have fy1 := frozen_heap HR1.out 1
          have fy2 := frozen_heap HR1.out 2
          have fy3 := frozen_heap HR1.out 3
          have fy4 := frozen_heap HR1.out 4
          have fy5 := frozen_heap HR1.out 5
          have fy6 := frozen_heap HR1.out 6
          obtain ⟨hz7, hk7⟩ := setJ7 HR1.out (B := w.heap.size) (by omega) (.slice (some ⟨g, 0, none⟩) j.table.length (j.table.length + 8)) (.int .i64 j.plan.group) (.int .i64 j.plan.page) (.int .i64 j.plan.foot) (.bool j.plan.told) (strB j.pre) (.int .i64 j.draw)
          have HZ7 := hid hz7
          have HK7 := hid hk7
          clear hz7 hk7
          go_wp2
          generalize ((((((wx.setCell _ _).setCell _ _).setCell _ _).setCell _ _).setCell _ _).setCell _ _).setCell _ _ = W at *
          obtain ⟨d0, d1, d2, d3, d4, d5, d6⟩ := cells7 HZ7.out
          have hHF : HandedT W w.heap.size g j.table := ((HH.out.keptT HK1.out (by decide) (by decide)).keptT HK7.out (by decide) (by decide)).base_ (by omega)
          have hBF : Below w.heap.size w W := ((HBa.out.trans (hB.mono (by omega))).trans HK1.out.below).trans HK7.out.below
          exact bodyPost_ret (v := jobV (.slice (some ⟨g, 0, none⟩) j.table.length (j.table.length + 8)) j) (by simp [results, Tryz.results32, go_sem, d0, d1, d2, d3, d4, d5, d6]) rfl ⟨g, rfl, hHF, hBF⟩

end Go.Proofs.YthhpbhpfagoapaaGreat
