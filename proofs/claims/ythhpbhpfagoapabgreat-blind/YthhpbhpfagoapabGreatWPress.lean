
/-
  What the program's press does: it writes bytes, open modules and sealed ones; by walks.
-/
import Derived.Test.YthhpbhpfagoapabGreatWFoot
import Derived.Test.YthhpbhpfagoapabGreatWBound2
import Derived.Test.YthhpbhpfagoapabGreatBody
namespace Go.Proofs.YthhpbhpfagoapabGreat
open Go.RowKit
set_option linter.unusedVariables false
set_option linter.unusedSimpArgs false
set_option maxRecDepth 100000

/-- What a press may write into: itself, its bytes, its list of what was sealed. -/
abbrev pressT : List TypeId := [131, 5, 54]

abbrev pressC (tv rv ov lv : Value) (j : JobB) : Array Value := #[tv, .int .i64 j.plan.group, .int .i64 j.plan.page, .int .i64 j.plan.foot, .bool j.plan.told, strB j.pre, .int .i64 j.draw, rv, ov, lv]

/-- A press lies at q: the job, the ring, what is written so far, and what was sealed. -/
def PressAt (w : World) (B q : Nat) (tv rv : Value) (j : JobB) (st : StB) : Prop :=
  ∃ ov lv, w.heap[q]? = some (.cells (pressC tv rv ov lv j) 131 (0, 0)) ∧ B ≤ q ∧ w.ownsRow B 5 1 ov st.out.length (cellsB st.out) ∧ w.ownsRow B 54 4 lv st.log.length (sealsC st.log)

theorem PressAt.later {w w' : World} {B q : Nat} {tv rv : Value} {j : JobB} {st : StB} (h : PressAt w B q tv rv j st) (hb : Below w.heap.size w w') : PressAt w' B q tv rv j st := by
  obtain ⟨ov, lv, h1, h2, h3, h4⟩ := h
  exact ⟨ov, lv, heap_later hb h1, h2, own_after h3 hb, own_after h4 hb⟩

theorem PressAt.lt {w : World} {B q : Nat} {tv rv : Value} {j : JobB} {st : StB} (h : PressAt w B q tv rv j st) : B ≤ q ∧ q < w.heap.size := by
  obtain ⟨ov, lv, h1, h2, _⟩ := h
  exact ⟨h2, (Array.getElem?_eq_some_iff.1 h1).1⟩

theorem press_cells {w : World} {q : Nat} {tv rv ov lv : Value} {j : JobB} (h : w.heap[q]? = some (.cells (pressC tv rv ov lv j) 131 (0, 0))) :
    (w.cell? ⟨q, 0, none⟩ = some tv ∧ w.cell? ⟨q, 1, none⟩ = some (.int .i64 j.plan.group) ∧ w.cell? ⟨q, 2, none⟩ = some (.int .i64 j.plan.page) ∧ w.cell? ⟨q, 5, none⟩ = some (strB j.pre) ∧ w.cell? ⟨q, 6, none⟩ = some (.int .i64 j.draw) ∧ w.cell? ⟨q, 7, none⟩ = some rv ∧ w.cell? ⟨q, 8, none⟩ = some ov ∧ w.cell? ⟨q, 9, none⟩ = some lv) ∧ ∀ i, w.frozen? ⟨q, i, none⟩ = false := by
  refine ⟨⟨?_, ?_, ?_, ?_, ?_, ?_, ?_, ?_⟩, fun i => frozen_of_row w q i _ _ h⟩
  all_goals rw [cell_of_heap h]; rfl

theorem Tryz.infoSealed : (Tryz.prog.info? 54).map (fun i => (i.zero, i.size, i.bytes)) = some (some (.agg #[.string ⟨#[]⟩, .string ⟨#[]⟩, .string ⟨#[]⟩, .string ⟨#[]⟩]), 4, 64) := by kernel_rfl

/-- Two rows of different types are different rows. -/
theorem own_apart {w : World} {b1 b2 e1 e2 s1 s2 n1 n2 : Nat} {u v : Value} {xs ys : List Value} (h1 : w.ownsRow b1 e1 s1 u n1 xs) (h2 : w.ownsRow b2 e2 s2 v n2 ys) (he : e1 ≠ e2) : u.ownBlock = none ∨ u.ownBlock ≠ v.ownBlock := by
  rcases h1.2 with ⟨rfl, _⟩ | ⟨g, cap, cur, rfl, _, hg, _⟩
  · exact .inl rfl
  · right
    rcases h2.2 with ⟨rfl, _⟩ | ⟨g2, cap2, cur2, rfl, _, hg2, _⟩
    · simp [Value.ownBlock]
    · simp only [Value.ownBlock, ne_eq, Option.some.injEq]
      rintro rfl
      rw [hg] at hg2
      cases hg2
      exact he rfl

/-- A block is no row of another type. -/
theorem own_not {w : World} {b e s n q : Nat} {u : Value} {xs : List Value} {C : Array Value} {t : TypeId} (h : w.ownsRow b e s u n xs) (hq : w.heap[q]? = some (.cells C t (0, 0))) (ht : t ≠ e) : u.ownBlock ≠ some q := by
  rcases h.2 with ⟨rfl, _⟩ | ⟨g, cap, cur, rfl, _, hg, _⟩
  · simp [Value.ownBlock]
  · simp only [Value.ownBlock, ne_eq, Option.some.injEq]
    rintro rfl
    rw [hg] at hq
    cases hq
    exact ht rfl

/-- What owns a row is a slice. -/
theorem own_slice {w : World} {b e s n : Nat} {u : Value} {xs : List Value} (h : w.ownsRow b e s u n xs) : ∃ a c, u = .slice a n c := by
  rcases h.2 with ⟨rfl, rfl⟩ | ⟨g, cap, cur, rfl, _⟩
  · exact ⟨none, 0, rfl⟩
  · exact ⟨_, cap, rfl⟩

/-- The press's bytes were turned, and the new row is stored. -/
theorem press_out {w w2 : World} {B q n2 : Nat} {tv rv ov lv ov2 : Value} {j : JobB} {st : StB} {out2 : List UInt8}
    (hrow : w.heap[q]? = some (.cells (pressC tv rv ov lv j) 131 (0, 0))) (hB : B ≤ q) (hout : w.ownsRow B 5 1 ov st.out.length (cellsB st.out)) (hlog : w.ownsRow B 54 4 lv st.log.length (sealsC st.log))
    (hBw : B ≤ w.heap.size) (hown2 : w2.ownsRow B 5 1 ov2 n2 (cellsB out2)) (hn : n2 = out2.length) (hgr : w.grownBy w2 ov.ownBlock) :
    PressAt (w2.setCell ⟨q, 8, none⟩ ov2) B q tv rv j ⟨out2, st.log⟩ ∧ KeptT pressT B w (w2.setCell ⟨q, 8, none⟩ ov2) := by
  subst hn
  have hrow2 := heap_grown_keep hgr hout hrow (by decide)
  have hlog2 := hlog.kept hgr (own_apart hlog hout (by decide))
  have hset := heap_setCell_same w2 q 8 _ 131 ov2 hrow2
  have hg3 : w2.grownBy (w2.setCell ⟨q, 8, none⟩ ov2) (some q) := ⟨rfl, rfl, rfl, by simp, fun k _ hk => heap_setCell_other w2 ⟨q, 8, none⟩ k ov2 (fun e => hk (by simp [e]))⟩
  refine ⟨⟨ov2, lv, ?_, hB, hown2.kept hg3 (.inr (own_not hown2 hrow2 (by decide))), hlog2.kept hg3 (.inr (own_not hlog2 hrow2 (by decide)))⟩, ?_⟩
  · rw [hset]; rfl
  · refine KeptT.set ?_ hrow2 hB (by decide) ov2
    exact (KeptT.refl _ _ _).grown hgr hBw (rowOf_own hout (by decide))

/-- .. and what was sealed. -/
theorem press_log {w w2 : World} {B q n2 : Nat} {tv rv ov lv lv2 : Value} {j : JobB} {st : StB} {log2 : List SealB}
    (hrow : w.heap[q]? = some (.cells (pressC tv rv ov lv j) 131 (0, 0))) (hB : B ≤ q) (hout : w.ownsRow B 5 1 ov st.out.length (cellsB st.out)) (hlog : w.ownsRow B 54 4 lv st.log.length (sealsC st.log))
    (hBw : B ≤ w.heap.size) (hown2 : w2.ownsRow B 54 4 lv2 n2 (sealsC log2)) (hn : n2 = log2.length) (hgr : w.grownBy w2 lv.ownBlock) :
    PressAt (w2.setCell ⟨q, 9, none⟩ lv2) B q tv rv j ⟨st.out, log2⟩ ∧ KeptT pressT B w (w2.setCell ⟨q, 9, none⟩ lv2) := by
  subst hn
  have hrow2 := heap_grown_keep hgr hlog hrow (by decide)
  have hout2 := hout.kept hgr (own_apart hout hlog (by decide))
  have hset := heap_setCell_same w2 q 9 _ 131 lv2 hrow2
  have hg3 : w2.grownBy (w2.setCell ⟨q, 9, none⟩ lv2) (some q) := ⟨rfl, rfl, rfl, by simp, fun k _ hk => heap_setCell_other w2 ⟨q, 9, none⟩ k lv2 (fun e => hk (by simp [e]))⟩
  refine ⟨⟨ov, lv2, ?_, hB, hout2.kept hg3 (.inr (own_not hout2 hrow2 (by decide))), hown2.kept hg3 (.inr (own_not hown2 hrow2 (by decide)))⟩, ?_⟩
  · rw [hset]; rfl
  · refine KeptT.set ?_ hrow2 hB (by decide) lv2
    exact (KeptT.refl _ _ _).grown hgr hBw (rowOf_own hlog (by decide))

theorem flatten_take (ps : List (List UInt8)) (k : Nat) (h : k < ps.length) : (ps.take (k + 1)).flatten = (ps.take k).flatten ++ ps[k] := by
  rw [List.take_succ_eq_append_getElem h, List.flatten_append]; simp

theorem flatten_take_le (ps : List (List UInt8)) (k : Nat) : (ps.take k).flatten.length ≤ ps.flatten.length := by
  have : ps.flatten = (ps.take k).flatten ++ (ps.drop k).flatten := by rw [← List.flatten_append, List.take_append_drop]
  rw [this, List.length_append]; omega

set_option maxHeartbeats 2000000 in
theorem pwrite_any (B q pb n : Nat) (tv rv : Value) (j : JobB) (st : StB) (ps : List (List UInt8)) (w : World) (hn : ps.length = n) (hn9 : n ≤ 1000) (hs : st.out.length + ps.flatten.length ≤ 100000000)
    (hB : B ≤ w.heap.size) (hp : PressAt w B q tv rv j st) (hps : w.heap[pb]? = some (.cells (strs ps).toArray 9 (0, 0))) :
    Calls Tryz.prog 62 #[.pointer (some ⟨q, 0, none⟩), .slice (some ⟨pb, 0, none⟩) n n] w fun e w' => e = .returned (.tuple #[]) ∧ PressAt w' B q tv rv j ⟨st.out ++ ps.flatten, st.log⟩ ∧ KeptT pressT B w w' := by
  subst hn
  obtain ⟨i0, hi, hz0, hz1, hz2⟩ := info_parts Tryz.infoU8
  have Hp := hid hp
  have Hps := hid hps
  clear hp hps
  go_enter Tryz.func62, Tryz.ntmps62
  go_wp2
  go_loopw [8] (fun i wr => ∃ k : Nat, k ≤ ps.length ∧ i = .int .i64 (k : Int) ∧ PressAt wr B q tv rv j ⟨st.out ++ (ps.take k).flatten, st.log⟩ ∧ KeptT pressT B w wr) (fun i _ => ps.length - (intOf i).toNat)
  case atStart => exact ⟨0, Nat.zero_le _, rfl, by simpa using Hp.out, KeptT.refl _ _ _⟩
  case round =>
    obtain ⟨k, hkl, rfl, hpr, hK⟩ := hrel
    by_cases hlt : k < ps.length
    · have hki : (k : Int) < (ps.length : Int) := by omega
      obtain ⟨ov, lv, hrow, hBq, hout, hlog⟩ := hpr
      have hpk := hK.row Hps.out (by decide)
      have cp : wr.cell? ⟨pb, k, none⟩ = some (strB ps[k]) := by rw [cell_of_heap hpk]; simp [strs, hlt]
      obtain ⟨⟨c0, c1, c2, c5, c6, c7, c8, c9⟩, cf⟩ := press_cells hrow
      have cf8 := cf 8
      have HF := hid (flatten_take ps k hlt)
      have hle := flatten_take_le ps (k + 1)
      rw [HF.out, List.length_append] at hle
      have HA : Hid (st.out ++ (ps.take (k + 1)).flatten = (st.out ++ (ps.take k).flatten) ++ ps[k]) := by show _ = _; rw [HF.out, List.append_assoc]
      have hlen : (st.out ++ (ps.take k).flatten).length + (ps[k]).length ≤ 100000000 := by rw [List.length_append]; omega
      have hBr := Nat.le_trans hB hK.size
      have hz := strB_size ps[k]
      simp only at hout hlog
      generalize st.out ++ (ps.take k).flatten = out0 at *
      generalize ps[k] = part at *
      clear hpk c0 c1 c2 c5 c6 c7 c9 cf hle
      go_wp2_with (at_builtin; refine Lib.wpList_append_own_string _ rfl (.tmp 16) (.tmp 17) 64 9 rfl B 5 i0 Tryz.underlying64 Tryz.underlying9 hi hz0 hz1 hz2 _ _ _ rfl hout ⟨part.toArray⟩ rfl (by unfold maxLen; omega) (by omega) hBr ?_; intro v2 w2 hown2 hgr2 _; obtain ⟨a2, c2, rfl⟩ := own_slice hown2; have cf2 : w2.frozen? ⟨q, 8, none⟩ = false := frozen_of_row w2 q 8 _ _ (heap_grown_keep hgr2 hout hrow (by decide)); have hex2 : w2.cell? ⟨q, 8, none⟩ = some ov := (cell_of_heap (heap_grown_keep hgr2 hout hrow (by decide))).trans rfl)
      have HR := hid (press_out (st := ⟨out0, st.log⟩) (out2 := out0 ++ part) hrow hBq hout hlog hBr (by rw [cellsB_append]; exact hown2) (by rw [List.length_append, hz]) hgr2)
      clear hrow hout hlog hown2 hgr2 c8 cf8 cp
      go_wp2
      go_roundw
      case rel => exact ⟨k + 1, by omega, by go_num, by rw [HA.out]; exact HR.out.1, hK.trans HR.out.2⟩
      case measure => simp [intOf]; omega
    · have hke : k = ps.length := by omega
      subst hke
      rw [List.take_length] at hpr
      go_wp2
      go_end0
      exact ⟨rfl, hpr, hK⟩

end Go.Proofs.YthhpbhpfagoapabGreat
