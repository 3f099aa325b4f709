/-
  Proved: every Unpack, of any kind and any bytes, answers as the document says: the cells of the page, or ErrPage; no condition.
-/
import Derived.Test.YthhpbhpfagoapaaRWay3
import Derived.Test.YthhpbhpfagoapaaRWay4
import Derived.Test.YthhpbhpfagoapaaPPage
import Derived.Deep.RegionWith
import Derived.Test.YthhpbhpfagoapaaRGuess
import Derived.Test.YthhpbhpfagoapaaLUnpacks
import Derived.Test.YthhpbhpfagoapaaRCells
import Derived.Test.YthhpbhpfagoapaaRGuess2
import Derived.Test.YthhpbhpfagoapaaLCells
import Derived.Deep.CutBlock
import Derived.Test.YthhpbhpfagoapaaUnpacksF
namespace Go.Proofs.Ythhpbhpfagoapaa
open Go.RowKit
set_option linter.unusedVariables false
set_option maxRecDepth 100000

theorem way_any (n : Nat) (hn : n ≤ 5) (a : Option Addr) (cap : Nat) (l : List CellB) (w : World) (hv : Vals w a l) :
    Calls Try.prog 40 #[.int .i64 (n : Int), .slice a l.length cap] w fun e w' => e = .returned (strB (wayB n l)) ∧ Below w.heap.size w w' := by
  match n, hn with
  | 0, _ => exact way0 a cap l w hv
  | 1, _ => exact way1 a cap l w hv
  | 2, _ => exact way2 a cap l w hv
  | 3, _ => exact way3 a cap l w hv
  | 4, _ => exact way4 a cap l w hv
  | 5, _ => exact way5 a cap l w hv

/-- The numbers of a kind's ways, as they lie. -/
def waysC (kind : Int) : Array Value := #[.int .i64 (wayN kind 0 : Int), .int .i64 (wayN kind 1 : Int), .int .i64 (wayN kind 2 : Int)]

set_option maxHeartbeats 400000 in
theorem ways_any (kind : Int) (w : World) :
    Calls Try.prog 39 #[.int .i64 kind] w fun e w' => e = .returned (.slice (some ⟨w.heap.size, 0, none⟩) 3 3) ∧ w' = w.alloc (.cells (waysC kind) 3) := by
  by_cases hk : kind = 0
  · subst hk
    go_enter Try.func39, Try.ntmps39
    go_wp2
    go_ret
    exact ⟨rfl, rfl⟩
  · have hk2 : (kind == 0) = false := by simp [hk]
    have HW : Hid (waysC kind = #[.int .i64 5, .int .i64 3, .int .i64 4]) := by simp [Hid, waysC, wayN, hk]
    clear hk
    go_enter Try.func39, Try.ntmps39
    go_wp2
    go_ret
    exact ⟨rfl, by rw [HW.out]⟩

theorem ways_at (kind : Int) (w : World) (k : Nat) (hk : k < 3) : (w.alloc (.cells (waysC kind) 3)).cell? ⟨w.heap.size, k, none⟩ = some (.int .i64 (wayN kind k : Int)) := by
  rw [World.cell?_alloc_mark]
  match k, hk with
  | 0, _ => rfl
  | 1, _ => rfl
  | 2, _ => rfl

theorem wayN_le (kind : Int) (k : Nat) (hk : k < 3) : wayN kind k ≤ 5 := by
  unfold wayN; split
  · omega
  · split <;> omega

theorem Vals.alloc {w : World} {a : Option Addr} {l : List CellB} (h : Vals w a l) (o : Obj) : Vals (w.alloc o) a l := h.later ((Below.refl _ _).alloc (Nat.le_refl _) _)
theorem Vals.drew {w : World} {a : Option Addr} {l : List CellB} (h : Vals w a l) : Vals w.drew a l := h.later (Below.refl _ _).drew

theorem tmod5 (n : Nat) (h : n ≤ 5) : IntKind.u8.wrap ((n : Int).tmod 5) = (n : Int) % 5 := by
  rw [Int.tmod_eq_emod_of_nonneg (by omega), IntKind.wrap_u8]; omega

theorem conv_n (W : World) (n : Nat) (h : n ≤ 5) :
    Sem.run Try.prog (convert 43 9 (.slice (some ⟨W.heap.size, 0, none⟩) 1 1)) (W.alloc (.cells #[.int .u8 (IntKind.u8.wrap ((n : Int).tmod 5))] 5)) =
      .ok (strB [byB ((n : Int) % 5)]) (W.alloc (.cells #[.int .u8 (IntKind.u8.wrap ((n : Int).tmod 5))] 5)) := by
  rw [tmod5 n h]
  exact conv_one W _ (by omega) (by omega)

/-- The one cell, read in any later world. -/
theorem conv_nl (W : World) (n : Nat) (h : n ≤ 5) (w5 : World) (hb : Below (W.alloc (.cells #[.int .u8 (IntKind.u8.wrap ((n : Int).tmod 5))] 5)).heap.size (W.alloc (.cells #[.int .u8 (IntKind.u8.wrap ((n : Int).tmod 5))] 5)) w5) :
    Sem.run Try.prog (convert 43 9 (.slice (some ⟨W.heap.size, 0, none⟩) 1 1)) w5 = .ok (strB [byB ((n : Int) % 5)]) w5 := by
  refine run_convert_bytes_back (P := Try.prog) _ 43 9 5 ⟨W.heap.size, 0, none⟩ 1 [byB ((n : Int) % 5)] Try.underlying43 Try.underlying5 Try.underlying9 ?_
  intro j hj
  match j, hj with
  | 0, _ =>
    have e : (⟨W.heap.size, 0, none⟩ : Addr).add 0 = ⟨W.heap.size, 0, none⟩ := rfl
    rw [e, hb.cell (p := ⟨W.heap.size, 0, none⟩) (by simp), World.cell?_alloc_mark, tmod5 n h]
    simp [byB_toNat ((n : Int) % 5) (by omega) (by omega)]

theorem conv_nd (W : World) (n : Nat) (h : n ≤ 5) :
    Sem.run Try.prog (convert 43 9 (.slice (some ⟨W.heap.size, 0, none⟩) 1 1)) (W.alloc (.cells #[.int .u8 (IntKind.u8.wrap ((n : Int).tmod 5))] 5)).drew =
      .ok (strB [byB ((n : Int) % 5)]) (W.alloc (.cells #[.int .u8 (IntKind.u8.wrap ((n : Int).tmod 5))] 5)).drew :=
  conv_nl W n h _ (Below.refl _ _).drew

theorem later_below {wr w5 : World} {o : Obj} (hb : Below (wr.alloc o).drew.heap.size (wr.alloc o).drew w5) : Below wr.heap.size wr w5 :=
  ((Below.refl _ _).alloc (Nat.le_refl _) _).trans ((below_undrew hb).mono (by show wr.heap.size ≤ (wr.alloc o).heap.size; simp))

theorem later_cell {wr w5 : World} {o : Obj} {g k : Nat} {v : Value} (hb : Below (wr.alloc o).drew.heap.size (wr.alloc o).drew w5) (hg : g < wr.heap.size) (hc : wr.cell? ⟨g, k, none⟩ = some v) : w5.cell? ⟨g, k, none⟩ = some v :=
  ((later_below hb).cell (p := ⟨g, k, none⟩) hg).trans hc

theorem empty_of_len {l : List CellB} (h : l.length = 0) : l = [] := List.eq_nil_of_length_eq_zero h

set_option maxRecDepth 100000 in
set_option maxHeartbeats 4000000 in
theorem page_any (kind : Int) (a : Option Addr) (cap : Nat) (l : List CellB) (w : World) (hv : Vals w a l) :
    Calls Try.prog 18 #[.int .i64 kind, .slice a l.length cap] w fun e w' => e = .returned (strB (pageB kind l)) ∧ Below w.heap.size w w' := by
  have Hv := hid hv
  have hn := hv.few
  clear hv
  go_enter Try.func18, Try.ntmps18
  go_wp2_with fail
  refine (values_any a cap l _ (by omega) Hv.out.lies).mono ?_
  rintro e w1 ⟨vv, rfl, hown, hb1⟩
  have hmem : ∀ c ∈ valuesB l, c ∈ l := fun c hc => (List.mem_filter.1 hc).1
  have hsv : ∀ c ∈ valuesB l, smallC c := fun c hc => Hv.out.small c (hmem c hc)
  have hvl : (valuesB l).length ≤ l.length := List.length_filter_le _ _
  have HP : Hid (pageB kind l = if valuesB l = [] then headB l else headB l ++ bestTo kind (valuesB l) 3) := rfl
  have hhl := headB_len l hn
  obtain ⟨va, vcap, rfl, _, hLv⟩ := own_lies hown (fun c hc => okC_of (hsv c hc))
  have HV : Hid (Vals w1 va (valuesB l)) := ⟨hLv, hsv, by omega⟩
  have Hsv := hid hsv
  clear hown hLv hmem hsv
  generalize valuesB l = vs at *
  by_cases h0 : vs.length = 0
  · have HP2 : Hid (pageB kind l = headB l) := by have := HP.out; rw [if_pos (empty_of_len h0)] at this; exact this
    have hz : ((vs.length : Int) == 0) = true := beq_iff_eq.2 (by omega)
    clear h0
    go_wp2_with fail
    refine (head_any a cap l _ hn (Hv.out.later hb1).lies).mono ?_
    rintro e w2 ⟨rfl, hb2⟩
    go_wp2
    go_ret
    exact ⟨ret_str HP2.out.symm, hb1.trans (hb2.mono hb1.size)⟩
  · have HP2 : Hid (pageB kind l = headB l ++ bestTo kind vs 3) := by have := HP.out; rw [if_neg (fun h => h0 (by rw [h]; rfl))] at this; exact this
    have hz : ((vs.length : Int) == 0) = false := beq_eq_false_iff_ne.2 (by omega)
    clear h0 HP
    go_wp2_with fail
    refine (ways_any kind _).mono ?_
    rintro e w2 ⟨rfl, hw2⟩
    have hgw : w1.heap.size < w2.heap.size := by rw [hw2]; simp
    have hb2 : Below w1.heap.size w1 w2 := by rw [hw2]; exact (Below.refl _ _).alloc (Nat.le_refl _) _
    have HC : Hid (∀ k, k < 3 → w2.cell? ⟨w1.heap.size, k, none⟩ = some (.int .i64 (wayN kind k : Int))) := by intro k hk; rw [hw2]; exact ways_at kind w1 k hk
    have HV2 := hid (HV.out.later hb2)
    have hB2 := hb1.trans (hb2.mono hb1.size)
    clear hw2 hb2
    generalize hgg : w1.heap.size = gw at *
    have HGg := hid hgg
    clear hgg
    go_wp2_with fail
    go_loopw [7, 8] (fun s i wr => ∃ k : Nat, k ≤ 3 ∧ i = .int .i64 (k : Int) ∧ s = strB (bestTo kind vs k) ∧ Below w2.heap.size w2 wr) (fun _ i _ => 3 - (intOf i).toNat)
    case atStart => exact ⟨0, Nat.zero_le _, rfl, rfl, Below.refl _ _⟩
    case round =>
      obtain ⟨k, hk, rfl, rfl, hB⟩ := hrel
      have hbl := bestTo_len kind vs Hsv.out (by omega) k
      by_cases hlt : k < 3
      · have hck := (hB.cell (p := ⟨gw, k, none⟩) hgw).trans (HC.out k hlt)
        have hVr := HV2.out.later hB
        have HVr := hid hVr
        have hwn := wayN_le kind k hlt
        have HBt : Hid (bestTo kind vs (k + 1) = if k = 0 ∨ (candB (wayN kind k) vs).length < (bestTo kind vs k).length then candB (wayN kind k) vs else bestTo kind vs k) := rfl
        have hwl := wayB_len (wayN kind k) vs Hsv.out (by omega)
        clear hVr
        generalize wayN kind k = n at *
        generalize bestTo kind vs k = best at *
        have hcv := fun W => conv_one W ((n : Int) % 5) (by omega) (by omega)
        have hzr := hB.size
        go_upto_region 9 with fail
        go_cut [9] (fun s wd => s = strB (candB n vs) ∧ Below wr.heap.size wr wd)
        case first =>
          have hgr : gw < wr.heap.size := by omega
          have hq1 : ¬ (9223372036854775807 < 1 + (wayB n vs).length) := by omega
          clear hcv
          have hcv1 := fun W => conv_n W n hwn
          have hcv2 := fun W => conv_nd W n hwn
          go_region_with (first
            | (go_at_call 40; refine (way_any n hwn va vcap vs _ ?_).mono ?_; exact HVr.out.drew; rintro e w5 ⟨rfl, hb5⟩; have x5 : w5.cell? ⟨gw, k, none⟩ = some (.int .i64 (n : Int)) := (hb5.cell (p := ⟨gw, k, none⟩) hgr).trans hck; have hBw : Below wr.heap.size wr w5 := below_undrew hb5)
            | (go_at_call 40; refine (way_any n hwn va vcap vs _ ?_).mono ?_; exact (HVr.out.alloc _).drew; rintro e w5 ⟨rfl, hb5⟩; have x5 : w5.cell? ⟨gw, k, none⟩ = some (.int .i64 (n : Int)) := later_cell hb5 hgr hck; have hBw : Below wr.heap.size wr w5 := later_below hb5; have hcv5 := conv_nl wr n hwn w5 (below_undrew hb5)))
          all_goals
            go_wp2_with fail
            go_meet
            case rel => exact ⟨by simp [candB, app_str], by first | exact hBw | exact hBw.alloc hBw.size _⟩
        case rest =>
          obtain ⟨rfl, hBd⟩ := hcut
          have hB5 := hB.trans (hBd.mono hzr)
          have HB5 := hid hB5
          have hcl : (candB n vs).length ≤ 5001 := by simp only [candB, List.length_cons]; omega
          clear hB hBd hB5 hck hcv
          have hcs : (((k : Int) == 0) = true) ∨ (((k : Int) == 0) = false ∧ (candB n vs).length < best.length) ∨ (((k : Int) == 0) = false ∧ ¬ (candB n vs).length < best.length) := by
            by_cases h : k = 0
            · left; simp [h]
            · right
              by_cases h2 : (candB n vs).length < best.length
              · left; exact ⟨by simp; omega, h2⟩
              · right; exact ⟨by simp; omega, h2⟩
          rcases hcs with c1 | ⟨c1, c2⟩ | ⟨c1, c2⟩
          · have HB1 : Hid (bestTo kind vs (k + 1) = candB n vs) := by have := HBt.out; rw [if_pos (.inl (by simpa using c1))] at this; exact this
            generalize candB n vs = cd at *
            go_wp2
            go_roundw
            case rel => exact ⟨k + 1, by omega, by go_num, by rw [HB1.out], HB5.out⟩
            case measure => simp [intOf]; omega
          · have HB1 : Hid (bestTo kind vs (k + 1) = candB n vs) := by have := HBt.out; rw [if_pos (.inr c2)] at this; exact this
            generalize candB n vs = cd at *
            go_wp2
            go_roundw
            case rel => exact ⟨k + 1, by omega, by go_num, by rw [HB1.out], HB5.out⟩
            case measure => simp [intOf]; omega
          · have HB1 : Hid (bestTo kind vs (k + 1) = best) := by have := HBt.out; rw [if_neg (fun h => h.elim (by simpa using c1) c2)] at this; exact this
            generalize candB n vs = cd at *
            go_wp2
            go_roundw
            case rel => exact ⟨k + 1, by omega, by go_num, by rw [HB1.out], HB5.out⟩
            case measure => simp [intOf]; omega
      · have hk3 : k = 3 := by omega
        subst hk3
        have hB3 := hB2.trans (hB.mono hB2.size)
        go_wp2_with fail
        refine (head_any a cap l _ hn (Hv.out.later hB3).lies).mono ?_
        rintro e w5 ⟨rfl, hb5⟩
        go_wp2
        go_ret
        exact ⟨ret_app HP2.out.symm, hB3.trans (hb5.mono hB3.size)⟩

end Go.Proofs.Ythhpbhpfagoapaa

namespace Go.Proofs.Ythhpbhpfagoapaa
open Go.RowKit
set_option linter.unusedVariables false
set_option maxRecDepth 100000

def flagC (b : Bool) : CellB := ⟨b, 0, []⟩

/-- The runs so far. -/
structure Runs (w1 wr : World) (p : Nat) (s : List UInt8) (st : Option (List UInt8)) (lv : Value) (fl : List Bool) : Prop where
  row : wr.ownsRow w1.heap.size 48 3 lv fl.length (cellsC (fl.map flagC))
  spot : SpotAt wr p s st
  grown : w1.grownBy wr (some p)

theorem flag_ok (fl : List Bool) : ∀ c ∈ fl.map flagC, okC c := by
  intro c hc
  obtain ⟨b, _, rfl⟩ := List.mem_map.1 hc
  exact ⟨by simp [flagC], by simp [flagC], by simp [flagC]⟩

theorem runs_more {w1 w3 w4 : World} {p k : Nat} {s : List UInt8} {st : Option (List UInt8)} {lv lv' : Value} {fl : List Bool} {b : Bool} {o : Obj} (hp : p < w1.heap.size) (h : Runs w1 w3 p s st lv (fl ++ List.replicate k b))
    (hl : w4.ownsRow w1.heap.size 48 3 lv' ((fl ++ List.replicate k b).length + 1) (cellsC ((fl ++ List.replicate k b).map flagC) ++ [.bool b, .int .i64 0, strB []])) (hg : (w3.alloc o).grownBy w4 lv.ownBlock) :
    Runs w1 w4 p s st lv' (fl ++ List.replicate (k + 1) b) := by
  have hz := h.grown.size
  have hb : ∀ j, lv.ownBlock = some j → w1.heap.size ≤ j := fun j hj => (h.row.lt j hj).1
  rw [replicate_snoc]
  generalize fl ++ List.replicate k b = f' at *
  refine ⟨?_, ?_, ?_⟩
  · rw [List.map_append, List.map_singleton, cellsC_snoc, List.length_append]; exact hl
  · exact spot_kept (spot_alloc h.spot (by omega) o) (by simp; omega) hg (fun j hj => by have := hb j hj; omega)
  · exact grown_own (grown_alloc h.grown o) hg hb

theorem runsF_stop (n f : Nat) (l : List Bool) (b : Bool) (st : Option (List UInt8)) (h : ¬ (l.length < n ∧ st.isSome = true)) : runsF n f l b st = (l, st) := by
  cases f with
  | zero => rfl
  | succ f => rw [runsF, if_neg h]

theorem count_more (fl : List Bool) (k : Nat) : countB (fl ++ List.replicate k false) = countB fl + k ∧ countB (fl ++ List.replicate k true) = countB fl := by
  unfold countB
  rw [List.filter_append, List.filter_append, List.length_append, List.length_append, List.filter_replicate, List.filter_replicate]
  simp

theorem count_le (fl : List Bool) : countB fl ≤ fl.length := List.length_filter_le _ _

theorem unpage_kind {kind : Int} (h : ¬ (kind = 0 ∨ kind = 1)) (page : List UInt8) : unpageB kind page = none := by
  cases hx : unpageB kind page with
  | none => rfl
  | some l =>
    have := (unpage_some hx).1
    unfold cellsOkB at this
    simp only [Bool.and_eq_true, decide_eq_true_eq] at this
    exact absurd (by simpa using this.1.1) h

theorem rgrown_below {w w1 w2 : World} {p : Nat} (h1 : Below w.heap.size w w1) (hg : w1.grownBy w2 (some p)) (hp : w.heap.size ≤ p) : Below w.heap.size w w2 :=
  h1.grown hg h1.size (fun k hk => by simp at hk; omega)

theorem fillB_append (a b : List Bool) : ∀ (v : List CellB), fillB (a ++ b) v = fillB a v ++ fillB b (v.drop (countB a)) := by
  induction a with
  | nil => intro v; simp [fillB, countB]
  | cons x a ih =>
    intro v
    cases x with
    | true =>
      have hc : countB (true :: a) = countB a := by simp [countB]
      simp only [List.cons_append, fillB, hc]
      rw [ih]
    | false =>
      have hc : countB (false :: a) = countB a + 1 := by simp [countB]
      cases v with
      | nil =>
        simp only [List.cons_append, fillB, hc]
        rw [ih]
        simp
      | cons c v =>
        simp only [List.cons_append, fillB, hc]
        rw [ih]
        simp

theorem fillB_length (a : List Bool) : ∀ (v : List CellB), (fillB a v).length = a.length := by
  induction a with
  | nil => intro v; rfl
  | cons x a ih =>
    intro v
    cases x with
    | true => simp [fillB, ih]
    | false => cases v <;> simp [fillB, ih]

theorem fillB_zero (a : List Bool) (h : countB a = 0) (v : List CellB) : fillB a v = a.map flagC := by
  induction a with
  | nil => rfl
  | cons x a ih =>
    cases x with
    | true =>
      have hc : countB (true :: a) = countB a := by simp [countB]
      rw [hc] at h
      simp only [fillB, List.map_cons, ih h]
      rfl
    | false =>
      have hc : countB (false :: a) = countB a + 1 := by simp [countB]
      omega

theorem count_take_lt (fl : List Bool) (k : Nat) (hk : k < fl.length) (hf : fl[k] = false) : countB (fl.take k) < countB fl ∧ countB (fl.take (k + 1)) = countB (fl.take k) + 1 := by
  have h1 : fl.take (k + 1) = fl.take k ++ [fl[k]] := List.take_succ_eq_append_getElem hk
  have h2 : countB (fl.take (k + 1)) = countB (fl.take k) + 1 := by
    rw [h1, hf]
    exact (count_more (fl.take k) 1).1
  have h3 : countB (fl.take (k + 1)) + countB (fl.drop (k + 1)) = countB fl := by
    unfold countB
    rw [← List.length_append, ← List.filter_append, List.take_append_drop]
  exact ⟨by omega, h2⟩

theorem count_take_same (fl : List Bool) (k : Nat) (hk : k < fl.length) (hf : fl[k] = true) : countB (fl.take (k + 1)) = countB (fl.take k) := by
  rw [List.take_succ_eq_append_getElem hk, hf]
  exact (count_more (fl.take k) 1).2

/-- The list, filled up to k. -/
def midL (fl : List Bool) (v : List CellB) (k : Nat) : List CellB := fillB (fl.take k) v ++ (fl.drop k).map flagC

theorem mid_length (fl : List Bool) (v : List CellB) (k : Nat) : (midL fl v k).length = fl.length := by
  unfold midL
  rw [List.length_append, fillB_length, List.length_map, List.length_take, List.length_drop]; omega

theorem mid_zero (fl : List Bool) (v : List CellB) : midL fl v 0 = fl.map flagC := by simp [midL, fillB]

theorem mid_all (fl : List Bool) (v : List CellB) : midL fl v fl.length = fillB fl v := by simp [midL]

theorem mid_at (fl : List Bool) (v : List CellB) (k : Nat) (hk : k < fl.length) : (midL fl v k)[k]? = some (flagC fl[k]) := by
  unfold midL
  rw [List.getElem?_append_right (by rw [fillB_length, List.length_take]; omega), fillB_length, List.length_take, Nat.min_eq_left (by omega), Nat.sub_self, List.getElem?_map, List.getElem?_drop]
  simp [hk]

theorem mid_true (fl : List Bool) (v : List CellB) (k : Nat) (hk : k < fl.length) (hf : fl[k] = true) : midL fl v (k + 1) = midL fl v k := by
  unfold midL
  rw [List.take_succ_eq_append_getElem hk, fillB_append, List.drop_eq_getElem_cons hk, hf]
  simp [fillB, flagC]

theorem mid_false (fl : List Bool) (v : List CellB) (k : Nat) (hk : k < fl.length) (hf : fl[k] = false) (hv : countB (fl.take k) < v.length) : midL fl v (k + 1) = (midL fl v k).set k v[countB (fl.take k)] := by
  unfold midL
  rw [List.take_succ_eq_append_getElem hk, fillB_append, List.drop_eq_getElem_cons hk, hf]
  rw [List.set_append_right _ _ (by rw [fillB_length, List.length_take]; omega)]
  rw [List.drop_eq_getElem_cons hv]
  simp [fillB, fillB_length, Nat.min_eq_left (Nat.le_of_lt hk)]

theorem cellsC_set (l : List CellB) : ∀ (k : Nat) (c : CellB), k < l.length → (((cellsC l).set (k * 3) (.bool c.null)).set (k * 3 + 1) (.int .i64 c.int)).set (k * 3 + 2) (strB c.text) = cellsC (l.set k c) := by
  induction l with
  | nil => intro k c h; simp at h
  | cons x l ih =>
    intro k c h
    have e : ∀ y : CellB, ∀ m : List CellB, cellsC (y :: m) = .bool y.null :: .int .i64 y.int :: strB y.text :: cellsC m := by intro y m; simp [cellsC]
    cases k with
    | zero => simp [e]
    | succ k =>
      rw [e, List.set_cons_succ, e, ← ih k c (by simpa using h)]
      rw [show (k + 1) * 3 = k * 3 + 3 by omega]
      simp [List.set_cons_succ]

/-- A cell is put into an owned list. -/
theorem own_set {w : World} {B g cap : Nat} {l : List CellB} {c : CellB} {k : Nat} (h : w.ownsRow B 48 3 (.slice (some ⟨g, 0, none⟩) l.length cap) l.length (cellsC l)) (hk : k < l.length) :
    (((w.setCell ⟨g, k * 3, none⟩ (.bool c.null)).setCell ⟨g, k * 3 + 1, none⟩ (.int .i64 c.int)).setCell ⟨g, k * 3 + 2, none⟩ (strB c.text)).ownsRow B 48 3 (.slice (some ⟨g, 0, none⟩) l.length cap) l.length (cellsC (l.set k c)) := by
  rw [← cellsC_set l k c hk]
  exact (((h.stored _ _).1.stored _ _).1.stored _ _).1

theorem rfill_ok (a : List Bool) : ∀ (v : List CellB), (∀ c ∈ v, okC c) → ∀ c ∈ fillB a v, okC c := by
  induction a with
  | nil => intro v _ c hc; simp [fillB] at hc
  | cons x a ih =>
    intro v hv c hc
    have hz : ∀ b : Bool, okC ⟨b, 0, []⟩ := fun b => ⟨by simp, by simp, by simp⟩
    cases x with
    | true =>
      simp only [fillB, List.mem_cons] at hc
      rcases hc with rfl | hc
      · exact hz true
      · exact ih v hv c hc
    | false =>
      cases v with
      | nil =>
        simp only [fillB, List.mem_cons] at hc
        rcases hc with rfl | hc
        · exact hz _
        · exact ih _ hv c hc
      | cons y v =>
        simp only [fillB, List.mem_cons] at hc
        rcases hc with rfl | hc
        · exact hv _ (by simp)
        · exact ih v (fun z hz => hv z (by simp [hz])) c hc

/-- A cell of an owned list. -/
theorem own_at {w : World} {B g cap n : Nat} {l : List CellB} (h : w.ownsRow B 48 3 (.slice (some ⟨g, 0, none⟩) n cap) n (cellsC l)) (hn : l.length = n) (k : Nat) (hk : k < n) (c : CellB) (hc : l[k]? = some c) :
    w.cell? ⟨g, k * 3, none⟩ = some (.bool c.null) ∧ w.cell? ⟨g, k * 3 + 1, none⟩ = some (.int .i64 c.int) ∧ w.cell? ⟨g, k * 3 + 2, none⟩ = some (strB c.text) ∧ w.frozen? ⟨g, k * 3, none⟩ = false ∧ w.frozen? ⟨g, k * 3 + 1, none⟩ = false ∧ w.frozen? ⟨g, k * 3 + 2, none⟩ = false := by
  have hk2 : k < l.length := by omega
  obtain ⟨h1, h2, h3⟩ := cellsC_at l k hk2
  have hcl : l[k] = c := by rw [List.getElem?_eq_getElem hk2] at hc; exact Option.some.inj hc
  rw [hcl] at h1 h2 h3
  exact ⟨by rw [h.cellAt (k * 3) (by omega)]; exact h1, by rw [h.cellAt (k * 3 + 1) (by omega)]; exact h2, by rw [h.cellAt (k * 3 + 2) (by omega)]; exact h3, h.frozenAt _, h.frozenAt _, h.frozenAt _⟩

theorem spot_new (w : World) (s : List UInt8) : SpotAt (w.alloc (Obj.cells #[strB s, Value.int IntKind.i64 0, Value.bool false] 92)) w.heap.size s (some s) := by
  refine ⟨0, false, ?_, Nat.zero_le _, by simp⟩
  rw [World.alloc]
  simp

theorem own_set_grown (w : World) (g i j k : Nat) (a b c : Value) : w.grownBy (((w.setCell ⟨g, i, none⟩ a).setCell ⟨g, j, none⟩ b).setCell ⟨g, k, none⟩ c) (some g) := by
  refine ⟨rfl, rfl, rfl, by simp, fun m _ hm => ?_⟩
  have hne : m ≠ g := fun e => hm (by rw [e])
  rw [heap_setCell_other _ ⟨g, k, none⟩ m c hne, heap_setCell_other _ ⟨g, j, none⟩ m b hne, heap_setCell_other _ ⟨g, i, none⟩ m a hne]

end Go.Proofs.Ythhpbhpfagoapaa

namespace Go.Proofs.Ythhpbhpfagoapaa
open Go.RowKit
set_option linter.unusedVariables false
set_option maxRecDepth 100000

/-- Cells that may be are small. -/
theorem ok_small {kind : Int} {l : List CellB} (h : cellsOkB kind l = true) (hok : ∀ c ∈ l, okC c) : (∀ c ∈ l, smallC c) ∧ l.length ≤ 60 := by
  unfold cellsOkB at h
  simp only [Bool.and_eq_true, Bool.or_eq_true, decide_eq_true_eq, List.all_eq_true] at h
  obtain ⟨⟨hk, hl⟩, hf⟩ := h
  refine ⟨fun c hc => ?_, hl⟩
  obtain ⟨h0, h1, _⟩ := hok c hc
  refine ⟨h0, h1, ?_⟩
  have := hf c hc
  unfold fitsB at this
  split at this
  · simp at this; rw [this.2]; simp
  · split at this
    · simp at this; rw [this]; simp
    · simp at this; exact this.2

/-- What Pack answers. -/
def packS (kind : Int) (l : List CellB) : List UInt8 := if cellsOkB kind l = true then pageB kind l else []
def packE (kind : Int) (l : List CellB) : Int := if cellsOkB kind l = true then 0 else 5

end Go.Proofs.Ythhpbhpfagoapaa

namespace Go.Proofs.Ythhpbhpfagoapaa
open Go.RowKit
set_option linter.unusedVariables false
set_option maxRecDepth 100000

set_option maxRecDepth 100000 in
set_option maxHeartbeats 4000000 in
theorem unpage_in (kind : Int) (s : List UInt8) (w : World) (hk : kind = 0 ∨ kind = 1) (hs : s.length ≤ maxLen) :
    Calls Try.prog 41 #[.int .i64 kind, strB s] w fun e w' => ∃ v, e = .returned (.tuple #[v, .bool (unpageB kind s).isSome]) ∧ PageAns w' v (unpageB kind s) ∧ Below w.heap.size w w' := by
  obtain ⟨i1, hi1, hy0, hy1, hy2⟩ := info_parts Try.infoCell
  go_enter Try.func41, Try.ntmps41
  go_upto_region 1 with fail
  go_cut [23] (fun t wc => t = .bool false ∧ w = wc)
  case first =>
    have hkk : (kind != 0) = false ∨ (kind != 0) = true ∧ (kind != 1) = false := by rcases hk with rfl | rfl <;> simp
    rcases hkk with hk0 | ⟨hk0, hk1⟩
    · go_wp2_with fail
      go_meet
      case rel => exact ⟨rfl, rfl⟩
    · go_wp2_with fail
      go_meet
      case rel => exact ⟨rfl, rfl⟩
  case rest =>
    obtain ⟨rfl, rfl⟩ := hcut
    go_wp2_with fail
    have hsp1 := spot_new w s
    have HB1 := hid ((Below.refl w.heap.size w).alloc (Nat.le_refl _) (Obj.cells #[strB s, Value.int IntKind.i64 0, Value.bool false] 92))
    have hz1 : w.heap.size < (w.alloc (Obj.cells #[strB s, Value.int IntKind.i64 0, Value.bool false] 92)).heap.size := by simp
    generalize w.alloc (Obj.cells #[strB s, Value.int IntKind.i64 0, Value.bool false] 92) = w1 at *
    obtain ⟨p, hpe⟩ : ∃ p, p = w.heap.size := ⟨_, rfl⟩
    rw [← hpe] at hsp1 hz1 ⊢
    have Hpe := hid hpe
    clear hpe
    refine (few_any p s (some s) 60 _ hs (by decide) (by decide) hsp1).mono ?_
    rintro e w2 ⟨rfl, hsp2, hg2⟩
    have e60 : (60 : Int).toNat = 60 := rfl
    rw [e60] at hsp2 ⊢
    have hn := fewR_le 60 (some s)
    have HU : Hid (∃ n st2, fewR 60 (some s) = (n, st2)) := ⟨_, _, rfl⟩
    have HR0 : Hid (Runs w1 w2 p s (fewR 60 (some s)).2 (.slice none 0 0) []) := ⟨World.ownsRow_nil _ _ _ _, hsp2, hg2⟩
    obtain ⟨n, st2, hfe⟩ := HU.out
    rw [hfe] at hn HR0 ⊢
    have Hfe := hid hfe
    simp only at hn HR0 ⊢
    clear e60 hsp1 hsp2 hg2 HU hfe
    go_upto_block 0 with fail
    go_cut [8, 9, 10, 11, 12, 13] (fun lv cv _ _ _ _ wc => ∃ (fl : List Bool) (st3 : Option (List UInt8)), cv = .int .i64 (countB fl : Int) ∧ Runs w1 wc p s st3 lv fl ∧ fl.length ≤ n ∧ runsF n 200 [] false st2 = (fl, st3))
    case first =>
      go_wp2_with fail
      go_loopw [8, 9, 10, 11, 12, 13] (fun lv cv bv rv _ _ wr => ∃ (R : Nat) (fl : List Bool) (b : Bool) (str : Option (List UInt8)), R ≤ 200 ∧ rv = .int .i64 (R : Int) ∧ cv = .int .i64 (countB fl : Int) ∧ bv = .bool b ∧ Runs w1 wr p s str lv fl ∧ fl.length ≤ n ∧ runsF n (200 - R) fl b str = runsF n 200 [] false st2)
        (fun _ _ _ rv _ _ _ => 200 - (intOf rv).toNat)
      case atStart => exact ⟨0, [], false, st2, by omega, rfl, rfl, rfl, HR0.out, Nat.zero_le _, rfl⟩
      case round =>
        obtain ⟨R, fl, b, str, hR, rfl, rfl, rfl, hr, hfn, hrun⟩ := hrel
        obtain ⟨a, cap, rfl, _, _⟩ := own_lies hr.row (flag_ok fl)
        rw [List.length_map] at *
        obtain ⟨hbad, hbf⟩ := spot_isBad hr.spot
        have Hr := hid hr
        have Hrun := hid hrun
        clear hr hrun hbf
        have hcl := count_le fl
        by_cases hgo : fl.length < n ∧ R < 200 ∧ str.isSome = true
        · obtain ⟨hlt, hR2, hso⟩ := hgo
          obtain ⟨r0, rfl⟩ := Option.isSome_iff_exists.1 hso
          simp only [isBad] at hbad
          clear hso
          go_wp2_with fail
          refine (few_any p s (some r0) _ _ hs (by omega) (by omega) Hr.out.spot).mono ?_
          rintro e w3 ⟨rfl, hsp3, hg3⟩
          have e12 : ((n : Int) - (fl.length : Int)).toNat = n - fl.length := by omega
          rw [e12] at hsp3 ⊢
          have hfl := fewR_le (n - fl.length) (some r0)
          have Hrun2 : Hid (runsF n (200 - (R + 1)) (fl ++ List.replicate (fewR (n - fl.length) (some r0)).1 b) (!b) (fewR (n - fl.length) (some r0)).2 = runsF n 200 [] false st2) := by
            have h1 := Hrun.out
            rw [show 200 - R = (200 - (R + 1)) + 1 by omega, runsF, if_pos ⟨hlt, rfl⟩] at h1
            exact h1
          have HR3 : Hid (Runs w1 w3 p s (fewR (n - fl.length) (some r0)).2 (.slice a fl.length cap) (fl ++ List.replicate 0 b)) := by
            rw [List.replicate_zero, List.append_nil]
            exact ⟨keep_row Hr.out.row hz1 hg3, hsp3, grown_trans Hr.out.grown hg3⟩
          clear hsp3 hg3 Hr Hrun e12 hbad
          generalize fewR (n - fl.length) (some r0) = fr at *
          obtain ⟨k, st3⟩ := fr
          simp only at hfl Hrun2 HR3 ⊢
          go_wp2_with fail
          go_loopw [8, 13] (fun lv i w3 => ∃ j : Nat, j ≤ k ∧ i = .int .i64 (j : Int) ∧ Runs w1 w3 p s st3 lv (fl ++ List.replicate j b)) (fun _ i _ => k - (intOf i).toNat)
          case atStart => exact ⟨0, Nat.zero_le _, rfl, HR3.out⟩
          case round =>
            obtain ⟨j, hjk, rfl, hm⟩ := hrel
            have Hm := hid hm
            have hrow := hm.row
            have hzw := hm.grown.size
            clear hm HR3
            have hlr : (fl ++ List.replicate j b).length ≤ 60 := by rw [List.length_append, List.length_replicate]; omega
            by_cases hjl : j < k
            · go_wp2_with (at_builtin; refine wpList_append_own _ rfl (.tmp 57) (.tmp 60) 30 rfl w1.heap.size 48 i1 (.agg #[.bool false, .int .i64 0, .string ⟨#[]⟩]) 3 32 Try.underlying30 hi1 hy0 hy1 hy2 rfl (by decide) _ _ _ rfl (hrow.alloc _) ⟨_, 0, none⟩ 1 1 [.bool b, .int .i64 0, .string ⟨#[]⟩] rfl rfl ?c1 ?c2 ?c3 ?c4 ?c5 ?_)
              case c1 => exact cell_laid _ #[.bool b, .int .i64 0, .string ⟨#[]⟩] 48
              case c2 => intro u hu; simp at hu; rcases hu with rfl | rfl | rfl <;> rfl
              case c3 => unfold maxLen; omega
              case c4 => omega
              case c5 => simp; omega
              intro v4 w4 hl4 hg4 _
              have HR := hid (runs_more hz1 Hm.out (by rw [List.length_append, List.length_replicate, List.map_append, List.map_replicate]; exact hl4) hg4)
              clear hl4 hg4 hrow Hm
              go_wp2
              go_roundw
              case rel => exact ⟨j + 1, by omega, by go_num, HR.out⟩
              case measure => simp [intOf]; omega
            · have hje : j = k := by omega
              subst hje
              clear hjl hrow
              cases b with
              | true =>
                have HC : Hid (countB (fl ++ List.replicate j true) = countB fl) := (count_more fl j).2
                go_wp2_with fail
                go_roundw
                case rel => exact ⟨R + 1, _, false, _, by omega, by go_num, by rw [HC.out], rfl, Hm.out, by rw [List.length_append, List.length_replicate]; omega, Hrun2.out⟩
                case measure => simp [intOf]; omega
              | false =>
                have HC : Hid (countB (fl ++ List.replicate j false) = countB fl + j) := (count_more fl j).1
                go_wp2_with fail
                go_roundw
                case rel => exact ⟨R + 1, _, true, _, by omega, by go_num, by rw [HC.out]; go_num, rfl, Hm.out, by rw [List.length_append, List.length_replicate]; omega, Hrun2.out⟩
                case measure => simp [intOf]; omega
        · have HE : Hid (runsF n 200 [] false st2 = (fl, str)) := by
            rw [Hid, ← Hrun.out]
            by_cases hR3 : R < 200
            · exact runsF_stop _ _ _ _ _ (fun h => hgo ⟨h.1, hR3, h.2⟩)
            · rw [show 200 - R = 0 by omega]; rfl
          by_cases hlt : fl.length < n
          · by_cases hR3 : R < 200
            · have hb2 : isBad str = true := by
                cases str with
                | none => rfl
                | some x => exact absurd ⟨hlt, hR3, rfl⟩ hgo
              rw [hb2] at hbad
              clear hgo hb2
              go_wp2_with fail
              go_meet
              case rel => exact ⟨fl, str, rfl, Hr.out, hfn, HE.out⟩
            · have hR4 : R = 200 := by omega
              subst hR4
              clear hgo hR3 hbad
              go_wp2_with fail
              go_meet
              case rel => exact ⟨fl, str, rfl, Hr.out, hfn, HE.out⟩
          · have hle : n ≤ fl.length := by omega
            clear hgo hlt hbad
            go_wp2_with fail
            go_meet
            case rel => exact ⟨fl, str, rfl, Hr.out, hfn, HE.out⟩
    case rest =>
      obtain ⟨fl, st3, rfl, hr, hfn, hrun⟩ := hcut
      obtain ⟨a, cap, hlv, -, -⟩ := own_lies hr.row (flag_ok fl)
      rw [List.length_map] at hlv
      subst hlv
      obtain ⟨hbad, hbf⟩ := spot_isBad hr.spot
      have Hr := hid hr
      have Hrun := hid hrun
      have HB3 := hid (rgrown_below HB1.out hr.grown (Nat.le_of_eq Hpe.out.symm))
      clear hr hrun hbf HR0
      have hcl := count_le fl
      by_cases hno : st3 = none ∨ fl.length ≠ n
      · have HN : Hid (unpageB kind s = none) := by
          simp only [Hid, unpageB, cellsR, Hfe.out, Hrun.out]
          rw [if_pos hno]
        by_cases hb3 : st3 = none
        · subst hb3
          simp only [isBad] at hbad
          clear hno
          go_wp2_with fail
          go_ret2
          rw [HN.out]
          exact ⟨_, rfl, ⟨none, 0, rfl⟩, HB3.out⟩
        · have hb4 : isBad st3 = false := by
            cases st3 with
            | none => exact absurd rfl hb3
            | some x => rfl
          have hne : ((fl.length : Int) != (n : Int)) = true := by
            have : fl.length ≠ n := hno.resolve_left hb3
            simp; omega
          rw [hb4] at hbad
          clear hno hb3 hb4
          go_wp2
          go_ret2
          rw [HN.out]
          exact ⟨_, rfl, ⟨none, 0, rfl⟩, HB3.out⟩
      · have hno1 : st3 ≠ none := fun h => hno (.inl h)
        have hno2 : fl.length = n := Classical.byContradiction fun h => hno (.inr h)
        have hb4 : isBad st3 = false := by
          cases st3 with
          | none => exact absurd rfl hno1
          | some x => rfl
        subst hno2
        have hne : ((fl.length : Int) != (fl.length : Int)) = false := by simp
        rw [hb4] at hbad
        clear hno1 hb4
        go_upto_if 80 with fail
        go_cut [14, 15, 16] (fun _ _ _ wx => ∃ L : List CellB, L.length = fl.length ∧ (∀ c ∈ L, okC c) ∧ wx.ownsRow w1.heap.size 48 3 (.slice a fl.length cap) fl.length (cellsC L) ∧ Below w.heap.size w wx ∧ cellsR kind s = some L)
        case first =>
          have HC : Hid (cellsR kind s = if countB fl = 0 then some (fillB fl []) else if (guessR kind (countB fl) st3).2 = none ∨ (guessR kind (countB fl) st3).1.length ≠ countB fl then none else some (fillB fl (guessR kind (countB fl) st3).1)) := by
            simp only [Hid, cellsR, Hfe.out, Hrun.out]
            rw [if_neg hno]
          clear hno
          by_cases hc0 : countB fl = 0
          · have hcz : (countB fl : Int) = 0 := by omega
            have HE : Hid (cellsR kind s = some (fl.map flagC)) := by
              rw [Hid, HC.out, if_pos hc0, fillB_zero fl hc0]
            clear hc0
            go_wp2_with fail
            go_meet
            case rel => exact ⟨_, by simp, flag_ok fl, Hr.out.row, HB3.out, HE.out⟩
          · have hcp : (0 : Int) < (countB fl : Int) := by omega
            have hpc : p < wc.heap.size := Nat.lt_of_lt_of_le hz1 Hr.out.grown.size
            have hcn : countB fl ≤ 60 := by omega
            go_wp2_with fail
            refine (guessed_walk p s st3 kind (countB fl) _ hs hpc hcn hk Hr.out.spot).mono ?_
            rintro e w5 ⟨v5, rfl, hrow5, hok5, hsp5, hg5⟩
            have HC2 := HC.out
            rw [if_neg hc0] at HC2
            generalize guessR kind (countB fl) st3 = gr at *
            obtain ⟨V, st5⟩ := gr
            simp only at hrow5 hok5 hsp5 HC2
            have HC3 := hid HC2
            clear HC HC2 hc0
            obtain ⟨a5, cap5, rfl, -, -⟩ := own_lies hrow5 hok5
            obtain ⟨hbad5, -⟩ := spot_isBad hsp5
            have HW5 := hid hrow5
            have HO5 := hid hok5
            have HB5 := hid (HB3.out.grown hg5 HB3.out.size (fun k hk => by simp at hk; have := Hpe.out; omega))
            have HR5 := hid (keep_row Hr.out.row hz1 hg5)
            have hz5 := hg5.size
            clear hrow5 hok5 hsp5 hg5 hbad
            by_cases hno5 : st5 = none ∨ V.length ≠ countB fl
            · have HN : Hid (unpageB kind s = none) := by
                have h1 := HC3.out
                rw [if_pos hno5] at h1
                simp only [Hid, unpageB, h1]
              by_cases hb3 : st5 = none
              · subst hb3
                simp only [isBad] at hbad5
                clear hno5
                go_wp2_with fail
                go_ret2
                rw [HN.out]
                exact ⟨_, rfl, ⟨none, 0, rfl⟩, HB5.out⟩
              · have hb4 : isBad st5 = false := by
                  cases st5 with
                  | none => exact absurd rfl hb3
                  | some x => rfl
                have hne5 : ((V.length : Int) != (countB fl : Int)) = true := by
                  have : V.length ≠ countB fl := hno5.resolve_left hb3
                  simp; omega
                rw [hb4] at hbad5
                clear hno5 hb3 hb4
                go_wp2_with fail
                go_ret2
                rw [HN.out]
                exact ⟨_, rfl, ⟨none, 0, rfl⟩, HB5.out⟩
            · have hV1 : st5 ≠ none := fun h => hno5 (.inl h)
              have hV2 : V.length = countB fl := Classical.byContradiction fun h => hno5 (.inr h)
              have HE : Hid (cellsR kind s = some (fillB fl V)) := by
                have h1 := HC3.out
                rw [if_neg hno5] at h1
                exact h1
              have hb4 : isBad st5 = false := by
                cases st5 with
                | none => exact absurd rfl hV1
                | some x => rfl
              have hne5 : ((V.length : Int) != (countB fl : Int)) = false := by simp; omega
              rw [hb4] at hbad5
              have HV2 := hid hV2
              clear hno5 hV1 hb4 HC3 hV2
              go_upto_block 4 with fail
              obtain ⟨g, rfl, hgB⟩ : ∃ g, a = some ⟨g, 0, none⟩ ∧ w1.heap.size ≤ g := by
                rcases HR5.out.2 with ⟨h1, h2⟩ | ⟨g, c, cur, h1, h2, h3⟩
                · omega
                · simp only [Value.slice.injEq] at h1
                  exact ⟨g, h1.1, h2⟩
              have hgc : g < wc.heap.size := (Hr.out.row.lt g rfl).2
              clear hbad5 hne5
              go_wp2_with fail
              go_loopw [15, 16] (fun av i wr => ∃ k : Nat, k ≤ fl.length ∧ i = .int .i64 (k : Int) ∧ av = .int .i64 (countB (fl.take k) : Int) ∧ wr.ownsRow w1.heap.size 48 3 (.slice (some ⟨g, 0, none⟩) fl.length cap) fl.length (cellsC (midL fl V k)) ∧ wr.ownsRow wc.heap.size 48 3 (.slice a5 V.length cap5) V.length (cellsC V) ∧ Below w.heap.size w wr)
                (fun _ i _ => fl.length - (intOf i).toNat)
              case atStart => exact ⟨0, Nat.zero_le _, rfl, rfl, by rw [mid_zero]; exact HR5.out, HW5.out, HB5.out⟩
              case round =>
                obtain ⟨k, hkn, rfl, rfl, hrw, hvw, hB⟩ := hrel
                have Hrw := hid hrw
                have Hvw := hid hvw
                have HB := hid hB
                clear hrw hvw hB
                by_cases hlt : k < fl.length
                · have hrow := Hrw.out
                  obtain ⟨c1, c2, c3, f1, f2, f3⟩ := own_at hrow (by rw [mid_length]) k hlt (flagC fl[k]) (mid_at fl V k hlt)
                  cases hfk : fl[k] with
                  | true =>
                    rw [hfk] at c1 c2 c3
                    simp only [flagC] at c1 c2 c3
                    have HM : Hid (midL fl V (k + 1) = midL fl V k) := mid_true fl V k hlt hfk
                    have HA : Hid (countB (fl.take (k + 1)) = countB (fl.take k)) := count_take_same fl k hlt hfk
                    clear hrow hfk c2 c3 f1 f2 f3
                    go_wp2_with fail
                    go_roundw
                    case rel => exact ⟨k + 1, by omega, by go_num, by rw [HA.out], by rw [HM.out]; exact Hrw.out, Hvw.out, HB.out⟩
                    case measure => simp [intOf]; omega
                  | false =>
                    rw [hfk] at c1 c2 c3
                    simp only [flagC] at c1 c2 c3
                    obtain ⟨ht1, ht2⟩ := count_take_lt fl k hlt hfk
                    have HA := hid ht2
                    have hat : countB (fl.take k) < V.length := by rw [HV2.out]; exact ht1
                    have HM : Hid (midL fl V (k + 1) = (midL fl V k).set k (V[countB (fl.take k)]'hat)) := mid_false fl V k hlt hfk hat
                    obtain ⟨g5, rfl, hg5⟩ : ∃ g5, a5 = some ⟨g5, 0, none⟩ ∧ wc.heap.size ≤ g5 := by
                      rcases Hvw.out.2 with ⟨h1, h2⟩ | ⟨g, c, cur, h1, h2, h3⟩
                      · omega
                      · simp only [Value.slice.injEq] at h1
                        exact ⟨g, h1.1, h2⟩
                    obtain ⟨d1, d2, d3, -, -, -⟩ := own_at Hvw.out rfl (countB (fl.take k)) hat _ (List.getElem?_eq_getElem hat)
                    have hat6 : countB (fl.take k) ≤ 60 := by have := HV2.out; omega
                    generalize hatd : countB (fl.take k) = at_ at *
                    have hati : (at_ : Int) < (V.length : Int) := by omega
                    clear hrow hfk ht1 ht2
                    have HS : Hid ((((wr.setCell ⟨g, k * 3, none⟩ (.bool (V[at_]).null)).setCell ⟨g, k * 3 + 1, none⟩ (.int .i64 (V[at_]).int)).setCell ⟨g, k * 3 + 2, none⟩ (strB (V[at_]).text)).ownsRow w1.heap.size 48 3 (.slice (some ⟨g, 0, none⟩) fl.length cap) fl.length (cellsC (midL fl V (k + 1)))) := by
                      have h := own_set (l := midL fl V k) (c := V[at_]) (k := k) (by rw [mid_length]; exact Hrw.out) (by rw [mid_length]; exact hlt)
                      rw [mid_length] at h
                      rw [Hid, HM.out]
                      exact h
                    have HG := hid (own_set_grown wr g (k * 3) (k * 3 + 1) (k * 3 + 2) (.bool (V[at_]).null) (.int .i64 (V[at_]).int) (strB (V[at_]).text))
                    have HV : Hid ((((wr.setCell ⟨g, k * 3, none⟩ (.bool (V[at_]).null)).setCell ⟨g, k * 3 + 1, none⟩ (.int .i64 (V[at_]).int)).setCell ⟨g, k * 3 + 2, none⟩ (strB (V[at_]).text)).ownsRow wc.heap.size 48 3 (.slice (some ⟨g5, 0, none⟩) V.length cap5) V.length (cellsC V)) :=
                      Hvw.out.kept HG.out (.inr (by simp only [Value.ownBlock, ne_eq, Option.some.injEq]; omega))
                    have HB8 := hid (HB.out.grown HG.out HB.out.size (fun j hj => by simp at hj; have := HB1.out.size; omega))
                    go_wp2_with fail
                    go_roundw
                    case rel => exact ⟨k + 1, by omega, by go_num, by rw [HA.out]; go_num, HS.out, HV.out, HB8.out⟩
                    case measure => simp [intOf]; omega
                · have hke : k = fl.length := by omega
                  subst hke
                  go_wp2_with fail
                  go_meet
                  case rel => exact ⟨fillB fl V, fillB_length _ _, rfill_ok fl V HO5.out, by rw [← mid_all]; exact Hrw.out, HB.out, HE.out⟩
        case rest =>
          obtain ⟨L, hLn, hokL, hrowL, hBL, hcl2⟩ := hcut
          obtain ⟨a2, cap2, hav, -, hlies⟩ := own_lies hrowL hokL
          have HL := hid hlies
          have HB9 := hid hBL
          have HU : Hid (unpageB kind s = if cellsOkB kind L = true ∧ pageB kind L = s then some L else none) := by simp only [Hid, unpageB, hcl2]
          have hL60 : L.length ≤ 60 := by omega
          obtain ⟨rfl, hcc, rfl⟩ : a = a2 ∧ fl.length = L.length ∧ cap = cap2 := by simpa using hav
          have HOK := hid hokL
          rw [hcc]
          clear hav hrowL hokL hlies hBL hcl2 hno hne hcc hLn hfn hcl
          go_wp2_with fail
          refine (cells_any kind a cap L _ (by unfold maxLen; omega) HL.out).mono ?_
          rintro e w6 ⟨rfl, hb6⟩
          have HL6 := hid (HL.out.later hb6)
          have HB6 := hid (HB9.out.trans (hb6.mono HB9.out.size))
          clear hb6
          cases hok : cellsOkB kind L with
          | false =>
            have HN : Hid (unpageB kind s = none) := by
              rw [Hid, HU.out, if_neg (by simp [hok])]
            clear hok
            go_wp2_with fail
            go_ret2
            rw [HN.out]
            exact ⟨_, rfl, ⟨none, 0, rfl⟩, HB6.out⟩
          | true =>
            have hsm := (ok_small hok HOK.out).1
            have HV : Hid (Vals w6 a L) := ⟨HL6.out, hsm, hL60⟩
            have HU2 : Hid (unpageB kind s = if pageB kind L = s then some L else none) := by
              rw [Hid, HU.out, hok]; simp
            clear hok hsm
            go_wp2_with fail
            refine (page_any kind a cap L _ HV.out).mono ?_
            rintro e w7 ⟨rfl, hb7⟩
            have HL7 := hid (HL6.out.later hb7)
            have HB7 := hid (HB6.out.trans (hb7.mono HB6.out.size))
            clear hb7
            by_cases heq : pageB kind L = s
            · have HS9 : Hid (unpageB kind s = some L) := by rw [Hid, HU2.out, if_pos heq]
              rw [heq]
              clear HU2 HU heq
              go_wp2_with fail
              go_ret2
              rw [HS9.out]
              exact ⟨_, rfl, ⟨a, cap, rfl, HL7.out⟩, HB7.out⟩
            · have HN : Hid (unpageB kind s = none) := by rw [Hid, HU2.out, if_neg heq]
              have hbn : (pageB kind L == s) = false := by simp [heq]
              clear HU2 HU heq
              generalize pageB kind L = pg at *
              go_wp2_with fail
              go_ret2
              rw [HN.out]
              exact ⟨_, rfl, ⟨none, 0, rfl⟩, HB7.out⟩

set_option maxHeartbeats 1000000 in
theorem unpage_does : UnpageDoes := by
  intro kind page w h0 h1 hs
  by_cases hk : kind = 0 ∨ kind = 1
  · have hp : (Value.string page) = strB page.data.toList := by simp [strB]
    rw [hp]
    exact unpage_in kind page.data.toList w hk (by have : page.data.toList.length = page.size := rfl
                                                   omega)
  · have HN := hid (unpage_kind hk page.data.toList)
    have hk0 : (kind != 0) = true := by simp; omega
    have hk1 : (kind != 1) = true := by simp; omega
    clear hk
    go_enter Try.func41, Try.ntmps41
    go_wp2_with fail
    go_ret2
    rw [HN.out]
    exact ⟨_, rfl, ⟨none, 0, rfl⟩, Below.refl _ _⟩

end Go.Proofs.Ythhpbhpfagoapaa

namespace Go.Proofs.Ythhpbhpfagoapaa

theorem unpacks_holds : Rows.UnpacksSaid := unpacks.over unpage_does

#print axioms unpacks_holds

end Go.Proofs.Ythhpbhpfagoapaa
