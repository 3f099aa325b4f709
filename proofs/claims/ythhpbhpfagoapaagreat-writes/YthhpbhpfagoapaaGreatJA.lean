/-
  Proved: the law Writes, for every input: whatever job and ring are handed over, the call returns true, and each argument reads behind the call as it read before. No conditions.
-/
import Derived.Test.YthhpbhpfagoapaaGreatRWay
import Derived.Test.YthhpbhpfagoapaaGreatRWay4
import Derived.Test.YthhpbhpfagoapaaGreatPPage
import Derived.Deep.RegionWith
import Derived.Test.YthhpbhpfagoapaaGreatWTab
import Derived.Test.YthhpbhpfagoapaaGreatVSpots
import Derived.Test.YthhpbhpfagoapaaGreatWChunk
import Derived.Test.YthhpbhpfagoapaaGreatWPress
import Derived.Test.YthhpbhpfagoapaaGreatWFoot
import Derived.Test.YthhpbhpfagoapaaGreatWWrite
import Derived.Test.YthhpbhpfagoapaaGreatLKeys
import Derived.Test.YthhpbhpfagoapaaGreatLJob
import Derived.Test.YthhpbhpfagoapaaGreatLStill
import Derived.Test.YthhpbhpfagoapaaGreatLSeals
import Derived.Test.YthhpbhpfagoapaaGreatRCells
import Derived.ProofKit
import Derived.OpenShut
import Derived.Deep.Slices
import Derived.Deep.Strs
import Derived.SizedLaws
import Derived.Test.YthhpbhpfagoapaaGreatWJob
import Derived.Lib.SmallJoins
import Derived.Test.YthhpbhpfagoapaaGreatRows
import Derived.WalkKit
import Derived.ShutString
namespace Go.Proofs.YthhpbhpfagoapaaGreat
open Go.RowKit
set_option linter.unusedVariables false
set_option maxRecDepth 100000

set_option maxRecDepth 100000 in
set_option maxHeartbeats 4000000 in
theorem way3 (a : Option Addr) (cap : Nat) (l : List CellB) (w : World) (hv : Vals w a l) :
    Calls Tryz.prog 117 #[.int .i64 3, .slice a l.length cap] w fun e w' => e = .returned (strB (wayB 3 l)) ∧ Below w.heap.size w w' := by
  have Hv := hid hv
  have hn := hv.few
  clear hv
  go_enter Tryz.func117, Tryz.ntmps117
  go_wp2_with fail
  refine (different_any a cap l _ (by omega) Hv.out.lies).mono ?_
  rintro e w1 ⟨dv, rfl, hdown, hb1⟩
  obtain ⟨da, dcap, rfl, _, hLd⟩ := own_lies hdown (fun c hc => okC_of (Hv.out.small c (diffTo_mem l l.length (Nat.le_refl _) c hc)))
  have HLd := hid hLd
  have hsd : ∀ c ∈ diffB l, smallC c := fun c hc => Hv.out.small c (diffTo_mem l l.length (Nat.le_refl _) c hc)
  have Hsd := hid hsd
  have hdn : (diffB l).length ≤ 60 := Nat.le_trans (diffTo_len l l.length) hn
  clear hdown hLd hsd
  go_wp2_with fail
  refine (u_int _ _ (by omega) (by omega)).mono ?_
  rintro e w2 ⟨rfl, hb2⟩
  rw [Int.toNat_natCast]
  go_wp2_with fail
  go_loopw [5, 7] (fun s i wr => ∃ k : Nat, k ≤ (diffB l).length ∧ i = .int .i64 (k : Int) ∧ s = strB (wordsTo (diffB l) k) ∧ Below w1.heap.size w1 wr) (fun _ i _ => (diffB l).length - (intOf i).toNat)
  case atStart => exact ⟨0, Nat.zero_le _, rfl, rfl, hb2⟩
  case round =>
    clear hb2
    obtain ⟨k, hkl, rfl, rfl, hB⟩ := hrel
    by_cases hlt : k < (diffB l).length
    · have hlen := wordsTo_len (diffB l) Hsd.out hdn k
      have HS : Hid (wordsTo (diffB l) (k + 1) = wordsTo (diffB l) k ++ xB ((diffB l)[k]).text) := by
        show wordsTo (diffB l) k ++ xB (nthB (diffB l) k).text = _
        rw [nthB_at _ k hlt]
      obtain ⟨_, _, s3⟩ := Hsd.out (diffB l)[k] (List.getElem_mem hlt)
      obtain ⟨b, off, ha, hbw, hcell⟩ := (HLd.out.later hB).at_ (List.ne_nil_of_length_pos (by omega))
      obtain ⟨g1, g2, g3⟩ := hcell k hlt
      subst ha
      clear hcell
      have hbl := xB_len _ s3
      generalize wordsTo (diffB l) k = acc at *
      generalize ((diffB l)[k]).text = tx at *
      go_wp2_with fail
      refine (x_any _ _ (by rw [strB_size]; omega)).mono ?_
      rintro e w4 ⟨rfl, hb4⟩
      rw [mk_data]
      clear g1 g2 g3
      go_wp2
      go_roundw
      case rel => exact ⟨k + 1, by omega, by go_num, by rw [HS.out, app_str], hB.trans (hb4.mono hB.size)⟩
      case measure => simp [intOf]; omega
    · have hke : k = (diffB l).length := by omega
      subst hke
      have hwl := wordsTo_len (diffB l) Hsd.out hdn (diffB l).length
      generalize hW : wordsTo (diffB l) (diffB l).length = words at *
      have HW := hid hW
      clear hW
      go_wp2_with fail
      go_loopw [5, 8] (fun s i wr => ∃ k : Nat, k ≤ l.length ∧ i = .int .i64 (k : Int) ∧ s = strB (words ++ stepsTo 3 l k) ∧ Below w1.heap.size w1 wr) (fun _ i _ => l.length - (intOf i).toNat)
      case atStart => exact ⟨0, Nat.zero_le _, rfl, by simp [stepsTo], hB⟩
      case round =>
        clear hB
        obtain ⟨k, hkl, rfl, rfl, hB0⟩ := hrel
        have hB := hb1.trans (hB0.mono hb1.size)
        have hz1 := hB0.size
        by_cases hlt : k < l.length
        · have hlies := (Hv.out.later hB).lies
          have hlen := stepsTo_len 3 l Hv.out.small hn k
          have hstep := stepB_len 3 l Hv.out.small hn k
          have HS : Hid (stepsTo 3 l (k + 1) = stepsTo 3 l k ++ stepB 3 l k) := rfl
          have hsm := Hv.out.small l[k] (List.getElem_mem hlt)
          have hpr := small_prev l Hv.out.small k
          have HT : Hid (stepB 3 l k = uB (firstB (diffB l) (l[k]).text)) := by show uB (firstB (diffB l) (nthB l k).text) = _; rw [nthB_at l k hlt]
          have hfl := firstB_len (diffB l) (l[k]).text
          have hdl := diffTo_len l l.length
          have hdl2 : (diffB l).length ≤ 60 := Nat.le_trans hdl hn
          have Hex := hid (diffB_has l k hlt)
          clear hdl
          obtain ⟨b, off, ha, hbw, hcell⟩ := hlies.at_ (List.ne_nil_of_length_pos (by omega))
          subst ha
          have Hcell := hid hcell
          clear hlies
          obtain ⟨g1, g2, g3⟩ := hcell k hlt
          clear hcell
          generalize stepsTo 3 l k = acc at *
          have hz0 := hB.size
          go_upto_if 47 with fail
          go_cut [10] (fun p wc => p = .pointer (some ⟨wr.heap.size + 1, 0, none⟩) ∧ Holds3 wc wr.heap.size l[k] ∧ Holds3 wc (wr.heap.size + 1) (prevB l k) ∧ Below wr.heap.size wr wc ∧ wc.heap.size = wr.heap.size + 2)
          case first =>
            by_cases hk0 : k = 0
            · subst hk0
              go_wp2
              go_meet
              case rel => exact ⟨rfl, two_blocks wr l[0] cellD⟩
            · obtain ⟨m, rfl⟩ : ∃ m, k = m + 1 := ⟨k - 1, by omega⟩
              obtain ⟨f1, f2, f3⟩ := Hcell.out m (by omega)
              have hpm : prevB l (m + 1) = l[m] := by unfold prevB; rw [if_neg (by omega)]; exact nthB_at l m (by omega)
              have Hpm := hid hpm
              clear hpm
              go_wp2
              go_meet
              case rel => exact ⟨rfl, by rw [Hpm.out]; exact two_blocks wr l[m + 1] l[m]⟩
          case rest =>
            obtain ⟨rfl, hh1, hh2, hb3, hsz⟩ := hcut
            obtain ⟨v1, v2, v3⟩ := hh1
            obtain ⟨q1, q2, q3⟩ := hh2
            have hB3 := hB.trans (hb3.mono hz0)
            have hz3 := hB3.size
            obtain ⟨s1, s2, s3⟩ := hsm
            obtain ⟨r1, r2, r3⟩ := hpr
            have HB3 := hid hb3
            clear g1 g2 g3 hb3 hB
            have hLd := (HLd.out.later hB0).later HB3.out
            have HLd2 := hid hLd
            clear hLd
            have hbl := uB_len10 (firstB (diffB l) (l[k]).text) (by omega)
            go_wp2_with fail
            refine (first_any da dcap (diffB l) (l[k]).text _ (by omega) HLd2.out Hex.out).mono ?_
            rintro e wc ⟨rfl, rfl⟩
            generalize firstB (diffB l) (l[k]).text = ff at *
            go_wp2_with fail
            refine (u_int _ _ (by omega) (by omega)).mono ?_
            rintro e w4 ⟨rfl, hb4⟩
            rw [Int.toNat_natCast]
            have HB4 := hid ((hB0.trans (HB3.out.mono hz1)).trans (hb4.mono (Nat.le_trans hz1 HB3.out.size)))
            go_wp2
            go_roundw
            case rel => exact ⟨k + 1, by omega, by go_num, by rw [HS.out, HT.out, ← List.append_assoc, app_str], HB4.out⟩
            case measure => simp [intOf]; omega
        · have hke : k = l.length := by omega
          subst hke
          go_wp2
          go_ret
          exact ⟨ret_str (by unfold wayB; rw [if_pos rfl, HW.out]), hB⟩

end Go.Proofs.YthhpbhpfagoapaaGreat

namespace Go.Proofs.YthhpbhpfagoapaaGreat
open Go.RowKit
set_option linter.unusedVariables false
set_option maxRecDepth 100000

theorem way_any (n : Nat) (hn : n ≤ 5) (a : Option Addr) (cap : Nat) (l : List CellB) (w : World) (hv : Vals w a l) :
    Calls Tryz.prog 117 #[.int .i64 (n : Int), .slice a l.length cap] w fun e w' => e = .returned (strB (wayB n l)) ∧ Below w.heap.size w w' := by
  match n, hn with
  | 0, _ => exact way0 a cap l w hv
  | 1, _ => exact way1 a cap l w hv
  | 2, _ => exact way2 a cap l w hv
  | 3, _ => exact way3 a cap l w hv
  | 4, _ => exact way4 a cap l w hv
  | 5, _ => exact way5 a cap l w hv

/-- The numbers of a kind's ways, as they lie. -/
def waysC (kind : Int) : Array Value := #[.int .i64 (wayN kind 0 : Int), .int .i64 (wayN kind 1 : Int), .int .i64 (wayN kind 2 : Int)]

set_option maxHeartbeats 400000 in
theorem ways_any (kind : Int) (w : World) :
    Calls Tryz.prog 116 #[.int .i64 kind] w fun e w' => e = .returned (.slice (some ⟨w.heap.size, 0, none⟩) 3 3) ∧ w' = w.alloc (.cells (waysC kind) 3) := by
  by_cases hk : kind = 0
  · subst hk
    go_enter Tryz.func116, Tryz.ntmps116
    go_wp2
    go_ret
    exact ⟨rfl, rfl⟩
  · have hk2 : (kind == 0) = false := by simp [hk]
    have HW : Hid (waysC kind = #[.int .i64 5, .int .i64 3, .int .i64 4]) := by simp [Hid, waysC, wayN, hk]
    clear hk
    go_enter Tryz.func116, Tryz.ntmps116
    go_wp2
    go_ret
    exact ⟨rfl, by rw [HW.out]⟩

theorem ways_at (kind : Int) (w : World) (k : Nat) (hk : k < 3) : (w.alloc (.cells (waysC kind) 3)).cell? ⟨w.heap.size, k, none⟩ = some (.int .i64 (wayN kind k : Int)) := by
  rw [World.cell?_alloc_mark]
  match k, hk with
  | 0, _ => rfl
  | 1, _ => rfl
  | 2, _ => rfl

theorem wayN_le (kind : Int) (k : Nat) (hk : k < 3) : wayN kind k ≤ 5 := by
  unfold wayN; split
  · omega
  · split <;> omega

theorem Vals.alloc {w : World} {a : Option Addr} {l : List CellB} (h : Vals w a l) (o : Obj) : Vals (w.alloc o) a l := h.later ((Below.refl _ _).alloc (Nat.le_refl _) _)
theorem Vals.drew {w : World} {a : Option Addr} {l : List CellB} (h : Vals w a l) : Vals w.drew a l := h.later (Below.refl _ _).drew

theorem tmod5 (n : Nat) (h : n ≤ 5) : IntKind.u8.wrap ((n : Int).tmod 5) = (n : Int) % 5 := by
  rw [Int.tmod_eq_emod_of_nonneg (by omega), IntKind.wrap_u8]; omega

theorem conv_n (W : World) (n : Nat) (h : n ≤ 5) :
    Sem.run Tryz.prog (convert 149 9 (.slice (some ⟨W.heap.size, 0, none⟩) 1 1)) (W.alloc (.cells #[.int .u8 (IntKind.u8.wrap ((n : Int).tmod 5))] 5)) =
      .ok (strB [byB ((n : Int) % 5)]) (W.alloc (.cells #[.int .u8 (IntKind.u8.wrap ((n : Int).tmod 5))] 5)) := by
  rw [tmod5 n h]
  exact conv_one W _ (by omega) (by omega)

/-- The one cell, read in any later world. -/
theorem conv_nl (W : World) (n : Nat) (h : n ≤ 5) (w5 : World) (hb : Below (W.alloc (.cells #[.int .u8 (IntKind.u8.wrap ((n : Int).tmod 5))] 5)).heap.size (W.alloc (.cells #[.int .u8 (IntKind.u8.wrap ((n : Int).tmod 5))] 5)) w5) :
    Sem.run Tryz.prog (convert 149 9 (.slice (some ⟨W.heap.size, 0, none⟩) 1 1)) w5 = .ok (strB [byB ((n : Int) % 5)]) w5 := by
  refine run_convert_bytes_back (P := Tryz.prog) _ 149 9 5 ⟨W.heap.size, 0, none⟩ 1 [byB ((n : Int) % 5)] Tryz.underlying149 Tryz.underlying5 Tryz.underlying9 ?_
  intro j hj
  match j, hj with
  | 0, _ =>
    have e : (⟨W.heap.size, 0, none⟩ : Addr).add 0 = ⟨W.heap.size, 0, none⟩ := rfl
    rw [e, hb.cell (p := ⟨W.heap.size, 0, none⟩) (by simp), World.cell?_alloc_mark, tmod5 n h]
    simp [byB_toNat ((n : Int) % 5) (by omega) (by omega)]

theorem conv_nd (W : World) (n : Nat) (h : n ≤ 5) :
    Sem.run Tryz.prog (convert 149 9 (.slice (some ⟨W.heap.size, 0, none⟩) 1 1)) (W.alloc (.cells #[.int .u8 (IntKind.u8.wrap ((n : Int).tmod 5))] 5)).drew =
      .ok (strB [byB ((n : Int) % 5)]) (W.alloc (.cells #[.int .u8 (IntKind.u8.wrap ((n : Int).tmod 5))] 5)).drew :=
  conv_nl W n h _ (Below.refl _ _).drew

theorem later_below {wr w5 : World} {o : Obj} (hb : Below (wr.alloc o).drew.heap.size (wr.alloc o).drew w5) : Below wr.heap.size wr w5 :=
  ((Below.refl _ _).alloc (Nat.le_refl _) _).trans ((below_undrew hb).mono (by show wr.heap.size ≤ (wr.alloc o).heap.size; simp))

theorem later_cell {wr w5 : World} {o : Obj} {g k : Nat} {v : Value} (hb : Below (wr.alloc o).drew.heap.size (wr.alloc o).drew w5) (hg : g < wr.heap.size) (hc : wr.cell? ⟨g, k, none⟩ = some v) : w5.cell? ⟨g, k, none⟩ = some v :=
  ((later_below hb).cell (p := ⟨g, k, none⟩) hg).trans hc

theorem empty_of_len {l : List CellB} (h : l.length = 0) : l = [] := List.eq_nil_of_length_eq_zero h

set_option maxRecDepth 100000 in
set_option maxHeartbeats 4000000 in
theorem page_any (kind : Int) (a : Option Addr) (cap : Nat) (l : List CellB) (w : World) (hv : Vals w a l) :
    Calls Tryz.prog 52 #[.int .i64 kind, .slice a l.length cap] w fun e w' => e = .returned (strB (pageB kind l)) ∧ Below w.heap.size w w' := by
  have Hv := hid hv
  have hn := hv.few
  clear hv
  go_enter Tryz.func52, Tryz.ntmps52
  go_wp2_with fail
  refine (values_any a cap l _ (by omega) Hv.out.lies).mono ?_
  rintro e w1 ⟨vv, rfl, hown, hb1⟩
  have hmem : ∀ c ∈ valuesB l, c ∈ l := fun c hc => (List.mem_filter.1 hc).1
  have hsv : ∀ c ∈ valuesB l, smallC c := fun c hc => Hv.out.small c (hmem c hc)
  have hvl : (valuesB l).length ≤ l.length := List.length_filter_le _ _
  have HP : Hid (pageB kind l = if valuesB l = [] then headB l else headB l ++ bestTo kind (valuesB l) 3) := rfl
  have hhl := headB_len l hn
  obtain ⟨va, vcap, rfl, _, hLv⟩ := own_lies hown (fun c hc => okC_of (hsv c hc))
  have HV : Hid (Vals w1 va (valuesB l)) := ⟨hLv, hsv, by omega⟩
  have Hsv := hid hsv
  clear hown hLv hmem hsv
  generalize valuesB l = vs at *
  by_cases h0 : vs.length = 0
  · have HP2 : Hid (pageB kind l = headB l) := by have := HP.out; rw [if_pos (empty_of_len h0)] at this; exact this
    have hz : ((vs.length : Int) == 0) = true := beq_iff_eq.2 (by omega)
    clear h0
    go_wp2_with fail
    refine (head_any a cap l _ hn (Hv.out.later hb1).lies).mono ?_
    rintro e w2 ⟨rfl, hb2⟩
    go_wp2
    go_ret
    exact ⟨ret_str HP2.out.symm, hb1.trans (hb2.mono hb1.size)⟩
  · have HP2 : Hid (pageB kind l = headB l ++ bestTo kind vs 3) := by have := HP.out; rw [if_neg (fun h => h0 (by rw [h]; rfl))] at this; exact this
    have hz : ((vs.length : Int) == 0) = false := beq_eq_false_iff_ne.2 (by omega)
    clear h0 HP
    go_wp2_with fail
    refine (ways_any kind _).mono ?_
    rintro e w2 ⟨rfl, hw2⟩
    have hgw : w1.heap.size < w2.heap.size := by rw [hw2]; simp
    have hb2 : Below w1.heap.size w1 w2 := by rw [hw2]; exact (Below.refl _ _).alloc (Nat.le_refl _) _
    have HC : Hid (∀ k, k < 3 → w2.cell? ⟨w1.heap.size, k, none⟩ = some (.int .i64 (wayN kind k : Int))) := by intro k hk; rw [hw2]; exact ways_at kind w1 k hk
    have HV2 := hid (HV.out.later hb2)
    have hB2 := hb1.trans (hb2.mono hb1.size)
    clear hw2 hb2
    generalize hgg : w1.heap.size = gw at *
    have HGg := hid hgg
    clear hgg
    go_wp2_with fail
    go_loopw [7, 8] (fun s i wr => ∃ k : Nat, k ≤ 3 ∧ i = .int .i64 (k : Int) ∧ s = strB (bestTo kind vs k) ∧ Below w2.heap.size w2 wr) (fun _ i _ => 3 - (intOf i).toNat)
    case atStart => exact ⟨0, Nat.zero_le _, rfl, rfl, Below.refl _ _⟩
    case round =>
      obtain ⟨k, hk, rfl, rfl, hB⟩ := hrel
      have hbl := bestTo_len kind vs Hsv.out (by omega) k
      by_cases hlt : k < 3
      · have hck := (hB.cell (p := ⟨gw, k, none⟩) hgw).trans (HC.out k hlt)
        have hVr := HV2.out.later hB
        have HVr := hid hVr
        have hwn := wayN_le kind k hlt
        have HBt : Hid (bestTo kind vs (k + 1) = if k = 0 ∨ (candB (wayN kind k) vs).length < (bestTo kind vs k).length then candB (wayN kind k) vs else bestTo kind vs k) := rfl
        have hwl := wayB_len (wayN kind k) vs Hsv.out (by omega)
        clear hVr
        generalize wayN kind k = n at *
        generalize bestTo kind vs k = best at *
        have hcv := fun W => conv_one W ((n : Int) % 5) (by omega) (by omega)
        have hzr := hB.size
        go_upto_region 9 with fail
        go_cut [9] (fun s wd => s = strB (candB n vs) ∧ Below wr.heap.size wr wd)
        case first =>
          have hgr : gw < wr.heap.size := by omega
          have hq1 : ¬ (9223372036854775807 < 1 + (wayB n vs).length) := by omega
          clear hcv
          have hcv1 := fun W => conv_n W n hwn
          have hcv2 := fun W => conv_nd W n hwn
          go_region_with (first
            | (go_at_call 117; refine (way_any n hwn va vcap vs _ ?_).mono ?_; exact HVr.out.drew; rintro e w5 ⟨rfl, hb5⟩; have x5 : w5.cell? ⟨gw, k, none⟩ = some (.int .i64 (n : Int)) := (hb5.cell (p := ⟨gw, k, none⟩) hgr).trans hck; have hBw : Below wr.heap.size wr w5 := below_undrew hb5)
            | (go_at_call 117; refine (way_any n hwn va vcap vs _ ?_).mono ?_; exact (HVr.out.alloc _).drew; rintro e w5 ⟨rfl, hb5⟩; have x5 : w5.cell? ⟨gw, k, none⟩ = some (.int .i64 (n : Int)) := later_cell hb5 hgr hck; have hBw : Below wr.heap.size wr w5 := later_below hb5; have hcv5 := conv_nl wr n hwn w5 (below_undrew hb5)))
          all_goals
            go_wp2_with fail
            go_meet
            case rel => exact ⟨by simp [candB, app_str], by first | exact hBw | exact hBw.alloc hBw.size _⟩
        case rest =>
          obtain ⟨rfl, hBd⟩ := hcut
          have hB5 := hB.trans (hBd.mono hzr)
          have HB5 := hid hB5
          have hcl : (candB n vs).length ≤ 5001 := by simp only [candB, List.length_cons]; omega
          clear hB hBd hB5 hck hcv
          have hcs : (((k : Int) == 0) = true) ∨ (((k : Int) == 0) = false ∧ (candB n vs).length < best.length) ∨ (((k : Int) == 0) = false ∧ ¬ (candB n vs).length < best.length) := by
            by_cases h : k = 0
            · left; simp [h]
            · right
              by_cases h2 : (candB n vs).length < best.length
              · left; exact ⟨by simp; omega, h2⟩
              · right; exact ⟨by simp; omega, h2⟩
          rcases hcs with c1 | ⟨c1, c2⟩ | ⟨c1, c2⟩
          · have HB1 : Hid (bestTo kind vs (k + 1) = candB n vs) := by have := HBt.out; rw [if_pos (.inl (by simpa using c1))] at this; exact this
            generalize candB n vs = cd at *
            go_wp2
            go_roundw
            case rel => exact ⟨k + 1, by omega, by go_num, by rw [HB1.out], HB5.out⟩
            case measure => simp [intOf]; omega
          · have HB1 : Hid (bestTo kind vs (k + 1) = candB n vs) := by have := HBt.out; rw [if_pos (.inr c2)] at this; exact this
            generalize candB n vs = cd at *
            go_wp2
            go_roundw
            case rel => exact ⟨k + 1, by omega, by go_num, by rw [HB1.out], HB5.out⟩
            case measure => simp [intOf]; omega
          · have HB1 : Hid (bestTo kind vs (k + 1) = best) := by have := HBt.out; rw [if_neg (fun h => h.elim (by simpa using c1) c2)] at this; exact this
            generalize candB n vs = cd at *
            go_wp2
            go_roundw
            case rel => exact ⟨k + 1, by omega, by go_num, by rw [HB1.out], HB5.out⟩
            case measure => simp [intOf]; omega
      · have hk3 : k = 3 := by omega
        subst hk3
        have hB3 := hB2.trans (hB.mono hB2.size)
        go_wp2_with fail
        refine (head_any a cap l _ hn (Hv.out.later hB3).lies).mono ?_
        rintro e w5 ⟨rfl, hb5⟩
        go_wp2
        go_ret
        exact ⟨ret_app HP2.out.symm, hB3.trans (hb5.mono hB3.size)⟩

end Go.Proofs.YthhpbhpfagoapaaGreat

namespace Go.Proofs.YthhpbhpfagoapaaGreat
open Go.RowKit
set_option linter.unusedVariables false
set_option linter.unusedSimpArgs false
set_option maxRecDepth 100000

theorem xL_any (s : List UInt8) (w : World) (hs : s.length ≤ 1000000) : Calls Tryz.prog 146 #[strB s] w fun e w' => e = .returned (strB (xB s)) ∧ Below w.heap.size w w' :=
  x_any ⟨s.toArray⟩ w (by rw [strB_size]; exact hs)

set_option maxHeartbeats 1000000 in
theorem bound_any (pre : List UInt8) (sort : UInt8) (g c p : Nat) (w : World) (hp : pre.length ≤ 20) (hg : g ≤ 65535) (hc : c ≤ 65535) (hpp : p ≤ 65535) :
    Calls Tryz.prog 86 #[strB pre, strB [sort], .int .i64 (g : Int), .int .i64 (c : Int), .int .i64 (p : Int)] w fun e w' => e = .returned (strB (boundB pre sort g c p)) ∧ Below w.heap.size w w' := by
  have HB : Hid (boundB pre sort g c p = xB pre ++ [sort] ++ twoB (g : Int) ++ twoB (c : Int) ++ twoB (p : Int)) := rfl
  have hxl : (xB pre).length ≤ 40 := by have := uB_len10 pre.length (by omega); simp only [xB, List.length_append]; omega
  have h2g : (twoB (g : Int)).length ≤ 2 := Nat.le_of_eq (twoB_length (g : Int))
  have h2c : (twoB (c : Int)).length ≤ 2 := Nat.le_of_eq (twoB_length (c : Int))
  have h2p : (twoB (p : Int)).length ≤ 2 := Nat.le_of_eq (twoB_length (p : Int))
  go_enter Tryz.func86, Tryz.ntmps86
  go_wp2_with fail
  refine (xL_any pre w (by omega)).mono ?_
  rintro e w1 ⟨rfl, hb1⟩
  go_wp2_with fail
  refine (twoRef_any (g : Int) _ (by omega) (by omega)).mono ?_
  rintro e w2 ⟨rfl, hb2⟩
  go_wp2_with fail
  refine (twoRef_any (c : Int) _ (by omega) (by omega)).mono ?_
  rintro e w3 ⟨rfl, hb3⟩
  go_wp2_with fail
  refine (twoRef_any (p : Int) _ (by omega) (by omega)).mono ?_
  rintro e w4 ⟨rfl, hb4⟩
  have hB2 := hb1.trans (hb2.mono hb1.size)
  have hB3 := hB2.trans (hb3.mono hB2.size)
  have HB4 := hid (hB3.trans (hb4.mono hB3.size))
  clear hb1 hb2 hb3 hb4 hB2 hB3
  generalize xB pre = X at *
  generalize twoB (g : Int) = TG at *
  generalize twoB (c : Int) = TC at *
  generalize twoB (p : Int) = TP at *
  go_wp2
  go_ret
  exact ⟨by rw [HB.out]; simp [app_str], HB4.out⟩

theorem metaV_no (kind : Int) (l : List CellB) (h : kind ≠ 0 ∨ valuesB l = []) : metaB kind l = uB (l.length - (valuesB l).length) ++ [0] := by
  unfold metaB
  rw [if_neg (by rintro ⟨h1, h2⟩; rcases h with h | h; exact h h1; exact h2 h)]

theorem metaV_ints (l : List CellB) (h : valuesB l ≠ []) : metaB 0 l = uB (l.length - (valuesB l).length) ++ ([1] ++ zB (leastB (valuesB l) (firstInt (valuesB l))) ++ zB (mostB (valuesB l) (firstInt (valuesB l)))) := by
  unfold metaB
  rw [if_pos ⟨rfl, h⟩]

theorem firstV {D : List CellB} (h : 0 < D.length) : firstInt D = (D[0]).int := by
  cases D with
  | nil => simp at h
  | cons c D => rfl

theorem leastV_take (D : List CellB) (k : Nat) (h : k < D.length) (x : Int) : leastB (D.take (k + 1)) x = if (D[k]).int < leastB (D.take k) x then (D[k]).int else leastB (D.take k) x := by
  unfold leastB
  rw [List.take_succ_eq_append_getElem h, List.foldl_append]
  rfl

theorem mostV_take (D : List CellB) (k : Nat) (h : k < D.length) (x : Int) : mostB (D.take (k + 1)) x = if mostB (D.take k) x < (D[k]).int then (D[k]).int else mostB (D.take k) x := by
  unfold mostB
  rw [List.take_succ_eq_append_getElem h, List.foldl_append]
  rfl

set_option maxHeartbeats 4000000 in
theorem metaRef_any (kind : Int) (a : Option Addr) (cap : Nat) (l : List CellB) (w : World) (hn : l.length ≤ 60) (hs : ∀ c ∈ l, smallC c) (hl : Lies w a l) :
    Calls Tryz.prog 145 #[.int .i64 kind, .slice a l.length cap] w fun e w' => e = .returned (strB (metaB kind l)) ∧ Below w.heap.size w w' := by
  have Hl := hid hl
  have Hs := hid hs
  have hvl : (valuesB l).length ≤ l.length := List.length_filter_le _ _
  have HSm : Hid (∀ c ∈ valuesB l, smallC c) := fun c hc => hs c (List.mem_filter.1 hc).1
  clear hl hs
  go_enter Tryz.func145, Tryz.ntmps145
  go_wp2_with fail
  refine (values_any a cap l w (by omega) Hl.out).mono ?_
  rintro e w1 ⟨v, rfl, hown, hb1⟩
  obtain ⟨va, vc, rfl, _, hvlie⟩ := own_lies hown (fun c hc => Hl.out.ok c (List.mem_filter.1 hc).1)
  have Hv := hid hvlie
  have HB1 := hid hb1
  clear hown hvlie hb1
  have hsub : IntKind.i64.wrap ((l.length : Int) - ((valuesB l).length : Int)) = ((l.length - (valuesB l).length : Nat) : Int) := by rw [IntKind.wrap_i64]; omega
  have hu64 : IntKind.u64.wrap ((l.length - (valuesB l).length : Nat) : Int) = ((l.length - (valuesB l).length : Nat) : Int) := i64_u64 (by omega) (by omega)
  have hul := uB_len10 (l.length - (valuesB l).length) (by omega)
  go_wp2_with fail
  refine (u_any (l.length - (valuesB l).length) _ (by omega)).mono ?_
  rintro e w2 ⟨rfl, hb2⟩
  have HB2 := hid (HB1.out.trans (hb2.mono HB1.out.size))
  have Hv2 := hid (Hv.out.later hb2)
  clear hb2 hsub hu64
  by_cases hk : kind = 0 ∧ valuesB l ≠ []
  · obtain ⟨rfl, hv0⟩ := hk
    have HM := hid (metaV_ints l hv0)
    have hvp := List.length_pos_iff.2 hv0
    have hvi : (((valuesB l).length : Int) == 0) = false := by simp; omega
    have h0i : (0 : Int) < ((valuesB l).length : Int) := by omega
    obtain ⟨b, off, rfl, hbw, hcell⟩ := Hv2.out.at_ hv0
    have f1 := (hcell 0 hvp).2.1
    simp only [Nat.zero_mul, Nat.add_zero] at f1
    have HFI := hid (firstV hvp)
    rw [← HFI.out] at f1
    have hfr := firstInt_range _ HSm.out
    have HLR := hid (fun k => least_range ((valuesB l).take k) (fun c hc => HSm.out c (List.mem_of_mem_take hc)) _ hfr)
    have HMR := hid (fun k => most_range ((valuesB l).take k) (fun c hc => HSm.out c (List.mem_of_mem_take hc)) _ hfr)
    have Hcell := hid hcell
    have HTL := hid (leastV_take (valuesB l))
    have HTM := hid (mostV_take (valuesB l))
    clear hcell hfr hv0 Hv Hv2 HFI
    generalize hD : valuesB l = D at *
    generalize hF0 : firstInt D = F0 at *
    have HHD := hid hD
    clear hD hF0
    go_wp2_with fail
    go_loopw [7, 8, 9] (fun lo hi2 i wr => ∃ k : Nat, k ≤ D.length ∧ i = .int .i64 (k : Int) ∧ lo = .int .i64 (leastB (D.take k) F0) ∧ hi2 = .int .i64 (mostB (D.take k) F0) ∧ wr = w2) (fun _ _ i _ => D.length - (intOf i).toNat)
    case atStart => exact ⟨0, Nat.zero_le _, rfl, rfl, rfl, rfl⟩
    case round =>
      obtain ⟨k, hkl, rfl, rfl, rfl, rfl⟩ := hrel
      by_cases hlt : k < D.length
      · have hki : (k : Int) < (D.length : Int) := by omega
        have g2 := (Hcell.out k hlt).2.1
        have T1 := hid (HTL.out k hlt F0)
        have T2 := hid (HTM.out k hlt F0)
        obtain ⟨r1, r2⟩ := HLR.out k
        obtain ⟨r3, r4⟩ := HMR.out k
        generalize leastB (D.take k) F0 = M1 at *
        generalize mostB (D.take k) F0 = M2 at *
        generalize (D[k]).int = x at *
        clear f1
        by_cases h1 : x < M1
        · by_cases h2 : M2 < x
          · go_wp2
            go_roundw
            case rel => exact ⟨k + 1, by omega, by go_num, by rw [T1.out, if_pos h1], by rw [T2.out, if_pos h2], by simp⟩
            case measure => simp [intOf]; omega
          · have h2' : ¬ M2 < x := h2
            go_wp2
            go_roundw
            case rel => exact ⟨k + 1, by omega, by go_num, by rw [T1.out, if_pos h1], by rw [T2.out, if_neg h2], by simp⟩
            case measure => simp [intOf]; omega
        · have h1' : ¬ x < M1 := h1
          by_cases h2 : M2 < x
          · go_wp2
            go_roundw
            case rel => exact ⟨k + 1, by omega, by go_num, by rw [T1.out, if_neg h1], by rw [T2.out, if_pos h2], by simp⟩
            case measure => simp [intOf]; omega
          · have h2' : ¬ M2 < x := h2
            go_wp2
            go_roundw
            case rel => exact ⟨k + 1, by omega, by go_num, by rw [T1.out, if_neg h1], by rw [T2.out, if_neg h2], by simp⟩
            case measure => simp [intOf]; omega
      · have hke : k = D.length := by omega
        subst hke
        obtain ⟨r1, r2⟩ := HLR.out D.length
        obtain ⟨r3, r4⟩ := HMR.out D.length
        rw [List.take_length] at *
        have z1 := zB_len _ r1 r2
        have z2 := zB_len _ r3 r4
        generalize leastB D F0 = M1 at *
        generalize mostB D F0 = M2 at *
        clear f1
        go_wp2_with fail
        refine (z_any M1 _ r1 r2).mono ?_
        rintro e w3 ⟨rfl, hb3⟩
        go_wp2_with fail
        refine (z_any M2 _ r3 r4).mono ?_
        rintro e w4 ⟨rfl, hb4⟩
        have hB3 := HB2.out.trans (hb3.mono HB2.out.size)
        have HB4 := hid (hB3.trans (hb4.mono hB3.size))
        clear hb3 hb4 hB3
        generalize uB (l.length - D.length) = U at *
        generalize zB M1 = Z1 at *
        generalize zB M2 = Z2 at *
        go_wp2
        go_ret
        exact ⟨by rw [HM.out]; simp [app_str], HB4.out⟩
  · have HM := hid (metaV_no kind l (by by_cases h0 : kind = 0; exact .inr (by simpa [h0] using hk); exact .inl h0))
    by_cases h0 : kind = 0
    · have hv0 : valuesB l = [] := by simpa [h0] using hk
      subst h0
      have hv1 : (valuesB l).length = 0 := by rw [hv0]; rfl
      have hvi : (((valuesB l).length : Int) == 0) = true := by rw [hv1]; rfl
      clear hk Hv Hv2 HSm hv0 hv1
      generalize uB (l.length - (valuesB l).length) = U at *
      go_wp2
      go_ret
      exact ⟨by rw [HM.out]; simp [app_str], HB2.out⟩
    · have h0' : (kind != 0) = true := by simpa using h0
      clear hk h0 Hv Hv2
      generalize uB (l.length - (valuesB l).length) = U at *
      go_wp2
      go_ret
      exact ⟨by rw [HM.out]; simp [app_str], HB2.out⟩

end Go.Proofs.YthhpbhpfagoapaaGreat

namespace Go.Proofs.YthhpbhpfagoapaaGreat
open Go.RowKit
set_option linter.unusedVariables false
set_option linter.unusedSimpArgs false
set_option maxRecDepth 100000

theorem spots_start {R C G P : Nat} (hG : 1 ≤ G) (hP : 1 ≤ P) : ∀ s ∈ spotsB R C G P, s.start < R := by
  intro s hs
  simp only [spotsB, spotsTo, groupSpots, List.mem_flatMap, List.mem_range] at hs
  obtain ⟨g, hg, c, hc, hs⟩ := hs
  have hgG := (cnt_lt hG).1 hg
  have hpe := part_end R G g hgG
  rcases List.mem_append.1 hs with hs | hs
  · simp only [pageSpots, List.mem_map, List.mem_range] at hs
    obtain ⟨k, hk, rfl⟩ := hs
    have hkP := (cnt_lt hP).1 hk
    simp only
    omega
  · simp only [List.mem_cons, List.not_mem_nil, or_false] at hs
    subst hs
    exact hgG

theorem box6 {w : World} {q : Nat} {a b c d e f : Value} {t : TypeId} (h : w.heap[q]? = some (.cells #[a, b, c, d, e, f] t (0, 0))) :
    w.cell? ⟨q, 0, none⟩ = some a ∧ w.cell? ⟨q, 1, none⟩ = some b ∧ w.cell? ⟨q, 2, none⟩ = some c ∧ w.cell? ⟨q, 3, none⟩ = some d ∧ w.cell? ⟨q, 4, none⟩ = some e ∧ w.cell? ⟨q, 5, none⟩ = some f :=
  ⟨by rw [cell_of_heap h]; rfl, by rw [cell_of_heap h]; rfl, by rw [cell_of_heap h]; rfl, by rw [cell_of_heap h]; rfl, by rw [cell_of_heap h]; rfl, by rw [cell_of_heap h]; rfl⟩

set_option maxHeartbeats 8000000 in
theorem plainOf_any (ta : Option Addr) (tcap : Nat) (t : List ColB) (s : SpotB) (w : World) (hg : GoodT t) (hs : SpotIn t s) (hst : s.start < rowsB t) (hl : LiesT w ta t) :
    Calls Tryz.prog 83 #[.slice ta t.length tcap, .agg #[strB [s.sort], .int .i64 (s.g : Int), .int .i64 (s.c : Int), .int .i64 (s.p : Int), .int .i64 (s.start : Int), .int .i64 (s.many : Int)]] w
      fun e w' => e = .returned (strB (plainB t s)) ∧ Below w.heap.size w w' := by
  obtain ⟨sort, g, c, p, start, many⟩ := s
  obtain ⟨hsort, hc, hrows, hfew⟩ := hs
  simp only at hsort hc hrows hfew hst
  obtain ⟨hcl1, hcl2, hcsm⟩ := hg.cells c hc
  obtain ⟨tb, toff, rfl, htb, hcell⟩ := hl.at_ (List.ne_nil_of_length_pos (by omega))
  obtain ⟨g1, g2, g3, v4, g4, ca, cap2, rfl, hcc, hclie, hcm⟩ := hcell c hc
  obtain ⟨cb, coff, rfl, hcb, hccell⟩ := hclie.at_ (List.ne_nil_of_length_pos (by omega))
  have HLC : Hid (Lies w (some ⟨cb, coff + start * 3, none⟩) (((t[c]).cells.drop start).take many)) := Lies.part hclie.ok hcb hccell start many
  have HPB : Hid (plainB t ⟨sort, g, c, p, start, many⟩ = if sort = 77 then metaB (t[c]).kind (((t[c]).cells.drop start).take many) else pageB (t[c]).kind (((t[c]).cells.drop start).take many)) := by
    show _ = _
    simp only [plainB, colAt_eq hc]
  have hlen : start + many ≤ (t[c]).cells.length := by omega
  have hll : (((t[c]).cells.drop start).take many).length = many := by rw [List.length_take, List.length_drop]; omega
  have Hll := hid hll
  have Hsm : Hid (∀ x ∈ ((t[c]).cells.drop start).take many, smallC x) := fun x hx => hcsm x (List.mem_of_mem_drop (List.mem_of_mem_take hx))
  have hci : (c : Int) < (t.length : Int) := by omega
  have HMT : Hid (∀ w', Below w.heap.size w w' → Calls Tryz.prog 145 #[.int .i64 (t[c]).kind, .slice (some ⟨cb, coff + start * 3, none⟩) many (cap2 - start)] w' fun e w2 => e = .returned (strB (metaB (t[c]).kind (((t[c]).cells.drop start).take many))) ∧ Below w'.heap.size w' w2) := by
    intro w' hw
    have := metaRef_any (t[c]).kind (some ⟨cb, coff + start * 3, none⟩) (cap2 - start) _ w' (by rw [Hll.out]; omega) Hsm.out (HLC.out.later hw)
    rw [Hll.out] at this
    exact this
  have HPG : Hid (∀ w', Below w.heap.size w w' → Calls Tryz.prog 52 #[.int .i64 (t[c]).kind, .slice (some ⟨cb, coff + start * 3, none⟩) many (cap2 - start)] w' fun e w2 => e = .returned (strB (pageB (t[c]).kind (((t[c]).cells.drop start).take many))) ∧ Below w'.heap.size w' w2) := by
    intro w' hw
    have := page_any (t[c]).kind (some ⟨cb, coff + start * 3, none⟩) (cap2 - start) _ w' ⟨HLC.out.later hw, Hsm.out, by rw [Hll.out]; omega⟩
    rw [Hll.out] at this
    exact this
  generalize metaB (t[c]).kind (((t[c]).cells.drop start).take many) = MT at *
  generalize pageB (t[c]).kind (((t[c]).cells.drop start).take many) = PG at *
  generalize (t[c]).kind = kd at *
  have hcap : start + many ≤ cap2 := by omega
  have hst2 : start < cap2 := by omega
  clear hl hcell hclie hccell HLC hcsm g1 g3 hll Hll Hsm hcl1 hcl2 hcm hrows
  generalize (t[c]).cells.length = cel at *
  have i1 : (0 : Int) ≤ (start : Int) := by omega
  have i2 : (start : Int) ≤ (start : Int) + (many : Int) := by omega
  have i3 : (start : Int) + (many : Int) ≤ (cap2 : Int) := by omega
  have i4 : ((start : Int) + (many : Int)).toNat = start + many := by omega
  have i5 : (0 : Int) ≤ (start : Int) + (many : Int) := by omega
  have i6 : ¬ cap2 = start := by omega
  have i7 : IntKind.i64.wrap ((start : Int) + (many : Int)) = (start : Int) + (many : Int) := by rw [IntKind.wrap_i64]; omega
  have i8 : start + many - start = many := by omega
  go_enter Tryz.func83, Tryz.ntmps83
  go_wp2_with fail
  obtain ⟨hb0, hs0, _, hh0⟩ := boxedW w #[strB [sort], .int .i64 (g : Int), .int .i64 (c : Int), .int .i64 (p : Int), .int .i64 (start : Int), .int .i64 (many : Int)] 161
  obtain ⟨x0, x1, x2, x3, x4, x5⟩ := box6 hh0
  have f2 := (hb0.cell (p := ⟨tb, _, none⟩) htb).trans g2
  have f4 := (hb0.cell (p := ⟨tb, _, none⟩) htb).trans g4
  have Hb0 := hid hb0
  clear hb0 hh0 g2 g4
  generalize w.alloc _ = w0 at *
  go_quiet (fail)
  rcases hsort with rfl | rfl
  · go_wp2_with fail
    refine (HPG.out _ (below_drewN Hb0.out nq)).mono ?_
    rintro e w2 ⟨rfl, hb2⟩
    have HB2 := hid ((below_drewN Hb0.out nq).trans (hb2.mono Hb0.out.size))
    clear hb2 x0 x1 x2 x3 x4 x5 f2 f4
    go_wp2
    go_ret
    exact ⟨ret_str (by rw [HPB.out]; rfl), HB2.out⟩
  · go_wp2_with fail
    refine (HMT.out _ (below_drewN Hb0.out nq)).mono ?_
    rintro e w2 ⟨rfl, hb2⟩
    have HB2 := hid ((below_drewN Hb0.out nq).trans (hb2.mono Hb0.out.size))
    clear hb2 x0 x1 x2 x3 x4 x5 f2 f4
    go_wp2
    go_ret
    exact ⟨ret_str (by rw [HPB.out]; rfl), HB2.out⟩

end Go.Proofs.YthhpbhpfagoapaaGreat

namespace Go.Proofs.YthhpbhpfagoapaaGreat
open Go.RowKit
set_option linter.unusedVariables false
set_option linter.unusedSimpArgs false
set_option maxRecDepth 100000

/-- What the document's press may write into. -/
abbrev refT : List TypeId := [157, 40]

/-- The document's press lies at q. -/
def RefAt (w : World) (B q : Nat) (draw : Int) (log : List SealB) : Prop :=
  ∃ lv, w.heap[q]? = some (.cells #[.int .i64 draw, lv] 157 (0, 0)) ∧ B ≤ q ∧ w.ownsRow B 40 4 lv log.length (sealsC log)

theorem RefAt.later {w w' : World} {B q : Nat} {draw : Int} {log : List SealB} (h : RefAt w B q draw log) (hb : Below w.heap.size w w') : RefAt w' B q draw log := by
  obtain ⟨lv, h1, h2, h3⟩ := h
  exact ⟨lv, heap_later hb h1, h2, own_after h3 hb⟩

theorem ref_two {w : World} {q : Nat} {x y : Value} {t : TypeId} (h : w.heap[q]? = some (.cells #[x, y] t (0, 0))) : w.cell? ⟨q, 0, none⟩ = some x ∧ w.cell? ⟨q, 1, none⟩ = some y :=
  ⟨by rw [cell_of_heap h]; rfl, by rw [cell_of_heap h]; rfl⟩

theorem ref_log {w w2 : World} {B q n2 : Nat} {draw : Int} {lv lv2 : Value} {log log2 : List SealB}
    (hrow : w.heap[q]? = some (.cells #[.int .i64 draw, lv] 157 (0, 0))) (hB : B ≤ q) (hlog : w.ownsRow B 40 4 lv log.length (sealsC log))
    (hBw : B ≤ w.heap.size) (hown2 : w2.ownsRow B 40 4 lv2 n2 (sealsC log2)) (hn : n2 = log2.length) (hgr : w.grownBy w2 lv.ownBlock) :
    RefAt (w2.setCell ⟨q, 1, none⟩ lv2) B q draw log2 ∧ KeptT refT B w (w2.setCell ⟨q, 1, none⟩ lv2) := by
  subst hn
  have hrow2 := heap_grown_keep hgr hlog hrow (by decide)
  have hset := heap_setCell_same w2 q 1 _ 157 lv2 hrow2
  have hg3 : w2.grownBy (w2.setCell ⟨q, 1, none⟩ lv2) (some q) := ⟨rfl, rfl, rfl, by simp, fun k _ hk => heap_setCell_other w2 ⟨q, 1, none⟩ k lv2 (fun e => hk (by simp [e]))⟩
  refine ⟨⟨lv2, ?_, hB, hown2.kept hg3 (.inr (own_not hown2 hrow2 (by decide)))⟩, ?_⟩
  · rw [hset]; rfl
  · refine KeptT.set ?_ hrow2 hB (by decide) lv2
    exact (KeptT.refl _ _ _).grown hgr hBw (rowOf_own hlog (by decide))

theorem sealRef_l (sec non ext plain : List UInt8) (w : World) (h1 : sec.length ≤ 1000) (h2 : non.length ≤ 1000) (h3 : ext.length ≤ 5000) (h4 : plain.length ≤ 5000) :
    Calls Tryz.prog 59 #[strB sec, strB non, strB ext, strB plain] w fun e w' => e = .returned (strB (bodyB sec non ext plain)) ∧ Below w.heap.size w w' :=
  sealRef_any ⟨sec.toArray⟩ ⟨non.toArray⟩ ⟨ext.toArray⟩ ⟨plain.toArray⟩ w (by rw [strB_size]; exact h1) (by rw [strB_size]; exact h2) (by rw [strB_size]; exact h3) (by rw [strB_size]; exact h4)

/-- A sealed module as it is written down, and what was sealed. -/
def sealedTx (draw : Int) (sec ext plain : List UInt8) (n : Nat) : List UInt8 := twoB ((bodyB sec (nonceB draw n) ext plain).length : Int) ++ (nonceB draw n ++ bodyB sec (nonceB draw n) ext plain)
def sealedOf (draw : Int) (sec ext plain : List UInt8) (n : Nat) : SealB := ⟨sec, nonceB draw n, ext, bodyB sec (nonceB draw n) ext plain⟩

set_option maxHeartbeats 8000000 in
theorem vseal_any (B q : Nat) (draw : Int) (log : List SealB) (sec ext plain : List UInt8) (w : World) (hg : log.length ≤ 60000) (hl : plain.length ≤ 5000) (he : ext.length ≤ 5000) (hsl : sec.length ≤ 1000)
    (hd0 : 0 ≤ draw) (hd1 : draw ≤ 65535) (hB : B ≤ w.heap.size) (hp : RefAt w B q draw log) :
    Calls Tryz.prog 85 #[.pointer (some ⟨q, 0, none⟩), strB sec, strB ext, strB plain] w fun e w' => e = .returned (strB (sealedTx draw sec ext plain log.length)) ∧ RefAt w' B q draw (log ++ [sealedOf draw sec ext plain log.length]) ∧ KeptT refT B w w' := by
  obtain ⟨i0, hi, hz0, hz1, hz2⟩ := info_parts Tryz.infoSealed
  have HTX : Hid (sealedTx draw sec ext plain log.length = twoB ((bodyB sec (nonceB draw log.length) ext plain).length : Int) ++ (nonceB draw log.length ++ bodyB sec (nonceB draw log.length) ext plain)) := rfl
  have HSO : Hid (sealedOf draw sec ext plain log.length = ⟨sec, nonceB draw log.length, ext, bodyB sec (nonceB draw log.length) ext plain⟩) := rfl
  have HN : Hid (twoB draw ++ twoB (log.length : Int) = nonceB draw log.length) := rfl
  have hnl : (nonceB draw log.length).length ≤ 4 := Nat.le_of_eq (nonce_len draw log.length)
  have hbl : (bodyB sec (nonceB draw log.length) ext plain).length ≤ plain.length + 2 := Nat.le_of_eq (bodyB_length sec (nonceB draw log.length) ext plain)
  have h2a : (twoB draw).length ≤ 2 := Nat.le_of_eq (twoB_length draw)
  have h2b : (twoB (log.length : Int)).length ≤ 2 := Nat.le_of_eq (twoB_length (log.length : Int))
  obtain ⟨lv, hrow, hBq, hlog⟩ := hp
  obtain ⟨la, lc, rfl⟩ := own_slice hlog
  have Hrow := hid hrow
  have Hlog := hid hlog
  clear hlog
  go_enter Tryz.func85, Tryz.ntmps85
  go_wp2_with fail
  generalize hTA : twoB draw = TA at *
  generalize hTB : twoB (log.length : Int) = TB at *
  have HA : Hid (∀ w', Calls Tryz.prog 84 #[.int .i64 draw] w' fun e w2 => e = .returned (strB TA) ∧ Below w'.heap.size w' w2) := by
    intro w'; rw [← hTA]; exact twoRef_any _ w' hd0 hd1
  have HBt : Hid (∀ w', Calls Tryz.prog 84 #[.int .i64 (log.length : Int)] w' fun e w2 => e = .returned (strB TB) ∧ Below w'.heap.size w' w2) := by
    intro w'; rw [← hTB]; exact twoRef_any _ w' (by omega) (by omega)
  have q1 : ¬ (9223372036854775807 < TA.length + TB.length) := by omega
  clear hTA hTB
  go_region_held3 (fun w' => w'.cell? ⟨q, 0, none⟩ = some (.int .i64 draw) ∧ w'.cell? ⟨q, 1, none⟩ = some (.slice la log.length lc))
    (first | exact ref_two Y3 | exact ref_two Y2 | exact ref_two hrow)
    (first
      | (go_at_call_of 84 (Value.int IntKind.i64 draw); refine (HA.out _).mono ?_; rintro e w2 ⟨rfl, hb2⟩; replace hb2 := below_undrew hb2; have Y2 := heap_later hb2 hrow)
      | (go_at_call 84; refine (HBt.out _).mono ?_; rintro e w3 ⟨rfl, hb3⟩; have Y3 := heap_later hb3 Y2))
  have hB3 := hb2.trans (hb3.mono hb2.size)
  clear Y2 Y3 hb2 hb3 hrow q1
  go_simp
  simp only [app_str]
  rw [HN.out]
  clear HN
  generalize nonceB draw log.length = non at *
  go_wp2_with fail
  refine (sealRef_l sec non ext plain w3 hsl (by omega) he hl).mono ?_
  rintro e w4 ⟨rfl, hb4⟩
  generalize hBO : bodyB sec non ext plain = body at *
  clear hBO
  have hB4 := hB3.trans (hb4.mono hB3.size)
  have hrow4 := heap_later hB4 Hrow.out
  have hlog4 := own_after Hlog.out hB4
  obtain ⟨_, c1⟩ := ref_two hrow4
  have hsz4 := hB4.size
  clear hb4 hB3
  go_wp2_with (at_builtin; refine wpList_append_own _ rfl (.tmp 32) (.tmp 38) 28 rfl B 40 i0 (.agg #[.string ⟨#[]⟩, .string ⟨#[]⟩, .string ⟨#[]⟩, .string ⟨#[]⟩]) 4 64 Tryz.underlying28 hi hz0 hz1 hz2 rfl (by decide) _ _ _ rfl (hlog4.alloc _) ⟨_, 0, none⟩ 1 1 [strB sec, strB non, strB ext, strB body] rfl rfl (cell_laid w4 #[strB sec, strB non, strB ext, strB body] 40) (by intro u hu; simp at hu; rcases hu with rfl | rfl | rfl | rfl <;> rfl) (by unfold maxLen; omega) (by omega) (by simp; omega) ?_; intro v5 w5 hown5 hgr5 _; obtain ⟨a5, c5, rfl⟩ := own_slice hown5; have hrow5 := heap_grown_keep hgr5 (hlog4.alloc _) (heap_alloc_keep _ hrow4) (by decide); have cf5 : w5.frozen? ⟨q, 1, none⟩ = false := frozen_of_row w5 q 1 _ _ hrow5; have cx5 := (ref_two hrow5).2)
  have HR := hid (ref_log (log2 := log ++ [⟨sec, non, ext, body⟩]) (heap_alloc_keep _ hrow4) hBq (hlog4.alloc _) (by simp; omega) (by rw [sealsC_snoc]; exact hown5) (by simp) hgr5)
  have HK5 := hid (((Below.keptT (T := refT) hB4 hB).trans (Below.keptT ((Below.refl _ _).alloc (Nat.le_refl _) _) (by omega))).trans HR.out.2)
  have HR1 := hid HR.out.1
  clear hown5 hgr5 hrow5 cf5 cx5 hrow4 hlog4 c1 HR
  generalize w5.setCell _ _ = w6 at *
  go_wp2_with fail
  refine (twoRef_any (body.length : Int) w6 (by omega) (by omega)).mono ?_
  rintro e w7 ⟨rfl, hb7⟩
  have h2c : (twoB (body.length : Int)).length ≤ 2 := Nat.le_of_eq (twoB_length (body.length : Int))
  have HK7 := hid (HK5.out.trans (Below.keptT (T := refT) hb7 (Nat.le_trans hB HK5.out.size)))
  have HR7 := hid (HR1.out.later hb7)
  clear hb7
  generalize twoB (body.length : Int) = TC at *
  go_wp2
  go_ret
  exact ⟨by rw [HTX.out]; simp [app_str], by rw [HSO.out]; exact HR7.out, HK7.out⟩

end Go.Proofs.YthhpbhpfagoapaaGreat

namespace Go.Proofs.YthhpbhpfagoapaaGreat
open Go.RowKit
set_option linter.unusedVariables false
set_option linter.unusedSimpArgs false
set_option maxRecDepth 100000

theorem box3p {w : World} {q : Nat} {x y z u : Value} {t : TypeId} (h : w.heap[q]? = some (.cells #[x, y, z, u] t (0, 0))) : w.cell? ⟨q, 0, none⟩ = some x ∧ w.cell? ⟨q, 1, none⟩ = some y ∧ w.cell? ⟨q, 2, none⟩ = some z := box3 h

set_option maxHeartbeats 8000000 in
theorem footRef_any (rows G P F : Nat) (told : Bool) (a : Option Addr) (cap : Nat) (t : List ColB) (pa : Option Addr) (pc : Nat) (places : List Nat) (w : World)
    (hr : rows ≤ 60) (hG : G ≤ 60) (hP : P ≤ 60) (hF : F ≤ 9) (ht : t.length ≤ 6) (hps : places.length ≤ 360) (hpb : ∀ x ∈ places, x ≤ 80000000)
    (hcol : ∀ c ∈ t, c.name.length ≤ 8 ∧ (0 ≤ c.kind ∧ c.kind ≤ 9) ∧ (0 ≤ c.key ∧ c.key ≤ 9)) (hl : LiesT w a t)
    (hpl : ∀ j (hj : j < places.length), ∃ g, pa = some ⟨g, 0, none⟩ ∧ g < w.heap.size ∧ w.cell? ⟨g, j, none⟩ = some (.int .i64 ((places[j] : Nat) : Int))) :
    Calls Tryz.prog 87 #[.int .i64 (rows : Int), .agg #[.int .i64 (G : Int), .int .i64 (P : Int), .int .i64 (F : Int), .bool told], .slice a t.length cap, .slice pa places.length pc] w
      fun e w' => e = .returned (strB (uB rows ++ uB G ++ uB P ++ uB F ++ uB t.length ++ t.flatMap colFoot ++ places.flatMap uB)) ∧ Below w.heap.size w w' := by
  have Hl := hid hl
  have Hpl := hid hpl
  have Hcol := hid hcol
  have Hpb := hid hpb
  clear hl hpl hcol hpb
  have hu1 := uB_len10 rows (by omega)
  have hu2 := uB_len10 G (by omega)
  have hu3 := uB_len10 P (by omega)
  have hu4 := uB_len10 F (by omega)
  have hu5 := uB_len10 t.length (by omega)
  have v1 : IntKind.u64.wrap (rows : Int) = (rows : Int) := i64_u64 (by omega) (by omega)
  have v2 : IntKind.u64.wrap (G : Int) = (G : Int) := i64_u64 (by omega) (by omega)
  have v3 : IntKind.u64.wrap (P : Int) = (P : Int) := i64_u64 (by omega) (by omega)
  have v4 : IntKind.u64.wrap (F : Int) = (F : Int) := i64_u64 (by omega) (by omega)
  have v5 : IntKind.u64.wrap (t.length : Int) = (t.length : Int) := i64_u64 (by omega) (by omega)
  have HU : Hid (∀ (n : Nat) w', n ≤ 80000000 → Calls Tryz.prog 147 #[.int .u64 (n : Int)] w' fun e w2 => e = .returned (strB (uB n)) ∧ Below w'.heap.size w' w2) := fun n w' h => u_any n w' (by omega)
  have q1 : ¬ (9223372036854775807 < (uB rows).length + (uB G).length) := by omega
  have q2 : ¬ (9223372036854775807 < (uB rows).length + (uB G).length + (uB P).length) := by omega
  have q3 : ¬ (9223372036854775807 < (uB rows).length + (uB G).length + (uB P).length + (uB F).length) := by omega
  have q4 : ¬ (9223372036854775807 < (uB rows).length + (uB G).length + (uB P).length + (uB F).length + (uB t.length).length) := by omega
  go_enter Tryz.func87, Tryz.ntmps87
  go_wp2_with fail
  obtain ⟨hb0, hs0, _, hh0⟩ := boxedW w #[.int .i64 (G : Int), .int .i64 (P : Int), .int .i64 (F : Int), .bool told] 24
  have Hb0 := hid hb0
  clear hb0
  generalize w.alloc _ = wb at *
  go_region_held3 (fun w' => w'.cell? ⟨w.heap.size, 0, none⟩ = some (.int .i64 (G : Int)) ∧ w'.cell? ⟨w.heap.size, 1, none⟩ = some (.int .i64 (P : Int)) ∧ w'.cell? ⟨w.heap.size, 2, none⟩ = some (.int .i64 (F : Int)))
    (first | exact box3p Y5 | exact box3p Y4 | exact box3p Y3 | exact box3p Y2 | exact box3p Y1 | exact box3p hh0)
    (first
      | (go_at_call_of 147 (Value.int IntKind.u64 (rows : Int)); refine (HU.out rows _ (by omega)).mono ?_; rintro e w1 ⟨rfl, hb1⟩; replace hb1 := below_undrew hb1; have Y1 := heap_later hb1 hh0)
      | (go_at_call_of 147 (Value.int IntKind.u64 (G : Int)); refine (HU.out G _ (by omega)).mono ?_; rintro e w2 ⟨rfl, hb2⟩; have Y2 := heap_later hb2 Y1)
      | (go_at_call_of 147 (Value.int IntKind.u64 (P : Int)); refine (HU.out P _ (by omega)).mono ?_; rintro e w3 ⟨rfl, hb3⟩; have Y3 := heap_later hb3 Y2)
      | (go_at_call_of 147 (Value.int IntKind.u64 (F : Int)); refine (HU.out F _ (by omega)).mono ?_; rintro e w4 ⟨rfl, hb4⟩; have Y4 := heap_later hb4 Y3)
      | (go_at_call 147; refine (HU.out t.length _ (by omega)).mono ?_; rintro e w5 ⟨rfl, hb5⟩; have Y5 := heap_later hb5 Y4))
  have hB1 := Hb0.out.trans (hb1.mono Hb0.out.size)
  have hB2 := hB1.trans (hb2.mono hB1.size)
  have hB3 := hB2.trans (hb3.mono hB2.size)
  have hB4 := hB3.trans (hb4.mono hB3.size)
  have HB5 := hid (hB4.trans (hb5.mono hB4.size))
  have hHL : (uB rows ++ uB G ++ uB P ++ uB F ++ uB t.length).length ≤ 50 := by simp only [List.length_append]; omega
  clear Y1 Y2 Y3 Y4 Y5 hb1 hb2 hb3 hb4 hb5 hB1 hB2 hB3 hB4 v1 v2 v3 v4 v5 hu1 hu2 hu3 hu4 hu5 hh0 q1 q2 q3 q4
  go_simp
  simp only [app_str]
  generalize hHD : uB rows ++ uB G ++ uB P ++ uB F ++ uB t.length = HD at *
  have HHD := hid hHD
  clear hHD
  generalize hA4 : uB rows ++ uB G ++ uB P ++ uB F = A4 at *
  have HA4 := hid hA4
  clear hA4
  generalize hA3 : uB rows ++ uB G ++ uB P = A3 at *
  have HA3 := hid hA3
  clear hA3
  generalize hA2 : uB rows ++ uB G = A2 at *
  have HA2 := hid hA2
  clear hA2
  go_wp2_with fail
  go_loopw [9, 10] (fun v i wr => ∃ k : Nat, k ≤ t.length ∧ i = .int .i64 (k : Int) ∧ v = strB (HD ++ (t.take k).flatMap colFoot) ∧ Below w.heap.size w wr) (fun _ i _ => t.length - (intOf i).toNat)
  case atStart => exact ⟨0, Nat.zero_le _, rfl, by simp, HB5.out⟩
  case round =>
    clear HB5
    obtain ⟨k, hkl, rfl, rfl, hB⟩ := hrel
    have hfl := flat_len colFoot 38 (t.take k) (fun c hc => by
      obtain ⟨h1, h2, h3⟩ := Hcol.out c (List.mem_of_mem_take hc)
      have a := uB_len10 c.name.length (by omega)
      have b := uB_len10 c.kind.toNat (by omega)
      have d := uB_len10 c.key.toNat (by omega)
      simp only [colFoot, xB, List.length_append]; omega)
    rw [List.length_take] at hfl
    have hsl : (HD ++ (t.take k).flatMap colFoot).length ≤ 300 := by
      rw [List.length_append]
      have : 38 * min k t.length ≤ 38 * 6 := Nat.mul_le_mul (Nat.le_refl _) (by omega)
      omega
    clear hfl
    by_cases hlt : k < t.length
    · obtain ⟨b, off, rfl, hbw, hcell⟩ := (Hl.out.later hB).at_ (List.ne_nil_of_length_pos (by omega))
      obtain ⟨g1, g2, g3, v4, g4, ca, cap2, rfl, _⟩ := hcell k hlt
      clear hcell g4
      have hki : (k : Int) < (t.length : Int) := by omega
      obtain ⟨hcn, ⟨hck0, hck9⟩, hcy0, hcy9⟩ := Hcol.out t[k] (List.getElem_mem hlt)
      have HFT := hid (flatMap_take colFoot t k hlt)
      have HCF : Hid (colFoot t[k] = xB (t[k]).name ++ uB (t[k]).kind.toNat ++ uB (t[k]).key.toNat) := rfl
      obtain ⟨kd, hkd⟩ : ∃ kd : Nat, (t[k]).kind = (kd : Int) := ⟨(t[k]).kind.toNat, by omega⟩
      obtain ⟨ky, hky⟩ : ∃ ky : Nat, (t[k]).key = (ky : Int) := ⟨(t[k]).key.toNat, by omega⟩
      rw [hkd, hky] at HCF
      rw [hkd] at g2
      rw [hky] at g3
      have hkd9 : kd ≤ 9 := by omega
      have hky9 : ky ≤ 9 := by omega
      simp only [Int.toNat_natCast] at HCF
      clear hck0 hck9 hcy0 hcy9 hkd hky
      generalize (t[k]).name = nm at *
      have hxl : (xB nm).length ≤ 20 := by have := uB_len10 nm.length (by omega); simp only [xB, List.length_append]; omega
      have hk1 := uB_len10 kd (by omega)
      have hk2 := uB_len10 ky (by omega)
      have v1 : IntKind.u64.wrap (kd : Int) = (kd : Int) := i64_u64 (by omega) (by omega)
      have v2 : IntKind.u64.wrap (ky : Int) = (ky : Int) := i64_u64 (by omega) (by omega)
      have HT : Hid (∀ w', Calls Tryz.prog 146 #[strB nm] w' fun e w2 => e = .returned (strB (xB nm)) ∧ Below w'.heap.size w' w2) := fun w' => xL_any nm w' (by omega)
      have HAP : Hid (HD ++ (t.take (k + 1)).flatMap colFoot = HD ++ (t.take k).flatMap colFoot ++ xB nm ++ uB kd ++ uB ky) := by show _ = _; rw [HFT.out, HCF.out]; simp
      generalize HD ++ (t.take k).flatMap colFoot = S0 at *
      have q1 : ¬ (9223372036854775807 < S0.length + (xB nm).length) := by omega
      have q2 : ¬ (9223372036854775807 < S0.length + (xB nm).length + (uB kd).length) := by omega
      have q3 : ¬ (9223372036854775807 < S0.length + (xB nm).length + (uB kd).length + (uB ky).length) := by omega
      go_wp2_with fail
      go_region_held3 (fun w' => w'.cell? ⟨b, off + k * 4, none⟩ = some (strB nm) ∧ w'.cell? ⟨b, off + k * 4 + 1, none⟩ = some (.int .i64 (kd : Int)) ∧ w'.cell? ⟨b, off + k * 4 + 2, none⟩ = some (.int .i64 (ky : Int)))
        (first | exact ⟨(hb8.cell (p := ⟨b, _, none⟩) hbw8).trans z1, (hb8.cell (p := ⟨b, _, none⟩) hbw8).trans z2, (hb8.cell (p := ⟨b, _, none⟩) hbw8).trans z3⟩ | exact ⟨z1, z2, z3⟩ | exact ⟨y1, y2, y3⟩ | exact ⟨g1, g2, g3⟩)
        (first
          | (go_at_call 146; refine (HT.out _).mono ?_; rintro e w6 ⟨rfl, hb6⟩; replace hb6 := below_undrew hb6; have y1 := (hb6.cell (p := ⟨b, _, none⟩) hbw).trans g1; have y2 := (hb6.cell (p := ⟨b, _, none⟩) hbw).trans g2; have y3 := (hb6.cell (p := ⟨b, _, none⟩) hbw).trans g3; have hbw7 := Nat.lt_of_lt_of_le hbw hb6.size)
          | (go_at_call_of 147 (Value.int IntKind.u64 (kd : Int)); refine (HU.out kd _ (by omega)).mono ?_; rintro e w7 ⟨rfl, hb7⟩; have z1 := (hb7.cell (p := ⟨b, _, none⟩) hbw7).trans y1; have z2 := (hb7.cell (p := ⟨b, _, none⟩) hbw7).trans y2; have z3 := (hb7.cell (p := ⟨b, _, none⟩) hbw7).trans y3; have hbw8 := Nat.lt_of_lt_of_le hbw7 hb7.size)
          | (go_at_call_of 147 (Value.int IntKind.u64 (ky : Int)); refine (HU.out ky _ (by omega)).mono ?_; rintro e w8 ⟨rfl, hb8⟩))
      have hB6 := hB.trans (hb6.mono hB.size)
      have hB7 := hB6.trans (hb7.mono hB6.size)
      have HB8 := hid (hB7.trans (hb8.mono hB7.size))
      clear g1 g2 g3 y1 y2 y3 z1 z2 z3 hb6 hb7 hb8 hB6 hB7 hB v1 v2
      simp only [app_str]
      rw [← HAP.out]
      clear q1 q2 q3
      go_wp2
      go_roundw
      case rel => exact ⟨k + 1, by omega, by go_num, rfl, HB8.out⟩
      case measure => simp [intOf]; omega
    · have hke : k = t.length := by omega
      subst hke
      rw [List.take_length]
      rw [List.take_length] at hsl
      generalize hHD2 : HD ++ t.flatMap colFoot = HD2 at *
      have HHD2 := hid hHD2
      have HB := hid hB
      clear hHD2 hB
      go_wp2_with fail
      go_loopw [9, 11] (fun v i wr => ∃ m : Nat, m ≤ places.length ∧ i = .int .i64 (m : Int) ∧ v = strB (HD2 ++ (places.take m).flatMap uB) ∧ Below w.heap.size w wr) (fun _ i _ => places.length - (intOf i).toNat)
      case atStart => exact ⟨0, Nat.zero_le _, rfl, by simp, HB.out⟩
      case round =>
        clear HB
        obtain ⟨m, hml, rfl, rfl, hB⟩ := hrel
        have hpl2 := flat_len uB 10 (places.take m) (fun x hx => uB_len10 x (by have := Hpb.out x (List.mem_of_mem_take hx); omega))
        have hsl2 : (HD2 ++ (places.take m).flatMap uB).length ≤ 4000 := by
          rw [List.length_append]
          rw [List.length_take] at hpl2
          have : 10 * min m places.length ≤ 10 * 360 := Nat.mul_le_mul (Nat.le_refl _) (by omega)
          omega
        clear hpl2
        by_cases hlm : m < places.length
        · obtain ⟨g, rfl, hgw, hcm⟩ := Hpl.out m hlm
          have cm := (hB.cell (p := ⟨g, m, none⟩) hgw).trans hcm
          have hmi : (m : Int) < (places.length : Int) := by omega
          have hpx := Hpb.out places[m] (List.getElem_mem hlm)
          have HFT := hid (flatMap_take uB places m hlm)
          generalize places[m] = pl at *
          have v1 : IntKind.u64.wrap (pl : Int) = (pl : Int) := i64_u64 (by omega) (by omega)
          have hul := uB_len10 pl (by omega)
          have HAP : Hid (HD2 ++ (places.take (m + 1)).flatMap uB = HD2 ++ (places.take m).flatMap uB ++ uB pl) := by show _ = _; rw [HFT.out]; simp
          generalize HD2 ++ (places.take m).flatMap uB = S0 at *
          clear hcm
          go_wp2_with fail
          refine (HU.out pl _ (by omega)).mono ?_
          rintro e w6 ⟨rfl, hb6⟩
          have HB6 := hid (hB.trans (hb6.mono hB.size))
          clear hB hb6 cm v1
          go_wp2_with fail
          go_roundw
          case rel => exact ⟨m + 1, by omega, by go_num, by rw [HAP.out]; simp [app_str], HB6.out⟩
          case measure => simp [intOf]; omega
        · have hme : m = places.length := by omega
          subst hme
          rw [List.take_length]
          go_wp2
          go_ret
          exact ⟨ret_str (by rw [← HHD2.out, ← HHD.out, ← HA4.out, ← HA3.out, ← HA2.out]), hB⟩

end Go.Proofs.YthhpbhpfagoapaaGreat

namespace Go.Proofs.YthhpbhpfagoapaaGreat
open Go.RowKit
set_option linter.unusedVariables false
set_option linter.unusedSimpArgs false
set_option maxRecDepth 100000

theorem metaLast_take {L : List SpotB} {k : Nat} (h : k < L.length) (b : Bool) : metaLast b (L.take (k + 1)) = decide ((L[k]).sort = 77) := by
  rw [List.take_succ_eq_append_getElem h, metaLast_append]
  rfl

theorem places_snoc (j : JobB) (r : List KeyB) (st : StB) (L : List SpotB) (k : Nat) (h : k < L.length) : placesB j r st true (L.take (k + 1)) = placesB j r st true (L.take k) ++ (if metaLast true (L.take k) = true then [(spotsSt j r st (L.take k)).out.length] else []) := by
  rw [List.take_succ_eq_append_getElem h, placesB_append]
  simp [placesB]

theorem spots_snoc (j : JobB) (r : List KeyB) (st : StB) (L : List SpotB) (k : Nat) (h : k < L.length) : spotsSt j r st (L.take (k + 1)) = spotSt j r (spotsSt j r st (L.take k)) L[k] := by
  rw [List.take_succ_eq_append_getElem h, spotsSt_append]
  rfl

/-- A place of a row of places, where it lies. -/
theorem spot_at {w : World} {base n : Nat} {sa : Option Addr} {sc : Nat} {L : List SpotB} (h : w.ownsRow base 161 6 (.slice sa n sc) n (spotsC L)) (k : Nat) (hk : k < L.length) :
    ∃ g, sa = some ⟨g, 0, none⟩ ∧ g < w.heap.size ∧ w.cell? ⟨g, k * 6, none⟩ = some (strB [(L[k]).sort]) ∧ w.cell? ⟨g, k * 6 + 1, none⟩ = some (.int .i64 ((L[k]).g : Int)) ∧ w.cell? ⟨g, k * 6 + 2, none⟩ = some (.int .i64 ((L[k]).c : Int)) ∧ w.cell? ⟨g, k * 6 + 3, none⟩ = some (.int .i64 ((L[k]).p : Int)) ∧ w.cell? ⟨g, k * 6 + 4, none⟩ = some (.int .i64 ((L[k]).start : Int)) ∧ w.cell? ⟨g, k * 6 + 5, none⟩ = some (.int .i64 ((L[k]).many : Int)) := by
  have hl : (spotsC L).length = L.length * 6 := flat_length spotC 6 (fun _ => rfl) L
  have hn : n = L.length := by have := h.1; omega
  have at_ : ∀ i, i < 6 → (spotsC L)[k * 6 + i]? = (spotC L[k])[i]? := fun i hi => flat_at spotC 6 (fun _ => rfl) L k i hk hi
  rcases h.2 with ⟨h0, h1⟩ | ⟨g, cap, cur, hv, _⟩
  · omega
  · simp only [Value.slice.injEq] at hv
    obtain ⟨rfl, _, rfl⟩ := hv
    refine ⟨g, rfl, (h.lt g rfl).2, ?_, ?_, ?_, ?_, ?_, ?_⟩
    · rw [h.cellAt _ (by omega)]; exact at_ 0 (by decide)
    · rw [h.cellAt _ (by omega)]; exact at_ 1 (by decide)
    · rw [h.cellAt _ (by omega)]; exact at_ 2 (by decide)
    · rw [h.cellAt _ (by omega)]; exact at_ 3 (by decide)
    · rw [h.cellAt _ (by omega)]; exact at_ 4 (by decide)
    · rw [h.cellAt _ (by omega)]; exact at_ 5 (by decide)

/-- What the loop of the document's Write holds. -/
structure VAt (w : World) (q wj : Nat) (wa : World) (tv : Value) (j : JobB) (sa : Option Addr) (sc : Nat) (L : List SpotB) (log : List SealB) : Prop where
  ref : RefAt w q q j.draw log
  spots : w.ownsRow q 161 6 (.slice sa L.length sc) L.length (spotsC L)
  job : w.heap[wj]? = some (.cells #[tv, .int .i64 j.plan.group, .int .i64 j.plan.page, .int .i64 j.plan.foot, .bool j.plan.told, strB j.pre, .int .i64 j.draw] 26 (0, 0))
  below : Below q wa w

/-- The cells that the loop reads. -/
theorem VAt.cells {w : World} {q wj : Nat} {wa : World} {tv : Value} {j : JobB} {sg sc : Nat} {L : List SpotB} {log : List SealB} (h : VAt w q wj wa tv j (some ⟨sg, 0, none⟩) sc L log) (k : Nat) (hk : k < L.length) :
    w.cell? ⟨wj, 0, none⟩ = some tv ∧ w.cell? ⟨wj, 5, none⟩ = some (strB j.pre) ∧ w.cell? ⟨sg, k * 6, none⟩ = some (strB [(L[k]).sort]) ∧ w.cell? ⟨sg, k * 6 + 1, none⟩ = some (.int .i64 ((L[k]).g : Int)) ∧ w.cell? ⟨sg, k * 6 + 2, none⟩ = some (.int .i64 ((L[k]).c : Int)) ∧ w.cell? ⟨sg, k * 6 + 3, none⟩ = some (.int .i64 ((L[k]).p : Int)) ∧ w.cell? ⟨sg, k * 6 + 4, none⟩ = some (.int .i64 ((L[k]).start : Int)) ∧ w.cell? ⟨sg, k * 6 + 5, none⟩ = some (.int .i64 ((L[k]).many : Int)) := by
  obtain ⟨g, hg, _, h0, h1, h2, h3, h4, h5⟩ := spot_at h.spots k hk
  simp only [Option.some.injEq, Addr.mk.injEq, and_true] at hg
  subst hg
  exact ⟨by rw [cell_of_heap h.job]; rfl, by rw [cell_of_heap h.job]; rfl, h0, h1, h2, h3, h4, h5⟩

theorem VAt.pre {w : World} {q wj : Nat} {wa : World} {tv : Value} {j : JobB} {sa : Option Addr} {sc : Nat} {L : List SpotB} {log : List SealB} (h : VAt w q wj wa tv j sa sc L log) : w.cell? ⟨wj, 5, none⟩ = some (strB j.pre) := by rw [cell_of_heap h.job]; rfl

/-- A row of another type has grown. -/
theorem VAt.grown {w w' : World} {q wj : Nat} {wa : World} {tv : Value} {j : JobB} {sa : Option Addr} {sc : Nat} {L : List SpotB} {log : List SealB} {u : Value} {n : Nat} {xs : List Value} (h : VAt w q wj wa tv j sa sc L log) (hg : w.grownBy w' u.ownBlock) (ho : w.ownsRow q 3 1 u n xs) (hq : q ≤ w.heap.size) : VAt w' q wj wa tv j sa sc L log := by
  obtain ⟨lv, r1, r2, r3⟩ := h.ref
  exact ⟨⟨lv, heap_grown_keep hg ho r1 (by decide), r2, r3.kept hg (own_apart r3 ho (by decide))⟩, h.spots.kept hg (own_apart h.spots ho (by decide)), heap_grown_keep hg ho h.job (by decide), h.below.grown hg hq (fun k hk => (ho.lt k hk).1)⟩

/-- Something was sealed. -/
theorem VAt.sealed {w w' : World} {q wj : Nat} {wa : World} {tv : Value} {j : JobB} {sa : Option Addr} {sc : Nat} {L : List SpotB} {log log2 : List SealB} (h : VAt w q wj wa tv j sa sc L log) (hk : KeptT refT q w w') (hr : RefAt w' q q j.draw log2) : VAt w' q wj wa tv j sa sc L log2 :=
  ⟨hr, hk.owns h.spots (by decide), hk.row h.job (by decide), h.below.trans hk.below⟩

theorem VAt.later {w w' : World} {q wj : Nat} {wa : World} {tv : Value} {j : JobB} {sa : Option Addr} {sc : Nat} {L : List SpotB} {log : List SealB} (h : VAt w q wj wa tv j sa sc L log) (hb : Below w.heap.size w w') (hq : q ≤ w.heap.size) : VAt w' q wj wa tv j sa sc L log :=
  ⟨h.ref.later hb, own_after h.spots hb, heap_later hb h.job, h.below.trans (hb.mono hq)⟩

set_option maxHeartbeats 16000000 in
theorem vwrite_any (ta : Option Addr) (tcap : Nat) (ra : Option Addr) (rcap : Nat) (r : List KeyB) (j : JobB) (w : World) (hL : Laid w ta tcap ra rcap j r) :
    Calls Tryz.prog 36 #[jobV (.slice ta j.table.length tcap) j, .slice ra r.length rcap] w
      fun e w' => ∃ lv, e = .returned (.tuple #[strB (fileB j r), lv]) ∧ w'.ownsRow w.heap.size 40 4 lv (logB j r).length (sealsC (logB j r)) ∧ Below w.heap.size w w' := by
  obtain ⟨i0, hi, hz0, hz1, hz2⟩ := info_parts Tryz.infoIntW
  have HL := hid hL
  have h1 := hL.good.table.few.1
  have hC6 := hL.good.table.few.2
  have hR := hL.good.table.rows
  obtain ⟨⟨hG1, hG6⟩, ⟨hP1, hP6⟩, hf1, hf9⟩ := hL.good.sizes
  have hplan := hL.good.plan
  simp only [planOkB, Bool.and_eq_true, decide_eq_true_eq] at hplan
  have HSP : Hid (∀ w', Calls Tryz.prog 82 #[.int .i64 (rowsB j.table : Int), .int .i64 (j.table.length : Int), .agg #[.int .i64 j.plan.group, .int .i64 j.plan.page, .int .i64 j.plan.foot, .bool j.plan.told]] w'
      fun e w2 => ∃ v, e = .returned v ∧ w2.ownsRow w'.heap.size 161 6 v (spotsJ j).length (spotsC (spotsJ j)) ∧ Below w'.heap.size w' w2) := by
    intro w'
    have h := spots_any (rowsB j.table) j.table.length j.plan.group.toNat j.plan.page.toNat j.plan.foot.toNat j.plan.told w' hR hC6 hG1 hG6 hP1 hP6
    have e1 : ((j.plan.group.toNat : Nat) : Int) = j.plan.group := by omega
    have e2 : ((j.plan.page.toNat : Nat) : Int) = j.plan.page := by omega
    have e3 : ((j.plan.foot.toNat : Nat) : Int) = j.plan.foot := by omega
    rw [e1, e2, e3] at h
    exact h
  have HIn := hid hL.good.spotIn
  have HSt : Hid (∀ s ∈ spotsJ j, s.start < rowsB j.table) := spots_start hG1 hP1
  have hnl := hL.good.spotLen
  have Hbody := hid hL.good.body
  have HST : Hid (startB j.plan = [67, 70] ++ [if j.plan.told = true then 79 else 69] ++ [byB j.plan.foot]) := rfl
  have hsl4 : (startB j.plan).length = 4 := rfl
  have hwf : IntKind.u8.wrap j.plan.foot = j.plan.foot := by simp only [IntKind.wrap_u8]; omega
  go_enter Tryz.func36, Tryz.ntmps36
  go_upto_region 2 with fail
  obtain ⟨hbA, _, _, hhA⟩ := boxedW w #[.slice ta j.table.length tcap, .int .i64 j.plan.group, .int .i64 j.plan.page, .int .i64 j.plan.foot, .bool j.plan.told, strB j.pre, .int .i64 j.draw] 26
  have hsz : (w.alloc (.cells #[.slice ta j.table.length tcap, .int .i64 j.plan.group, .int .i64 j.plan.page, .int .i64 j.plan.foot, .bool j.plan.told, strB j.pre, .int .i64 j.draw] 26)).heap.size = w.heap.size + 1 := by simp
  generalize w.alloc (.cells #[.slice ta j.table.length tcap, .int .i64 j.plan.group, .int .i64 j.plan.page, .int .i64 j.plan.foot, .bool j.plan.told, strB j.pre, .int .i64 j.draw] 26) = wa at *
  obtain ⟨hbB, _, _, hhB⟩ := boxedW wa #[.int .i64 j.draw, .slice none 0 0] 157
  have HLA : Hid (Laid wa ta tcap ra rcap j r) := ⟨HL.out.table.later hbA, HL.out.ring.later hbA, HL.out.len, HL.out.good, HL.out.caps⟩
  have HR0 : Hid (RefAt (wa.alloc (.cells #[.int .i64 j.draw, .slice none 0 0] 157)) wa.heap.size wa.heap.size j.draw []) := ⟨_, hhB, Nat.le_refl _, World.ownsRow_nil _ _ _ _⟩
  have hjB := heap_later hbB hhA
  rw [← hsz]
  clear hhB hsz hhA
  generalize wa.alloc _ = wb at *
  have HbA := hid hbA
  have HbB := hid hbB
  have HjB := hid hjB
  have hlT := HLA.out.table.later hbB
  obtain ⟨tb, toff, rfl, htb, hcell⟩ := hlT.at_ (List.ne_nil_of_length_pos (by omega))
  obtain ⟨_, _, _, v0, f4, ca0, cap0, rfl, hcc0, _⟩ := hcell 0 h1
  simp only [Nat.zero_mul, Nat.add_zero] at f4
  have h0i : (0 : Int) < (j.table.length : Int) := by omega
  have HRW := hid (rowsB_eq (t := j.table) h1)
  obtain ⟨x0, x1, x2, x3, x4⟩ := box_job hjB
  rw [← HRW.out] at f4
  clear hbA hbB hjB hcell hlT
  generalize hqq : wa.heap.size = q at *
  have Hqq := hid hqq
  have hqb : q ≤ wb.heap.size := by have := HbB.out.size; rw [hqq] at this; exact this
  clear hqq
  go_upto_if 30 with fail
  go_cut [8] (fun v wd => v = strB ([67, 70] ++ [if j.plan.told = true then 79 else 69]) ∧ wb = wd)
  case first =>
    cases htd : j.plan.told with
    | true =>
      go_wp2
      go_meet
      case rel => exact ⟨by simp [htd], rfl⟩
    | false =>
      go_wp2
      go_meet
      case rel => exact ⟨by simp [htd], rfl⟩
  case rest =>
    obtain ⟨rfl, rfl⟩ := hcut
    have hc1 := conv_one wb j.plan.foot (by omega) (by omega)
    have hs3 : ([67, 70] ++ [if j.plan.told = true then 79 else 69] : List UInt8).length = 3 := rfl
    have HST2 : Hid (([67, 70] ++ [if j.plan.told = true then 79 else 69]) ++ [byB j.plan.foot] = startB j.plan) := rfl
    generalize ([67, 70] ++ [if j.plan.told = true then 79 else 69] : List UInt8) = S0 at *
    generalize byB j.plan.foot = fb at *
    clear f4
    go_upto_region 8 with fail
    simp only [app_str]
    rw [HST2.out]
    clear hc1 HST HST2 hs3
    have hbC := (Below.refl wb.heap.size wb).alloc (Nat.le_refl _) (.cells #[.int .u8 j.plan.foot] 5)
    have HRC := hid (HR0.out.later hbC)
    have HjC := hid (heap_later hbC HjB.out)
    have HbC := hid (HbB.out.trans (hbC.mono hqb))
    have hqc : q ≤ (wb.alloc (.cells #[.int .u8 j.plan.foot] 5)).heap.size := Nat.le_trans hqb hbC.size
    obtain ⟨y0, y1, y2, y3, y4⟩ := box_job HjC.out
    clear hbC x0 x1 x2 x3 x4 HR0 HjB hqb
    generalize wb.alloc _ = w1 at *
    go_wp2_with fail
    refine (HSP.out w1).mono ?_
    rintro e w2 ⟨sv, rfl, hsp, hb2⟩
    obtain ⟨sa, sc, rfl⟩ := own_slice hsp
    have HV2 : Hid (VAt w2 q w.heap.size wa (.slice (some ⟨tb, toff, none⟩) j.table.length tcap) j sa sc (spotsJ j) []) := ⟨HRC.out.later hb2, own_base (own_after hsp (Below.refl _ _)) hqc, heap_later hb2 HjC.out, HbC.out.trans (hb2.mono hqc)⟩
    have hq2 := Nat.le_trans hqc hb2.size
    clear hsp hb2 y0 y1 y2 y3 y4 HRC HjC HbC hqc HSP
    generalize hLL : spotsJ j = L at *
    have HLL := hid hLL
    clear hLL
    generalize hs0 : startB j.plan = st0 at *
    have Hs0 := hid hs0
    clear hs0
    go_wp2_with fail
    go_loopw [8, 9, 11] (fun fv pv i wr => ∃ k : Nat, k ≤ L.length ∧ i = .int .i64 (k : Int) ∧ fv = strB (spotsSt j r ⟨st0, []⟩ (L.take k)).out ∧ wr.ownsRow q 3 1 pv (placesB j r ⟨st0, []⟩ true (L.take k)).length (placesC (placesB j r ⟨st0, []⟩ true (L.take k))) ∧ VAt wr q w.heap.size wa (.slice (some ⟨tb, toff, none⟩) j.table.length tcap) j sa sc L (spotsSt j r ⟨st0, []⟩ (L.take k)).log ∧ q ≤ wr.heap.size) (fun _ _ i _ => L.length - (intOf i).toNat)
    case atStart => exact ⟨0, Nat.zero_le _, rfl, rfl, World.ownsRow_nil _ _ _ _, HV2.out, hq2⟩
    case round =>
      clear HV2 hq2
      obtain ⟨k, hkl, rfl, rfl, hpl, hv, hqr⟩ := hrel
      have Hv := hid hv
      have Hpl := hid hpl
      obtain ⟨hbo, hbg⟩ := Hbody.out k
      clear hv hpl
      by_cases hlt : k < L.length
      · have hki : (k : Int) < (L.length : Int) := by omega
        obtain ⟨sg, rfl, hsg, s0, s1, s2, s3, s4, s5⟩ := spot_at Hv.out.spots k hlt
        go_upto_region 12 with fail
        go_cut [12] (fun bv wd => bv = .bool (metaLast true (L.take k)) ∧ wr = wd)
        case first =>
          clear s0 s1 s2 s3 s4 s5
          by_cases hk0 : k = 0
          · subst hk0
            go_wp2
            go_meet
            case rel => exact ⟨rfl, rfl⟩
          · obtain ⟨m, rfl⟩ : ∃ m, k = m + 1 := ⟨k - 1, by omega⟩
            obtain ⟨sg', hsg', _, z0, _⟩ := spot_at Hv.out.spots m (by omega)
            simp only [Option.some.injEq, Addr.mk.injEq, and_true] at hsg'
            subst hsg'
            have HML := hid (metaLast_take (L := L) (k := m) (by omega) true)
            have hk1 : (((m : Int) + 1) == 0) = false := by simp; omega
            have hk2 : IntKind.i64.wrap ((m : Int) + 1 - 1) = (m : Int) := by rw [IntKind.wrap_i64]; omega
            have hmi : (m : Int) < (L.length : Int) := by omega
            rcases (HIn.out L[m] (List.getElem_mem (by omega))).sort with hso | hso
            · rw [hso] at z0 HML
              go_wp2
              go_meet
              case rel => exact ⟨by rw [HML.out]; simp, rfl⟩
            · rw [hso] at z0 HML
              go_wp2
              go_meet
              case rel => exact ⟨by rw [HML.out]; simp, rfl⟩
        case rest =>
          obtain ⟨rfl, rfl⟩ := hcut
          clear s0 s1 s2 s3 s4 s5
          have HPN := hid (places_snoc j r ⟨st0, []⟩ L k hlt)
          have hplen : (placesB j r ⟨st0, []⟩ true (L.take k)).length ≤ L.length := by
            have : ∀ (l : List SpotB) (st : StB) (b : Bool), (placesB j r st b l).length ≤ l.length := by
              intro l
              induction l with
              | nil => intro st b; simp [placesB]
              | cons s l ih => intro st b; simp only [placesB, List.length_append, List.length_cons]; have := ih (spotSt j r st s) (decide (s.sort = 77)); split <;> simp <;> omega
            have h9 := this (L.take k) ⟨st0, []⟩ true
            rw [List.length_take] at h9
            omega
          go_upto_if 63 with fail
          go_cut [9, 12, 63] (fun pv _ _ wd => wd.ownsRow q 3 1 pv (placesB j r ⟨st0, []⟩ true (L.take (k + 1))).length (placesC (placesB j r ⟨st0, []⟩ true (L.take (k + 1)))) ∧ VAt wd q w.heap.size wa (.slice (some ⟨tb, toff, none⟩) j.table.length tcap) j (some ⟨sg, 0, none⟩) sc L (spotsSt j r ⟨st0, []⟩ (L.take k)).log ∧ q ≤ wd.heap.size)
          case first =>
            cases hml : metaLast true (L.take k) with
            | true =>
              rw [hml] at HPN
              have hown := Hpl.out
              have hbo2 := hbo
              go_wp2_with (at_builtin; refine wpList_append_own _ rfl (.tmp 64) (.tmp 67) 82 rfl q 3 i0 (.int .i64 0) 1 8 Tryz.underlying82 hi hz0 hz1 hz2 rfl (by decide) _ _ _ rfl (hown.alloc _) ⟨_, 0, none⟩ 1 1 [.int .i64 ((spotsSt j r ⟨st0, []⟩ (L.take k)).out.length : Int)] rfl rfl (cell_laid wr #[.int .i64 ((spotsSt j r ⟨st0, []⟩ (L.take k)).out.length : Int)] 3) (by intro u hu; simp at hu; subst hu; rfl) (by unfold maxLen; omega) (by omega) (by simp; omega) ?_; intro v3 w4 hown4 hgr4 _)
              have HO4 : Hid (w4.ownsRow q 3 1 v3 (placesB j r ⟨st0, []⟩ true (L.take (k + 1))).length (placesC (placesB j r ⟨st0, []⟩ true (L.take (k + 1))))) := by
                show World.ownsRow _ _ _ _ _ _ _
                rw [HPN.out, if_pos trivial, placesC_snoc, List.length_append]
                exact hown4
              have hba := (Below.refl wr.heap.size wr).alloc (Nat.le_refl _) (.cells #[.int .i64 ((spotsSt j r ⟨st0, []⟩ (L.take k)).out.length : Int)] 3)
              have HV4 := hid ((Hv.out.later hba hqr).grown hgr4 (hown.alloc _) (Nat.le_trans hqr hba.size))
              have hq4 : q ≤ w4.heap.size := Nat.le_trans (Nat.le_trans hqr hba.size) hgr4.size
              clear hown hown4 hgr4 hba
              go_wp2
              go_meet
              case rel => exact ⟨HO4.out, HV4.out, hq4⟩
            | false =>
              rw [hml] at HPN
              go_wp2
              go_meet
              case rel => exact ⟨by rw [HPN.out]; simpa using Hpl.out, Hv.out, hqr⟩
          case rest =>
            obtain ⟨hpl, hv, hqc⟩ := hcut
            have Hpl2 := hid hpl
            clear Hpl Hv hpl HPN hplen
            have hin := HIn.out L[k] (List.getElem_mem hlt)
            have hst := HSt.out L[k] (List.getElem_mem hlt)
            have hBc := hv.below
            have Hv := hid hv
            have HSN := hid (spots_snoc j r ⟨st0, []⟩ L k hlt)
            have hpl3 := plain_len HL.out.good.table hin.col hin.few.2.2.2.2
            have HPO : Hid (∀ w', Below q wa w' → Calls Tryz.prog 83 #[.slice (some ⟨tb, toff, none⟩) j.table.length tcap, .agg #[strB [(L[k]).sort], .int .i64 ((L[k]).g : Int), .int .i64 ((L[k]).c : Int), .int .i64 ((L[k]).p : Int), .int .i64 ((L[k]).start : Int), .int .i64 ((L[k]).many : Int)]] w'
                fun e w2 => e = .returned (strB (plainB j.table L[k])) ∧ Below w'.heap.size w' w2) := fun w' hw' => plainOf_any (some ⟨tb, toff, none⟩) tcap j.table L[k] w' HL.out.good.table hin hst (HLA.out.table.later (by rw [Hqq.out]; exact hw'))
            have HKY : Hid (∀ w', Below q wa w' → w'.cell? ⟨tb, toff + (L[k]).c * 4 + 2, none⟩ = some (.int .i64 (j.table[(L[k]).c]'hin.col).key)) := by
              intro w' hw'
              obtain ⟨tb', toff', hta', _, hcell'⟩ := (HLA.out.table.later (by rw [Hqq.out]; exact hw')).at_ (List.ne_nil_of_length_pos (by omega))
              simp only [Option.some.injEq, Addr.mk.injEq, and_true] at hta'
              obtain ⟨rfl, rfl⟩ := hta'
              exact (hcell' _ hin.col).2.2.1
            have HSP2 : Hid (spotSt j r (spotsSt j r ⟨st0, []⟩ (L.take k)) L[k] = modSt j r (j.table[(L[k]).c]'hin.col).key (L[k]).sort (L[k]).g (L[k]).c (L[k]).p (plainB j.table L[k]) (spotsSt j r ⟨st0, []⟩ (L.take k))) := by
              show _ = _
              simp only [spotSt, colAt_eq hin.col]
            have hci2 : (((L[k]).c : Nat) : Int) < (j.table.length : Int) := by have := hin.col; omega
            have hkr := (HL.out.good.table.head _ hin.col).2.2
            generalize (j.table[(L[k]).c]'hin.col).key = ky at *
            generalize plainB j.table L[k] = PL at *
            obtain ⟨hf1', hf2', hf3', _⟩ := hin.few
            have htbw : tb < wa.heap.size := by
              obtain ⟨tb', toff', hta', hlt', _⟩ := HLA.out.table.at_ (List.ne_nil_of_length_pos (by omega))
              simp only [Option.some.injEq, Addr.mk.injEq, and_true] at hta'
              obtain ⟨rfl, rfl⟩ := hta'
              exact hlt'
            clear hin hst
            go_wp2_with fail
            go_region_held3 (fun w' => w'.cell? ⟨w.heap.size, 0, none⟩ = some (.slice (some ⟨tb, toff, none⟩) j.table.length tcap) ∧ w'.cell? ⟨w.heap.size, 5, none⟩ = some (strB j.pre) ∧ w'.cell? ⟨sg, k * 6, none⟩ = some (strB [(L[k]).sort]) ∧ w'.cell? ⟨sg, k * 6 + 1, none⟩ = some (.int .i64 ((L[k]).g : Int)) ∧ w'.cell? ⟨sg, k * 6 + 2, none⟩ = some (.int .i64 ((L[k]).c : Int)) ∧ w'.cell? ⟨sg, k * 6 + 3, none⟩ = some (.int .i64 ((L[k]).p : Int)) ∧ w'.cell? ⟨sg, k * 6 + 4, none⟩ = some (.int .i64 ((L[k]).start : Int)) ∧ w'.cell? ⟨sg, k * 6 + 5, none⟩ = some (.int .i64 ((L[k]).many : Int)))
              (first | exact Hv5.cells k hlt | exact Hv.out.cells k hlt)
              (first | (go_at_call 83; refine (HPO.out _ hBc.drew).mono ?_; rintro e w5 ⟨rfl, hb5⟩; replace hb5 := below_undrew hb5; have Hv5 := Hv.out.later hb5 hqc))
            rename_i hS5
            clear hS5
            have hq5 : q ≤ w5.heap.size := Nat.le_trans hqc hb5.size
            have Hpl5 := hid (own_after Hpl2.out hb5)
            have hky5 := HKY.out w5 Hv5.below
            obtain ⟨d0, d5, e0, e1, e2, e3, _⟩ := Hv5.cells k hlt
            go_wp2_with fail
            go_quiet (fail)
            clear d0 d5 e0 e1 e2 e3 hky5
            by_cases hk0 : ky = 0
            · have HM : Hid (spotSt j r (spotsSt j r ⟨st0, []⟩ (L.take k)) L[k] = openSt PL (spotsSt j r ⟨st0, []⟩ (L.take k))) := by show _ = _; rw [HSP2.out, modSt, if_pos hk0]
              subst hk0
              have h2p : (twoB (PL.length : Int)).length ≤ 2 := Nat.le_of_eq (twoB_length _)
              go_wp2_with fail
              refine (twoRef_any (PL.length : Int) _ (by omega) (by omega)).mono ?_
              rintro e w6 ⟨rfl, hb6⟩
              have hb6' : Below w5.heap.size w5 w6 := ⟨hb6.os, hb6.tape, hb6.output, hb6.size, hb6.block⟩
              have HV6 := hid (Hv5.later hb6' hq5)
              have HP6 := hid (own_after Hpl5.out hb6')
              have hq6 : q ≤ w6.heap.size := Nat.le_trans hq5 hb6'.size
              clear hb6 hb6'
              go_wp2
              go_roundw
              case rel => exact ⟨k + 1, by omega, by go_num, by rw [HSN.out, HM.out]; simp [openSt, app_str], HP6.out, by rw [HSN.out, HM.out]; exact HV6.out, hq6⟩
              case measure => simp [intOf]; omega
            · have hk1 : (ky == 0) = false := by simp [hk0]
              have HM : Hid (spotSt j r (spotsSt j r ⟨st0, []⟩ (L.take k)) L[k] = ⟨(spotsSt j r ⟨st0, []⟩ (L.take k)).out ++ sealedTx j.draw (secretB r ky) (boundB j.pre (L[k]).sort (L[k]).g (L[k]).c (L[k]).p) PL (spotsSt j r ⟨st0, []⟩ (L.take k)).log.length, (spotsSt j r ⟨st0, []⟩ (L.take k)).log ++ [sealedOf j.draw (secretB r ky) (boundB j.pre (L[k]).sort (L[k]).g (L[k]).c (L[k]).p) PL (spotsSt j r ⟨st0, []⟩ (L.take k)).log.length]⟩) := by
                show _ = _
                rw [HSP2.out, modSt, if_neg hk0]
                rfl
              have htl : (sealedTx j.draw (secretB r ky) (boundB j.pre (L[k]).sort (L[k]).g (L[k]).c (L[k]).p) PL (spotsSt j r ⟨st0, []⟩ (L.take k)).log.length).length ≤ PL.length + 8 := by
                simp only [sealedTx, List.length_append, twoB_length, nonce_len, bodyB_length]; omega
              have hsec := HLA.out.secret ky
              have hbl := bound_len j.pre (L[k]).sort (L[k]).g (L[k]).c (L[k]).p HL.out.good.pre
              have hbn := below_drewN (Below.refl w5.heap.size w5) nq
              have Hvn := Hv5.later hbn hq5
              have Hpln := hid (own_after Hpl5.out hbn)
              have hqn : q ≤ (w5.drewN nq).heap.size := Nat.le_trans hq5 hbn.size
              clear hk0 hbn
              generalize w5.drewN nq = wn at *
              have q1 : ¬ (9223372036854775807 < (spotsSt j r ⟨st0, []⟩ (L.take k)).out.length + (sealedTx j.draw (secretB r ky) (boundB j.pre (L[k]).sort (L[k]).g (L[k]).c (L[k]).p) PL (spotsSt j r ⟨st0, []⟩ (L.take k)).log.length).length) := by omega
              go_wp2_with fail
              go_region_held3 (fun w' => w'.cell? ⟨w.heap.size, 0, none⟩ = some (.slice (some ⟨tb, toff, none⟩) j.table.length tcap) ∧ w'.cell? ⟨w.heap.size, 5, none⟩ = some (strB j.pre) ∧ w'.cell? ⟨sg, k * 6, none⟩ = some (strB [(L[k]).sort]) ∧ w'.cell? ⟨sg, k * 6 + 1, none⟩ = some (.int .i64 ((L[k]).g : Int)) ∧ w'.cell? ⟨sg, k * 6 + 2, none⟩ = some (.int .i64 ((L[k]).c : Int)) ∧ w'.cell? ⟨sg, k * 6 + 3, none⟩ = some (.int .i64 ((L[k]).p : Int)) ∧ w'.cell? ⟨sg, k * 6 + 4, none⟩ = some (.int .i64 ((L[k]).start : Int)) ∧ w'.cell? ⟨sg, k * 6 + 5, none⟩ = some (.int .i64 ((L[k]).many : Int)))
                (first | exact Hv8.cells k hlt | exact Hv7.cells k hlt | exact Hv6.cells k hlt | exact Hvn.cells k hlt)
                (first
                  | (go_at_call 81; refine (secretRef_any ra rcap r ky _ HL.out.len (HLA.out.ring.later (by rw [Hqq.out]; exact Hvn.below.drew))).mono ?_; rintro e w6 ⟨rfl, hb6⟩; replace hb6 := below_undrew hb6; have Hv6 := Hvn.later hb6 hqn; have hq6 := Nat.le_trans hqn hb6.size)
                  | (go_at_call 86; refine (bound_any j.pre (L[k]).sort (L[k]).g (L[k]).c (L[k]).p _ HL.out.good.pre (by omega) (by omega) (by omega)).mono ?_; rintro e w7 ⟨rfl, hb7⟩; have Hv7 := Hv6.later hb7 hq6; have hq7 := Nat.le_trans hq6 hb7.size)
                  | (go_at_call 85; refine (vseal_any q q j.draw (spotsSt j r ⟨st0, []⟩ (L.take k)).log (secretB r ky) (boundB j.pre (L[k]).sort (L[k]).g (L[k]).c (L[k]).p) PL _ (by omega) (by omega) (by omega) hsec HL.out.good.draw.1 HL.out.good.draw.2 hq7 Hv7.ref).mono ?_; rintro e w8 ⟨rfl, hr8, hk8⟩; have Hv8 := Hv7.sealed hk8 hr8))
              rename_i hS8
              clear hS8
              have HP8 := hid (hk8.owns (own_after (own_after Hpln.out hb6) hb7) (by decide))
              have HV8 := hid Hv8
              have hq8 : q ≤ w8.heap.size := Nat.le_trans hq7 hk8.size
              clear Hvn Hv6 Hv7 Hv8 hb6 hb7 hk8 hr8 q1
              go_wp2
              go_roundw
              case rel => exact ⟨k + 1, by omega, by go_num, by rw [HSN.out, HM.out]; simp [app_str], HP8.out, by rw [HSN.out, HM.out]; exact HV8.out, hq8⟩
              case measure => simp [intOf]; omega
      · have hke : k = L.length := by omega
        subst hke
        rw [List.take_length] at *
        have HV := hid Hv.out
        have HPL := hid Hpl.out
        have HBS : Hid (spotsSt j r ⟨st0, []⟩ L = bodySt j r) := by show _ = _; rw [bodySt, HLL.out, Hs0.out]
        have HPJ : Hid (placesB j r ⟨st0, []⟩ true L = placesJ j r) := by show _ = _; rw [placesJ, HLL.out, Hs0.out]
        rw [HPJ.out] at HPL
        rw [HBS.out] at HV hbo hbg
        rw [HBS.out]
        obtain ⟨hp1, hp2, hp3⟩ := HL.out.good.foot
        obtain ⟨pa, pc, hpe, hpc⟩ := places_at HPL.out
        have HFT : Hid (∀ w', Below wr.heap.size wr w' → Calls Tryz.prog 87 #[.int .i64 (rowsB j.table : Int), .agg #[.int .i64 j.plan.group, .int .i64 j.plan.page, .int .i64 j.plan.foot, .bool j.plan.told], .slice (some ⟨tb, toff, none⟩) j.table.length tcap, .slice pa (placesJ j r).length pc] w'
            fun e w2 => e = .returned (strB (footJ j r)) ∧ Below w'.heap.size w' w2) := by
          intro w' hw'
          have h := footRef_any (rowsB j.table) j.plan.group.toNat j.plan.page.toNat j.plan.foot.toNat j.plan.told (some ⟨tb, toff, none⟩) tcap j.table pa pc (placesJ j r) w' hR (by omega) (by omega) (by omega) hC6 hp1 hp2 (by
            intro c hc
            obtain ⟨k, hk, rfl⟩ := List.mem_iff_getElem.1 hc
            obtain ⟨a1, a2, a3, a4⟩ := HL.out.good.table.head k hk
            exact ⟨(name_len a1).2, by omega, a3, a4⟩) (HLA.out.table.later (by rw [Hqq.out]; exact HV.out.below.trans (hw'.mono hqr))) (by
            intro i hi2
            obtain ⟨g, h1, h2, h3⟩ := hpc i hi2
            exact ⟨g, h1, Nat.lt_of_lt_of_le h2 hw'.size, (hw'.cell (p := ⟨g, i, none⟩) h2).trans h3⟩)
          have e1 : ((j.plan.group.toNat : Nat) : Int) = j.plan.group := by omega
          have e2 : ((j.plan.page.toNat : Nat) : Int) = j.plan.page := by omega
          have e3 : ((j.plan.foot.toNat : Nat) : Int) = j.plan.foot := by omega
          rw [e1, e2, e3] at h
          exact h
        have hfj := hp3
        have HFB : Hid (fileB j r = (endSt j r (footJ j r) (bodySt j r)).out ++ (twoB (((endSt j r (footJ j r) (bodySt j r)).out.length - (bodySt j r).out.length : Nat) : Int) ++ [67, 70])) := rfl
        have HLB : Hid (logB j r = (endSt j r (footJ j r) (bodySt j r)).log) := rfl
        have hel := end_len j r (footJ j r) (bodySt j r) hp3
        have HES : Hid (endSt j r (footJ j r) (bodySt j r) = if j.plan.told = true then sealSt j.draw (secretB r j.plan.foot) (boundB j.pre 83 0 0 0 ++ footJ j r) [] (openSt (footJ j r) (bodySt j r)) else sealSt j.draw (secretB r j.plan.foot) (boundB j.pre 70 0 0 0) (footJ j r) (bodySt j r)) := rfl
        have hsec := HLA.out.secret j.plan.foot
        have hbl1 := bound_len j.pre 83 0 0 0 HL.out.good.pre
        have hbl2 := bound_len j.pre 70 0 0 0 HL.out.good.pre
        clear HPJ HBS hpc hp2 HPL Hpl Hv
        subst hpe
        generalize placesJ j r = plj at *
        generalize footJ j r = f at *
        generalize bodySt j r = bst at *
        obtain ⟨x0, x1, x2, x3, x4⟩ := box_job HV.out.job
        go_wp2_with fail
        refine (HFT.out wr (Below.refl _ _)).mono ?_
        rintro e w3 ⟨rfl, hb3⟩
        have HV3 := hid (HV.out.later hb3 hqr)
        have hq3 : q ≤ w3.heap.size := Nat.le_trans hqr hb3.size
        clear x0 x1 x2 x3 x4 hb3 HFT HV
        obtain ⟨x0, x1, x2, x3, x4⟩ := box_job HV3.out.job
        go_wp2_with fail
        refine (secretRef_any ra rcap r j.plan.foot w3 HL.out.len (HLA.out.ring.later (by rw [Hqq.out]; exact HV3.out.below))).mono ?_
        rintro e w4 ⟨rfl, hb4⟩
        have HV4 := hid (HV3.out.later hb4 hq3)
        have hq4 : q ≤ w4.heap.size := Nat.le_trans hq3 hb4.size
        clear x0 x1 x2 x3 x4 hb4 HV3
        generalize secretB r j.plan.foot = sec at *
        obtain ⟨x0, x1, x2, x3, x4⟩ := box_job HV4.out.job
        go_upto_if 140 with fail
        go_cut [17] (fun ev wd => ∃ T, ev = strB T ∧ (endSt j r f bst).out = bst.out ++ T ∧ VAt wd q w.heap.size wa (.slice (some ⟨tb, toff, none⟩) j.table.length tcap) j sa sc L (endSt j r f bst).log ∧ q ≤ wd.heap.size)
        case first =>
          cases htd : j.plan.told with
          | true =>
            have HES2 : Hid (endSt j r f bst = ⟨bst.out ++ (twoB (f.length : Int) ++ f ++ sealedTx j.draw sec (boundB j.pre 83 0 0 0 ++ f) [] bst.log.length), bst.log ++ [sealedOf j.draw sec (boundB j.pre 83 0 0 0 ++ f) [] bst.log.length]⟩) := by
              show _ = _
              rw [HES.out, htd, if_pos rfl]
              simp [sealSt, openSt, sealedTx, sealedOf]
            have h2f : (twoB (f.length : Int)).length ≤ 2 := Nat.le_of_eq (twoB_length _)
            have htx : (sealedTx j.draw sec (boundB j.pre 83 0 0 0 ++ f) [] bst.log.length).length ≤ 8 := by
              simp only [sealedTx, List.length_append, twoB_length, nonce_len, bodyB_length, List.length_nil]; omega
            have hxl : (boundB j.pre 83 0 0 0 ++ f).length ≤ 5000 := by rw [List.length_append]; omega
            have HTW : Hid (∀ w', Calls Tryz.prog 84 #[.int .i64 (f.length : Int)] w' fun e w2 => e = .returned (strB (twoB (f.length : Int))) ∧ Below w'.heap.size w' w2) := fun w' => twoRef_any _ w' (by omega) (by omega)
            have q1 : ¬ (9223372036854775807 < (twoB (f.length : Int)).length + f.length) := by omega
            have q2 : ¬ (9223372036854775807 < (boundB j.pre 83 0 0 0).length + f.length) := by omega
            have q3 : ¬ (9223372036854775807 < (twoB (f.length : Int)).length + f.length + (sealedTx j.draw sec (boundB j.pre 83 0 0 0 ++ f) [] bst.log.length).length) := by omega
            have HV4' := HV4.out
            have y5 := HV4'.pre
            have HB8 := hid (fun w' => bound_any j.pre 83 0 0 0 w' HL.out.good.pre (by decide) (by decide) (by decide))
            have HSE := hid (fun w' => vseal_any q q j.draw bst.log sec (boundB j.pre 83 0 0 0 ++ f) [] w' (by omega) (by decide) hxl hsec HL.out.good.draw.1 HL.out.good.draw.2)
            generalize twoB (f.length : Int) = T2 at *
            generalize hTXX : sealedTx j.draw sec (boundB j.pre 83 0 0 0 ++ f) [] bst.log.length = TXX at *
            generalize hBD : boundB j.pre 83 0 0 0 = BD at *
            clear hTXX hBD
            go_wp2_with fail
            go_region_held3 (fun w' => w'.cell? ⟨w.heap.size, 5, none⟩ = some (strB j.pre))
              (first | exact y8 | exact y7 | exact y6 | exact y5)
              (first
                | (go_at_call 84; refine (HTW.out _).mono ?_; rintro e w6 ⟨rfl, hb6⟩; replace hb6 := below_undrew hb6; have Hv6 := HV4'.later hb6 hq4; have y6 := Hv6.pre; have hq6 := Nat.le_trans hq4 hb6.size)
                | (go_at_call 86; refine (HB8.out _).mono ?_; rintro e w7 ⟨rfl, hb7⟩; have Hv7 := Hv6.later hb7 hq6; have y7 := Hv7.pre; have hq7 := Nat.le_trans hq6 hb7.size)
                | (go_at_call 85; rw [app_str]; refine (HSE.out _ hq7 Hv7.ref).mono ?_; rintro e w8 ⟨rfl, hr8, hk8⟩; have Hv8 := Hv7.sealed hk8 hr8; have y8 := Hv8.pre))
            rename_i hS8
            clear hS8
            have HV8 := hid Hv8
            have hq8 : q ≤ w8.heap.size := Nat.le_trans hq7 hk8.size
            clear y5 y6 y7 y8 Hv6 Hv7 Hv8 hb6 hb7 hk8 hr8 q1 q2 q3 HV4'
            go_wp2
            go_meet
            case rel => exact ⟨T2 ++ f ++ TXX, by simp [app_str], by rw [HES2.out], by rw [HES2.out]; exact HV8.out, hq8⟩
          | false =>
            have HES2 : Hid (endSt j r f bst = ⟨bst.out ++ sealedTx j.draw sec (boundB j.pre 70 0 0 0) f bst.log.length, bst.log ++ [sealedOf j.draw sec (boundB j.pre 70 0 0 0) f bst.log.length]⟩) := by
              show _ = _
              rw [HES.out, htd, if_neg (by simp)]
              simp [sealSt, sealedTx, sealedOf]
            have HV4' := HV4.out
            have y5 := HV4'.pre
            go_wp2_with fail
            refine (bound_any j.pre 70 0 0 0 w4 HL.out.good.pre (by decide) (by decide) (by decide)).mono ?_
            rintro e w7 ⟨rfl, hb7⟩
            have Hv7 := hid (HV4'.later hb7 hq4)
            have hq7 : q ≤ w7.heap.size := Nat.le_trans hq4 hb7.size
            clear y5 HV4' hb7
            go_wp2_with fail
            refine (vseal_any q q j.draw bst.log sec (boundB j.pre 70 0 0 0) f w7 (by omega) (by omega) (by omega) hsec HL.out.good.draw.1 HL.out.good.draw.2 hq7 Hv7.out.ref).mono ?_
            rintro e w8 ⟨rfl, hr8, hk8⟩
            have HV8 := hid (Hv7.out.sealed hk8 hr8)
            have hq8 : q ≤ w8.heap.size := Nat.le_trans hq7 hk8.size
            clear hk8 hr8
            go_wp2
            go_meet
            case rel => exact ⟨_, rfl, by rw [HES2.out], by rw [HES2.out]; exact HV8.out, hq8⟩
        case rest =>
          obtain ⟨T, rfl, hT, hv5, hq5⟩ := hcut
          have HB5 : Hid (Below w.heap.size w wc) := HbA.out.trans (hv5.below.mono (by rw [← Hqq.out]; exact HbA.out.size))
          have hBq5 : w.heap.size ≤ q := by rw [← Hqq.out]; exact HbA.out.size
          obtain ⟨lv, hrow5, _, hlog5⟩ := hv5.ref
          obtain ⟨la, lc, rfl⟩ := own_slice hlog5
          obtain ⟨_, c1⟩ := ref_two hrow5
          have hT2 : (endSt j r f bst).out.length - bst.out.length = T.length := by rw [hT, List.length_append]; omega
          obtain ⟨he1, he2⟩ := hel
          have hTl : T.length ≤ 4000 := by omega
          rw [hT2, hT] at HFB
          have HL5 := hid (own_mono hlog5 hBq5)
          rw [← HLB.out] at HL5
          have h2t : (twoB (T.length : Int)).length ≤ 2 := Nat.le_of_eq (twoB_length _)
          have HTt : Hid (∀ w', Calls Tryz.prog 84 #[.int .i64 (T.length : Int)] w' fun e w2 => e = .returned (strB (twoB (T.length : Int))) ∧ Below w'.heap.size w' w2) := fun w' => twoRef_any _ w' (by omega) (by omega)
          have q1 : ¬ (9223372036854775807 < bst.out.length + T.length) := by omega
          have q2 : ¬ (9223372036854775807 < bst.out.length + T.length + (twoB (T.length : Int)).length) := by omega
          have q3 : ¬ (9223372036854775807 < bst.out.length + T.length + (twoB (T.length : Int)).length + 2) := by omega
          clear hT hT2 hlog5 hv5 HES he1 he2 x0 x1 x2 x3 x4 HV4
          go_wp2_with fail
          go_region_held3 (fun w' => w'.cell? ⟨q, 1, none⟩ = some (.slice la (endSt j r f bst).log.length lc))
            (first | exact (ref_two Y6).2 | exact c1)
            (first
              | (go_at_call 84; refine (HTt.out _).mono ?_; rintro e w6 ⟨rfl, hb6⟩; replace hb6 := below_undrew hb6; have Y6 := heap_later hb6 hrow5))
          rename_i hS6
          clear hS6
          go_wp2
          go_ret2
          refine ⟨_, ?_, own_after HL5.out hb6, HB5.out.trans (hb6.mono HB5.out.size)⟩
          show Ending.returned (.tuple #[.string (⟨bst.out.toArray⟩ ++ ⟨T.toArray⟩ ++ ⟨(twoB (T.length : Int)).toArray⟩ ++ ⟨[67, 70].toArray⟩), .slice la (endSt j r f bst).log.length lc]) = _
          rw [HLB.out, HFB.out, app_str, app_str, app_str, List.append_assoc (bst.out ++ T)]

end Go.Proofs.YthhpbhpfagoapaaGreat

namespace Go.Proofs.YthhpbhpfagoapaaGreat
open Go.RowKit
set_option linter.unusedVariables false
set_option linter.unusedSimpArgs false
set_option maxRecDepth 100000

theorem GoodJ.logLen {j : JobB} {r : List KeyB} (h : GoodJ j r) : (logB j r).length ≤ 100000 := by
  have := (h.body (spotsJ j).length).2
  rw [List.take_length] at this
  unfold logB endSt
  have e : bodySt j r = spotsSt j r ⟨startB j.plan, []⟩ (spotsJ j) := rfl
  rw [← e] at this
  split
  · rw [(seal_len _ _ _ _ _).2]; simp only [openSt]; omega
  · rw [(seal_len _ _ _ _ _).2]; omega

set_option maxHeartbeats 4000000 in
theorem write_walk (ta : Option Addr) (tcap : Nat) (ra : Option Addr) (rcap : Nat) (r : List KeyB) (j : JobB) (w : World) (hj : LiesJ w ta tcap j) (hjm : j.table.length * 56 ≤ 140737488351232) (hr : LiesK w ra r) (hrm : r.length * 24 ≤ 140737488351232) :
    Calls Tryz.prog 9 #[jobV (.slice ta j.table.length tcap) j, .slice ra r.length rcap] w fun e w' => (∃ lv, e = .returned (.tuple #[lv, .bool true])) ∧ Below w.heap.size w w' := by
  have Hj := hid hj
  have Hr := hid hr
  have hrl : r.length ≤ maxLen := by unfold maxLen; omega
  have HGE := hid (fun h => good_of_err (j := j) (r := r) h (lies_fits hj.table))
  clear hj hr
  go_enter Tryz.func9, Tryz.ntmps9
  go_wp2_with fail
  obtain ⟨hb0, hs0, _, _⟩ := boxedW w #[.slice ta j.table.length tcap, .int .i64 j.plan.group, .int .i64 j.plan.page, .int .i64 j.plan.foot, .bool j.plan.told, strB j.pre, .int .i64 j.draw] 26
  have Hx0 := hid (boxJ_new w (.slice ta j.table.length tcap) j 26)
  have Hj0 := hid (Hj.out.later hb0)
  have Hr0 := hid (Hr.out.later hb0)
  have Hb0 := hid hb0
  clear hb0 Hj Hr
  generalize w.alloc (.cells #[.slice ta j.table.length tcap, .int .i64 j.plan.group, .int .i64 j.plan.page, .int .i64 j.plan.foot, .bool j.plan.told, strB j.pre, .int .i64 j.draw] 26) = w0 at *
  refine (jobOf_any ta tcap j w0 Hj0.out hjm).mono ?_
  rintro e w1 ⟨g, rfl, hH1, hb1⟩
  have HH1 := hid hH1
  clear hH1
  go_wp2_with fail
  obtain ⟨hbo, hso, _, _⟩ := boxedW w1 #[.slice (some ⟨g, 0, none⟩) j.table.length (j.table.length + 8), .int .i64 j.plan.group, .int .i64 j.plan.page, .int .i64 j.plan.foot, .bool j.plan.told, strB j.pre, .int .i64 j.draw] 26
  have Hyb := hid (boxJ_new w1 (.slice (some ⟨g, 0, none⟩) j.table.length (j.table.length + 8)) j 26)
  generalize w1.alloc (.cells #[.slice (some ⟨g, 0, none⟩) j.table.length (j.table.length + 8), .int .i64 j.plan.group, .int .i64 j.plan.page, .int .i64 j.plan.foot, .bool j.plan.told, .string ⟨j.pre.toArray⟩, .int .i64 j.draw] 26) = wb at *
  have hbb := hb1.trans (hbo.mono hb1.size)
  have Hxb := hid (Hx0.out.later hs0 hbb)
  have hpo : w1.heap.size < wb.heap.size := hso
  have hpj : w.heap.size < wb.heap.size := by have := hbb.size; omega
  have HHb := hid (HH1.out.later hbo)
  have HJb := hid (Hj0.out.later hbb)
  have HRb := hid (Hr0.out.later hbb)
  have HBb := hid (Hb0.out.trans (hbb.mono Hb0.out.size))
  clear hb1 hbo hbb hso Hx0 HH1 Hj0 Hr0 Hb0 hs0
  generalize w1.heap.size = po at *
  refine (keysOf_any ra rcap r wb hrm HRb.out).mono ?_
  rintro e w2 ⟨q, rfl, hK2, hb2⟩
  have HK2 := hid hK2
  have HH2 := hid (HHb.out.later hb2)
  clear hK2
  have HJ2 : Hid (LiesJ w2 (some ⟨g, 0, none⟩) (j.table.length + 8) j) := ⟨HH2.out.lies HJb.out.table, HJb.out.len, by omega, HJb.out.pre, HJb.out.draw, HJb.out.group, HJb.out.page, HJb.out.foot⟩
  have HR2 : Hid (LiesK w2 (some ⟨q, 0, none⟩) r) := ownK_prefix (by have := HK2.out; rw [markedK_full] at this; exact this) HRb.out.ok
  obtain ⟨y0, y1, y2, y3, y4, y5, y6⟩ := Hyb.out.later hpo hb2
  go_wp2_with fail
  clear y0 y1 y2 y3 y4 y5 y6
  refine (write_does (some ⟨g, 0, none⟩) (j.table.length + 8) (some ⟨q, 0, none⟩) (r.length + 8) r j w2 HJ2.out HR2.out hrl).mono ?_
  rintro e w3 ⟨hb3, hcase⟩
  have hB3 := hb2.trans (hb3.mono hb2.size)
  have HH3 := hid (HH2.out.later hb3)
  have HK3 := hid (own_laterT HK2.out hb3)
  clear hb2 hb3 HJ2 HR2 HH2 HK2 HHb
  by_cases hz : jobErrB j r = 0
  · obtain ⟨lv, rfl, hl⟩ : ∃ lv, e = .returned (.tuple #[strB (fileB j r), lv, .int .i64 0]) ∧ w3.ownsRow w2.heap.size 40 4 lv (logB j r).length (sealsC (logB j r)) := by
      rcases hcase with ⟨hne, _⟩ | ⟨_, h⟩
      · exact absurd hz hne
      · exact h
    have HG := hid (HGE.out hz)
    have Hz := hid hz
    have HL3 := hid hl
    clear hcase hz hl HGE
    have hll := HG.out.logLen
    obtain ⟨y0, y1, y2, y3, y4, y5, y6⟩ := Hyb.out.later hpo hB3
    obtain ⟨x0, x1, x2, x3, x4, x5, x6⟩ := Hxb.out.later hpj hB3
    go_wp2_with fail
    clear y0 y1 y2 y3 y4 y5 y6 x0 x1 x2 x3 x4 x5 x6
    refine (stillJ_any ta tcap g w0.heap.size j w3 (HJb.out.later hB3) hjm HH3.out).mono ?_
    rintro e w4 ⟨rfl, hb4⟩
    have hB4 := hB3.trans (hb4.mono hB3.size)
    go_wp2_with fail
    refine (stillK_any ra rcap q wb.heap.size r w4 hrm (HRb.out.later hB4) (own_laterT HK3.out hb4)).mono ?_
    rintro e w5 ⟨rfl, hb5⟩
    have hB5 := hB4.trans (hb5.mono hB4.size)
    have HL5 := hid (own_laterT (own_laterT HL3.out hb4) hb5)
    clear hB4 hB3 hb4 hb5
    obtain ⟨x0, x1, x2, x3, x4, x5, x6⟩ := Hxb.out.later hpj hB5
    go_wp2_with fail
    clear x0 x1 x2 x3 x4 x5 x6
    refine (jobRef_any ta tcap j ra rcap r w5 (HJb.out.later hB5) (HRb.out.later hB5) hrl).mono ?_
    rintro e w6 ⟨rfl, hb6⟩
    have hB6 := hB5.trans (hb6.mono hB5.size)
    have HL6 := hid (own_laterT HL5.out hb6)
    rw [Hz.out]
    clear hB5 hb6 HL5
    obtain ⟨x0, x1, x2, x3, x4, x5, x6⟩ := Hxb.out.later hpj hB6
    go_wp2_with fail
    clear x0 x1 x2 x3 x4 x5 x6
    refine (vwrite_any ta tcap ra rcap r j w6 ⟨HJb.out.table.later hB6, HRb.out.later hB6, hrl, HG.out, HJb.out.cap_⟩).mono ?_
    rintro e w7 ⟨lv2, rfl, hl2, hb7⟩
    have hB7 := hB6.trans (hb7.mono hB6.size)
    obtain ⟨la, lcap, rfl, hla⟩ := own_liesS (own_laterT HL6.out hb7)
    obtain ⟨la2, lcap2, rfl, hla2⟩ := own_liesS hl2
    have HB7 := hid (HBb.out.trans (hB7.mono HBb.out.size))
    have HLA := hid hla
    have HLA2 := hid hla2
    clear hb7 hl2 hB6 hB7 hla hla2 HL3 HL6
    generalize fileB j r = FF at *
    generalize logB j r = LG at *
    go_wp2_with fail
    refine (sameS_eq la la2 lcap lcap2 LG w7 hll HLA.out HLA2.out).mono ?_
    rintro e w8 ⟨rfl, hb8⟩
    have HB8 := hid (HB7.out.trans (hb8.mono HB7.out.size))
    clear hb8
    go_wp2
    exact bodyPost_ret (v := .tuple #[.slice la LG.length lcap, .bool true]) (by simp [results, Tryz.results9, go_sem]) rfl ⟨⟨_, rfl⟩, HB8.out⟩
  · obtain ⟨rfl⟩ : e = .returned (.tuple #[strB [], .slice none 0 0, .int .i64 (jobErrB j r)]) := by
      rcases hcase with ⟨_, h⟩ | ⟨h, _⟩
      · exact h
      · exact absurd h hz
    have hz2 : (jobErrB j r != 0) = true := by simpa using hz
    clear hcase hz HGE
    obtain ⟨y0, y1, y2, y3, y4, y5, y6⟩ := Hyb.out.later hpo hB3
    obtain ⟨x0, x1, x2, x3, x4, x5, x6⟩ := Hxb.out.later hpj hB3
    go_wp2_with fail
    clear y0 y1 y2 y3 y4 y5 y6 x0 x1 x2 x3 x4 x5 x6
    refine (stillJ_any ta tcap g w0.heap.size j w3 (HJb.out.later hB3) hjm HH3.out).mono ?_
    rintro e w4 ⟨rfl, hb4⟩
    have hB4 := hB3.trans (hb4.mono hB3.size)
    go_wp2_with fail
    refine (stillK_any ra rcap q wb.heap.size r w4 hrm (HRb.out.later hB4) (own_laterT HK3.out hb4)).mono ?_
    rintro e w5 ⟨rfl, hb5⟩
    have hB5 := hB4.trans (hb5.mono hB4.size)
    clear hB4 hB3 hb4 hb5
    obtain ⟨x0, x1, x2, x3, x4, x5, x6⟩ := Hxb.out.later hpj hB5
    go_wp2_with fail
    clear x0 x1 x2 x3 x4 x5 x6
    refine (jobRef_any ta tcap j ra rcap r w5 (HJb.out.later hB5) (HRb.out.later hB5) hrl).mono ?_
    rintro e w6 ⟨rfl, hb6⟩
    have hB6 := hB5.trans (hb6.mono hB5.size)
    have HB6 := hid (HBb.out.trans (hB6.mono HBb.out.size))
    clear hB5 hb6 hB6
    generalize jobErrB j r = er at *
    have hee : (er == er) = true := by simp
    go_wp2
    exact bodyPost_ret (v := .tuple #[.slice none 0 0, .bool true]) (by simp [results, Tryz.results9, go_sem]) rfl ⟨⟨_, rfl⟩, HB6.out⟩

set_option maxHeartbeats 1000000 in
theorem writes_walk (ta : Option Addr) (tcap : Nat) (ra : Option Addr) (rcap : Nat) (r : List KeyB) (j : JobB) (w : World) (hj : LiesJ w ta tcap j) (hjm : j.table.length * 56 ≤ 140737488351232) (hr : LiesK w ra r) (hrm : r.length * 24 ≤ 140737488351232) :
    Calls Tryz.prog 3 #[jobV (.slice ta j.table.length tcap) j, .slice ra r.length rcap] w fun e w' => e = .returned (.bool true) ∧ Below w.heap.size w w' := by
  have Hj := hid hj
  have Hr := hid hr
  clear hj hr
  go_enter Tryz.func3, Tryz.ntmps3
  go_wp2_with fail
  obtain ⟨hb0, hs0, _, _⟩ := boxedW w #[.slice ta j.table.length tcap, .int .i64 j.plan.group, .int .i64 j.plan.page, .int .i64 j.plan.foot, .bool j.plan.told, strB j.pre, .int .i64 j.draw] 26
  have Hj0 := hid (Hj.out.later hb0)
  have Hr0 := hid (Hr.out.later hb0)
  have Hb0 := hid hb0
  clear hb0 Hj Hr
  generalize w.alloc (.cells #[.slice ta j.table.length tcap, .int .i64 j.plan.group, .int .i64 j.plan.page, .int .i64 j.plan.foot, .bool j.plan.told, strB j.pre, .int .i64 j.draw] 26) = w0 at *
  refine (write_walk ta tcap ra rcap r j w0 Hj0.out hjm Hr0.out hrm).mono ?_
  rintro e w1 ⟨⟨lv, rfl⟩, hb1⟩
  have HB1 := hid (Hb0.out.trans (hb1.mono Hb0.out.size))
  clear hb1
  go_wp2
  go_ret
  exact ⟨rfl, HB1.out⟩

end Go.Proofs.YthhpbhpfagoapaaGreat

namespace Go.Proofs.YthhpbhpfagoapaaGreat
open Go.ChangeShapes Go.WideShapes Go.ChangeAt Go.RowKit Go.Deep
set_option linter.unusedVariables false
set_option maxRecDepth 100000

theorem lt_of_cell {w : World} {b o : Nat} {v : Value} (h : w.cell? ⟨b, o, none⟩ = some v) : b < w.heap.size := by
  rcases Nat.lt_or_ge b w.heap.size with h1 | h1
  · exact h1
  · simp [World.cell?, Array.getElem?_eq_none h1] at h

theorem wf_range {x : Int} (h : (Lit.int .i64 x).wf = true) : -9223372036854775808 ≤ x ∧ x ≤ 9223372036854775807 := by
  simp [Lit.wf, IntKind.min, IntKind.max, IntKind.signed, IntKind.bits] at h
  exact ⟨by omega, by omega⟩

theorem Tryz.cellsCell : Tryz.prog.cellsOf 58 = 3 := by kernel_rfl
theorem Tryz.cellsBool : Tryz.prog.cellsOf 4 = 1 := by kernel_rfl
theorem Tryz.cellsInt : Tryz.prog.cellsOf 3 = 1 := by kernel_rfl
theorem Tryz.cellsString : Tryz.prog.cellsOf 9 = 1 := by kernel_rfl

/-- One cell, read. -/
theorem open_cell {H : Type} {enc : TypeId × Value → H} {W : World} {base : Nat} {spare : Nat → Bool} {held : Bool} {fuel : Nat} {cs : List Value} {x : DataW H × List MemPlace}
    (h : DataW.trod enc Tryz.prog W base spare held fuel 58 cs = some x) : ∃ c : CellB, okC c ∧ cs = [.bool c.null, .int .i64 c.int, strB c.text] := by
  obtain ⟨y0, y1, y2, n, hx, hlen, h0, h1, h2⟩ := trod_struct3 Tryz.underlying58 h
  rw [Tryz.cellsCell] at hlen
  match cs, hlen with
  | [c0, c1, c2], _ =>
    simp only [Tryz.cellsBool, Tryz.cellsInt, Tryz.cellsString] at h0 h1 h2
    obtain ⟨b, e0, _⟩ := DataW.trod_bool Tryz.underlying4 h0
    obtain ⟨i, e1, _, wi⟩ := DataW.trod_int Tryz.underlying3 h1
    obtain ⟨s, e2, _, ws⟩ := DataW.trod_string Tryz.underlying9 h2
    simp at e0 e1 e2
    subst e0 e1 e2
    obtain ⟨i0, i1⟩ := wf_range wi
    refine ⟨⟨b, i, s.data.toList⟩, ⟨i0, i1, by simpa using ws⟩, ?_⟩
    obtain ⟨⟨t⟩⟩ := s
    rfl

/-- A list of cells, read. -/
theorem open_cells {H : Type} {enc : TypeId × Value → H} {W : World} {fuel len cap : Nat} {a : Option Addr} {x : DataW H × List MemPlace}
    (h : DataW.trod enc Tryz.prog W 0 (fun _ => true) true fuel 59 [.slice a len cap] = some x) :
    ∃ l : List CellB, l.length = len ∧ len ≤ cap ∧ cap ≤ maxLen ∧ Lies W a l ∧ (len = 0 ∨ ∃ es sp, x.1 = .slice es sp ∧ es.length + sp.length = cap) := by
  rcases open_slice Tryz.underlying59 h with ⟨hcs, _⟩ | ⟨a', len', cap', m, n, D, Pl, hcs, _, hl, hm, hmm, rfl, hx⟩
  · simp at hcs
    obtain ⟨rfl, rfl, rfl⟩ := hcs
    exact ⟨[], rfl, Nat.le_refl _, by decide, ⟨by simp, fun h => absurd rfl h⟩, .inl rfl⟩
  · simp at hcs
    obtain ⟨rfl, rfl, rfl⟩ := hcs
    simp only [if_true] at hmm
    subst hmm
    rw [Tryz.cellsCell] at hx
    have each : ∀ i, i < len → ∃ c : CellB, okC c ∧ W.cell? (a'.add (i * 3)) = some (.bool c.null) ∧ W.cell? (a'.add (i * 3 + 1)) = some (.int .i64 c.int) ∧ W.cell? (a'.add (i * 3 + 2)) = some (strB c.text) := by
      intro i hi
      obtain ⟨cs', h1, h2⟩ := hx i (by omega)
      obtain ⟨c, hok, rfl⟩ := open_cell h2
      obtain ⟨_, _, hcell⟩ := World.cells?_some h1
      have e0 := hcell 0 (by omega)
      have e1 := hcell 1 (by omega)
      have e2 := hcell 2 (by omega)
      rw [add_add] at e0 e1 e2
      exact ⟨c, hok, by simpa using e0, by simpa using e1, by simpa using e2⟩
    have inh : Inhabited CellB := ⟨⟨false, 0, []⟩⟩
    obtain ⟨f, hf⟩ := choose_lt each
    refine ⟨(List.range len).map f, by simp, hl, hm, ⟨?_, ?_⟩, .inr ⟨_, _, rfl, by simp; omega⟩⟩
    · intro c hc
      simp only [List.mem_map, List.mem_range] at hc
      obtain ⟨i, hi, rfl⟩ := hc
      exact (hf i hi).1
    · intro hne
      have hp : 0 < len := by
        rcases Nat.eq_zero_or_pos len with h0 | h0
        · subst h0; simp at hne
        · exact h0
      obtain ⟨b, off, spot⟩ := a'
      have hspot : spot = none := by simpa [Addr.add] using World.cell?_spot (hf 0 hp).2.1
      subst hspot
      have hb : b < W.heap.size := by
        have := (hf 0 hp).2.1
        rw [add_plain] at this
        exact lt_of_cell this
      refine ⟨b, off, rfl, hb, fun j hj => ?_⟩
      have hj' : j < len := by simpa using hj
      obtain ⟨_, g1, g2, g3⟩ := hf j hj'
      rw [add_plain] at g1 g2 g3
      simp only [List.getElem_map, List.getElem_range]
      exact ⟨g1, g2, g3⟩

end Go.Proofs.YthhpbhpfagoapaaGreat

namespace Go.Proofs.YthhpbhpfagoapaaGreat
open Go.ChangeShapes Go.WideShapes Go.ChangeAt Go.RowKit Go.Deep Go.Joins
set_option linter.unusedVariables false
set_option maxRecDepth 100000

theorem Tryz.cellsKey : Tryz.prog.cellsOf 63 = 2 := by kernel_rfl
theorem Tryz.cellsColumn : Tryz.prog.cellsOf 61 = 4 := by kernel_rfl
theorem Tryz.cellsPlan : Tryz.prog.cellsOf 24 = 4 := by kernel_rfl
theorem Tryz.cellsJob : Tryz.prog.cellsOf 26 = 7 := by kernel_rfl
theorem Tryz.cellsRow : Tryz.prog.cellsOf 59 = 1 := by kernel_rfl
theorem Tryz.cellsTable : Tryz.prog.cellsOf 22 = 1 := by kernel_rfl
theorem Tryz.bytesCellW : Tryz.prog.bytesOf 58 = 32 := by kernel_rfl
theorem Tryz.bytesKeyW : Tryz.prog.bytesOf 63 = 24 := by kernel_rfl
theorem Tryz.bytesColumnW : Tryz.prog.bytesOf 61 = 56 := by kernel_rfl

theorem weights_all {H : Type} {P : Program} {e : TypeId} {l : List (DataW H)} {d : DataW H} (h : d ∈ l) {n : Nat} (hn : n ∈ d.weights P e) : n ∈ DataW.weightsAll P e l := by
  induction l with
  | nil => simp at h
  | cons x l ih =>
    simp only [DataW.weightsAll, List.mem_append]
    rcases List.mem_cons.1 h with rfl | h
    · exact .inl hn
    · exact .inr (ih h)

/-- One key, read. -/
theorem open_key {H : Type} {enc : TypeId × Value → H} {W : World} {base : Nat} {spare : Nat → Bool} {held : Bool} {fuel : Nat} {cs : List Value} {x : DataW H × List MemPlace}
    (h : DataW.trod enc Tryz.prog W base spare held fuel 63 cs = some x) : ∃ c : KeyB, okKey c ∧ cs = [.int .i64 c.number, strB c.secret] := by
  obtain ⟨y0, y1, n, hx, hlen, h0, h1⟩ := trod_struct2 Tryz.underlying63 h
  rw [Tryz.cellsKey] at hlen
  match cs, hlen with
  | [c0, c1], _ =>
    simp only [Tryz.cellsInt, Tryz.cellsString] at h0 h1
    obtain ⟨i, e1, _, wi⟩ := DataW.trod_int Tryz.underlying3 h0
    obtain ⟨s, e2, _, ws⟩ := DataW.trod_string Tryz.underlying9 h1
    simp at e1 e2
    subst e1 e2
    refine ⟨⟨i, s.data.toList⟩, ⟨by simpa using ws, wf_range wi⟩, ?_⟩
    obtain ⟨⟨t⟩⟩ := s
    rfl

/-- A ring, read. -/
theorem open_keys {H : Type} {enc : TypeId × Value → H} {W : World} {fuel len cap : Nat} {a : Option Addr} {x : DataW H × List MemPlace}
    (h : DataW.trod enc Tryz.prog W 0 (fun _ => true) true fuel 27 [.slice a len cap] = some x) (hw : ∀ n ∈ x.1.weights Tryz.prog 27, n ≤ reachBytes) :
    ∃ l : List KeyB, l.length = len ∧ len ≤ cap ∧ cap ≤ maxLen ∧ LiesK W a l ∧ l.length * 24 ≤ 140737488351232 := by
  rcases open_slice Tryz.underlying27 h with ⟨hcs, _⟩ | ⟨a', len', cap', m, n, D, Pl, hcs, _, hl, hm, hmm, rfl, hx⟩
  · simp at hcs
    obtain ⟨rfl, rfl, rfl⟩ := hcs
    exact ⟨[], rfl, Nat.le_refl _, by decide, ⟨by simp, fun h => absurd rfl h⟩, by simp⟩
  · simp at hcs
    obtain ⟨rfl, rfl, rfl⟩ := hcs
    simp only [if_true] at hmm
    subst hmm
    rw [Tryz.cellsKey] at hx
    have hsz : (len + (m - len)) * 24 ≤ reachBytes := by
      have := hw ((len + (m - len)) * Tryz.prog.bytesOf 63) (by simp only [DataW.weights, Tryz.underlying27, List.length_map, List.length_range]; exact List.mem_cons_self ..)
      rw [Tryz.bytesKeyW] at this
      exact this
    simp only [reachBytes] at hsz
    have each : ∀ i, i < len → ∃ c : KeyB, okKey c ∧ W.cell? (a'.add (i * 2)) = some (.int .i64 c.number) ∧ W.cell? (a'.add (i * 2 + 1)) = some (strB c.secret) := by
      intro i hi
      obtain ⟨cs', h1, h2⟩ := hx i (by omega)
      obtain ⟨c, hok, rfl⟩ := open_key h2
      obtain ⟨_, _, hcell⟩ := World.cells?_some h1
      have e0 := hcell 0 (by omega)
      have e1 := hcell 1 (by omega)
      rw [add_add] at e0 e1
      exact ⟨c, hok, by simpa using e0, by simpa using e1⟩
    have inh : Inhabited KeyB := ⟨⟨0, []⟩⟩
    obtain ⟨f, hf⟩ := choose_lt each
    refine ⟨(List.range len).map f, by simp, hl, hm, ⟨?_, ?_⟩, by simp; omega⟩
    · intro c hc
      simp only [List.mem_map, List.mem_range] at hc
      obtain ⟨i, hi, rfl⟩ := hc
      exact (hf i hi).1
    · intro hne
      have hp : 0 < len := by
        rcases Nat.eq_zero_or_pos len with h0 | h0
        · subst h0; simp at hne
        · exact h0
      obtain ⟨b, off, spot⟩ := a'
      have hspot : spot = none := by simpa [Addr.add] using World.cell?_spot (hf 0 hp).2.1
      subst hspot
      have hb : b < W.heap.size := by
        have := (hf 0 hp).2.1
        rw [add_plain] at this
        exact lt_of_cell this
      refine ⟨b, off, rfl, hb, fun j hj => ?_⟩
      have hj' : j < len := by simpa using hj
      obtain ⟨_, g1, g2⟩ := hf j hj'
      rw [add_plain] at g1 g2
      simp only [List.getElem_map, List.getElem_range]
      exact ⟨g1, g2⟩

/-- One column, read. -/
theorem open_column {H : Type} {enc : TypeId × Value → H} {W : World} {fuel : Nat} {cs : List Value} {x : DataW H × List MemPlace}
    (h : DataW.trod enc Tryz.prog W 0 (fun _ => true) true fuel 61 cs = some x) (hw : ∀ n ∈ x.1.weights Tryz.prog 61, n ≤ reachBytes) :
    ∃ q : ColB × Value, okCol q.1 ∧ cs = [strB q.1.name, .int .i64 q.1.kind, .int .i64 q.1.key, q.2] ∧ HasCells W q.2 q.1.cells := by
  obtain ⟨y0, y1, y2, y3, n, hx, hlen, h0, h1, h2, h3⟩ := trod_struct4 Tryz.underlying61 h
  rw [Tryz.cellsColumn] at hlen
  match cs, hlen with
  | [c0, c1, c2, c3], _ =>
    simp only [Tryz.cellsInt, Tryz.cellsString, Tryz.cellsRow] at h0 h1 h2 h3
    obtain ⟨s, e0, _, ws⟩ := DataW.trod_string Tryz.underlying9 h0
    obtain ⟨i, e1, _, wi⟩ := DataW.trod_int Tryz.underlying3 h1
    obtain ⟨k, e2, _, wk⟩ := DataW.trod_int Tryz.underlying3 h2
    simp at e0 e1 e2 h3
    subst e0 e1 e2
    obtain ⟨a, len, cap, rfl⟩ : ∃ a len cap, c3 = .slice a len cap := by
      rcases open_slice Tryz.underlying59 h3 with ⟨hcs, _⟩ | ⟨a', len', cap', m, n, D, Pl, hcs, _⟩
      · simp at hcs; exact ⟨_, _, _, hcs⟩
      · simp at hcs; exact ⟨_, _, _, hcs⟩
    obtain ⟨l, rfl, hlc, hcm, hl, hbulk⟩ := open_cells h3
    have hm : l.length * 32 ≤ 140737488351232 := by
      rcases hbulk with h | ⟨es, sp, hd, hc⟩
      · omega
      · have := hw ((es.length + sp.length) * Tryz.prog.bytesOf 58) (by
          rw [hx]
          simp only [DataW.weights, Tryz.underlying61]
          refine DataW.weights_mem_each (j := 3) (t := 59) (d := y3.1) rfl rfl _ ?_
          rw [hd]
          simp only [DataW.weights, Tryz.underlying59]
          exact List.mem_cons_self ..)
        rw [Tryz.bytesCellW, hc] at this
        simp only [reachBytes] at this
        omega
    refine ⟨⟨⟨s.data.toList, i, k, l⟩, .slice a l.length cap⟩, ⟨by simpa using ws, wf_range wi, wf_range wk⟩, ?_, ⟨a, cap, rfl, hlc, hl, hm⟩⟩
    obtain ⟨⟨t⟩⟩ := s
    rfl

/-- A table, read. -/
theorem open_table {H : Type} {enc : TypeId × Value → H} {W : World} {fuel len cap : Nat} {a : Option Addr} {x : DataW H × List MemPlace}
    (h : DataW.trod enc Tryz.prog W 0 (fun _ => true) true fuel 22 [.slice a len cap] = some x) (hw : ∀ n ∈ x.1.weights Tryz.prog 22, n ≤ reachBytes) :
    ∃ l : List ColB, l.length = len ∧ len ≤ cap ∧ cap ≤ maxLen ∧ LiesT W a l ∧ l.length * 56 ≤ 140737488351232 := by
  rcases open_slice Tryz.underlying22 h with ⟨hcs, _⟩ | ⟨a', len', cap', m, n, D, Pl, hcs, _, hl, hm, hmm, rfl, hx⟩
  · simp at hcs
    obtain ⟨rfl, rfl, rfl⟩ := hcs
    exact ⟨[], rfl, Nat.le_refl _, by decide, ⟨by simp, fun h => absurd rfl h⟩, by simp⟩
  · simp at hcs
    obtain ⟨rfl, rfl, rfl⟩ := hcs
    simp only [if_true] at hmm
    subst hmm
    rw [Tryz.cellsColumn] at hx
    have hsz : (len + (m - len)) * 56 ≤ reachBytes := by
      have := hw ((len + (m - len)) * Tryz.prog.bytesOf 61) (by simp only [DataW.weights, Tryz.underlying22, List.length_map, List.length_range]; exact List.mem_cons_self ..)
      rw [Tryz.bytesColumnW] at this
      exact this
    simp only [reachBytes] at hsz
    have each : ∀ i, i < len → ∃ q : ColB × Value, okCol q.1 ∧ W.cell? (a'.add (i * 4)) = some (strB q.1.name) ∧ W.cell? (a'.add (i * 4 + 1)) = some (.int .i64 q.1.kind) ∧ W.cell? (a'.add (i * 4 + 2)) = some (.int .i64 q.1.key) ∧ W.cell? (a'.add (i * 4 + 3)) = some q.2 ∧ HasCells W q.2 q.1.cells := by
      intro i hi
      obtain ⟨cs', h1, h2⟩ := hx i (by omega)
      obtain ⟨q, hok, rfl, hq⟩ := open_column h2 (fun n hn => hw n (by
        simp only [DataW.weights, Tryz.underlying22]
        refine List.mem_cons_of_mem _ (List.mem_append_left _ (weights_all (d := D i) ?_ hn))
        exact List.mem_map.2 ⟨i, List.mem_range.2 hi, rfl⟩))
      obtain ⟨_, _, hcell⟩ := World.cells?_some h1
      have e0 := hcell 0 (by omega)
      have e1 := hcell 1 (by omega)
      have e2 := hcell 2 (by omega)
      have e3 := hcell 3 (by omega)
      rw [add_add] at e0 e1 e2 e3
      exact ⟨q, hok, by simpa using e0, by simpa using e1, by simpa using e2, by simpa using e3, hq⟩
    have inh : Inhabited (ColB × Value) := ⟨⟨⟨[], 0, 0, []⟩, .bool false⟩⟩
    obtain ⟨f, hf⟩ := choose_lt each
    refine ⟨(List.range len).map (fun i => (f i).1), by simp, hl, hm, ⟨?_, ?_⟩, by simp; omega⟩
    · intro c hc
      simp only [List.mem_map, List.mem_range] at hc
      obtain ⟨i, hi, rfl⟩ := hc
      exact (hf i hi).1
    · intro hne
      have hp : 0 < len := by
        rcases Nat.eq_zero_or_pos len with h0 | h0
        · subst h0; simp at hne
        · exact h0
      obtain ⟨b, off, spot⟩ := a'
      have hspot : spot = none := by simpa [Addr.add] using World.cell?_spot (hf 0 hp).2.1
      subst hspot
      have hb : b < W.heap.size := by
        have := (hf 0 hp).2.1
        rw [add_plain] at this
        exact lt_of_cell this
      refine ⟨b, off, rfl, hb, fun j hj => ?_⟩
      have hj' : j < len := by simpa using hj
      obtain ⟨_, g1, g2, g3, g4, g5⟩ := hf j hj'
      rw [add_plain] at g1 g2 g3 g4
      simp only [List.getElem_map, List.getElem_range]
      exact ⟨g1, g2, g3, _, g4, g5⟩

/-- One job's cells, read. -/
theorem open_job {H : Type} {enc : TypeId × Value → H} {W : World} {fuel : Nat} {cs : List Value} {x : DataW H × List MemPlace}
    (h : DataW.trod enc Tryz.prog W 0 (fun _ => true) true fuel 26 cs = some x) (hw : ∀ n ∈ x.1.weights Tryz.prog 26, n ≤ reachBytes) :
    ∃ (a : Option Addr) (cap : Nat) (j : JobB), cs = [.slice a j.table.length cap, .int .i64 j.plan.group, .int .i64 j.plan.page, .int .i64 j.plan.foot, .bool j.plan.told, strB j.pre, .int .i64 j.draw] ∧ LiesJ W a cap j ∧ j.table.length * 56 ≤ 140737488351232 := by
  obtain ⟨y0, y1, y2, y3, n, hx, hlen, h0, h1, h2, h3⟩ := trod_struct4 Tryz.underlying26 h
  rw [Tryz.cellsJob] at hlen
  match cs, hlen with
  | [c0, c1, c2, c3, c4, c5, c6], _ =>
    simp only [Tryz.cellsInt, Tryz.cellsString, Tryz.cellsTable, Tryz.cellsPlan] at h0 h1 h2 h3
    simp at h0 h1 h2 h3
    obtain ⟨z0, z1, z2, z3, n', hx', hlen', k0, k1, k2, k3⟩ := trod_struct4 Tryz.underlying24 h1
    simp only [Tryz.cellsInt, Tryz.cellsBool] at k0 k1 k2 k3
    simp at k0 k1 k2 k3
    obtain ⟨pg, e1, _, w1⟩ := DataW.trod_int Tryz.underlying3 k0
    obtain ⟨pp, e2, _, w2⟩ := DataW.trod_int Tryz.underlying3 k1
    obtain ⟨pf, e3, _, w3⟩ := DataW.trod_int Tryz.underlying3 k2
    obtain ⟨pb, e4, _⟩ := DataW.trod_bool Tryz.underlying4 k3
    obtain ⟨s, e5, _, ws⟩ := DataW.trod_string Tryz.underlying9 h2
    obtain ⟨dr, e6, _, wd⟩ := DataW.trod_int Tryz.underlying3 h3
    simp at e1 e2 e3 e4 e5 e6
    subst e1 e2 e3 e4 e5 e6
    obtain ⟨a, len, cap, rfl⟩ : ∃ a len cap, c0 = .slice a len cap := by
      rcases open_slice Tryz.underlying22 h0 with ⟨hcs, _⟩ | ⟨a', len', cap', m, n, D, Pl, hcs, _⟩
      · simp at hcs; exact ⟨_, _, _, hcs⟩
      · simp at hcs; exact ⟨_, _, _, hcs⟩
    obtain ⟨t, rfl, hlc, hcm, hl, hm⟩ := open_table h0 (fun n hn => hw n (by
      rw [hx]
      simp only [DataW.weights, Tryz.underlying26]
      exact DataW.weights_mem_each (j := 0) (t := 22) (d := y0.1) rfl rfl _ hn))
    refine ⟨a, cap, ⟨t, ⟨pg, pp, pf, pb⟩, s.data.toList, dr⟩, ?_, ⟨hl, Nat.le_trans hlc hcm, hlc, by simpa using ws, wf_range wd, wf_range w1, wf_range w2, wf_range w3⟩, hm⟩
    obtain ⟨⟨t⟩⟩ := s
    rfl

end Go.Proofs.YthhpbhpfagoapaaGreat

namespace Go.Proofs.YthhpbhpfagoapaaGreat
namespace writes
open Go.ChangeShapes Go.WideShapes Go.ChangeAt Go.RowKit
set_option linter.unusedVariables false
set_option maxRecDepth 100000

theorem own : ownKnob Tryz.prog.godebug = none := by kernel_rfl
theorem laidOut : laidOutB Tryz.prog = true := by kernel_rfl

set_option maxRecDepth 100000 in
theorem lifted (os : Os) (started : os.Started) (H : Type) (enc : TypeId × Value → H) :
    ReturnsInHanded {} Tryz.checked os 3 .any (Rows.writesSpec.pre6 enc Tryz.prog Tryz.f3 Rows.writesRow.domain false) (Rows.writesSpec.post enc Tryz.prog Tryz.f3 false true false false) := by
  refine returnsInHanded_of_change_sized (C := Tryz.checked) own started (by kernel_rfl) Tryz.func3
    (ChangeSpec.witness6 (enc := enc) (C := Tryz.checked) false ⟨#[], #[.agg #[.slice none 0 0, .int .i64 0, .int .i64 0, .int .i64 0, .bool false, .string ⟨#[]⟩, .int .i64 0], .slice none 0 0], []⟩ 8 (by kernel_rfl) (by kernel_rfl) (by kernel_rfl) (by kernel_rfl)) ?_
  intro W base args ds gs before hval0 hW hcnd hsz0 _
  have hval : ∀ (j : Nat) t v, Tryz.f3.params[j]? = some t → args[j]? = some v → Value.okWide Tryz.prog W .any base t v := hval0
  have hsz : (DataW.weightsEach Tryz.prog (Tryz.f3.params.toList ++ Rows.writesSpec.plain.varTypes Tryz.prog) (ds ++ gs)).all (· ≤ reachBytes) = true := hsz0
  have hW' := hW
  obtain ⟨p, q, hA0, hV, rfl, hfz, hnd⟩ := hW
  have hA : DataW.TrodAll enc Tryz.prog W 0 (fun _ => true) true Tryz.f3.params.toList args.toList ds p := hA0
  rw [Tryz.params3] at hA hval hsz
  obtain ⟨v0, vs0, d0, ds0, p0, q0, hargs, rfl, rfl, h0, r0⟩ := trodAll_cons hA
  obtain ⟨v1, vs1, d1, ds1, p1, q1, rfl, rfl, rfl, h1, r1⟩ := trodAll_cons r0
  obtain ⟨rfl, rfl, rfl⟩ := trodAll_nil r1
  obtain rfl : args = #[v0, v1] := by cases args; simp_all
  obtain ⟨rfl, rfl⟩ := trodVars_none hV
  obtain ⟨cs0, rfl, hcs0⟩ := okWide_struct Tryz.underlying26 (hval 0 26 v0 rfl rfl)
  obtain ⟨a1, len1, cap1, rfl⟩ := okWide_slice Tryz.underlying27 (hval 1 27 v1 rfl rfl)
  have k0 := h0
  have k1 := h1
  have lt0 : ∀ x ∈ p0, x.block < W.heap.size := by obtain ⟨m, hm⟩ := k0; exact DataW.trod_lt m _ _ _ hm
  have lt1 : ∀ x ∈ p1, x.block < W.heap.size := by obtain ⟨m, hm⟩ := k1; exact DataW.trod_lt m _ _ _ hm
  have hszm := List.all_eq_true.1 hsz
  obtain ⟨ta, tcap, j, hcs, hj, hjm⟩ : ∃ (a : Option Addr) (cap : Nat) (j : JobB), cs0.toList = [.slice a j.table.length cap, .int .i64 j.plan.group, .int .i64 j.plan.page, .int .i64 j.plan.foot, .bool j.plan.told, strB j.pre, .int .i64 j.draw] ∧ LiesJ W a cap j ∧ j.table.length * 56 ≤ 140737488351232 := by
    obtain ⟨fuel, hf⟩ := h0
    exact open_job hf (fun n hn => by simpa using hszm n (DataW.weights_mem_each (j := 0) (t := 26) (d := d0) rfl rfl _ hn))
  obtain ⟨r, hlen, hlc, hcm, hr, hrm⟩ : ∃ l : List KeyB, l.length = len1 ∧ len1 ≤ cap1 ∧ cap1 ≤ maxLen ∧ LiesK W a1 l ∧ l.length * 24 ≤ 140737488351232 := by
    obtain ⟨fuel, hf⟩ := h1
    exact open_keys hf (fun n hn => by simpa using hszm n (DataW.weights_mem_each (j := 1) (t := 27) (d := d1) rfl rfl _ hn))
  obtain rfl : cs0 = #[.slice ta j.table.length tcap, .int .i64 j.plan.group, .int .i64 j.plan.page, .int .i64 j.plan.foot, .bool j.plan.told, strB j.pre, .int .i64 j.draw] := by
    cases cs0; simp only at hcs; rw [hcs]
  clear hA0 hval0 hsz0
  subst hlen
  refine (writes_walk ta tcap a1 cap1 r j W hj hjm hr hrm).mono fun e W' ⟨he, bel⟩ => ?_
  subst he
  exact ⟨_, rfl, _, _, _, [], _, [], hW', trodAll_mk1 (shut_bool Tryz.underlying4 _), (trodAll_cons_mk (Below.trod laidOut (by kernel_rfl) (of_decide_eq_true (by kernel_rfl)) k0 bel lt0) (trodAll_cons_mk (Below.trod laidOut (by kernel_rfl) (of_decide_eq_true (by kernel_rfl)) k1 bel lt1) trodAll_mk0)), rfl, bel.frame _, fun h => by cases h⟩

theorem over : Rows.writesRow.holds Tryz.pinned (OpenSpec.ofChange Rows.writesSpec) :=
  OpenClaim.holds_of_wide 3 Tryz.f3 rfl rfl rfl rfl rfl rfl rfl ⟨rfl, rfl, rfl, rfl, rfl⟩ rfl rfl rfl rfl rfl (by kernel_rfl) Tryz.func3 (by kernel_rfl)
    (of_decide_eq_true (by kernel_rfl)) (by unfold Func.isWrapper; first | (rw [if_pos (by decide +kernel)]; kernel_rfl) | (rw [if_neg (by decide +kernel)]; exact ⟨rfl, rfl⟩))
    (fun os started H enc _ => lifted os started H enc)

end writes

/-- THE STATEMENT. -/
theorem writes_holds : Rows.WritesSaid := writes.over
#print axioms writes_holds
end Go.Proofs.YthhpbhpfagoapaaGreat
