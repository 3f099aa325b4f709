
/-
  What the program's way 2 does, by a walk: rows of equal numbers.
-/
import Derived.Test.YthhpbhpfagoapabGreatDWays
import Derived.Deep.AppendLies
import Derived.Deep.RegionHeld3
namespace Go.Proofs.YthhpbhpfagoapabGreat
open Go.RowKit
set_option linter.unusedVariables false
set_option maxRecDepth 100000

/-- A row begins at k. -/
def RowAt (l : List CellB) (k : Nat) : Prop := k = 0 ∨ l.length ≤ k ∨ (nthB l k).int ≠ (prevB l k).int

theorem rowI_at (l : List CellB) (k : Nat) (h : k < l.length) : rowI (l[k]).int (l.drop k) = rowI (l[k]).int (l.drop (k + 1)) + 1 := by
  rw [List.drop_eq_getElem_cons h]
  simp [rowI]

theorem rows_eq (l : List CellB) (k j : Nat) (h : k < l.length) (hj : j < rowI (l[k]).int (l.drop k)) : (nthB l (k + j)).int = (l[k]).int := by
  obtain ⟨h1, h2⟩ := rowI_lt _ _ j hj
  rw [List.getElem_drop] at h2
  rw [List.length_drop] at h1
  rw [nthB_at l (k + j) (by omega)]
  exact h2

theorem rows_steps (l : List CellB) (k : Nat) (h : k < l.length) (hr : RowAt l k) : ∀ j, 0 < j → j ≤ rowI (l[k]).int (l.drop k) →
    stepsTo 2 l (k + j) = stepsTo 2 l k ++ (uB (rowI (l[k]).int (l.drop k)) ++ zB (l[k]).int) := by
  intro j
  induction j with
  | zero => intro h0; omega
  | succ j ih =>
    intro _ hj
    rcases Nat.eq_zero_or_pos j with h0 | h0
    · subst h0
      rw [Nat.zero_add, stepsTo]
      congr 1
      have : k = 0 ∨ (nthB l k).int ≠ (prevB l k).int := by
        rcases hr with h1 | h1 | h1
        · exact .inl h1
        · omega
        · exact .inr h1
      simp only [stepB]
      rw [if_pos this, nthB_at l k h, rowI_at l k h]
    · have e1 := rows_eq l k j h (by omega)
      have e2 := rows_eq l k (j - 1) h (by omega)
      have e3 : prevB l (k + j) = nthB l (k + (j - 1)) := by
        unfold prevB
        rw [if_neg (by omega)]
        congr 1
        omega
      rw [← Nat.add_assoc, stepsTo, ih h0 (by omega)]
      have : stepB 2 l (k + j) = [] := by
        simp only [stepB]
        rw [if_neg]
        intro hc
        rcases hc with hc | hc
        · omega
        · apply hc; rw [e1, e3, e2]
      rw [this, List.append_nil]

theorem rows_end (l : List CellB) (k : Nat) (h : k < l.length) : RowAt l (k + rowI (l[k]).int (l.drop k)) := by
  by_cases hl : l.length ≤ k + rowI (l[k]).int (l.drop k)
  · exact .inr (.inl hl)
  · have h2 := rowI_end (l[k]).int (l.drop k) (by rw [List.length_drop]; omega)
    rw [List.getElem_drop] at h2
    have hp := rowI_at l k h
    have e2 := rows_eq l k (rowI (l[k]).int (l.drop k) - 1) h (by omega)
    refine .inr (.inr ?_)
    have e3 : prevB l (k + rowI (l[k]).int (l.drop k)) = nthB l (k + (rowI (l[k]).int (l.drop k) - 1)) := by
      unfold prevB
      rw [if_neg (by omega)]
      congr 1
      omega
    rw [e3, e2, nthB_at l _ (by omega)]
    exact h2

theorem wrap64_in (n : Int) (h0 : -9223372036854775808 ≤ n) (h1 : n ≤ 9223372036854775807) : wrap64 (n - 0) = n := by
  unfold wrap64; omega

theorem numStep0 (v : Int) (w : World) (h2 : -9223372036854775808 ≤ v) (h3 : v ≤ 9223372036854775807) :
    Calls Tryz.prog 155 #[.int .i64 0, .int .i64 v] w fun e w' => e = .returned (strB (zB v)) ∧ Below w.heap.size w w' := by
  have := numStep_any 0 v w (by decide) (by decide) h2 h3
  rw [wrap64_in v h2 h3] at this
  exact this

theorem cell_alloc_keep {w : World} {a : Addr} {v : Value} (o : Obj) (h : w.cell? a = some v) : (w.alloc o).cell? a = some v := by
  exact (World.cell?_alloc_lt w o a (World.block_lt_of_cell? w _ h)).trans h

theorem cell_grown_keep {w w' : World} {u v : Value} {base e size n : Nat} {xs : List Value} {a : Addr} (hg : w.grownBy w' u.ownBlock) (ho : w.ownsRow base e size u n xs) (h : w.cell? a = some v) (hb : a.block < base) : w'.cell? a = some v := by
  have hne : some a.block ≠ u.ownBlock := by
    intro he
    have := (ho.lt a.block he.symm).1
    omega
  exact (hg.cell_far a (World.block_lt_of_cell? w _ h) hne).trans h

set_option maxHeartbeats 4000000 in
theorem rowsI (g b cap : Nat) (l : List CellB) (w : World) (hs : Small l) (hl : IntsLie w b l) :
    Calls Tryz.prog 149 #[numC g, .slice (some ⟨b, 0, none⟩) l.length cap] w fun e w' => e = .returned (strB (wayB 2 l)) ∧ Below w.heap.size w w' := by
  obtain ⟨i0, hi, hz0, hz1, hz2⟩ := info_parts Tryz.infoStr
  have Hs := hid hs
  have Hl := hid hl
  have hn := hs.few
  clear hs hl
  go_enter Tryz.func149, Tryz.ntmps149
  go_wp2
  obtain ⟨hb0, hs0, hc0⟩ := boxed w #[.slice (some ⟨g, 0, none⟩) 3 3, fnV 151, fnV 152, fnV 153, fnV 154, fnV 155, fnV 156] 205
  have hc : _ = some (fnV 155) := hc0 5
  have Hl0 := hid (Hl.out.later hb0)
  have Hb0 := hid hb0
  have Hc := hid hc
  have hs1 := Nat.lt_of_lt_of_eq (Nat.lt_succ_self w.heap.size) hs0.symm
  clear hc0 hc hb0 hs0
  generalize w.alloc _ = w0 at *
  go_loopw [5, 7] (fun v i wr => ∃ (ps : List (List UInt8)) (k : Nat), k ≤ l.length ∧ i = .int .i64 (k : Int) ∧ ps.length ≤ 2 * k ∧ (0 < k → ps ≠ []) ∧ wr.ownsRow w0.heap.size 9 1 v ps.length (strs ps) ∧ ps.flatten = stepsTo 2 l k ∧ RowAt l k ∧ Below w0.heap.size w0 wr)
    (fun _ i _ => l.length - (intOf i).toNat)
  case atStart => exact ⟨[], 0, Nat.zero_le _, rfl, Nat.zero_le _, fun h => absurd h (Nat.lt_irrefl _), World.ownsRow_nil _ _ _ _, rfl, .inl rfl, Below.refl _ _⟩
  case round =>
    obtain ⟨ps, k, hkl, rfl, hpl, hps, hown, hfl, hra, hB⟩ := hrel
    have Hfl := hid hfl
    have Hps := hid hps
    have Hra := hid hra
    clear hfl hps hra
    have hst := stepsTo_len 2 l Hs.out.small hn k
    by_cases hlt : k < l.length
    · obtain ⟨W1, rfl⟩ : ∃ W1, W1 = wr := ⟨_, rfl⟩
      have hki : (k : Int) < (l.length : Int) := by omega
      have Hcell := hid (Hl0.out.later hB).cell
      have hck := (Hl0.out.later hB).cell k hlt
      have hbw := (Hl0.out.later hB).lt
      have Hbl := hid Hl0.out.lt
      have hcf := (hB.cell (p := ⟨w.heap.size, 5, none⟩) hs1).trans Hc.out
      have hsm := Hs.out.small l[k] (List.getElem_mem hlt)
      obtain ⟨hv0, hv1, _⟩ := hsm
      have HST := hid (rows_steps l k hlt Hra.out)
      have HRE := hid (rows_end l k hlt)
      have HRL := hid (rowI_lt (l[k]).int (l.drop k))
      have HRX := hid (rowI_end (l[k]).int (l.drop k))
      have hrp := rowI_at l k hlt
      have hrp2 : 0 < rowI (l[k]).int (l.drop k) := by omega
      have hrl := rowI_le (l[k]).int (l.drop k)
      rw [List.length_drop] at hrl
      clear hrp
      generalize rowI (l[k]).int (l.drop k) = r at *
      generalize (l[k]).int = vv at *
      go_wp2_with fail
      go_loopw [8] (fun i wi => ∃ m : Nat, m ≤ r ∧ i = .int .i64 ((k + m : Nat) : Int) ∧ Below W1.heap.size W1 wi) (fun i _ => 100 - (intOf i).toNat)
      case atStart => exact ⟨0, Nat.zero_le _, rfl, Below.refl _ _⟩
      case round =>
        obtain ⟨m, hm, rfl, hBi⟩ := hrel
        have hck2 := (hBi.cell (p := ⟨b, k, none⟩) hbw).trans hck
        by_cases hmr : m < r
        · have hkm : k + m < l.length := by omega
          have g1 := (hBi.cell (p := ⟨b, k + m, none⟩) hbw).trans (Hcell.out (k + m) hkm)
          have hnb : (l[k + m]).int = vv := by
            obtain ⟨_, h2⟩ := HRL.out m hmr
            rw [List.getElem_drop] at h2
            exact h2
          rw [hnb] at g1
          have hkmi : ((k + m : Nat) : Int) < (l.length : Int) := by omega
          generalize hkm2 : k + m = q at *
          have Hkm2 := hid hkm2
          clear hkm2 hnb
          have hee : (vv == vv) = true := by simp
          go_wp2_with fail
          go_quiet (fail)
          go_wp2
          go_roundw
          case rel => exact ⟨m + 1, by omega, by rw [← Nat.add_assoc, Hkm2.out]; go_num, below_drewN hBi nq⟩
          case measure => simp [intOf]; omega
        · have hmr2 : m = r := by omega
          subst hmr2
          go_upto_region 6 with fail
          go_cut [28] (fun t wd => t = .bool false ∧ Below W1.heap.size W1 wd)
          case first =>
            by_cases hend : k + m < l.length
            · have g1 := (hBi.cell (p := ⟨b, k + m, none⟩) hbw).trans (Hcell.out (k + m) hend)
              have hnb : ((l[k + m]).int == vv) = false := by
                have h2 := HRX.out (by rw [List.length_drop]; omega)
                rw [List.getElem_drop] at h2
                simpa using h2
              have hkmi : ((k + m : Nat) : Int) < (l.length : Int) := by omega
              generalize (l[k + m]).int = v2 at *
              generalize k + m = q at *
              go_quiet (fail)
              go_wp2_with fail
              go_meet
              case rel => exact ⟨rfl, below_drewN hBi nq⟩
            · have hkmi : decide (((k + m : Nat) : Int) < (l.length : Int)) = false := by simp; omega
              generalize k + m = q at *
              go_quiet (fail)
              go_wp2_with fail
              go_meet
              case rel => exact ⟨rfl, below_drewN hBi nq⟩
          case rest =>
            obtain ⟨rfl, hBj⟩ := hcut
            have hck3 := (hBj.cell (p := ⟨b, k, none⟩) hbw).trans hck
            have hcf3 := (hBj.cell (p := ⟨w.heap.size, 5, none⟩) (Nat.lt_of_lt_of_le hs1 hB.size)).trans hcf
            have hownc := own_after hown hBj
            have hBc := hB.trans (hBj.mono hB.size)
            have hbc : b < wc.heap.size := Nat.lt_of_lt_of_le hbw hBj.size
            have hwc : w.heap.size < wc.heap.size := Nat.lt_of_lt_of_le (Nat.lt_of_lt_of_le hs1 hB.size) hBj.size
            have HX : Hid (ps.flatten ++ (uB m ++ zB vv) = stepsTo 2 l (k + m)) := by
              show _ = _
              rw [Hfl.out]; exact (HST.out m hrp2 (Nat.le_refl _)).symm
            clear hck hcf hck2 hown hBj hBi hB
            have hk0 : (0 : Int) ≤ (k : Int) := by omega
            go_wp2_with fail
            go_region_held3 (fun w' => w'.cell? ⟨w.heap.size, 5, none⟩ = some (fnV 155) ∧ w'.cell? ⟨b, k, none⟩ = some (.int .i64 vv)) (first | (exact ⟨hcf3, hck3⟩) | (exact ⟨x1, y1⟩) | (exact ⟨x2, y2⟩) | (exact ⟨cell_alloc_keep _ x2, cell_alloc_keep _ y2⟩) | (exact ⟨x3, y3⟩))
              (first
                | (go_at_call 123; refine (count_eq _ m _ ?_ ?_).mono ?_; (rw [IntKind.wrap_i64]; omega); omega; rintro e w5 ⟨rfl, hb5⟩; have x1 := (hb5.cell (p := ⟨w.heap.size, 5, none⟩) hwc).trans hcf3; have y1 := (hb5.cell (p := ⟨b, k, none⟩) hbc).trans hck3)
                | (go_at_call 155; refine (numStep0 vv _ hv0 hv1).mono ?_; rintro e w6 ⟨rfl, hb6⟩; have x2 := (hb6.cell (p := ⟨w.heap.size, 5, none⟩) (Nat.lt_of_lt_of_le hwc hb5.size)).trans x1; have y2 := (hb6.cell (p := ⟨b, k, none⟩) (Nat.lt_of_lt_of_le hbc hb5.size)).trans y1)
                | (refine step_append_lies _ (by rfl) _ _ _ (by rfl) w0.heap.size 9 i0 _ 1 16 Tryz.underlying163 hi hz0 hz1 hz2 rfl (by omega) _ ps.length (strs ps) (by rfl) ((own_after (own_after hownc (below_undrew hb5)) hb6).alloc _) ⟨w6.heap.size, 0, none⟩ 2 2 [strB (uB m), strB (zB vv)] (by rfl) (by rfl) (World.news_of_block (cs := #[strB (uB m), strB (zB vv)]) (t := 9) (fr := (0, 0)) (heap_alloc_new w6 _)) (by simp [Value.oneCell']) (by omega) (by unfold maxLen; omega) (by omega) (by have := hBc.size; have := hb5.size; have := hb6.size; simp at *; omega) _ rfl ?_; intro gg cc w7 hown7 hgr7 hat7 hlt7; have x3 := cell_grown_keep hgr7 ((own_after (own_after hownc (below_undrew hb5)) hb6).alloc _) (cell_alloc_keep _ x2) hs1; have y3 := cell_grown_keep hgr7 ((own_after (own_after hownc (below_undrew hb5)) hb6).alloc _) (cell_alloc_keep _ y2) Hbl.out))
            have hb5' := below_undrew hb5
            have hB5 := hBc.trans (hb5'.mono hBc.size)
            have hB6 := hB5.trans (hb6.mono hB5.size)
            have HR := hid (strs_push (qs := [uB m, zB vv]) _ rfl hB6 (own_after (own_after hownc hb5') hb6) hown7 hgr7)
            clear x1 x2 x3 y1 y2 y3 hcf3 hck3 hownc hBc hb5 hb5' hb6 hB5 hB6 hown7 hgr7 hat7 hlt7
            go_wp2
            go_roundw
            case rel => exact ⟨ps ++ [uB m, zB vv], k + m, by omega, rfl, by simp; omega, fun _ => by simp, by simpa using HR.out.1, by rw [List.flatten_append, ← HX.out]; simp, HRE.out, HR.out.2⟩
            case measure => simp [intOf]; omega
    · have hke : k = l.length := by omega
      subst hke
      have hpn : ps ≠ [] := Hps.out (List.length_pos_iff.2 Hs.out.some_)
      have HF : Hid (ps.flatten = wayB 2 l) := by
        show ps.flatten = wayB 2 l
        rw [Hfl.out]; simp [wayB]
      have hfl2 : ps.flatten.length ≤ 1000000 := by rw [Hfl.out]; omega
      have Hpn := hid hpn
      clear hpn
      have hki : decide ((l.length : Int) < (l.length : Int)) = false := by simp
      go_wp2_with fail
      refine (join_own ps w0.heap.size ps.length _ _ hown Hpn.out (by omega) hfl2).mono ?_
      rintro e w2 ⟨rfl, hb2⟩
      go_wp2
      go_ret
      have hz := Hb0.out.size
      have hBB := Hb0.out.trans (hB.mono hz)
      exact ⟨ret_str HF.out, hBB.trans (hb2.mono hBB.size)⟩

end Go.Proofs.YthhpbhpfagoapabGreat
