/-
  What the small makers of cells of cofferkeep do, by walks; and how long a page is.
-/
import Derived.Test.YthhpbhpfagoapaaDUnpack
import Derived.Test.YthhpbhpfagoapaaKeep
namespace Go.Proofs.Ythhpbhpfagoapaa
open Go.RowKit
set_option linter.unusedVariables false
set_option linter.unusedSimpArgs false
set_option maxRecDepth 100000

set_option maxHeartbeats 1000000 in
theorem textK (c : Int) (w : World) (h0 : -9223372036854775808 ≤ c) (h1 : c ≤ 9223372036854775807) :
    Calls Try.prog 42 #[.int .i64 c] w fun e w' => ∃ t : List UInt8, t.length ≤ 12 ∧ e = .returned (strB t) ∧ Below w.heap.size w w' := by
  obtain ⟨i0, hi, hz0, hz1, hz2⟩ := info_parts Try.infoU8
  obtain ⟨hp0, hp1⟩ := pickB_range c 1099511627776 (by decide)
  go_enter Try.func42, Try.ntmps42
  go_wp2_with fail
  refine (pick_any c _ _ h0 h1 (by decide) (by decide)).mono ?_
  rintro e w1 ⟨rfl, rfl⟩
  generalize pickB c 1099511627776 = V at *
  go_wp2_with fail
  go_loopw [3, 5, 6] (fun t v i wr => ∃ (k : Nat) (x : Int) (acc : List UInt8), (k : Int) ≤ V % 13 ∧ i = .int .i64 (k : Int) ∧ t = .int .i64 x ∧ 0 ≤ x ∧ x ≤ 1099511627776 ∧ acc.length = k ∧ wr.ownsRow w1.heap.size 5 1 v k (cellsB acc) ∧ Below w1.heap.size w1 wr) (fun _ _ i _ => 13 - (intOf i).toNat)
  case atStart => exact ⟨0, V / 13, [], by omega, rfl, rfl, by omega, by omega, rfl, World.ownsRow_nil _ _ _ _, Below.refl _ _⟩
  case round =>
    obtain ⟨k, x, acc, hk, rfl, rfl, hx0, hx1, hal, hown, hB⟩ := hrel
    have Hal := hid hal
    clear hal
    by_cases hlt : (k : Int) < V % 13
    · have hx3 : 0 ≤ x % 3 ∧ x % 3 < 3 := ⟨by omega, by omega⟩
      go_wp2_with (at_builtin; refine wpList_append_own _ rfl (.tmp 18) (.tmp 23) 43 rfl w1.heap.size 5 i0 (.int .u8 0) 1 1 Try.underlying43 hi hz0 hz1 hz2 rfl (by decide) _ _ _ rfl (hown.alloc _) ⟨_, 0, none⟩ 1 1 [.int .u8 (97 + x % 3)] rfl rfl ?c1 ?c2 ?c3 ?c4 ?c5 ?_)
      case c1 => exact cell_laid wr #[.int .u8 (97 + x % 3)] 5
      case c2 => intro u hu; simp at hu; subst hu; rfl
      case c3 => unfold maxLen; omega
      case c4 => omega
      case c5 => have := hB.size; simp; omega
      intro v2 w2 hown2 hgr2 _
      have HR := hid (row_push (k := k + 1) (b := byB (97 + x % 3)) _ rfl (byB_toNat _ (by omega) (by omega)) hB hown hown2 hgr2)
      clear hown hown2 hgr2 hB
      go_wp2
      go_roundw
      case rel => exact ⟨k + 1, x / 3, acc ++ [byB (97 + x % 3)], by omega, by go_num, by go_num, by omega, by omega, by simp [Hal.out], HR.out.1, HR.out.2⟩
      case measure => simp [intOf]; omega
    · have hcv := conv_any hown
      have hni : decide ((k : Int) < V % 13) = false := by simp; omega
      go_wp2
      go_ret
      exact ⟨acc, by rw [Hal.out]; omega, rfl, hB⟩

set_option maxHeartbeats 1000000 in
theorem cellK (kind c : Int) (w : World) (hk : kind = 0 ∨ kind = 1) (h0 : -9223372036854775808 ≤ c) (h1 : c ≤ 9223372036854775807) :
    Calls Try.prog 22 #[.int .i64 kind, .int .i64 c] w fun e w' => ∃ x : CellB, fitsB kind x = true ∧ smallC x ∧ e = .returned (cellV x) ∧ Below w.heap.size w w' := by
  obtain ⟨hp0, hp1⟩ := pickB_range c 1099511627776 (by decide)
  have Hk := hid hk
  clear hk
  by_cases hv0 : pickB c 1099511627776 % 5 = 0
  · have hv0i : (pickB c 1099511627776 % 5 == 0) = true := by simp [hv0]
    clear hv0
    go_enter Try.func22, Try.ntmps22
    go_wp2_with fail
    refine (pick_any c _ _ h0 h1 (by decide) (by decide)).mono ?_
    rintro e w1 ⟨rfl, rfl⟩
    generalize pickB c 1099511627776 = V at *
    go_wp2
    exact bodyPost_ret (v := cellV ⟨true, 0, []⟩) (by simp [results, Try.results22, go_sem]) rfl ⟨⟨true, 0, []⟩, rfl, ⟨by decide, by decide, by decide⟩, rfl, (Below.refl _ _).alloc (Nat.le_refl _) _⟩
  · have hv0i : (pickB c 1099511627776 % 5 == 0) = false := by simp [hv0]
    clear hv0
    by_cases hk1 : kind = 1
    · subst hk1
      go_enter Try.func22, Try.ntmps22
      go_wp2_with fail
      refine (pick_any c _ _ h0 h1 (by decide) (by decide)).mono ?_
      rintro e w1 ⟨rfl, rfl⟩
      generalize pickB c 1099511627776 = V at *
      go_wp2_with fail
      refine (textK (V / 5) _ (by omega) (by omega)).mono ?_
      rintro e w2 ⟨t, ht, rfl, hb2⟩
      have hb0 : Below w.heap.size w (w.alloc (Obj.cells #[.bool false, .int .i64 0, .string ⟨#[]⟩] 48)) := (Below.refl _ _).alloc (Nat.le_refl _) _
      have hblk : w2.heap[w.heap.size]? = some (.cells #[.bool false, .int .i64 0, .string ⟨#[]⟩] 48 (0, 0)) := (hb2.block w.heap.size (by simp)).trans (heap_alloc_new w _)
      obtain ⟨⟨c0, c1, c2⟩, cf⟩ := cells3 hblk
      have f0 := cf 0
      have f1 := cf 1
      have f2 := cf 2
      have HB2 := hid (hb0.trans (hb2.mono hb0.size))
      have HW := hid (setB3 (a := .bool false) (b := .int .i64 0) (c := strB t) hblk).1
      have HBW := hid (((HB2.out.setCell (p := ⟨w.heap.size, 0, none⟩) (Nat.le_refl _) (.bool false)).setCell (p := ⟨w.heap.size, 1, none⟩) (Nat.le_refl _) (.int .i64 0)).setCell (p := ⟨w.heap.size, 2, none⟩) (Nat.le_refl _) (strB t))
      clear hb2 hb0 cf hblk
      go_wp2
      obtain ⟨⟨d0, d1, d2⟩, _⟩ := cells3 HW.out
      generalize ((w2.setCell _ _).setCell _ _).setCell _ _ = W at *
      exact bodyPost_ret (v := cellV ⟨false, 0, t⟩) (by simp [results, Try.results22, go_sem, d0, d1, d2]) rfl ⟨⟨false, 0, t⟩, by simp [fitsB, ht], ⟨by simp, by simp, ht⟩, rfl, HBW.out⟩
    · have hk0 : kind = 0 := Hk.out.resolve_right hk1
      subst hk0
      clear hk1
      by_cases hv1 : pickB c 1099511627776 % 5 = 1
      · have hv1i : (pickB c 1099511627776 % 5 == 1) = true := by simp [hv1]
        clear hv1
        go_enter Try.func22, Try.ntmps22
        go_wp2_with fail
        refine (pick_any c _ _ h0 h1 (by decide) (by decide)).mono ?_
        rintro e w1 ⟨rfl, rfl⟩
        generalize pickB c 1099511627776 = V at *
        go_wp2
        exact bodyPost_ret (v := cellV ⟨false, c, []⟩) (by simp [results, Try.results22, go_sem]) rfl ⟨⟨false, c, []⟩, rfl, ⟨h0, h1, by simp⟩, rfl, (Below.refl _ _).alloc (Nat.le_refl _) _⟩
      · have hv1i : (pickB c 1099511627776 % 5 == 1) = false := by simp [hv1]
        clear hv1
        go_enter Try.func22, Try.ntmps22
        go_wp2_with fail
        refine (pick_any c _ _ h0 h1 (by decide) (by decide)).mono ?_
        rintro e w1 ⟨rfl, rfl⟩
        generalize pickB c 1099511627776 = V at *
        go_wp2
        exact bodyPost_ret (v := cellV ⟨false, V / 5 % 40, []⟩) (by simp [results, Try.results22, go_sem]) rfl ⟨⟨false, V / 5 % 40, []⟩, rfl, ⟨by show (-9223372036854775808 : Int) ≤ V / 5 % 40; omega, by show V / 5 % 40 ≤ (9223372036854775807 : Int); omega, by simp⟩, rfl, (Below.refl _ _).alloc (Nat.le_refl _) _⟩

set_option maxHeartbeats 1000000 in
/-- Two lists of the same cells are the same. -/
theorem sameK (a a2 : Option Addr) (cap cap2 : Nat) (l : List CellB) (w : World) (hm : l.length ≤ maxLen) (hl : Lies w a l) (hl2 : Lies w a2 l) :
    Calls Try.prog 24 #[.slice a l.length cap, .slice a2 l.length cap2] w fun e w' => e = .returned (.bool true) ∧ Below w.heap.size w w' := by
  have Hl := hid hl
  have Hl2 := hid hl2
  clear hl hl2
  unfold maxLen at hm
  have hne : ((l.length : Int) != (l.length : Int)) = false := by simp
  go_enter Try.func24, Try.ntmps24
  go_wp2
  go_loopw [5] (fun i wr => ∃ k : Nat, k ≤ l.length ∧ i = .int .i64 (k : Int) ∧ Below w.heap.size w wr) (fun i _ => l.length - (intOf i).toNat)
  case atStart => exact ⟨0, Nat.zero_le _, rfl, Below.refl _ _⟩
  case round =>
    obtain ⟨k, hk, rfl, hB⟩ := hrel
    by_cases hlt : k < l.length
    · obtain ⟨b, off, rfl, hbw, hcell⟩ := (Hl.out.later hB).at_ (List.ne_nil_of_length_pos (by omega))
      obtain ⟨g1, g2, g3⟩ := hcell k hlt
      obtain ⟨b', off', rfl, hbw', hcell'⟩ := (Hl2.out.later hB).at_ (List.ne_nil_of_length_pos (by omega))
      obtain ⟨k1, k2, k3⟩ := hcell' k hlt
      clear hcell hcell'
      generalize l[k] = c at *
      have hki : (k : Int) < (l.length : Int) := by omega
      go_wp2_with fail
      go_quiet (fail)
      go_wp2_with fail
      go_roundw
      case rel => exact ⟨k + 1, by omega, by go_num, below_drewN hB nq⟩
      case measure => simp [intOf]; omega
    · go_wp2
      go_ret
      exact ⟨rfl, hB⟩

/-- What cells take in the plain way. -/
def plainK (kind : Int) : List CellB → Nat
  | [] => 0
  | c :: l => (if c.null = true then 0 else if kind = 0 then 8 else 1 + c.text.length) + plainK kind l

theorem plainK_snoc (kind : Int) (l : List CellB) (c : CellB) : plainK kind (l ++ [c]) = plainK kind l + (if c.null = true then 0 else if kind = 0 then 8 else 1 + c.text.length) := by
  induction l with
  | nil => simp [plainK]
  | cons d l ih => simp only [List.cons_append, plainK, ih]; omega

theorem runsC_short (l : List CellB) : ∀ (b : Bool) (n : Nat), n + l.length ≤ 127 → (runsC b n l).length ≤ l.length + 1 := by
  induction l with
  | nil => intro b n h; simp only [runsC]; rw [uB_small (by simpa using h)]; simp
  | cons c l ih =>
    intro b n h
    simp only [List.length_cons] at h
    simp only [runsC]
    split
    · have := ih b (n + 1) (by omega); simp only [List.length_cons]; omega
    · have := ih (!b) 1 (by omega)
      rw [List.length_append, uB_small (by omega)]
      simp only [List.length_cons, List.length_nil]; omega

theorem headB_short (l : List CellB) (h : l.length ≤ 60) : (headB l).length ≤ l.length + 2 := by
  unfold headB restRuns
  rw [List.length_append, uB_small (by omega)]
  split
  · simp
  · have := runsC_short l false 0 (by omega)
    simp; omega

theorem steps0_len (l : List CellB) (k : Nat) (h : k ≤ l.length) : (stepsTo 0 l k).length = 8 * k := by
  induction k with
  | zero => rfl
  | succ k ih =>
    rw [stepsTo, List.length_append, ih (by omega)]
    simp only [stepB, bB_length]
    omega

theorem plain0 (l : List CellB) : plainK 0 l = 8 * (valuesB l).length := by
  induction l with
  | nil => rfl
  | cons c l ih =>
    simp only [plainK, ih, valuesB, List.filter_cons]
    cases c.null <;> simp [valuesB] <;> omega

theorem enc5_len (l : List CellB) (h : ∀ c ∈ l, c.text.length ≤ 12) : (encG eachStT cellD l).length = (l.map fun c => 1 + c.text.length).sum := by
  have key : ∀ (l : List CellB) (a : CellB), (∀ c ∈ l, c.text.length ≤ 12) → (encG eachStT a l).length = (l.map fun c => 1 + c.text.length).sum := by
    intro l
    induction l with
    | nil => intro a _; rfl
    | cons c l ih =>
      intro a h
      have hc := h c (by simp)
      simp only [encG, eachStT, List.length_append, xB, List.map_cons, List.sum_cons]
      rw [ih c (fun x hx => h x (List.mem_cons_of_mem _ hx)), uB_small (by omega)]
      simp
  exact key l cellD h

theorem plain1 (l : List CellB) : plainK 1 l = ((valuesB l).map fun c => 1 + c.text.length).sum := by
  induction l with
  | nil => rfl
  | cons c l ih =>
    simp only [plainK, ih, valuesB, List.filter_cons]
    cases c.null <;> simp [valuesB]

theorem best_le (kind : Int) (v : List CellB) (k : Nat) : (bestTo kind v (k + 1)).length ≤ (candB (wayN kind 0) v).length := by
  induction k with
  | zero => simp [bestTo]
  | succ k ih =>
    rw [bestTo]
    split
    · rename_i h
      rcases h with h | h
      · omega
      · omega
    · exact ih

theorem page_short (kind : Int) (l : List CellB) (hk : kind = 0 ∨ kind = 1) (hn : l.length ≤ 60) (hs : ∀ c ∈ l, smallC c) : (pageB kind l).length ≤ l.length + 3 + plainK kind l := by
  have hh := headB_short l hn
  unfold pageB
  split
  · omega
  · rw [List.length_append]
    have hb : (bestTo kind (valuesB l) 3).length ≤ (candB (wayN kind 0) (valuesB l)).length := best_le kind (valuesB l) 2
    have hv : ∀ c ∈ valuesB l, c.text.length ≤ 12 := fun c hc => (hs c (List.mem_filter.1 hc).1).2.2
    rcases hk with rfl | rfl
    · have e : (candB (wayN 0 0) (valuesB l)).length = 1 + plainK 0 l := by
        rw [plain0]
        have := steps0_len (valuesB l) (valuesB l).length (Nat.le_refl _)
        simp only [candB, List.length_cons, wayN, if_true, wayB]
        simp [this]
        omega
      omega
    · have e : (candB (wayN 1 0) (valuesB l)).length = 1 + plainK 1 l := by
        have h5 : wayB 5 (valuesB l) = encG eachStT cellD (valuesB l) := way_enc 5 (by decide) eachStT (valuesB l) (fun i hi => rfl)
        have h6 : wayN 1 0 = 5 := rfl
        rw [plain1, ← enc5_len (valuesB l) hv, ← h5, h6]
        simp only [candB, List.length_cons]
        omega
      omega

theorem page_ne (kind : Int) (l : List CellB) : pageB kind l ≠ [] := by
  intro h
  have h1 : ∃ r, pageB kind l = uB l.length ++ r := by
    unfold pageB headB
    split
    · exact ⟨_, rfl⟩
    · exact ⟨_, List.append_assoc ..⟩
  obtain ⟨r, hr⟩ := h1
  rw [h] at hr
  exact uB_ne _ _ hr.symm

end Go.Proofs.Ythhpbhpfagoapaa
